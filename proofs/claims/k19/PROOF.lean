import PyProof.Rows.All
import Wide.All
import OpenK.AllK
import Wide.FinOn
import HandS.ForMost
import HandS.ForExc
import HandS.ExcInit
import KE.KDictKeyed
import HandS.Set
import HandS.Dict
import HandS.Lambda
import HandS.TupAny
import PyProof.Rows.SortShellAny
import PyProof.Rows.StrMeet
import HandS.IsInst
import HandS.Zip
import HandS.Property
import HandS.Conv
import PyProof.ListStr
import HandS.Strs
import HandS.ExcField
import HandS.TupMul
import HandS.Text
import PyProof.TupleOfStr
import HandS.Base
import HandS.SetBool
import HandS.Comp
import KE.GoesSet
import HandS.DictComp
import HandS.More
import HandS.Star
import HandS.Codes
import HandS.TupSets
import KE.GoesMore
import KE.KUnpackStar
import KE.KeyNested
import PyProof.Rows.TupTab
import HandS.Style
import KE.KRevSl
import HandS.Flow
import HandS.Deep
import KE.SortData
import HandS.RaiseMore
import PyProof.ReprRoads
import HandS.MakeKw
import HandS.ExcIs
import KE.KExcIs
import KE.KExcMake
import PySem.Challenge.RW_partstold_k19_errors_made
set_option linter.all false
set_option Elab.async false
set_option maxRecDepth 100000
set_option maxHeartbeats 4000000
set_option autoImplicit false
/-! Ev: a value-level reading of Python: trees for what stays, cells for what changes. -/
namespace Ev
open PySem L2
/-- the program and the world, for the keys of dicts -/
class Wrl where
  P : Program
  w : World
  tabs : List (Addr × Str)
structure HereP (P : Program) (w : World) [W : Wrl] : Prop where
  p : W.P = P
  w : W.w = w
/-- the world that keys speak of is this one -/
structure Here (X : Cx) [W : Wrl] : Prop where
  p : W.P = X.prog
  w : W.w = X.w

/-- values as trees; loc: a cell that may change -/
inductive T where
  | non | bl (b : Bool) | int (i : Int) | str (x : Str) | ty (n : String)
  | tup (xs : List T) | lst (xs : List T) | rls (xs : List T) | dct (ks : List Key) (vs : List T) | ins (C : Str) (ns : List Str) (vs : List T)
  | dcn (ks : List T) (vs : List T) | exc (C : Str) (ns : List Str) (vs : List T) | set (ks : List Key)
  | loc (n : Nat)
/-- what stands in a cell -/
inductive MO where
  | lst (ts : List T) | dct (ks : List Key) (vs : List T) | ins (C : Str) (ns : List Str) (vs : List T) | dcn (ks : List T) (vs : List T)
mutual
/-- a tree as a key of a dict -/
def toNK : T → Option NestedKey
  | .non => some .none
  | .int i => some (.num i)
  | .str x => some (.text x)
  | .tup ts => (toNKs ts).map .tup
  | _ => none
def toNKs : List T → Option (List NestedKey)
  | [] => some []
  | t :: ts => match toNK t, toNKs ts with
    | some k, some ks => some (k :: ks)
    | _, _ => none
end
/-- an entry of a set of ints and texts -/
def keyM (e : Int × Value) : Key := match e.2 with
  | .int i _ => .inl i
  | .str x _ => .inr x
  | _ => .inl 0
def GoodM (P : Program) (w : World) (e : Int × Value) : Prop := ∃ k : Key, RelV (kV k) e.2 ∧ e.1 = (mixKind P w).hash k
/-- at a: the set of ks, in no order that is told -/
def SetM (P : Program) (w : World) (h : Heap) (a : Addr) (ks : List Key) : Prop := ∃ o es ep t, h.get? a = some o ∧ o.ExactSet ∧ o.data = .set es ep t ∧ (∀ e ∈ es.toList, GoodM P w e) ∧ (es.toList.map keyM).Perm ks ∧ ks.Nodup ∧
  ks.length < 4090 ∧ t.fits es.size = true ∧ Ris t.place.toList ∧ (w.params.followText "set-order" = true ∨ t.led = true)
def setO [Wrl] (a : Addr) (ks : List Key) : HO := .ext fun h => SetM Wrl.P Wrl.w h a ks
/-- equality of texts and keys, made for the kernel -/
def eqNs : List Nat → List Nat → Bool
  | [], [] => true
  | a :: as, b :: bs => match Nat.beq a b with
    | true => eqNs as bs
    | false => false
  | _, _ => false
theorem eqNs_iff : ∀ {a b : List Nat}, eqNs a b = true ↔ a = b
  | [], [] => by simp [eqNs]
  | [], _ :: _ => by simp [eqNs]
  | _ :: _, [] => by simp [eqNs]
  | a :: as, b :: bs => by
    unfold eqNs
    have ih := eqNs_iff (a := as) (b := bs)
    cases h : Nat.beq a b with
    | true => have := Nat.eq_of_beq_eq_true h; simp [ih, this]
    | false => have := Nat.ne_of_beq_eq_false h; simp [this]
def eqS (a b : Str) : Bool := eqNs a.cps.toList b.cps.toList
theorem eqS_iff {a b : Str} : eqS a b = true ↔ a = b := by
  unfold eqS
  rw [eqNs_iff]
  exact ⟨fun h => by cases a; cases b; congr 1; exact Array.toList_inj.mp h, fun h => by rw [h]⟩
theorem eqS_dec (a b : Str) [Decidable (a = b)] : decide (a = b) = eqS a b := by
  cases h : eqS a b with
  | true => exact decide_eq_true (eqS_iff.mp h)
  | false => exact decide_eq_false fun e => by rw [eqS_iff.mpr e] at h; cases h
theorem eqS_beq (a b : Str) : (a == b) = eqS a b := by
  cases h : eqS a b with
  | true => exact beq_iff_eq.mpr (eqS_iff.mp h)
  | false => exact beq_eq_false_iff_ne.mpr fun e => by rw [eqS_iff.mpr e] at h; cases h
def strDec (a b : Str) : Decidable (a = b) := match h : eqS a b with
  | true => .isTrue (eqS_iff.mp h)
  | false => .isFalse fun e => by rw [eqS_iff.mpr e] at h; cases h
def keyEq : Key → Key → Bool
  | .inl i, .inl j => decide (i = j)
  | .inr x, .inr y => eqS x y
  | _, _ => false
theorem keyEq_iff {a b : Key} : keyEq a b = true ↔ a = b := by
  cases a <;> cases b <;> simp [keyEq, eqS_iff]
theorem keyEq_dec (a b : Key) [Decidable (a = b)] : decide (a = b) = keyEq a b := by
  cases h : keyEq a b with
  | true => exact decide_eq_true (keyEq_iff.mp h)
  | false => exact decide_eq_false fun e => by rw [keyEq_iff.mpr e] at h; cases h
def memK (ks : List Key) (k : Key) : Bool := ks.any fun j => keyEq j k
theorem memK_iff {ks : List Key} {k : Key} : memK ks k = true ↔ k ∈ ks := by
  unfold memK
  rw [List.any_eq_true]
  exact ⟨fun ⟨j, h, e⟩ => keyEq_iff.mp e ▸ h, fun h => ⟨k, h, keyEq_iff.mpr rfl⟩⟩
def addK (ks : List Key) (k : Key) : List Key := if memK ks k then ks else ks ++ [k]
theorem addK_in {ks : List Key} {k : Key} (h : k ∈ ks) : addK ks k = ks := by unfold addK; rw [if_pos (memK_iff.mpr h)]
theorem addK_out {ks : List Key} {k : Key} (h : k ∉ ks) : addK ks k = ks ++ [k] := by unfold addK; rw [if_neg fun z => h (memK_iff.mp z)]
/-- a dict whose keys are tuples: the keys, their tuples, the values -/
abbrev EnN := NestedKey × Addr × V
def rawN [Wrl] (a : Addr) (es : List EnN) : HO := .ext fun h => (a == sysModules) = false ∧ es.length ≤ sizeLine ∧ (es.map (·.1)).Nodup ∧ (∀ e ∈ es, e.1.depth ≤ 8) ∧
  ∃ xs : List (NestedKey × Addr × Value), Paired (fun (e : EnN) x => e.1 = x.1 ∧ e.2.1 = x.2.1 ∧ RelV e.2.2 x.2.2) es xs ∧ ∃ o ds ep, h.get? a = some o ∧ o.ExactDict ∧ o.data = .dict ds ep ∧ ds.toList = xs.map (entryOfKey (nestedKind Wrl.P Wrl.w))
abbrev Env := List (Option T)
abbrev Mem := List (Option MO)

/-- the class of that name in the module stands at C -/
def CAt (K : PySem.W.Frag) (c : Str) (C : Addr) : Prop := PySem.W.nsIn K mainGlobals c = some (some (.ref C))
theorem CAt.inj {K : PySem.W.Frag} {c : Str} {C D : Addr} (h : CAt K c C) (h' : CAt K c D) : C = D := by
  unfold CAt at h h'
  rw [h] at h'
  simpa using h'
section
variable [Wrl]
mutual
def Rep (K : PySem.W.Frag) (Z : Hp) (ρ : List Addr) : T → V → Prop
  | .non, v => v = .non
  | .bl b, v => v = .bl b
  | .int i, v => v = .int i
  | .str x, v => v = .str x
  | .ty n, v => v = .ty n
  | .tup ts, v => ∃ a vs, v = .ref a ∧ SqT K Z a vs ∧ Reps K Z ρ ts vs
  | .lst ts, v => ∃ a vs, v = .ref a ∧ Z a = some (.lst vs) ∧ Reps K Z ρ ts vs
  | .rls ts, v => ∃ a vs, v = .ref a ∧ SqL K Z a vs ∧ Reps K Z ρ ts vs
  | .dct ks ts, v => ∃ a vs o, v = .ref a ∧ Z a = some (.frz o (.dK (ks.zip vs))) ∧ ks.length = vs.length ∧ Reps K Z ρ ts vs
  | .ins c ns ts, v => ∃ a C dx vs, v = .ref a ∧ CAt K c C ∧ Z a = some (.ins C dx (ns.zip vs)) ∧ ns.length = vs.length ∧ Reps K Z ρ ts vs
  | .dcn ks ts, v => ∃ a es o, v = .ref a ∧ toNKs ks = some (es.map (·.1)) ∧ Z a = some (.frz o (rawN a es)) ∧ Reps K Z ρ ks (es.map fun e => .ref e.2.1) ∧ Reps K Z ρ ts (es.map (·.2.2))
  | .exc c ns ts, v => ∃ a C d vs, v = .ref a ∧ CAt K c C ∧ Z a = some (exo a C d) ∧ ((d = none ∧ ns = []) ∨ ∃ dx, d = some dx ∧ Z dx = some (exd dx (ns.zip vs))) ∧ ns.length = vs.length ∧ Reps K Z ρ ts vs
  | .set ks, v => ∃ a, v = .ref a ∧ Z a = some (setO a ks)
  | .loc n, v => ∃ a, ρ[n]? = some a ∧ v = .ref a
def Reps (K : PySem.W.Frag) (Z : Hp) (ρ : List Addr) : List T → List V → Prop
  | [], vs => vs = []
  | t :: ts, vs => ∃ v us, vs = v :: us ∧ Rep K Z ρ t v ∧ Reps K Z ρ ts us
end
def RepO (K : PySem.W.Frag) (Z : Hp) (ρ : List Addr) (a : Addr) : MO → Option HO → Prop
  | .lst ts, o => ∃ vs, o = some (.lst vs) ∧ Reps K Z ρ ts vs
  | .dct ks ts, o => ∃ vs, o = some (.dK (ks.zip vs)) ∧ ks.length = vs.length ∧ Reps K Z ρ ts vs
  | .ins c ns ts, o => ∃ C dx vs, o = some (.ins C dx (ns.zip vs)) ∧ CAt K c C ∧ ns.length = vs.length ∧ Reps K Z ρ ts vs
  | .dcn ks ts, o => ∃ es, o = some (rawN a es) ∧ toNKs ks = some (es.map (·.1)) ∧ Reps K Z ρ ks (es.map fun e => .ref e.2.1) ∧ Reps K Z ρ ts (es.map (·.2.2))
end

theorem Same.sqt {K : PySem.W.Frag} {H H' : Hp} {a : Addr} {xs : List V} (e : Same H H') (h : SqT K H a xs) : SqT K H' a xs := by
  rcases h with (h | ⟨o, h⟩) | h
  · exact .inl (.inl (e _ _ h))
  · exact .inl (.inr ⟨o, e _ _ h⟩)
  · exact .inr h
theorem pre_get {ρ ρ' : List Addr} (h : ρ <+: ρ') {n : Nat} {a : Addr} (e : ρ[n]? = some a) : ρ'[n]? = some a := by
  obtain ⟨t, rfl⟩ := h
  have hl : n < ρ.length := (List.getElem?_eq_some_iff.mp e).1
  rw [List.getElem?_append_left hl]; exact e

section
variable [Wrl]
variable {K : PySem.W.Frag} {Z Z' : Hp} {ρ ρ' : List Addr}
mutual
theorem Rep.mono (hz : Same Z Z') (hp : ρ <+: ρ') : ∀ {t : T} {v : V}, Rep K Z ρ t v → Rep K Z' ρ' t v
  | .non, _, h => by unfold Rep at h ⊢; exact h
  | .bl _, _, h => by unfold Rep at h ⊢; exact h
  | .int _, _, h => by unfold Rep at h ⊢; exact h
  | .str _, _, h => by unfold Rep at h ⊢; exact h
  | .ty _, _, h => by unfold Rep at h ⊢; exact h
  | .tup ts, _, h => by
    unfold Rep at h ⊢
    obtain ⟨a, vs, e, q, r⟩ := h
    exact ⟨a, vs, e, Same.sqt hz q, Reps.mono hz hp r⟩
  | .lst ts, _, h => by
    unfold Rep at h ⊢
    obtain ⟨a, vs, e, q, r⟩ := h
    exact ⟨a, vs, e, hz _ _ q, Reps.mono hz hp r⟩
  | .rls ts, _, h => by
    unfold Rep at h ⊢
    obtain ⟨a, vs, e, q, r⟩ := h
    exact ⟨a, vs, e, hz.seq q, Reps.mono hz hp r⟩
  | .dct ks ts, _, h => by
    unfold Rep at h ⊢
    obtain ⟨a, vs, o, e, q, l, r⟩ := h
    exact ⟨a, vs, o, e, hz _ _ q, l, Reps.mono hz hp r⟩
  | .ins C ns ts, _, h => by
    unfold Rep at h ⊢
    obtain ⟨a, C, dx, vs, e, k, q, l, r⟩ := h
    exact ⟨a, C, dx, vs, e, k, hz _ _ q, l, Reps.mono hz hp r⟩
  | .dcn ks ts, _, h => by
    unfold Rep at h ⊢
    obtain ⟨a, es, o, e, k, q, r, r2⟩ := h
    exact ⟨a, es, o, e, k, hz _ _ q, Reps.mono hz hp r, Reps.mono hz hp r2⟩
  | .exc c ns ts, _, h => by
    unfold Rep at h ⊢
    obtain ⟨a, C, d, vs, e, k, q, q2, l, r⟩ := h
    exact ⟨a, C, d, vs, e, k, hz _ _ q, q2.imp (fun z => z) (fun ⟨dx, z1, z2⟩ => ⟨dx, z1, hz _ _ z2⟩), l, Reps.mono hz hp r⟩
  | .set ks, _, h => by
    unfold Rep at h ⊢
    obtain ⟨a, e, q⟩ := h
    exact ⟨a, e, hz _ _ q⟩
  | .loc n, _, h => by
    unfold Rep at h ⊢
    obtain ⟨a, e, r⟩ := h
    exact ⟨a, pre_get hp e, r⟩
theorem Reps.mono (hz : Same Z Z') (hp : ρ <+: ρ') : ∀ {ts : List T} {vs : List V}, Reps K Z ρ ts vs → Reps K Z' ρ' ts vs
  | [], _, h => by unfold Reps at h ⊢; exact h
  | t :: ts, _, h => by
    unfold Reps at h ⊢
    obtain ⟨v, us, e, r, rs⟩ := h
    exact ⟨v, us, e, Rep.mono hz hp r, Reps.mono hz hp rs⟩
end
theorem RepO.mono (hz : Same Z Z') (hp : ρ <+: ρ') {a : Addr} : ∀ {o : MO} {h : Option HO}, RepO K Z ρ a o h → RepO K Z' ρ' a o h
  | .lst ts, _, ⟨vs, e, r⟩ => ⟨vs, e, r.mono hz hp⟩
  | .dct ks ts, _, ⟨vs, e, l, r⟩ => ⟨vs, e, l, r.mono hz hp⟩
  | .ins C ns ts, _, ⟨C', dx, vs, e, k, l, r⟩ => ⟨C', dx, vs, e, k, l, r.mono hz hp⟩
  | .dcn _ _, _, ⟨es, e, k, r, r2⟩ => ⟨es, e, k, r.mono hz hp, r2.mono hz hp⟩
theorem Reps.length : ∀ {ts : List T} {vs : List V}, Reps K Z ρ ts vs → ts.length = vs.length
  | [], _, h => by unfold Reps at h; subst h; rfl
  | t :: ts, _, h => by
    unfold Reps at h
    obtain ⟨v, us, rfl, _, rs⟩ := h
    simp [Reps.length rs]
theorem Reps.nil : Reps K Z ρ [] [] := by unfold Reps; rfl
theorem Reps.cons {t : T} {ts : List T} {v : V} {vs : List V} (r : Rep K Z ρ t v) (rs : Reps K Z ρ ts vs) : Reps K Z ρ (t :: ts) (v :: vs) := by
  unfold Reps; exact ⟨v, vs, rfl, r, rs⟩
theorem Reps.append : ∀ {ts us : List T} {vs ws : List V}, Reps K Z ρ ts vs → Reps K Z ρ us ws → Reps K Z ρ (ts ++ us) (vs ++ ws)
  | [], us, _, ws, h, h' => by unfold Reps at h; subst h; exact h'
  | t :: ts, us, _, ws, h, h' => by
    unfold Reps at h
    obtain ⟨v, vs, rfl, r, rs⟩ := h
    exact .cons r (Reps.append rs h')
theorem Reps.get : ∀ {ts : List T} {vs : List V} {i : Nat} {t : T}, Reps K Z ρ ts vs → ts[i]? = some t → ∃ v, vs[i]? = some v ∧ Rep K Z ρ t v
  | [], _, _, _, _, e => by simp at e
  | t :: ts, _, 0, _, h, e => by
    unfold Reps at h
    obtain ⟨v, vs, rfl, r, rs⟩ := h
    simp at e; subst e; exact ⟨v, rfl, r⟩
  | t :: ts, _, i + 1, _, h, e => by
    unfold Reps at h
    obtain ⟨v, vs, rfl, r, rs⟩ := h
    obtain ⟨u, h1, h2⟩ := Reps.get (i := i) rs (by simpa using e)
    exact ⟨u, by simpa using h1, h2⟩
theorem Reps.getV : ∀ {ts : List T} {vs : List V} {i : Nat} {v : V}, Reps K Z ρ ts vs → vs[i]? = some v → ∃ t, ts[i]? = some t ∧ Rep K Z ρ t v
  | [], _, _, _, h, e => by unfold Reps at h; subst h; simp at e
  | t :: ts, _, 0, _, h, e => by
    unfold Reps at h
    obtain ⟨v, vs, rfl, r, rs⟩ := h
    simp at e; subst e; exact ⟨t, rfl, r⟩
  | t :: ts, _, i + 1, _, h, e => by
    unfold Reps at h
    obtain ⟨v, vs, rfl, r, rs⟩ := h
    obtain ⟨u, h1, h2⟩ := Reps.getV (i := i) rs (by simpa using e)
    exact ⟨u, by simpa using h1, h2⟩
theorem Reps.set : ∀ {ts : List T} {vs : List V} {t : T} {v : V} (i : Nat), Reps K Z ρ ts vs → Rep K Z ρ t v → Reps K Z ρ (ts.set i t) (vs.set i v)
  | [], _, _, _, _, h, _ => by unfold Reps at h; subst h; exact .nil
  | t :: ts, _, _, _, 0, h, r' => by
    unfold Reps at h
    obtain ⟨v, vs, rfl, r, rs⟩ := h
    exact .cons r' rs
  | t :: ts, _, _, _, i + 1, h, r' => by
    unfold Reps at h
    obtain ⟨v, vs, rfl, r, rs⟩ := h
    exact .cons r (Reps.set i rs r')
theorem Reps.take : ∀ {ts : List T} {vs : List V} (n : Nat), Reps K Z ρ ts vs → Reps K Z ρ (ts.take n) (vs.take n)
  | _, _, 0, _ => .nil
  | [], _, _ + 1, h => by unfold Reps at h; subst h; exact .nil
  | t :: ts, _, n + 1, h => by
    unfold Reps at h
    obtain ⟨v, vs, rfl, r, rs⟩ := h
    exact .cons r (Reps.take n rs)
theorem Reps.drop : ∀ {ts : List T} {vs : List V} (n : Nat), Reps K Z ρ ts vs → Reps K Z ρ (ts.drop n) (vs.drop n)
  | ts, _, 0, h => h
  | [], _, _ + 1, h => by unfold Reps at h; subst h; exact .nil
  | t :: ts, _, n + 1, h => by
    unfold Reps at h
    obtain ⟨v, vs, rfl, r, rs⟩ := h
    exact Reps.drop n rs
end

variable [Wrl]
/-- the table of code objects at P: each that it tells bears the name q -/
def TabR (Z H : Hp) (P : Addr) (q : Str) : Prop := ∃ ps : Array Value, H P = some (.tbl ps) ∧ TriplesOk ps.toList ∧ ∀ (pos : Pos) (cv : Value), codeAmong pos ps.toList = some cv → ∃ c, cv = .ref c ∧ Z c = some (LamX.CodeO c q)
theorem TabR.live {Z H : Hp} {P : Addr} {q : Str} (t : TabR Z H P q) : H P ≠ none := by
  obtain ⟨ps, h, _⟩ := t
  rw [h]; exact fun z => nomatch z
theorem TabR.to {Z Z' H H' : Hp} {P : Addr} {q : Str} (t : TabR Z H P q) (e : Same Z Z') (h : H' P = H P) : TabR Z' H' P q := by
  obtain ⟨ps, h1, h2, h3⟩ := t
  refine ⟨ps, h.trans h1, h2, fun pos cv hc => ?_⟩
  obtain ⟨c, e1, e2⟩ := h3 pos cv hc
  exact ⟨c, e1, e _ _ e2⟩
/-- the abstract heap as the cells and trees say; Φ: what else must stay -/
structure Rel (K : PySem.W.Frag) (Φ Z : Hp) (ρ : List Addr) (H : Hp) (m : Mem) : Prop where
  zin : ∀ a o, Z a = some o → H a = some o
  fin : ∀ a o, Φ a = some o → H a = some o ∧ Z a = none ∧ a ∉ ρ
  len : ρ.length = m.length
  nd : ρ.Nodup
  trk : ∀ a ∈ ρ, H a ≠ none
  mem : ∀ (i : Nat) (o : MO) (a : Addr), m[i]? = some (some o) → ρ[i]? = some a → Z a = none ∧ RepO K Z ρ a o (H a)
  tab : ∀ p ∈ Wrl.tabs, TabR Z H p.1 p.2 ∧ Z p.1 = none ∧ Φ p.1 = none ∧ p.1 ∉ ρ
structure Envs (K : PySem.W.Frag) (Z : Hp) (ρ : List Addr) (env : Env) (σ : St) : Prop where
  len : env.length = σ.length
  get : ∀ (i : Nat) (t : T), env[i]? = some (some t) → ∃ v : V, σ[i]? = some (some v) ∧ Rep K Z ρ t v
structure Fits (K : PySem.W.Frag) (Φ Z : Hp) (ρ : List Addr) (σ : St) (H : Hp) (env : Env) (m : Mem) : Prop where
  rel : Rel K Φ Z ρ H m
  env : Envs K Z ρ env σ

/-- outcomes -/
inductive Out (α : Type) where
  | ok (a : α) (m : Mem) | ex (C : Str) (ns : List Str) (vs : List T) (m : Mem) | no
inductive SOut where
  | nx (env : Env) (m : Mem) | rt (t : T) (m : Mem) | bk (env : Env) (m : Mem) | ct (env : Env) (m : Mem)
  | ex (C : Str) (ns : List Str) (vs : List T) (env : Env) (m : Mem) | no
abbrev EF := Env → Mem → Out T
abbrev SF := Env → Mem → SOut
@[simp] def Out.bind {α β : Type} (x : Out α) (f : α → Mem → Out β) : Out β := match x with
  | .ok a m => f a m
  | .ex C ns vs m => .ex C ns vs m
  | .no => .no

structure Ext (Z Z' : Hp) (ρ ρ' : List Addr) : Prop where
  z : Same Z Z'
  p : ρ <+: ρ'
theorem Ext.refl {Z : Hp} {ρ : List Addr} : Ext Z Z ρ ρ := ⟨Same.refl _, List.prefix_refl _⟩
theorem Ext.trans {Z Z1 Z2 : Hp} {ρ ρ1 ρ2 : List Addr} (a : Ext Z Z1 ρ ρ1) (b : Ext Z1 Z2 ρ1 ρ2) : Ext Z Z2 ρ ρ2 := ⟨a.z.trans b.z, a.p.trans b.p⟩
theorem Rep.ext {K : PySem.W.Frag} {Z Z' : Hp} {ρ ρ' : List Addr} {t : T} {v : V} (r : Rep K Z ρ t v) (e : Ext Z Z' ρ ρ') : Rep K Z' ρ' t v := r.mono e.z e.p
theorem Reps.ext {K : PySem.W.Frag} {Z Z' : Hp} {ρ ρ' : List Addr} {t : List T} {v : List V} (r : Reps K Z ρ t v) (e : Ext Z Z' ρ ρ') : Reps K Z' ρ' t v := r.mono e.z e.p
theorem Envs.ext {K : PySem.W.Frag} {Z Z' : Hp} {ρ ρ' : List Addr} {env : Env} {σ : St} (r : Envs K Z ρ env σ) (e : Ext Z Z' ρ ρ') : Envs K Z' ρ' env σ :=
  ⟨r.len, fun i t h => let ⟨v, h1, h2⟩ := r.get i t h; ⟨v, h1, h2.ext e⟩⟩
theorem Envs.set {K : PySem.W.Frag} {Z : Hp} {ρ : List Addr} {env : Env} {σ : St} {t : T} {v : V} (r : Envs K Z ρ env σ) (i : Nat) (h : Rep K Z ρ t v) : Envs K Z ρ (env.set i (some t)) (σ.set i (some v)) := by
  refine ⟨by simp [r.len], fun j u e => ?_⟩
  by_cases hj : i = j
  · subst hj
    have hl : i < env.length := by
      have := (List.getElem?_eq_some_iff.mp e).1
      simpa using this
    rw [List.getElem?_set_self hl] at e
    have e' : t = u := by simpa using e
    subst e'
    exact ⟨v, List.getElem?_set_self (by rw [← r.len]; exact hl), h⟩
  · rw [List.getElem?_set_ne hj] at e
    obtain ⟨w, h1, h2⟩ := r.get j u e
    exact ⟨w, by rw [List.getElem?_set_ne hj]; exact h1, h2⟩

variable (K : PySem.W.Frag) (W : WX)
/-- what is wanted of an exception of the class of that name -/
def WR (c : Str) (d : Addr) (σ : St) (H : Hp) : Prop := ∀ C, CAt K c C → W (.ref C) (some d) σ H
/-- what a value's outcome must bring -/
def Post (Φ Z : Hp) (ρ : List Addr) (σ : St) (Q : VK) : Out T → Prop
  | .ok t m => ∀ Z' ρ' H' v, Ext Z Z' ρ ρ' → Rel K Φ Z' ρ' H' m → Rep K Z' ρ' t v → Q v H'
  | .ex C ns ts m => ∀ Z' ρ' H' d vs, Ext Z Z' ρ ρ' → Rel K Φ Z' ρ' H' m → Reps K Z' ρ' ts vs → ns.length = vs.length → Z' d = some (.xd (ns.zip vs)) → WR K W C d σ H'
  | .no => False
def PostL (Φ Z : Hp) (ρ : List Addr) (σ : St) (Q : List V → Hp → Prop) : Out (List T) → Prop
  | .ok ts m => ∀ Z' ρ' H' vs, Ext Z Z' ρ ρ' → Rel K Φ Z' ρ' H' m → Reps K Z' ρ' ts vs → Q vs H'
  | .ex C ns ts m => ∀ Z' ρ' H' d vs, Ext Z Z' ρ ρ' → Rel K Φ Z' ρ' H' m → Reps K Z' ρ' ts vs → ns.length = vs.length → Z' d = some (.xd (ns.zip vs)) → WR K W C d σ H'
  | .no => False
def PostB (Φ Z : Hp) (ρ : List Addr) (σ : St) (Q : Bool → Hp → Prop) : Out Bool → Prop
  | .ok b m => ∀ Z' ρ' H', Ext Z Z' ρ ρ' → Rel K Φ Z' ρ' H' m → Q b H'
  | .ex C ns ts m => ∀ Z' ρ' H' d vs, Ext Z Z' ρ ρ' → Rel K Φ Z' ρ' H' m → Reps K Z' ρ' ts vs → ns.length = vs.length → Z' d = some (.xd (ns.zip vs)) → WR K W C d σ H'
  | .no => False
def PostS (Φ Z : Hp) (ρ : List Addr) (n : Nat) (D : Ends) : SOut → Prop
  | .nx env m => ∀ Z' ρ' H' σ', Ext Z Z' ρ ρ' → Fits K Φ Z' ρ' σ' H' env m → σ'.length = n → D.nx σ' H'
  | .bk env m => ∀ Z' ρ' H' σ', Ext Z Z' ρ ρ' → Fits K Φ Z' ρ' σ' H' env m → σ'.length = n → D.bk σ' H'
  | .ct env m => ∀ Z' ρ' H' σ', Ext Z Z' ρ ρ' → Fits K Φ Z' ρ' σ' H' env m → σ'.length = n → D.ct σ' H'
  | .rt t m => ∀ Z' ρ' H' v, Ext Z Z' ρ ρ' → Rel K Φ Z' ρ' H' m → Rep K Z' ρ' t v → D.rt v H'
  | .ex C ns ts env m => ∀ Z' ρ' H' σ' d vs, Ext Z Z' ρ ρ' → Fits K Φ Z' ρ' σ' H' env m → Reps K Z' ρ' ts vs → ns.length = vs.length → Z' d = some (.xd (ns.zip vs)) → WR K W C d σ' H'
  | .no => False
def tr (f : EF) : TE := fun σ H Q => ∃ Φ Z ρ env m, Fits K Φ Z ρ σ H env m ∧ Post K W Φ Z ρ σ Q (f env m)
def trL (f : Env → Mem → Out (List T)) : TA := fun σ H Q => ∃ Φ Z ρ env m, Fits K Φ Z ρ σ H env m ∧ PostL K W Φ Z ρ σ Q (f env m)
def trB (f : Env → Mem → Out Bool) : TT := fun σ H Q => ∃ Φ Z ρ env m, Fits K Φ Z ρ σ H env m ∧ PostB K W Φ Z ρ σ Q (f env m)
def trS (g : SF) : TS := fun D σ H => ∃ Φ Z ρ env m, Fits K Φ Z ρ σ H env m ∧ PostS K W Φ Z ρ σ.length D (g env m)

variable {K W}
variable {Φ Z Z' : Hp} {ρ ρ' : List Addr} {σ : St} {H : Hp}
theorem Post.ext {Q : VK} {o : Out T} (h : Post K W Φ Z ρ σ Q o) (e : Ext Z Z' ρ ρ') : Post K W Φ Z' ρ' σ Q o := by
  cases o with
  | ok t m => exact fun Z2 ρ2 H' v e2 => h Z2 ρ2 H' v (e.trans e2)
  | ex C ns ts m => exact fun Z2 ρ2 H' d vs e2 => h Z2 ρ2 H' d vs (e.trans e2)
  | no => exact h
theorem PostL.ext {Q : List V → Hp → Prop} {o : Out (List T)} (h : PostL K W Φ Z ρ σ Q o) (e : Ext Z Z' ρ ρ') : PostL K W Φ Z' ρ' σ Q o := by
  cases o with
  | ok t m => exact fun Z2 ρ2 H' v e2 => h Z2 ρ2 H' v (e.trans e2)
  | ex C ns ts m => exact fun Z2 ρ2 H' d vs e2 => h Z2 ρ2 H' d vs (e.trans e2)
  | no => exact h
theorem PostB.ext {Q : Bool → Hp → Prop} {o : Out Bool} (h : PostB K W Φ Z ρ σ Q o) (e : Ext Z Z' ρ ρ') : PostB K W Φ Z' ρ' σ Q o := by
  cases o with
  | ok t m => exact fun Z2 ρ2 H' e2 => h Z2 ρ2 H' (e.trans e2)
  | ex C ns ts m => exact fun Z2 ρ2 H' d vs e2 => h Z2 ρ2 H' d vs (e.trans e2)
  | no => exact h
theorem PostS.ext {n : Nat} {D : Ends} {o : SOut} (h : PostS K W Φ Z ρ n D o) (e : Ext Z Z' ρ ρ') : PostS K W Φ Z' ρ' n D o := by
  cases o with
  | nx env m => exact fun Z2 ρ2 H' v e2 => h Z2 ρ2 H' v (e.trans e2)
  | bk env m => exact fun Z2 ρ2 H' v e2 => h Z2 ρ2 H' v (e.trans e2)
  | ct env m => exact fun Z2 ρ2 H' v e2 => h Z2 ρ2 H' v (e.trans e2)
  | rt env m => exact fun Z2 ρ2 H' v e2 => h Z2 ρ2 H' v (e.trans e2)
  | ex C ns ts env m => exact fun Z2 ρ2 H' σ' d vs e2 => h Z2 ρ2 H' σ' d vs (e.trans e2)
  | no => exact h

structure SE (X : Cx) (W : WX) (e : Expr) (f : EF) : Prop where
  pe : PE X e (tr X.K W f)
structure SA (X : Cx) (W : WX) (es : List Expr) (f : Env → Mem → Out (List T)) : Prop where
  pa : PA X es (trL X.K W f)
structure SB (X : Cx) (W : WX) (e : Expr) (f : Env → Mem → Out Bool) : Prop where
  pt : PT X e (trB X.K W f)
structure SS (X : Cx) (W : WX) (st : Stmt) (g : SF) : Prop where
  ps : PS X st (trS X.K W g)
structure SSs (X : Cx) (W : WX) (sts : List Stmt) (g : SF) : Prop where
  ps : PSs X sts (trS X.K W g)

theorem pe_imp {X : Cx} {e : Expr} {t u : TE} (h : PE X e t) (i : ∀ σ H Q, u σ H Q → t σ H Q) : PE X e u := ⟨fun pins s σ H Q I q => h.run pins s σ H Q I (i σ H Q q)⟩
theorem pt_imp {X : Cx} {e : Expr} {t u : TT} (h : PT X e t) (i : ∀ σ H Q, u σ H Q → t σ H Q) : PT X e u := ⟨fun pins s σ H Q I q => h.run pins s σ H Q I (i σ H Q q)⟩
theorem pa_imp {X : Cx} {e : List Expr} {t u : TA} (h : PA X e t) (i : ∀ σ H Q, u σ H Q → t σ H Q) : PA X e u := ⟨fun pos pins s σ H Q I q => h.run pos pins s σ H Q I (i σ H Q q)⟩
theorem ps_imp {X : Cx} {e : Stmt} {t u : TS} (h : PS X e t) (i : ∀ D σ H, u D σ H → t D σ H) : PS X e u := ⟨fun pins s σ H D I q => h.run pins s σ H D I (i D σ H q)⟩
theorem pss_imp {X : Cx} {e : List Stmt} {t u : TS} (h : PSs X e t) (i : ∀ D σ H, u D σ H → t D σ H) : PSs X e u := ⟨fun pins s σ H D I q => h.run pins s σ H D I (i D σ H q)⟩

/-- running f first, k behind it -/
theorem tr_bind {α : Type} {f : EF} {env : Env} {m : Mem} {k : T → Mem → Out α} {P : Out α → Prop} {R : V → Hp → Prop} (F : Fits K Φ Z ρ σ H env m)
    (hk : ∀ t m1 Z1 ρ1 H1 v, f env m = .ok t m1 → Ext Z Z1 ρ ρ1 → Fits K Φ Z1 ρ1 σ H1 env m1 → Rep K Z1 ρ1 t v → P (k t m1) → R v H1)
    (hx : ∀ C ns vs m1, P (.ex C ns vs m1) → Post K W Φ Z ρ σ R (.ex C ns vs m1)) (hn : P .no → False)
    (h : P ((f env m).bind k)) : tr K W f σ H R := by
  refine ⟨Φ, Z, ρ, env, m, F, ?_⟩
  cases e : f env m with
  | ok t m1 =>
    rw [e] at h
    exact fun Z1 ρ1 H1 v e1 r1 rep => hk t m1 Z1 ρ1 H1 v e e1 ⟨r1, F.env.ext e1⟩ rep h
  | ex C ns vs m1 =>
    rw [e] at h
    exact hx C ns vs m1 h
  | no =>
    rw [e] at h
    exact (hn h).elim
end Ev

namespace Ev
open PySem L2
variable [Wrl]
section
variable {K : PySem.W.Frag} {W : WX} {Φ Z Z' : Hp} {ρ ρ' : List Addr} {σ : St} {H : Hp} {m : Mem}

theorem Rel.zn (r : Rel K Φ Z ρ H m) {p : Addr} (hp : H p = none) : Z p = none := by
  cases e : Z p with
  | none => rfl
  | some o => rw [r.zin p o e] at hp; cases hp
theorem Rel.rn (r : Rel K Φ Z ρ H m) {p : Addr} (hp : H p = none) : p ∉ ρ := fun h => r.trk p h hp
theorem same_upd {Z : Hp} {p : Addr} {o : HO} (h : Z p = none) : Same Z (upd Z p o) := fun b u e => by
  rw [upd_ne (ne_of_none e h)]; exact e
/-- a new object that stays -/
theorem Rel.allocZ (r : Rel K Φ Z ρ H m) {p : Addr} (hp : H p = none) (o : HO) : Rel K Φ (upd Z p o) ρ (upd H p o) m ∧ Ext Z (upd Z p o) ρ ρ := by
  have hz := r.zn hp
  have e : Ext Z (upd Z p o) ρ ρ := ⟨same_upd hz, List.prefix_refl _⟩
  refine ⟨⟨fun a u h => ?_, fun a u h => ?_, r.len, r.nd, fun a ha => ?_, fun i u a h1 h2 => ?_, fun q hq => ?_⟩, e⟩
  · by_cases hb : a = p
    · subst hb; rw [upd_same] at h ⊢; exact h
    · rw [upd_ne hb] at h ⊢; exact r.zin a u h
  · obtain ⟨h1, h2, h3⟩ := r.fin a u h
    have hb := ne_of_none h1 hp
    exact ⟨by rw [upd_ne hb]; exact h1, by rw [upd_ne hb]; exact h2, h3⟩
  · have hb : a ≠ p := fun z => r.rn hp (z ▸ ha)
    rw [upd_ne hb]; exact r.trk a ha
  · have ha : a ∈ ρ := List.mem_of_getElem? h2
    have hb : a ≠ p := fun z => r.rn hp (z ▸ ha)
    obtain ⟨h3, h4⟩ := r.mem i u a h1 h2
    rw [upd_ne hb, upd_ne hb]
    exact ⟨h3, h4.mono e.z e.p⟩
  · obtain ⟨t, h1, h2, h3⟩ := r.tab q hq
    have hb : q.1 ≠ p := fun z => t.live (by rw [z]; exact hp)
    exact ⟨t.to e.z (upd_ne hb), by rw [upd_ne hb]; exact h1, h2, h3⟩
/-- a new cell -/
theorem Rel.allocC (r : Rel K Φ Z ρ H m) {p : Addr} (hp : H p = none) {o : HO} {u : MO} (ho : RepO K Z ρ p u (some o)) : Rel K Φ Z (ρ ++ [p]) (upd H p o) (m ++ [some u]) ∧ Ext Z Z ρ (ρ ++ [p]) := by
  have hz := r.zn hp
  have e : Ext Z Z ρ (ρ ++ [p]) := ⟨Same.refl _, List.prefix_append _ _⟩
  refine ⟨⟨fun a u h => ?_, fun a u h => ?_, by simp [r.len], ?_, fun a ha => ?_, fun i w a h1 h2 => ?_, fun q hq => ?_⟩, e⟩
  · have hb : a ≠ p := fun z => by subst z; rw [hz] at h; cases h
    rw [upd_ne hb]; exact r.zin a u h
  · obtain ⟨h1, h2, h3⟩ := r.fin a u h
    have hb := ne_of_none h1 hp
    refine ⟨by rw [upd_ne hb]; exact h1, h2, fun hm => ?_⟩
    rcases List.mem_append.mp hm with q | q
    · exact h3 q
    · exact hb (List.mem_singleton.mp q)
  · refine List.nodup_append.mpr ⟨r.nd, by simp, fun a ha b hb => ?_⟩
    rw [List.mem_singleton.mp hb]
    exact fun z => r.rn hp (z ▸ ha)
  · rcases List.mem_append.mp ha with q | q
    · have hb : a ≠ p := fun z => r.rn hp (z ▸ q)
      rw [upd_ne hb]; exact r.trk a q
    · rw [List.mem_singleton.mp q, upd_same]; exact fun z => nomatch z
  · by_cases hi : i < m.length
    · rw [List.getElem?_append_left hi] at h1
      rw [List.getElem?_append_left (by rw [r.len]; exact hi)] at h2
      have hb : a ≠ p := fun z => r.rn hp (z ▸ List.mem_of_getElem? h2)
      obtain ⟨h3, h4⟩ := r.mem i w a h1 h2
      rw [upd_ne hb]
      exact ⟨h3, h4.mono e.z e.p⟩
    · have hl := (List.getElem?_eq_some_iff.mp h1).1
      rw [List.length_append] at hl
      have hi' : i = m.length := by simp at hl; omega
      subst hi'
      have e1 : u = w := by simpa using h1
      subst e1
      rw [← r.len] at h2
      have e2 : p = a := by simpa using h2
      subst e2
      rw [upd_same]
      exact ⟨hz, ho.mono e.z e.p⟩
  · obtain ⟨t, h1, h2, h3⟩ := r.tab q hq
    have hb : q.1 ≠ p := fun z => t.live (by rw [z]; exact hp)
    exact ⟨t.to e.z (upd_ne hb), h1, h2, fun hm => (List.mem_append.mp hm).elim h3 fun z => hb (List.mem_singleton.mp z)⟩
/-- a cell is written -/
theorem Rel.write (r : Rel K Φ Z ρ H m) {n : Nat} {a : Addr} {u : MO} {o : HO} {w : MO} (hn : m[n]? = some (some w)) (ha : ρ[n]? = some a) (ho : RepO K Z ρ a u (some o)) : Rel K Φ Z ρ (upd H a o) (m.set n (some u)) := by
  have hz := (r.mem n w a hn ha).1
  have hm : a ∈ ρ := List.mem_of_getElem? ha
  refine ⟨fun b v h => ?_, fun b v h => ?_, by simp [r.len], r.nd, fun b hb => ?_, fun i v b h1 h2 => ?_, fun q hq => ?_⟩
  · have hb : b ≠ a := fun z => by subst z; rw [hz] at h; cases h
    rw [upd_ne hb]; exact r.zin b v h
  · obtain ⟨h1, h2, h3⟩ := r.fin b v h
    have hb : b ≠ a := fun z => h3 (z ▸ hm)
    exact ⟨by rw [upd_ne hb]; exact h1, h2, h3⟩
  · by_cases hb' : b = a
    · subst hb'; rw [upd_same]; exact fun z => nomatch z
    · rw [upd_ne hb']; exact r.trk b hb
  · by_cases hi : n = i
    · subst hi
      rw [ha] at h2; cases h2
      have hl := (List.getElem?_eq_some_iff.mp hn).1
      rw [List.getElem?_set_self hl] at h1
      have e1 : u = v := by simpa using h1
      subst e1
      rw [upd_same]; exact ⟨hz, ho⟩
    · rw [List.getElem?_set_ne hi] at h1
      have hb : b ≠ a := fun z => hi (by
        subst z
        exact (nd_ix r.nd h2 ha).symm)
      rw [upd_ne hb]; exact r.mem i v b h1 h2
  · obtain ⟨t, h1, h2, h3⟩ := r.tab q hq
    have hb : q.1 ≠ a := fun z => h3 (z ▸ hm)
    exact ⟨t.to (Same.refl _) (upd_ne hb), h1, h2, h3⟩
/-- a cell's list stays from now on -/
theorem Rel.freeze (r : Rel K Φ Z ρ H m) {n : Nat} {a : Addr} {o : HO} {w : MO} (hn : m[n]? = some (some w)) (ha : ρ[n]? = some a) (ho : H a = some o) : Rel K Φ (upd Z a o) ρ H (m.set n none) ∧ Ext Z (upd Z a o) ρ ρ := by
  have hz := (r.mem n w a hn ha).1
  have hm : a ∈ ρ := List.mem_of_getElem? ha
  have e : Ext Z (upd Z a o) ρ ρ := ⟨same_upd hz, List.prefix_refl _⟩
  refine ⟨⟨fun b v h => ?_, fun b v h => ?_, by simp [r.len], r.nd, r.trk, fun i v b h1 h2 => ?_, fun q hq => ?_⟩, e⟩
  · by_cases hb : b = a
    · subst hb; rw [upd_same] at h; rw [ho]; exact h
    · rw [upd_ne hb] at h; exact r.zin b v h
  · obtain ⟨h1, h2, h3⟩ := r.fin b v h
    have hb : b ≠ a := fun z => h3 (z ▸ hm)
    exact ⟨h1, by rw [upd_ne hb]; exact h2, h3⟩
  · by_cases hi : n = i
    · subst hi
      have hl := (List.getElem?_eq_some_iff.mp hn).1
      rw [List.getElem?_set_self hl] at h1; cases h1
    · rw [List.getElem?_set_ne hi] at h1
      have hb : b ≠ a := fun z => hi (by subst z; exact (nd_ix r.nd h2 ha).symm)
      obtain ⟨h3, h4⟩ := r.mem i v b h1 h2
      rw [upd_ne hb]
      exact ⟨h3, h4.mono e.z e.p⟩
  · obtain ⟨t, h1, h2, h3⟩ := r.tab q hq
    have hb : q.1 ≠ a := fun z => h3 (z ▸ hm)
    exact ⟨t.to e.z rfl, by rw [upd_ne hb]; exact h1, h2, h3⟩
theorem Rel.addr (r : Rel K Φ Z ρ H m) {n : Nat} {w : MO} (hn : m[n]? = some (some w)) : ∃ a, ρ[n]? = some a := by
  have hl := (List.getElem?_eq_some_iff.mp hn).1
  rw [← r.len] at hl
  exact ⟨ρ[n], by simp [hl]⟩
theorem Rel.same (r : Rel K Φ Z ρ H m) : Same Z H := r.zin
/-- a further thing is kept aside -/
theorem Rel.aside (r : Rel K Φ Z ρ H m) {p : Addr} (hp : H p = none) (o : HO) : Rel K (upd Φ p o) Z ρ (upd H p o) m := by
  have hz := r.zn hp
  refine ⟨fun a u h => ?_, fun a u h => ?_, r.len, r.nd, fun a ha => ?_, fun i w a h1 h2 => ?_, fun q hq => ?_⟩
  · have hb : a ≠ p := fun z => by subst z; rw [hz] at h; cases h
    rw [upd_ne hb]; exact r.zin a u h
  · by_cases hb : a = p
    · subst hb; rw [upd_same] at h ⊢; exact ⟨h, hz, r.rn hp⟩
    · rw [upd_ne hb] at h ⊢; exact r.fin a u h
  · have hb : a ≠ p := fun z => r.rn hp (z ▸ ha)
    rw [upd_ne hb]; exact r.trk a ha
  · have hb : a ≠ p := fun z => r.rn hp (z ▸ List.mem_of_getElem? h2)
    rw [upd_ne hb]; exact r.mem i w a h1 h2
  · obtain ⟨t, h1, h2, h3⟩ := r.tab q hq
    have hb : q.1 ≠ p := fun z => t.live (by rw [z]; exact hp)
    exact ⟨t.to (Same.refl _) (upd_ne hb), h1, by rw [upd_ne hb]; exact h2, h3⟩
/-- .. changed there -/
theorem Rel.aside_set (r : Rel K Φ Z ρ H m) {p : Addr} {o u : HO} (hp : Φ p = some o) : Rel K (upd Φ p u) Z ρ (upd H p u) m := by
  obtain ⟨hh, hz, hr⟩ := r.fin p o hp
  refine ⟨fun a u h => ?_, fun a u h => ?_, r.len, r.nd, fun a ha => ?_, fun i w a h1 h2 => ?_, fun q hq => ?_⟩
  · have hb : a ≠ p := fun z => by subst z; rw [hz] at h; cases h
    rw [upd_ne hb]; exact r.zin a u h
  · by_cases hb : a = p
    · subst hb; rw [upd_same] at h ⊢; exact ⟨h, hz, hr⟩
    · rw [upd_ne hb] at h ⊢; exact r.fin a u h
  · have hb : a ≠ p := fun z => hr (z ▸ ha)
    rw [upd_ne hb]; exact r.trk a ha
  · have hb : a ≠ p := fun z => hr (z ▸ List.mem_of_getElem? h2)
    rw [upd_ne hb]; exact r.mem i w a h1 h2
  · obtain ⟨t, h1, h2, h3⟩ := r.tab q hq
    have hb : q.1 ≠ p := fun z => by rw [z, hp] at h2; cases h2
    exact ⟨t.to (Same.refl _) (upd_ne hb), h1, by rw [upd_ne hb]; exact h2, h3⟩
/-- .. and back among what stays, or a cell -/
theorem Rel.back (r : Rel K Φ Z ρ H m) {Ψ : Hp} {p : Addr} {o : HO} (hp : Φ p = some o) (hΨ : ∀ a u, Ψ a = some u → Φ a = some u ∧ a ≠ p) : Rel K Ψ (upd Z p o) ρ H m ∧ Ext Z (upd Z p o) ρ ρ := by
  obtain ⟨hh, hz, hr⟩ := r.fin p o hp
  have e : Ext Z (upd Z p o) ρ ρ := ⟨same_upd hz, List.prefix_refl _⟩
  refine ⟨⟨fun b v h => ?_, fun b v h => ?_, r.len, r.nd, r.trk, fun i v b h1 h2 => ?_, fun q hq => ?_⟩, e⟩
  · by_cases hb : b = p
    · subst hb; rw [upd_same] at h; rw [hh]; exact h
    · rw [upd_ne hb] at h; exact r.zin b v h
  · obtain ⟨h1, h2⟩ := hΨ b v h
    obtain ⟨h3, h4, h5⟩ := r.fin b v h1
    exact ⟨h3, by rw [upd_ne h2]; exact h4, h5⟩
  · have hb : b ≠ p := fun z => hr (z ▸ List.mem_of_getElem? h2)
    obtain ⟨h3, h4⟩ := r.mem i v b h1 h2
    rw [upd_ne hb]
    exact ⟨h3, h4.mono e.z e.p⟩
  · obtain ⟨t, h1, h2, h3⟩ := r.tab q hq
    have hb : q.1 ≠ p := fun z => by rw [z, hp] at h2; cases h2
    have h4 : Ψ q.1 = none := by
      cases eq : Ψ q.1 with
      | none => rfl
      | some u => have := (hΨ _ _ eq).1; rw [h2] at this; cases this
    exact ⟨t.to e.z rfl, by rw [upd_ne hb]; exact h1, h4, h3⟩
theorem Rel.backC (r : Rel K Φ Z ρ H m) {Ψ : Hp} {p : Addr} {o : HO} {u : MO} (hp : Φ p = some o) (hΨ : ∀ a u, Ψ a = some u → Φ a = some u ∧ a ≠ p) (ho : RepO K Z ρ p u (some o)) : Rel K Ψ Z (ρ ++ [p]) H (m ++ [some u]) ∧ Ext Z Z ρ (ρ ++ [p]) := by
  obtain ⟨hh, hz, hr⟩ := r.fin p o hp
  have e : Ext Z Z ρ (ρ ++ [p]) := ⟨Same.refl _, List.prefix_append _ _⟩
  refine ⟨⟨r.zin, fun b v h => ?_, by simp [r.len], ?_, fun a ha => ?_, fun i w a h1 h2 => ?_, fun q hq => ?_⟩, e⟩
  · obtain ⟨h1, h2⟩ := hΨ b v h
    obtain ⟨h3, h4, h5⟩ := r.fin b v h1
    refine ⟨h3, h4, fun hm => ?_⟩
    rcases List.mem_append.mp hm with q | q
    · exact h5 q
    · exact h2 (List.mem_singleton.mp q)
  · refine List.nodup_append.mpr ⟨r.nd, by simp, fun a ha b hb => ?_⟩
    rw [List.mem_singleton.mp hb]
    exact fun z => hr (z ▸ ha)
  · rcases List.mem_append.mp ha with q | q
    · exact r.trk a q
    · rw [List.mem_singleton.mp q, hh]; exact fun z => nomatch z
  · by_cases hi : i < m.length
    · rw [List.getElem?_append_left hi] at h1
      rw [List.getElem?_append_left (by rw [r.len]; exact hi)] at h2
      obtain ⟨h3, h4⟩ := r.mem i w a h1 h2
      exact ⟨h3, h4.mono e.z e.p⟩
    · have hl := (List.getElem?_eq_some_iff.mp h1).1
      rw [List.length_append] at hl
      have hi' : i = m.length := by simp at hl; omega
      subst hi'
      have e1 : u = w := by simpa using h1
      subst e1
      rw [← r.len] at h2
      have e2 : p = a := by simpa using h2
      subst e2
      rw [hh]
      exact ⟨hz, ho.mono e.z e.p⟩
  · obtain ⟨t, h1, h2, h3⟩ := r.tab q hq
    have hb : q.1 ≠ p := fun z => by rw [z, hp] at h2; cases h2
    have h4 : Ψ q.1 = none := by
      cases eq : Ψ q.1 with
      | none => rfl
      | some u => have := (hΨ _ _ eq).1; rw [h2] at this; cases this
    exact ⟨t.to e.z rfl, h1, h4, fun hm => (List.mem_append.mp hm).elim h3 fun z => hb (List.mem_singleton.mp z)⟩

/-! ### reading lists and tuples -/
def asL (m : Mem) : T → Option (List T)
  | .lst ts => some ts
  | .rls ts => some ts
  | .loc n => match m[n]? with
    | some (some (.lst ts)) => some ts
    | _ => none
  | _ => none
/-- a list that is no locked or written one -/
def asO (m : Mem) : T → Option (List T)
  | .lst ts => some ts
  | .loc n => match m[n]? with
    | some (some (.lst ts)) => some ts
    | _ => none
  | _ => none
def asT : T → Option (List T)
  | .tup ts => some ts
  | _ => none
theorem cell_lst (r : Rel K Φ Z ρ H m) {n : Nat} {ts : List T} {v : V} (hv : Rep K Z ρ (.loc n) v) (hn : m[n]? = some (some (.lst ts))) : ∃ a vs, v = .ref a ∧ ρ[n]? = some a ∧ H a = some (.lst vs) ∧ Reps K Z ρ ts vs := by
  unfold Rep at hv
  obtain ⟨a, ha, rfl⟩ := hv
  obtain ⟨_, vs, e, rs⟩ := r.mem n _ a hn ha
  exact ⟨a, vs, rfl, ha, e, rs⟩
theorem asO_rep (r : Rel K Φ Z ρ H m) {t : T} {ts : List T} {v : V} (hv : Rep K Z ρ t v) (h : asO m t = some ts) : ∃ a vs, v = .ref a ∧ H a = some (.lst vs) ∧ Reps K Z ρ ts vs := by
  cases t with
  | lst us =>
    have e : us = ts := by simpa [asO] using h
    subst e
    unfold Rep at hv
    obtain ⟨a, vs, rfl, e, rs⟩ := hv
    exact ⟨a, vs, rfl, r.zin _ _ e, rs⟩
  | loc n =>
    unfold asO at h
    simp only at h
    split at h
    · rename_i us e
      cases h
      obtain ⟨a, vs, e1, _, e2, rs⟩ := cell_lst r hv e
      exact ⟨a, vs, e1, e2, rs⟩
    · cases h
  | _ => simp [asO] at h
theorem asL_rep (r : Rel K Φ Z ρ H m) {t : T} {ts : List T} {v : V} (hv : Rep K Z ρ t v) (h : asL m t = some ts) : ∃ a vs, v = .ref a ∧ SqL K H a vs ∧ Reps K Z ρ ts vs := by
  cases t with
  | lst us =>
    have e : us = ts := by simpa [asL] using h
    subst e
    unfold Rep at hv
    obtain ⟨a, vs, rfl, e, rs⟩ := hv
    exact ⟨a, vs, rfl, .of (r.zin _ _ e), rs⟩
  | rls us =>
    have e : us = ts := by simpa [asL] using h
    subst e
    unfold Rep at hv
    obtain ⟨a, vs, rfl, e, rs⟩ := hv
    exact ⟨a, vs, rfl, r.same.seq e, rs⟩
  | loc n =>
    unfold asL at h
    simp only at h
    split at h
    · rename_i us e
      cases h
      obtain ⟨a, vs, e1, _, e2, rs⟩ := cell_lst r hv e
      exact ⟨a, vs, e1, .of e2, rs⟩
    · cases h
  | _ => simp [asL] at h
theorem asT_rep (r : Rel K Φ Z ρ H m) {t : T} {ts : List T} {v : V} (hv : Rep K Z ρ t v) (h : asT t = some ts) : ∃ a vs, v = .ref a ∧ SqT K H a vs ∧ Reps K Z ρ ts vs := by
  cases t with
  | tup us =>
    have e : us = ts := by simpa [asT] using h
    subst e
    unfold Rep at hv
    obtain ⟨a, vs, rfl, e, rs⟩ := hv
    exact ⟨a, vs, rfl, Same.sqt r.same e, rs⟩
  | _ => simp [asT] at h
/-- a new list: a cell, or one that stays -/
def mk (mu : Bool) (ts : List T) (m : Mem) : Out T := if mu then .ok (.loc m.length) (m ++ [some (.lst ts)]) else .ok (.lst ts) m
theorem post_mk {mu : Bool} {ts : List T} {vs : List V} {Q : VK} (r : Rel K Φ Z ρ H m) (rs : Reps K Z ρ ts vs) (h : Post K W Φ Z ρ σ Q (mk mu ts m)) {p : Addr} (hp : H p = none) : Q (.ref p) (upd H p (.lst vs)) := by
  cases mu with
  | false =>
    obtain ⟨r', e⟩ := r.allocZ hp (.lst vs)
    refine h _ _ _ _ e r' ?_
    unfold Rep
    exact ⟨p, vs, rfl, upd_same, rs.ext e⟩
  | true =>
    obtain ⟨r', e⟩ := r.allocC hp (o := .lst vs) (u := .lst ts) ⟨vs, rfl, rs⟩
    refine h _ _ _ _ e r' ?_
    unfold Rep
    exact ⟨p, by rw [← r.len]; simp, rfl⟩
theorem post_tup {ts : List T} {vs : List V} {Q : VK} (r : Rel K Φ Z ρ H m) (rs : Reps K Z ρ ts vs) (h : Post K W Φ Z ρ σ Q (.ok (.tup ts) m)) {p : Addr} (hp : H p = none) : Q (.ref p) (upd H p (.tup vs)) := by
  obtain ⟨r', e⟩ := r.allocZ hp (.tup vs)
  refine h _ _ _ _ e r' ?_
  unfold Rep
  exact ⟨p, vs, rfl, .of upd_same, rs.ext e⟩
theorem post_ok {t : T} {v : V} {Q : VK} (r : Rel K Φ Z ρ H m) (rt : Rep K Z ρ t v) (h : Post K W Φ Z ρ σ Q (.ok t m)) : Q v H := h _ _ _ _ Ext.refl r rt
theorem rep_int {i : Int} : Rep K Z ρ (.int i) (.int i) := by unfold Rep; rfl
theorem rep_bl {i : Bool} : Rep K Z ρ (.bl i) (.bl i) := by unfold Rep; rfl
theorem rep_str {i : Str} : Rep K Z ρ (.str i) (.str i) := by unfold Rep; rfl
theorem rep_non : Rep K Z ρ .non .non := by unfold Rep; rfl
theorem rep_ty {n : String} : Rep K Z ρ (.ty n) (.ty n) := by unfold Rep; rfl
end
end Ev

namespace Ev
open PySem L2
variable [Wrl]
section
variable {X : Cx} {W : WX}

/-! ### names and constants -/
def eVar (i : Nat) : EF := fun env m => match env[i]? with
  | some (some t) => .ok t m
  | _ => .no
theorem se_of {e : Expr} {f : EF} {t : TE} (h : PE X e t) (i : ∀ Φ Z ρ σ H env m Q, Fits X.K Φ Z ρ σ H env m → Post X.K W Φ Z ρ σ Q (f env m) → t σ H Q) : SE X W e f :=
  ⟨pe_imp h fun σ H Q ⟨Φ, Z, ρ, env, m, F, p⟩ => i Φ Z ρ σ H env m Q F p⟩
theorem se_var (i : Nat) {x : Str} {pos : Pos} (hN : X.N[i]? = some x := by rfl) (hv : Vis X.env.scope x := by first | exact Or.inl rfl | exact Or.inr (Or.inl rfl) | exact Or.inr (Or.inr rfl)) (hd : (x == ("__debug__" : Str)) = false := by decide)
    (hcd : (x == ("__classdict__" : Str)) = false := by decide) : SE X W (.Name x pos) (eVar i) := by
  refine se_of (pe_var hN hv hd hcd) fun Φ Z ρ σ H env m Q F p => ?_
  unfold eVar at p
  split at p
  · rename_i t e
    obtain ⟨v, h1, h2⟩ := F.env.get i t e
    exact ⟨v, h1, post_ok F.rel h2 p⟩
  · exact p.elim
def eC (t : T) : EF := fun _ m => .ok t m
theorem se_int {i : Int} {j pos} : SE X W (.Constant (.int i) j pos) (eC (.int i)) := se_of pe_int fun _ _ _ _ _ _ _ _ F p => post_ok F.rel rep_int p
theorem se_bl {b : Bool} {j pos} : SE X W (.Constant (.bool b) j pos) (eC (.bl b)) := se_of pe_bl fun _ _ _ _ _ _ _ _ F p => post_ok F.rel rep_bl p
theorem se_non {j pos} : SE X W (.Constant .none j pos) (eC .non) := se_of pe_non fun _ _ _ _ _ _ _ _ F p => post_ok F.rel rep_non p
theorem se_str {x : Str} {j pos} : SE X W (.Constant (.str x) j pos) (eC (.str x)) := se_of pe_str fun _ _ _ _ _ _ _ _ F p => post_ok F.rel rep_str p
/-- code that has no meaning here -/
def eNo : EF := fun _ _ => .no
theorem se_no {e : Expr} : SE X W e eNo := ⟨⟨fun _ _ _ _ _ _ ⟨_, _, _, _, _, _, p⟩ => p.elim⟩⟩
/-- a name of the module, a built-in, as a value: its T -/
theorem se_glob {x : Str} {t : T} {v : V} {u : Value} {pos : Pos} (hm : X.mg x = some u) (r : RelV v u) (ht : ∀ Z ρ, Rep X.K Z ρ t v) (hg : Gl X x := by rfl) (hd : (x == ("__debug__" : Str)) = false := by decide) : SE X W (.Name x pos) (eC t) :=
  se_of (pe_glob hg hm r hd) fun _ _ _ _ _ _ _ _ F p => post_ok F.rel (ht _ _) p
theorem se_ty {x : Str} {n : String} {pos : Pos} (hm : X.mg x = none) (hv : bootBuiltins x = some (.type n)) (hg : Gl X x := by rfl) (hn : x ≠ "__name__" := by decide) (hd : (x == ("__debug__" : Str)) = false := by decide) : SE X W (.Name x pos) (eC (.ty n)) :=
  se_of (pe_bltn (v := .ty n) hg hm hv rfl hn hd) fun _ _ _ _ _ _ _ _ F p => post_ok F.rel rep_ty p

/-! ### two, one after another -/
def e2 (g : T → T → Mem → Out T) (fa fb : EF) : EF := fun env m => (fa env m).bind fun x m1 => (fb env m1).bind fun y m2 => g x y m2
def Sem2 (K : PySem.W.Frag) (g : T → T → Mem → Out T) (r : R2) : Prop :=
  ∀ (W : WX) (Φ Z : Hp) (ρ : List Addr) (σ : St) (H : Hp) (m : Mem) (Q : VK) (x y : T) (vx vy : V), Rel K Φ Z ρ H m → Rep K Z ρ x vx → Rep K Z ρ y vy → Post K W Φ Z ρ σ Q (g x y m) → r vx vy H Q
theorem tr_e2 {K : PySem.W.Frag} {g : T → T → Mem → Out T} {r : R2} (hg : Sem2 K g r) {fa fb : EF} {σ : St} {H : Hp} {Q : VK} (h : tr K W (e2 g fa fb) σ H Q) : tOp r (tr K W fa) (tr K W fb) σ H Q := by
  obtain ⟨Φ, Z, ρ, env, m, F, p⟩ := h
  refine tr_bind (P := Post K W Φ Z ρ σ Q) F (fun x m1 Z1 ρ1 H1 vx _ e1 F1 rx p1 => ?_) (fun _ _ _ _ h => h) (fun h => h) p
  refine tr_bind (P := Post K W Φ Z1 ρ1 σ Q) F1 (fun y m2 Z2 ρ2 H2 vy _ e2 F2 ry p2 => ?_) (fun _ _ _ _ h => h) (fun h => h) (p1.ext e1)
  exact hg W Φ Z2 ρ2 σ H2 m2 Q x y vx vy F2.rel (rx.ext e2) ry (p2.ext e2)
theorem se_op {op : Operator} {a b : Expr} {pos : Pos} {r : R2} {g : T → T → Mem → Out T} {fa fb : EF} (ho : OpR X (binaryOp op) r) (hg : Sem2 X.K g r) (ha : SE X W a fa) (hb : SE X W b fb) : SE X W (.BinOp a op b pos) (e2 g fa fb) :=
  ⟨pe_imp (pe_op ho ha.pe hb.pe) fun _ _ _ h => tr_e2 hg h⟩
theorem se_cmp {op : CmpOp} {a b : Expr} {pos : Pos} {r : R2} {g : T → T → Mem → Out T} {fa fb : EF} (ho : OpR X (compareOp op) r) (hg : Sem2 X.K g r) (ha : SE X W a fa) (hb : SE X W b fb) (hm : behindInMarks op b = false := by first | exact nomark _ | rfl) : SE X W (.Compare a [op] [b] pos) (e2 g fa fb) :=
  ⟨pe_imp (pe_cmpR ho ha.pe hb.pe hm) fun _ _ _ h => tr_e2 hg h⟩
theorem se_ix {a b : Expr} {pos : Pos} {r : R2} {g : T → T → Mem → Out T} {fa fb : EF} (ho : IxR X r) (hg : Sem2 X.K g r) (ha : SE X W a fa) (hb : SE X W b fb) (hs : PlainIx b := by exact fun _ _ => rfl) : SE X W (.Subscript a b pos) (e2 g fa fb) :=
  ⟨pe_imp (pe_ix ho ha.pe hb.pe hs) fun _ _ _ h => tr_e2 hg h⟩
def e1 (g : T → Mem → Out T) (fa : EF) : EF := fun env m => (fa env m).bind fun x m1 => g x m1

/-! ### arguments -/
abbrev LF := Env → Mem → Out (List T)
def lNil : LF := fun _ m => .ok [] m
def lCons (fa : EF) (fs : LF) : LF := fun env m => (fa env m).bind fun x m1 => (fs env m1).bind fun xs m2 => .ok (x :: xs) m2
theorem sa_nil : SA X W [] lNil := ⟨pa_imp pa_nil fun σ H Q ⟨Φ, Z, ρ, env, m, F, p⟩ => p Z ρ H [] Ext.refl F.rel Reps.nil⟩
theorem trL_bind {α : Type} {K : PySem.W.Frag} {Φ Z : Hp} {ρ : List Addr} {σ : St} {H : Hp} {f : LF} {env : Env} {m : Mem} {k : List T → Mem → Out α} {P : Out α → Prop} {R : List V → Hp → Prop} (F : Fits K Φ Z ρ σ H env m)
    (hk : ∀ t m1 Z1 ρ1 H1 v, f env m = .ok t m1 → Ext Z Z1 ρ ρ1 → Fits K Φ Z1 ρ1 σ H1 env m1 → Reps K Z1 ρ1 t v → P (k t m1) → R v H1)
    (hx : ∀ C ns vs m1, P (.ex C ns vs m1) → PostL K W Φ Z ρ σ R (.ex C ns vs m1)) (hn : P .no → False)
    (h : P ((f env m).bind k)) : trL K W f σ H R := by
  refine ⟨Φ, Z, ρ, env, m, F, ?_⟩
  cases e : f env m with
  | ok t m1 =>
    rw [e] at h
    exact fun Z1 ρ1 H1 v e1 r1 rep => hk t m1 Z1 ρ1 H1 v e e1 ⟨r1, F.env.ext e1⟩ rep h
  | ex C ns vs m1 =>
    rw [e] at h
    exact hx C ns vs m1 h
  | no =>
    rw [e] at h
    exact (hn h).elim
theorem sa_cons {e : Expr} {es : List Expr} {fa : EF} {fs : LF} (ha : SE X W e fa) (hr : SA X W es fs) (hs : starEach (e :: es) X.env = (false, eval e X.env) :: starEach es X.env := by rfl) : SA X W (e :: es) (lCons fa fs) := by
  refine ⟨pa_imp (pa_cons ha.pe hr.pa hs) fun σ H Q ⟨Φ, Z, ρ, env, m, F, p⟩ => ?_⟩
  refine tr_bind (P := PostL X.K W Φ Z ρ σ Q) F (fun x m1 Z1 ρ1 H1 vx _ e1 F1 rx p1 => ?_) (fun _ _ _ _ h => h) (fun h => h) p
  refine trL_bind (P := PostL X.K W Φ Z1 ρ1 σ Q) F1 (fun xs m2 Z2 ρ2 H2 vs _ e2 F2 rs p2 => ?_) (fun _ _ _ _ h => h) (fun h => h) (p1.ext e1)
  exact (p2.ext e2) Z2 ρ2 H2 _ Ext.refl F2.rel (.cons (rx.ext e2) rs)
def eOfL (g : List T → Mem → Out T) (fs : LF) : EF := fun env m => (fs env m).bind g
def SemL (K : PySem.W.Frag) (g : List T → Mem → Out T) (r : List V → Hp → VK → Prop) : Prop :=
  ∀ (W : WX) (Φ Z : Hp) (ρ : List Addr) (σ : St) (H : Hp) (m : Mem) (Q : VK) (xs : List T) (vs : List V), Rel K Φ Z ρ H m → Reps K Z ρ xs vs → Post K W Φ Z ρ σ Q (g xs m) → r vs H Q
theorem tr_ofL {K : PySem.W.Frag} {g : List T → Mem → Out T} {r : List V → Hp → VK → Prop} (hg : SemL K g r) {fs : LF} {σ : St} {H : Hp} {Q : VK} (h : tr K W (eOfL g fs) σ H Q) : trL K W fs σ H (fun vs H1 => r vs H1 Q) := by
  obtain ⟨Φ, Z, ρ, env, m, F, p⟩ := h
  refine trL_bind (P := Post K W Φ Z ρ σ Q) F (fun x m1 Z1 ρ1 H1 vx _ e1 F1 rx p1 => ?_) (fun _ _ _ _ h => h) (fun h => h) p
  exact hg W Φ Z1 ρ1 σ H1 m1 Q x vx F1.rel rx (p1.ext e1)
def lim : Nat := 100000
theorem lim_le {n : Nat} (h : n ≤ lim) : n ≤ sizeLine := Nat.le_trans h (by decide)
theorem lim_lt {n : Nat} (h : n ≤ lim) : n < sizeLine := Nat.lt_of_le_of_lt h (by decide)
def gTupL : List T → Mem → Out T := fun ts m => if ts.length ≤ lim then .ok (.tup ts) m else .no
def gLstL (mu : Bool) : List T → Mem → Out T := fun ts m => if ts.length ≤ lim then mk mu ts m else .no
theorem se_tup {es : List Expr} {k : Nat} {pos : Pos} {fs : LF} (h : SA X W es fs) : SE X W (.Tuple es k pos) (eOfL gTupL fs) :=
  ⟨pe_imp (pe_tup h.pa) fun σ H Q h => tr_ofL (r := fun xs H1 Q => xs.length ≤ sizeLine ∧ ∀ p, H1 p = none → Q (.ref p) (upd H1 p (.tup xs))) (fun W Φ Z ρ σ H m Q xs vs r rs p => by
    unfold gTupL at p
    split at p
    · rename_i hl
      exact ⟨by rw [← rs.length]; exact lim_le hl, fun q hq => post_tup r rs p hq⟩
    · exact p.elim) h⟩
theorem se_lst (mu : Bool) {es : List Expr} {pos : Pos} {fs : LF} (h : SA X W es fs) : SE X W (.List es pos) (eOfL (gLstL mu) fs) :=
  ⟨pe_imp (pe_lst h.pa) fun σ H Q h => tr_ofL (r := fun xs H1 Q => xs.length ≤ sizeLine ∧ ∀ p, H1 p = none → Q (.ref p) (upd H1 p (.lst xs))) (fun W Φ Z ρ σ H m Q xs vs r rs p => by
    unfold gLstL at p
    split at p
    · rename_i hl
      exact ⟨by rw [← rs.length]; exact lim_le hl, fun q hq => post_mk r rs p hq⟩
    · exact p.elim) h⟩
/-- the context of a body: what is raised is taken, loops pass, there is room -/
structure Cok (X : Cx) (W : WX) (k : Nat) : Prop where
  tk : Takes X W
  pass : PassesOwn (model X.prog X.w) X.A X.env X.xe
  calm : X.calm = true
  nd : X.N.Nodup
  room : Room k X.A
  here : Here X
abbrev W0 : WX := fun _ _ _ _ => False
/-- a built-in called by its name -/
theorem se_callB {x : Str} {id : String} {r : List V → Hp → VK → Prop} {g : List T → Mem → Out T} {e : Expr} {es : List Expr} {fs : LF} {p pos : Pos} (hf : CallR X (.builtin id) r) (hg : SemL X.K g r) (hm : X.mg x = none) (ha : SA X W (e :: es) fs)
    (hv : bootBuiltins x = some (.builtin id) := by decide +kernel) (hG : Gl X x := by rfl) (hn : x ≠ "__name__" := by decide) (hdb : (x == ("__debug__" : Str)) = false := by decide)
    (he : starEach (e :: es) X.env = (false, eval e X.env) :: starEach es X.env := by rfl) (hpl : (backTo pos (starEach es X.env)).any (·.1) = false := by rfl) : SE X W (.Call (.Name x p) (e :: es) [] pos) (eOfL g fs) :=
  ⟨pe_imp (pe_callB hf hG hm hv ha.pa hn hdb he hpl) fun σ H Q h => tr_ofL hg h⟩
theorem se_callTy {x : Str} {id : String} {r : List V → Hp → VK → Prop} {g : List T → Mem → Out T} {e : Expr} {es : List Expr} {fs : LF} {p pos : Pos} (hf : CallR X (.type id) r) (hg : SemL X.K g r) (hm : X.mg x = none) (ha : SA X W (e :: es) fs)
    (hv : bootBuiltins x = some (.type id) := by decide +kernel) (hG : Gl X x := by rfl) (hn : x ≠ "__name__" := by decide) (hdb : (x == ("__debug__" : Str)) = false := by decide)
    (he : starEach (e :: es) X.env = (false, eval e X.env) :: starEach es X.env := by rfl) (hpl : (backTo pos (starEach es X.env)).any (·.1) = false := by rfl) : SE X W (.Call (.Name x p) (e :: es) [] pos) (eOfL g fs) :=
  ⟨pe_imp (pe_callTy hf hG hm hv ha.pa hn hdb he hpl) fun σ H Q h => tr_ofL hg h⟩
/-! ### defs -/
abbrev FS := List T → Mem → Out T
def spF (K : PySem.W.Frag) (n : Nat) (F : FS) : Sp := fun vs H Q E => ∃ Φ Z ρ m ts, Rel K Φ Z ρ H m ∧ Reps K Z ρ ts vs ∧ vs.length = n ∧ Post K (fun c d _ H' => E c d H') Φ Z ρ [] Q (F ts m)
structure DefOk (P : Program) (w : World) (K : PySem.W.Frag) (mg : Str → Option Value) (base : Heap) (n k : Nat) (x : Str) (F : FS) : Prop where
  ok : ∃ (f : Addr) (fd : FuncData) (ps : List Str), ps.length = n ∧ FnOk P w K mg base (L2.CX P w) k f fd ps (spF K n F) ∧ mg x = some (.ref f) ∧ PySem.W.keepIn K (.ref f) = true ∧ Binds K fd ps []
/-- a call asks as many values as there are parameters -/
def eCall (n : Nat) (F : FS) (fs : LF) : EF := fun env m => (fs env m).bind fun ts m1 => if ts.length = n then F ts m1 else .no
theorem post_w {K : PySem.W.Frag} {Φ Z : Hp} {ρ : List Addr} {σ : St} {Q : VK} {o : Out T} (h : Post K W Φ Z ρ σ Q o) : Post K (fun c d _ H' => WE W σ c d H') Φ Z ρ [] Q o := by
  cases o <;> exact h
theorem se_call {k j n : Nat} {F : FS} {x : Str} {e : Expr} {es : List Expr} {fs : LF} {p pos : Pos} (c : Cok X W k) (D : DefOk X.prog X.w X.K X.mg X.base n j x F) (ha : SA X W (e :: es) fs) (hj : j ≤ k := by decide)
    (hg : Gl X x := by rfl) (hdb : (x == ("__debug__" : Str)) = false := by decide) (he : starEach (e :: es) X.env = (false, eval e X.env) :: starEach es X.env := by rfl) (hpl : (backTo pos (starEach es X.env)).any (·.1) = false := by rfl) :
    SE X W (.Call (.Name x p) (e :: es) [] pos) (eCall n F fs) := by
  obtain ⟨f, fd, ps, hn, hF, hm, hk, hb⟩ := D.ok
  refine ⟨pe_imp (pe_callS hF (c.room.mono hj) hg hm hk hb (fun σ => passAt c.tk σ) ha.pa hdb he hpl) fun σ H Q ⟨Φ, Z, ρ, env, m, Fi, p⟩ => ?_⟩
  refine trL_bind (P := Post X.K W Φ Z ρ σ Q) Fi (fun ts m1 Z1 ρ1 H1 vs _ e1 F1 rs p1 => ?_) (fun _ _ _ _ h => h) (fun h => h) p
  split at p1
  · rename_i hl
    exact ⟨Φ, Z1, ρ1, m1, ts, F1.rel, rs, by rw [← rs.length]; exact hl, post_w (p1.ext e1)⟩
  · exact p1.elim

/-! ### tests -/
abbrev BF := Env → Mem → Out Bool
def bV (f : EF) : BF := fun env m => (f env m).bind fun t m1 => match t with
  | .bl b => .ok b m1
  | _ => .no
theorem tr_bV {K : PySem.W.Frag} {f : EF} {σ : St} {H : Hp} {Q : Bool → Hp → Prop} (h : trB K W (bV f) σ H Q) : tr K W f σ H (fun x H' => ∃ k, x = .bl k ∧ Q k H') := by
  obtain ⟨Φ, Z, ρ, env, m, F, p⟩ := h
  refine tr_bind (P := PostB K W Φ Z ρ σ Q) F (fun t m1 Z1 ρ1 H1 v _ e1 F1 r p1 => ?_) (fun _ _ _ _ h => h) (fun h => h) p
  cases t with
  | bl b =>
    unfold Rep at r
    subst r
    exact ⟨b, rfl, p1 _ _ _ e1 F1.rel⟩
  | _ => exact p1.elim
theorem sb_val {e : Expr} {f : EF} (h : SE X W e f) (he : ∀ whole, isTrue e X.env whole = (do let v ← whole; standAt e.pos; holding [v] (truthy v)) := by intro _; rfl) : SB X W e (bV f) :=
  ⟨pt_imp (pt_val h.pe he) fun σ H Q h => tr_bV h⟩
theorem sb_cmp {op : CmpOp} {a b : Expr} {pos : Pos} {r : R2} {g : T → T → Mem → Out T} {fa fb : EF} (ho : OpR X (compareOp op) r) (hg : Sem2 X.K g r) (ha : SE X W a fa) (hb : SE X W b fb) (hm : behindInMarks op b = false := by first | exact nomark _ | rfl) : SB X W (.Compare a [op] [b] pos) (bV (e2 g fa fb)) :=
  ⟨pt_imp (pt_cmpR ho ha.pe hb.pe hm) fun σ H Q h => tr_e2 hg (tr_bV h)⟩
def bNot (f : BF) : BF := fun env m => (f env m).bind fun b m1 => .ok (!b) m1
theorem trB_bind {α : Type} {K : PySem.W.Frag} {Φ Z : Hp} {ρ : List Addr} {σ : St} {H : Hp} {f : BF} {env : Env} {m : Mem} {k : Bool → Mem → Out α} {P : Out α → Prop} {R : Bool → Hp → Prop} (F : Fits K Φ Z ρ σ H env m)
    (hk : ∀ t m1 Z1 ρ1 H1, f env m = .ok t m1 → Ext Z Z1 ρ ρ1 → Fits K Φ Z1 ρ1 σ H1 env m1 → P (k t m1) → R t H1)
    (hx : ∀ C ns vs m1, P (.ex C ns vs m1) → PostB K W Φ Z ρ σ R (.ex C ns vs m1)) (hn : P .no → False)
    (h : P ((f env m).bind k)) : trB K W f σ H R := by
  refine ⟨Φ, Z, ρ, env, m, F, ?_⟩
  cases e : f env m with
  | ok t m1 =>
    rw [e] at h
    exact fun Z1 ρ1 H1 e1 r1 => hk t m1 Z1 ρ1 H1 e e1 ⟨r1, F.env.ext e1⟩ h
  | ex C ns vs m1 =>
    rw [e] at h
    exact hx C ns vs m1 h
  | no =>
    rw [e] at h
    exact (hn h).elim
theorem sb_not {a : Expr} {f : BF} {pos : Pos} (ha : SB X W a f) : SB X W (.UnaryOp .Not a pos) (bNot f) :=
  ⟨pt_imp (pt_not ha.pt) fun σ H Q ⟨Φ, Z, ρ, env, m, F, p⟩ =>
    trB_bind (P := PostB X.K W Φ Z ρ σ Q) (k := fun b m1 => .ok (!b) m1) F (fun b m1 Z1 ρ1 H1 _ e1 F1 p1 => p1 _ _ _ e1 F1.rel) (fun _ _ _ _ h => h) (fun h => h) p⟩
structure SW (X : Cx) (W : WX) (e : Expr) (f : BF) : Prop where
  pw : PW X e (trB X.K W f)
theorem pw_imp {X : Cx} {e : Expr} {t u : TT} (h : PW X e t) (i : ∀ σ H Q, u σ H Q → t σ H Q) : PW X e u := ⟨fun wh pins s σ H Q I q => h.run wh pins s σ H Q I (i σ H Q q)⟩
theorem SW.sb {e : Expr} {f : BF} (h : SW X W e f) : SB X W e f := ⟨h.pw.pt⟩
def bAnd (f g : BF) : BF := fun env m => (f env m).bind fun b m1 => if b then g env m1 else .ok false m1
def bOr (f g : BF) : BF := fun env m => (f env m).bind fun b m1 => if b then .ok true m1 else g env m1
theorem sw_and1 {a : Expr} {f : BF} {pos : Pos} (ha : SB X W a f) : SW X W (.BoolOp .And [a] pos) f := ⟨pw_and1 ha.pt⟩
theorem sw_or1 {a : Expr} {f : BF} {pos : Pos} (ha : SB X W a f) : SW X W (.BoolOp .Or [a] pos) f := ⟨pw_or1 ha.pt⟩
theorem sw_and {a b : Expr} {rest : List Expr} {f g : BF} {pos : Pos} (ha : SB X W a f) (hb : SW X W (.BoolOp .And (b :: rest) pos) g) : SW X W (.BoolOp .And (a :: b :: rest) pos) (bAnd f g) :=
  ⟨pw_imp (pw_and ha.pt hb.pw) fun σ H Q ⟨Φ, Z, ρ, env, m, F, p⟩ =>
    trB_bind (P := PostB X.K W Φ Z ρ σ Q) F (fun b m1 Z1 ρ1 H1 _ e1 F1 p1 => by
      cases b with
      | true => exact ⟨Φ, Z1, ρ1, env, m1, F1, p1.ext e1⟩
      | false => exact p1 _ _ _ e1 F1.rel) (fun _ _ _ _ h => h) (fun h => h) p⟩
theorem sw_or {a b : Expr} {rest : List Expr} {f g : BF} {pos : Pos} (ha : SB X W a f) (hb : SW X W (.BoolOp .Or (b :: rest) pos) g) : SW X W (.BoolOp .Or (a :: b :: rest) pos) (bOr f g) :=
  ⟨pw_imp (pw_or ha.pt hb.pw) fun σ H Q ⟨Φ, Z, ρ, env, m, F, p⟩ =>
    trB_bind (P := PostB X.K W Φ Z ρ σ Q) F (fun b m1 Z1 ρ1 H1 _ e1 F1 p1 => by
      cases b with
      | true => exact p1 _ _ _ e1 F1.rel
      | false => exact ⟨Φ, Z1, ρ1, env, m1, F1, p1.ext e1⟩) (fun _ _ _ _ h => h) (fun h => h) p⟩
/-- as values -/
def eAnd (f g : EF) : EF := fun env m => (f env m).bind fun t m1 => match t with
  | .bl true => g env m1
  | .bl false => .ok (.bl false) m1
  | _ => .no
def eOr (f g : EF) : EF := fun env m => (f env m).bind fun t m1 => match t with
  | .bl true => .ok (.bl true) m1
  | .bl false => g env m1
  | _ => .no
def eNot (f : EF) : EF := fun env m => (f env m).bind fun t m1 => match t with
  | .bl b => .ok (.bl (!b)) m1
  | _ => .no
theorem se_one {op : BoolOp} {a : Expr} {f : EF} {pos : Pos} (h : SE X W a f) : SE X W (.BoolOp op [a] pos) f := ⟨pe_one h.pe⟩
theorem se_and {a b : Expr} {rest : List Expr} {f g : EF} {pos : Pos} (ha : SE X W a f) (hb : SE X W (.BoolOp .And (b :: rest) pos) g) : SE X W (.BoolOp .And (a :: b :: rest) pos) (eAnd f g) :=
  ⟨pe_imp (pe_and ha.pe hb.pe) fun σ H Q ⟨Φ, Z, ρ, env, m, F, p⟩ =>
    tr_bind (P := Post X.K W Φ Z ρ σ Q) F (fun t m1 Z1 ρ1 H1 v _ e1 F1 r p1 => by
      split at p1
      · unfold Rep at r; subst r; exact ⟨true, rfl, Φ, Z1, ρ1, env, m1, F1, p1.ext e1⟩
      · unfold Rep at r; subst r; exact ⟨false, rfl, p1 _ _ _ _ e1 F1.rel rep_bl⟩
      · exact p1.elim) (fun _ _ _ _ h => h) (fun h => h) p⟩
theorem se_or {a b : Expr} {rest : List Expr} {f g : EF} {pos : Pos} (ha : SE X W a f) (hb : SE X W (.BoolOp .Or (b :: rest) pos) g) : SE X W (.BoolOp .Or (a :: b :: rest) pos) (eOr f g) :=
  ⟨pe_imp (pe_or ha.pe hb.pe) fun σ H Q ⟨Φ, Z, ρ, env, m, F, p⟩ =>
    tr_bind (P := Post X.K W Φ Z ρ σ Q) F (fun t m1 Z1 ρ1 H1 v _ e1 F1 r p1 => by
      split at p1
      · unfold Rep at r; subst r; exact ⟨true, rfl, p1 _ _ _ _ e1 F1.rel rep_bl⟩
      · unfold Rep at r; subst r; exact ⟨false, rfl, Φ, Z1, ρ1, env, m1, F1, p1.ext e1⟩
      · exact p1.elim) (fun _ _ _ _ h => h) (fun h => h) p⟩
theorem se_not {a : Expr} {f : EF} {pos : Pos} (ha : SE X W a f) : SE X W (.UnaryOp .Not a pos) (eNot f) :=
  ⟨pe_imp (pe_not ha.pe) fun σ H Q ⟨Φ, Z, ρ, env, m, F, p⟩ =>
    tr_bind (P := Post X.K W Φ Z ρ σ Q) F (fun t m1 Z1 ρ1 H1 v _ e1 F1 r p1 => by
      split at p1
      · unfold Rep at r; subst r; exact ⟨_, rfl, p1 _ _ _ _ e1 F1.rel rep_bl⟩
      · exact p1.elim) (fun _ _ _ _ h => h) (fun h => h) p⟩
def eIf (c : BF) (f g : EF) : EF := fun env m => (c env m).bind fun b m1 => if b then f env m1 else g env m1
theorem se_if {c a b : Expr} {fc : BF} {f g : EF} {pos : Pos} (hc : SB X W c fc) (ha : SE X W a f) (hb : SE X W b g) : SE X W (.IfExp c a b pos) (eIf fc f g) :=
  ⟨pe_imp (pe_ifExp hc.pt ha.pe hb.pe) fun σ H Q ⟨Φ, Z, ρ, env, m, F, p⟩ =>
    trB_bind (P := Post X.K W Φ Z ρ σ Q) F (fun b m1 Z1 ρ1 H1 _ e1 F1 p1 => by
      cases b with
      | true => exact ⟨Φ, Z1, ρ1, env, m1, F1, p1.ext e1⟩
      | false => exact ⟨Φ, Z1, ρ1, env, m1, F1, p1.ext e1⟩) (fun _ _ _ _ h => h) (fun h => h) p⟩

/-! ### statements -/
def sOf (f : EF) (k : T → Env → Mem → SOut) : SF := fun env m => match f env m with
  | .ok t m1 => k t env m1
  | .ex C ns vs m1 => .ex C ns vs env m1
  | .no => .no
theorem trS_bind {K : PySem.W.Frag} {σ : St} {H : Hp} {D : Ends} {f : EF} {k : T → Env → Mem → SOut} {R : V → Hp → Prop}
    (hk : ∀ Φ Z1 ρ1 H1 env m1 t v, Fits K Φ Z1 ρ1 σ H1 env m1 → Rep K Z1 ρ1 t v → PostS K W Φ Z1 ρ1 σ.length D (k t env m1) → R v H1)
    (h : trS K W (sOf f k) D σ H) : tr K W f σ H R := by
  obtain ⟨Φ, Z, ρ, env, m, F, p⟩ := h
  refine ⟨Φ, Z, ρ, env, m, F, ?_⟩
  unfold sOf at p
  cases e : f env m with
  | ok t m1 =>
    rw [e] at p
    exact fun Z1 ρ1 H1 v e1 r1 rep => hk Φ Z1 ρ1 H1 env m1 t v ⟨r1, F.env.ext e1⟩ rep (p.ext e1)
  | ex C ns vs m1 =>
    rw [e] at p
    exact fun Z1 ρ1 H1 d us e1 r1 rs hl hd => p Z1 ρ1 H1 σ d us e1 ⟨r1, F.env.ext e1⟩ rs hl hd
  | no => rw [e] at p; exact p
theorem ss_ret {e : Expr} {f : EF} {pos : Pos} (h : SE X W e f) : SS X W (.Return (some e) pos) (sOf f fun t _ m => .rt t m) :=
  ⟨ps_imp (ps_ret h.pe) fun D σ H h => trS_bind (k := fun t _ m => .rt t m) (fun Φ Z1 ρ1 H1 env m1 t v F r p => p _ _ _ _ Ext.refl F.rel r) h⟩
theorem ss_retN {pos : Pos} : SS X W (.Return none pos) (fun _ m => .rt .non m) :=
  ⟨ps_imp ps_retN fun D σ H ⟨Φ, Z, ρ, env, m, F, p⟩ => p _ _ _ _ Ext.refl F.rel rep_non⟩
theorem ss_expr {e : Expr} {f : EF} {pos : Pos} (h : SE X W e f) (hs : swapsWith e none pos.line X.env = pure false := by rfl) : SS X W (.Expr e pos) (sOf f fun _ env m => .nx env m) :=
  ⟨ps_imp (ps_expr h.pe hs) fun D σ H h => trS_bind (k := fun _ env m => .nx env m) (fun Φ Z1 ρ1 H1 env m1 t v F r p => p _ _ _ _ Ext.refl F rfl) h⟩
theorem ss_pass {pos : Pos} : SS X W (.Pass pos) (fun env m => .nx env m) :=
  ⟨ps_imp ps_pass fun D σ H ⟨Φ, Z, ρ, env, m, F, p⟩ => p _ _ _ _ Ext.refl F rfl⟩
theorem ss_cont {pos : Pos} : SS X W (.Continue pos) (fun env m => .ct env m) :=
  ⟨ps_imp ps_continue fun D σ H ⟨Φ, Z, ρ, env, m, F, p⟩ => p _ _ _ _ Ext.refl F rfl⟩
theorem ss_brk {pos : Pos} : SS X W (.Break pos) (fun env m => .bk env m) :=
  ⟨ps_imp ps_break fun D σ H ⟨Φ, Z, ρ, env, m, F, p⟩ => p _ _ _ _ Ext.refl F rfl⟩
def sNo : SF := fun _ _ => .no
theorem ss_no {st : Stmt} : SS X W st sNo := ⟨⟨fun _ _ _ _ _ _ ⟨_, _, _, _, _, _, p⟩ => p.elim⟩⟩
theorem ss_set {k : Nat} (i : Nat) {x : Str} {e : Expr} {f : EF} {p pos : Pos} (c : Cok X W k) (h : SE X W e f) (hi : X.N[i]? = some x := by rfl) (hx : Loc X.env.scope x := by first | exact Or.inl rfl | exact Or.inr rfl)
    (hs : swapsWith e (some (.Name x p)) pos.line X.env = pure false := by rfl) (hf : X.fn x = true ∨ X.env.scope.names.lookup x = some .local := by first | exact .inl rfl | exact .inr rfl) : SS X W (.Assign [.Name x p] e pos) (sOf f fun t env m => .nx (env.set i (some t)) m) :=
  ⟨ps_imp (ps_set c.nd hi hx h.pe hs hf) fun D σ H h => trS_bind (k := fun t env m => .nx (env.set i (some t)) m) (fun Φ Z1 ρ1 H1 env m1 t v F r p => p _ _ _ _ Ext.refl ⟨F.rel, F.env.set i r⟩ (by simp)) h⟩
def sIf (c : BF) (f g : SF) : SF := fun env m => match c env m with
  | .ok b m1 => if b then f env m1 else g env m1
  | .ex C ns vs m1 => .ex C ns vs env m1
  | .no => .no
theorem trSB_bind {K : PySem.W.Frag} {σ : St} {H : Hp} {D : Ends} {c : BF} {f g : SF} {R : Bool → Hp → Prop}
    (hk : ∀ Φ Z1 ρ1 H1 env m1 b, Fits K Φ Z1 ρ1 σ H1 env m1 → PostS K W Φ Z1 ρ1 σ.length D (if b then f env m1 else g env m1) → R b H1)
    (h : trS K W (sIf c f g) D σ H) : trB K W c σ H R := by
  obtain ⟨Φ, Z, ρ, env, m, F, p⟩ := h
  refine ⟨Φ, Z, ρ, env, m, F, ?_⟩
  unfold sIf at p
  cases e : c env m with
  | ok t m1 =>
    rw [e] at p
    exact fun Z1 ρ1 H1 e1 r1 => hk Φ Z1 ρ1 H1 env m1 t ⟨r1, F.env.ext e1⟩ (PostS.ext (o := if t = true then f env m1 else g env m1) p e1)
  | ex C ns vs m1 =>
    rw [e] at p
    exact fun Z1 ρ1 H1 d us e1 r1 rs hl hd => p Z1 ρ1 H1 σ d us e1 ⟨r1, F.env.ext e1⟩ rs hl hd
  | no => rw [e] at p; exact p
theorem ss_if {c : Expr} {a b : List Stmt} {fc : BF} {f g : SF} {pos : Pos} (hc : SB X W c fc) (ha : SSs X W a f) (hb : SSs X W b g) : SS X W (.If c a b pos) (sIf fc f g) :=
  ⟨ps_imp (ps_if hc.pt ha.ps hb.ps) fun D σ H h => trSB_bind (fun Φ Z1 ρ1 H1 env m1 b F p => by
    cases b with
    | true => exact ⟨Φ, Z1, ρ1, env, m1, F, p⟩
    | false => exact ⟨Φ, Z1, ρ1, env, m1, F, p⟩) h⟩
def sNil : SF := fun env m => .nx env m
def sSeq (f g : SF) : SF := fun env m => match f env m with
  | .nx env1 m1 => g env1 m1
  | r => r
theorem sss_nil : SSs X W [] sNil := ⟨pss_imp pss_nil fun D σ H ⟨Φ, Z, ρ, env, m, F, p⟩ => p _ _ _ _ Ext.refl F rfl⟩
theorem sss_cons {st : Stmt} {rest : List Stmt} {f g : SF} (h1 : SS X W st f) (h2 : SSs X W rest g) : SSs X W (st :: rest) (sSeq f g) := by
  refine ⟨pss_imp (pss_cons h1.ps h2.ps) fun D σ H ⟨Φ, Z, ρ, env, m, F, p⟩ => ⟨Φ, Z, ρ, env, m, F, ?_⟩⟩
  unfold sSeq at p
  cases e : f env m with
  | nx env1 m1 =>
    rw [e] at p
    exact fun Z1 ρ1 H1 σ1 e1 F1 hl => ⟨Φ, Z1, ρ1, env1, m1, F1, by rw [hl]; exact PostS.ext (o := g env1 m1) p e1⟩
  | rt t m1 => rw [e] at p; exact p
  | bk _ _ => rw [e] at p; exact p
  | ct _ _ => rw [e] at p; exact p
  | ex _ _ _ _ _ => rw [e] at p; exact p
  | no => rw [e] at p; exact p
theorem sss_one {st : Stmt} {f : SF} (h1 : SS X W st f) : SSs X W [st] f := ⟨pss_one h1.ps⟩

/-! ### a def -/
def fnOf (n : Nat) (g : SF) : FS := fun ts m => match g (ts.map some ++ List.replicate (n - ts.length) none) m with
  | .nx _ m1 => .ok .non m1
  | .rt t m1 => .ok t m1
  | .ex C ns vs _ m1 => .ex C ns vs m1
  | _ => .no
theorem envs_start {K : PySem.W.Frag} {Z : Hp} {ρ : List Addr} {ts : List T} {vs : List V} (N : List Str) (r : Reps K Z ρ ts vs) : Envs K Z ρ (ts.map some ++ List.replicate (N.length - ts.length) none) (L2.start N vs) := by
  have hl := r.length
  refine ⟨by unfold L2.start; simp [hl], fun i t e => ?_⟩
  by_cases hi : i < ts.length
  · rw [List.getElem?_append_left (by simpa using hi), List.getElem?_map] at e
    obtain ⟨u, e1, e2⟩ := Option.map_eq_some_iff.mp e
    cases e2
    obtain ⟨v, h1, h2⟩ := r.get e1
    refine ⟨v, ?_, h2⟩
    unfold L2.start
    rw [List.getElem?_append_left (by simp; omega), List.getElem?_map, h1]; rfl
  · rw [List.getElem?_append_right (by simpa using Nat.le_of_not_lt hi)] at e
    have := List.mem_of_getElem? e
    have := List.eq_of_mem_replicate this
    cases this
theorem def_ok {P : Program} {w : World} {K : PySem.W.Frag} {mg : Str → Option Value} {base : Heap} {x qual : Str} {st : Stmt} {f : Addr} {fd : FuncData} {N ps : List Str} {k : Nat} {g : SF} (hw : HereP P w)
    (Fn : Fun K x qual st f fd) (S : FnScope N ps (defScope st)) (hm : mg x = some (.ref f)) (hb : Binds K fd ps [])
    (hbody : ∀ (cdv : Value) (A : Around) (outer : List PySem.Env) (s : Shared) (H : Hp) (E : XK), Cok (cxOf (L2.CX P w) P w K mg base N qual (defScope st) f cdv A outer s H E) (fun cls d _ H => E cls d H) k →
      SSs (cxOf (L2.CX P w) P w K mg base N qual (defScope st) f cdv A outer s H E) (fun cls d _ H => E cls d H) (defBody st) g) : DefOk P w K mg base ps.length (k + 1) x (fnOf N.length g) := by
  refine ⟨f, fd, ps, rfl, Fn.okX S (fun vs H Q E h => ?_) (fun cdv A outer s H vs Q E hr h => ?_), hm, Fn.kp, hb⟩
  · obtain ⟨Φ, Z, ρ, m, ts, _, _, hl, _⟩ := h
    exact hl
  · have c : Cok (cxOf (L2.CX P w) P w K mg base N qual (defScope st) f cdv A outer s H E) (fun cls d _ H => E cls d H) k := ⟨takes_of rfl rfl rfl rfl, passes_of rfl, rfl, S.nd, hr, ⟨hw.p, hw.w⟩⟩
    refine ⟨_, (hbody cdv A outer s H E c).ps, ?_⟩
    obtain ⟨Φ, Z, ρ, m, ts, r, rs, hl, p⟩ := h
    refine ⟨Φ, Z, ρ, _, m, ⟨r, envs_start N rs⟩, ?_⟩
    unfold fnOf at p
    cases e : g (ts.map some ++ List.replicate (N.length - ts.length) none) m with
    | nx env1 m1 => rw [e] at p; exact fun Z1 ρ1 H1 σ1 e1 F1 _ => p Z1 ρ1 H1 .non e1 F1.rel rep_non
    | rt t m1 => rw [e] at p; exact p
    | ex C ns us env1 m1 => rw [e] at p; exact fun Z1 ρ1 H1 σ1 d us e1 F1 rs hl hd => p Z1 ρ1 H1 d us e1 F1.rel rs hl hd
    | bk _ _ => rw [e] at p; exact (show False from p).elim
    | ct _ _ => rw [e] at p; exact (show False from p).elim
    | no => rw [e] at p; exact p
end
end Ev

namespace Ev
open PySem L2
variable [Wrl]

/-! ### what is walked -/
/-- J walks these values -/
def Wk (K : PySem.W.Frag) (Z : Hp) (ρ : List Addr) (J : It) (ts : List T) : Prop :=
  ∀ (Φ Z1 : Hp) (ρ1 : List Addr) (H : Hp) (m : Mem) (i : Nat), Ext Z Z1 ρ ρ1 → Rel K Φ Z1 ρ1 H m →
    (i = ts.length → J.stop i H) ∧ ∀ t, ts[i]? = some t → J.go i H ∧ ∀ x H', J.yld i H x H' → ∃ Z2, Ext Z1 Z2 ρ1 ρ1 ∧ Rel K Φ Z2 ρ1 H' m ∧ Rep K Z2 ρ1 t x
def PostI (K : PySem.W.Frag) (W : WX) (Φ Z : Hp) (ρ : List Addr) (σ : St) (R : It → Hp → Prop) : Out (List T) → Prop
  | .ok ts m => ∀ Z' ρ' H' J, Ext Z Z' ρ ρ' → Rel K Φ Z' ρ' H' m → Wk K Z' ρ' J ts → R J H'
  | .ex C ns ts m => ∀ Z' ρ' H' d vs, Ext Z Z' ρ ρ' → Rel K Φ Z' ρ' H' m → Reps K Z' ρ' ts vs → ns.length = vs.length → Z' d = some (.xd (ns.zip vs)) → WR K W C d σ H'
  | .no => False
structure SI (X : Cx) (W : WX) (tg iter : Expr) (fi : LF) : Prop where
  ex : ∃ wi, PI X tg iter wi ∧ ∀ (Φ Z : Hp) (ρ : List Addr) (σ : St) (H : Hp) (env : Env) (m : Mem) (R : It → Hp → Prop), Fits X.K Φ Z ρ σ H env m → PostI X.K W Φ Z ρ σ R (fi env m) → wi σ H R
theorem pi_or {X : Cx} {tg iter : Expr} {w1 w2 : TI} (h1 : PI X tg iter w1) (h2 : PI X tg iter w2) : PI X tg iter (fun σ H R => w1 σ H R ∨ w2 σ H R) :=
  ⟨fun pins s σ H R I h => h.elim (h1.run pins s σ H R I) (h2.run pins s σ H R I)⟩
def kT : Key → T
  | .inl i => .int i
  | .inr x => .str x
theorem rep_kT {K : PySem.W.Frag} {Z : Hp} {ρ : List Addr} (k : Key) : Rep K Z ρ (kT k) (kV k) := by cases k <;> first | exact rep_int | exact rep_str
def items : T → Option (List T)
  | .lst ts => some ts
  | .rls ts => some ts
  | .tup ts => some ts
  | .str x => some (x.cps.toList.map fun c => .str ⟨#[c]⟩)
  | .dct ks _ => some (ks.map kT)
  | _ => none
def iVal (f : EF) : LF := fun env m => (f env m).bind fun t m1 => match items t with
  | some ts => .ok ts m1
  | none => .no
theorem wk_list {K : PySem.W.Frag} {Z : Hp} {ρ : List Addr} {a : Addr} {vs : List V} {ts : List T} (h : SqL K Z a vs) (rs : Reps K Z ρ ts vs) : Wk K Z ρ (Itl K a) ts := fun Φ Z1 ρ1 H m i e r => by
  have q : SqL K H a vs := r.same.seq (e.z.seq h)
  refine ⟨fun hi => ⟨vs, q, by rw [hi, rs.length]; exact Nat.le_refl _⟩, fun t ht => ?_⟩
  obtain ⟨v, h1, h2⟩ := rs.get ht
  refine ⟨⟨vs, v, q, h1⟩, fun x H' ⟨e1, y⟩ => ?_⟩
  subst e1
  have e3 : v = x := by have := y vs q; rw [h1] at this; exact Option.some.inj this
  subst e3
  exact ⟨Z1, Ext.refl, r, h2.ext e⟩
theorem wk_tup {K : PySem.W.Frag} {Z : Hp} {ρ : List Addr} {a : Addr} {vs : List V} {ts : List T} (h : SqT K Z a vs) (rs : Reps K Z ρ ts vs) : Wk K Z ρ (Itt K a) ts := fun Φ Z1 ρ1 H m i e r => by
  have q : SqT K H a vs := Same.sqt r.same (Same.sqt e.z h)
  refine ⟨fun hi => ⟨vs, q, by rw [hi, rs.length]; exact Nat.le_refl _⟩, fun t ht => ?_⟩
  obtain ⟨v, h1, h2⟩ := rs.get ht
  refine ⟨⟨vs, v, q, h1⟩, fun x H' ⟨e1, y⟩ => ?_⟩
  subst e1
  have e3 : v = x := by have := y vs q; rw [h1] at this; exact Option.some.inj this
  subst e3
  exact ⟨Z1, Ext.refl, r, h2.ext e⟩
theorem wk_str {K : PySem.W.Frag} {Z : Hp} {ρ : List Addr} {x : Str} : Wk K Z ρ (Its x) (x.cps.toList.map fun c => .str ⟨#[c]⟩) := fun Φ Z1 ρ1 H m i e r => by
  refine ⟨fun hi => ?_, fun t ht => ?_⟩
  · show x.cps.size ≤ i
    rw [hi]; simp
  · rw [List.getElem?_map] at ht
    obtain ⟨c, h1, h2⟩ := Option.map_eq_some_iff.mp ht
    have hl := (List.getElem?_eq_some_iff.mp h1).1
    refine ⟨by show i < x.cps.size; simpa using hl, fun y H' ⟨e1, c', h3, h4⟩ => ?_⟩
    subst e1
    have : c = c' := by
      have h5 : x.cps.toList[i]? = some c' := by simpa using h3
      rw [h1] at h5; exact Option.some.inj h5
    subst this
    subst h4; subst h2
    exact ⟨Z1, Ext.refl, r, rep_str⟩
theorem zip_get {ks : List Key} {vs : List V} {i : Nat} {k : Key} {v : V} (h : (ks.zip vs)[i]? = some (k, v)) : ks[i]? = some k ∧ vs[i]? = some v := by
  rw [List.getElem?_zip_eq_some] at h
  exact h
theorem wk_keys {K : PySem.W.Frag} {Z : Hp} {ρ : List Addr} {a : Addr} {o : Obj} {ks : List Key} {vs : List V} (h : Z a = some (.frz o (.dK (ks.zip vs)))) (hl : ks.length = vs.length) : Wk K Z ρ (Itk a o (ks.zip vs)) (ks.map kT) := fun Φ Z1 ρ1 H m i e r => by
  have q := r.zin _ _ (e.z _ _ h)
  refine ⟨fun hi => ⟨q, by rw [hi, List.length_map, List.length_zip, ← hl, Nat.min_self]; exact Nat.le_refl _⟩, fun t ht => ?_⟩
  rw [List.getElem?_map] at ht
  obtain ⟨k, h1, rfl⟩ := Option.map_eq_some_iff.mp ht
  have hi := (List.getElem?_eq_some_iff.mp h1).1
  refine ⟨⟨q, by rw [List.length_zip, ← hl, Nat.min_self]; exact hi⟩, fun x H' ⟨e1, k2, v2, h3, h4⟩ => ?_⟩
  subst e1
  have := (zip_get h3).1
  rw [h1] at this
  cases this
  subst h4
  exact ⟨Z1, Ext.refl, r, rep_kT k⟩
section
variable {X : Cx} {W : WX}
theorem si_val {tg e : Expr} {f : EF} (h : SE X W e f) : SI X W tg e (iVal f) := by
  refine ⟨_, pi_or (pi_or (pi_or (pi_list h.pe) (pi_tup h.pe)) (pi_str h.pe)) (pi_keys h.pe), fun Φ Z ρ σ H env m R F p => ?_⟩
  have key : ∀ (R' : V → Hp → Prop), (∀ t ts m1 Z1 ρ1 H1 v, f env m = .ok t m1 → items t = some ts → Ext Z Z1 ρ ρ1 → Fits X.K Φ Z1 ρ1 σ H1 env m1 → Rep X.K Z1 ρ1 t v → (∀ J, Wk X.K Z1 ρ1 J ts → R J H1) → R' v H1) → tr X.K W f σ H R' := by
    intro R' hk
    refine tr_bind (P := PostI X.K W Φ Z ρ σ R) F (fun t m1 Z1 ρ1 H1 v e0 e1 F1 r p1 => ?_) (fun _ _ _ _ h => h) (fun h => h) p
    cases hi : items t with
    | none => rw [hi] at p1; exact p1.elim
    | some ts =>
      rw [hi] at p1
      exact hk t ts m1 Z1 ρ1 H1 v e0 hi e1 F1 r fun J w => p1 _ _ _ J e1 F1.rel w
  cases e0 : f env m with
  | no => unfold iVal at p; rw [e0] at p; exact p.elim
  | ex C ns vs m1 =>
    refine .inl (.inl (.inl ?_))
    exact key _ fun t ts m1 Z1 ρ1 H1 v e1 => by rw [e0] at e1; cases e1
  | ok t m1 =>
    cases t with
    | lst us =>
      refine .inl (.inl (.inl (key _ fun t ts m1 Z1 ρ1 H1 v e1 hi e F1 r hR => ?_)))
      rw [e0] at e1; cases e1
      have e2 : us = ts := by simpa [items] using hi
      subst e2
      unfold Rep at r
      obtain ⟨a, vs, rfl, q, rs⟩ := r
      exact ⟨a, rfl, ⟨vs, .of (F1.rel.zin _ _ q)⟩, hR _ (wk_list (.of q) rs)⟩
    | rls us =>
      refine .inl (.inl (.inl (key _ fun t ts m1 Z1 ρ1 H1 v e1 hi e F1 r hR => ?_)))
      rw [e0] at e1; cases e1
      have e2 : us = ts := by simpa [items] using hi
      subst e2
      unfold Rep at r
      obtain ⟨a, vs, rfl, q, rs⟩ := r
      exact ⟨a, rfl, ⟨vs, F1.rel.same.seq q⟩, hR _ (wk_list q rs)⟩
    | tup us =>
      refine .inl (.inl (.inr (key _ fun t ts m1 Z1 ρ1 H1 v e1 hi e F1 r hR => ?_)))
      rw [e0] at e1; cases e1
      have e2 : us = ts := by simpa [items] using hi
      subst e2
      unfold Rep at r
      obtain ⟨a, vs, rfl, q, rs⟩ := r
      exact ⟨a, rfl, ⟨vs, Same.sqt F1.rel.same q⟩, hR _ (wk_tup q rs)⟩
    | str y =>
      refine .inl (.inr (key _ fun t ts m1 Z1 ρ1 H1 v e1 hi e F1 r hR => ?_))
      rw [e0] at e1; cases e1
      have e2 : ts = y.cps.toList.map fun c => .str ⟨#[c]⟩ := by simpa [items] using hi.symm
      subst e2
      unfold Rep at r
      subst r
      exact ⟨y, rfl, hR _ wk_str⟩
    | dct ks us =>
      refine .inr (key _ fun t ts m1 Z1 ρ1 H1 v e1 hi e F1 r hR => ?_)
      rw [e0] at e1; cases e1
      have e2 : ks.map kT = ts := by simpa [items] using hi
      subst e2
      unfold Rep at r
      obtain ⟨a, vs, o, rfl, q, hl, rs⟩ := r
      exact ⟨a, o, rfl, .inl ⟨_, F1.rel.zin _ _ q, hR _ (wk_keys q hl)⟩⟩
    | _ => unfold iVal at p; rw [e0] at p; exact (show False from p).elim
theorem wk_range {K : PySem.W.Frag} {Z : Hp} {ρ : List Addr} {lo : Int} {n : Nat} : Wk K Z ρ (Itr lo n) ((List.range n).map fun i => .int (lo + (i : Nat))) := fun Φ Z1 ρ1 H m i e r => by
  refine ⟨fun hi => by show n ≤ i; rw [hi]; simp, fun t ht => ?_⟩
  rw [List.getElem?_map] at ht
  obtain ⟨c, h1, h2⟩ := Option.map_eq_some_iff.mp ht
  have hl := (List.getElem?_eq_some_iff.mp h1).1
  have hc : c = i := by
    rw [List.getElem?_range (by simpa using hl)] at h1; exact (Option.some.inj h1).symm
  subst hc; subst h2
  refine ⟨by show c < n; simpa using hl, fun y H' ⟨e1, e2⟩ => ?_⟩
  subst e1; subst e2
  exact ⟨Z1, Ext.refl, r, rep_int⟩
def rng (lo hi : Int) : List T := (List.range (hi - lo).toNat).map fun i => .int (lo + (i : Nat))
def iRange (fs : LF) : LF := fun env m => (fs env m).bind fun ts m1 => match ts with
  | [.int n] => if -1000000 ≤ n ∧ n ≤ 1000000 then .ok (rng 0 n) m1 else .no
  | _ => .no
def iRange2 (fs : LF) : LF := fun env m => (fs env m).bind fun ts m1 => match ts with
  | [.int a, .int b] => if -1000000 ≤ a ∧ a ≤ 1000000 ∧ -1000000 ≤ b ∧ b ≤ 1000000 then .ok (rng a b) m1 else .no
  | _ => .no
theorem si_range1 {tg a : Expr} {fs : LF} {p pos : Pos} (ha : SA X W [a] fs) (hm : X.mg "range" = none) (hg : Gl X "range" := by rfl) (hs : starEach [a] X.env = [(false, eval a X.env)] := by rfl) :
    SI X W tg (.Call (.Name "range" p) [a] [] pos) (iRange fs) := by
  refine ⟨_, pi_range1 hg hm ha.pa hs, fun Φ Z ρ σ H env m R F p => ?_⟩
  refine trL_bind (P := PostI X.K W Φ Z ρ σ R) F (fun ts m1 Z1 ρ1 H1 vs e0 e1 F1 r p1 => ?_) (fun _ _ _ _ h => h) (fun h => h) p
  split at p1
  · rename_i n
    split at p1
    · rename_i hb
      unfold Reps at r
      obtain ⟨v, us, rfl, r1, r2⟩ := r
      unfold Reps at r2
      subst r2
      unfold Rep at r1
      subst r1
      refine ⟨n, rfl, by omega, by omega, p1 _ _ _ _ e1 F1.rel ?_⟩
      have : rng 0 n = (List.range n.toNat).map fun i => T.int (0 + (i : Nat)) := by unfold rng; simp
      rw [this]
      exact wk_range
    · exact p1.elim
  · exact p1.elim
theorem si_range2 {tg a b : Expr} {fs : LF} {p pos : Pos} (ha : SA X W [a, b] fs) (hm : X.mg "range" = none) (hg : Gl X "range" := by rfl) (hs : starEach [a, b] X.env = [(false, eval a X.env), (false, eval b X.env)] := by rfl) (hs2 : starEach [b] X.env = [(false, eval b X.env)] := by rfl) :
    SI X W tg (.Call (.Name "range" p) [a, b] [] pos) (iRange2 fs) := by
  refine ⟨_, pi_range2 hg hm ha.pa hs hs2, fun Φ Z ρ σ H env m R F p => ?_⟩
  refine trL_bind (P := PostI X.K W Φ Z ρ σ R) F (fun ts m1 Z1 ρ1 H1 vs e0 e1 F1 r p1 => ?_) (fun _ _ _ _ h => h) (fun h => h) p
  split at p1
  · rename_i n k
    split at p1
    · rename_i hb
      unfold Reps at r
      obtain ⟨v, us, rfl, r1, r2⟩ := r
      unfold Reps at r2
      obtain ⟨v2, us2, rfl, r3, r4⟩ := r2
      unfold Reps at r4
      subst r4
      unfold Rep at r1 r3
      subst r1; subst r3
      exact ⟨n, k, rfl, by omega, p1 _ _ _ _ e1 F1.rel wk_range⟩
    · exact p1.elim
  · exact p1.elim
end
/-! ### targets -/
abbrev GF := T → Env → Option Env
def KG (K : PySem.W.Frag) (sl : List Nat) (gt : GF) (g : TG) : Prop := ∀ (Φ Z : Hp) (ρ : List Addr) (σ : St) (H : Hp) (env env1 : Env) (m : Mem) (t : T) (v : V) (Q : St → Hp → Prop), Fits K Φ Z ρ σ H env m → Rep K Z ρ t v → gt t env = some env1 →
    (∀ σ', Fits K Φ Z ρ σ' H env1 m → σ'.length = σ.length → (∀ vs : List Nat, (∀ i ∈ sl, i ∈ vs) → wipe σ' vs = wipe σ vs) → Q σ' H) → g v σ H Q
structure SG (X : Cx) (tg : Expr) (sl : List Nat) (gt : GF) (g : TG) : Prop where
  pg : PG X tg g
  kg : KG X.K sl gt g
def KGs (K : PySem.W.Frag) (sl : List Nat) (gt : List T → Env → Option Env) (g : TGs) : Prop := ∀ (Φ Z : Hp) (ρ : List Addr) (σ : St) (H : Hp) (env env1 : Env) (m : Mem) (ts : List T) (vs : List V) (Q : St → Hp → Prop), Fits K Φ Z ρ σ H env m → Reps K Z ρ ts vs → gt ts env = some env1 →
    (∀ σ', Fits K Φ Z ρ σ' H env1 m → σ'.length = σ.length → (∀ ws : List Nat, (∀ i ∈ sl, i ∈ ws) → wipe σ' ws = wipe σ ws) → Q σ' H) → g vs σ H Q
structure SGs (X : Cx) (tgs : List Expr) (sl : List Nat) (gt : List T → Env → Option Env) (g : TGs) : Prop where
  pg : PGs X tgs g
  kg : KGs X.K sl gt g
theorem wipe_get (σ : St) (i : Nat) : ∀ vs : List Nat, (wipe σ vs)[i]? = if i ∈ vs ∧ i < σ.length then some none else σ[i]?
  | [] => by simp [wipe]
  | v :: vs => by
    unfold wipe
    rw [List.getElem?_set, wipe_get σ i vs, wipe_length]
    by_cases h1 : v = i
    · subst h1
      by_cases h2 : v < σ.length
      · simp [h2]
      · simp [h2]
    · have h3 : ¬ i = v := fun z => h1 z.symm
      simp [h1, h3]
theorem wipe_set {σ : St} {i : Nat} {x : Option V} {vs : List Nat} (h : i ∈ vs) : wipe (σ.set i x) vs = wipe σ vs := by
  refine List.ext_getElem? fun j => ?_
  rw [wipe_get, wipe_get, List.length_set, List.getElem?_set]
  by_cases hj : i = j
  · subst hj
    by_cases hl : i < σ.length
    · simp [h, hl]
    · simp [hl]
  · simp [hj]
def gN (i : Nat) : GF := fun t env => some (env.set i (some t))
def gsNil : List T → Env → Option Env
  | [], env => some env
  | _, _ => none
def gsCons (g : GF) (gs : List T → Env → Option Env) : List T → Env → Option Env
  | t :: ts, env => (g t env).bind fun env1 => gs ts env1
  | _, _ => none
/-- a tuple taken apart -/
def gT (n : Nat) (gs : List T → Env → Option Env) : GF := fun t env => match t with
  | .tup ts => if ts.length = n then gs ts env else none
  | _ => none
/-- a tuple or a list taken apart -/
def gTL (n : Nat) (gs : List T → Env → Option Env) : GF := fun t env => match t with
  | .tup ts => if ts.length = n then gs ts env else none
  | .lst ts => if ts.length = n then gs ts env else none
  | .rls ts => if ts.length = n then gs ts env else none
  | _ => none
section
variable {X : Cx} {W : WX}
theorem sg_name (i : Nat) {x : Str} {pos : Pos} (nd : X.N.Nodup) (hi : X.N[i]? = some x := by rfl) (hx : Loc X.env.scope x := by first | exact Or.inl rfl | exact Or.inr rfl) (hf : X.fn x = true ∨ X.env.scope.names.lookup x = some .local := by first | exact .inl rfl | exact .inr rfl) : SG X (.Name x pos) [i] (gN i) (gName i) := by
  refine ⟨pg_name nd hi hx hf, fun Φ Z ρ σ H env env1 m t v Q F r e h => ?_⟩
  cases e
  exact h _ ⟨F.rel, F.env.set i r⟩ (by simp) fun vs hv => wipe_set (hv i (by simp))
theorem sgs_nil : SGs X [] [] gsNil gNil := by
  refine ⟨pgs_nil, fun Φ Z ρ σ H env env1 m ts vs Q F r e h => ?_⟩
  cases ts with
  | nil =>
    unfold Reps at r
    cases e
    exact ⟨r, h σ F rfl fun _ _ => rfl⟩
  | cons t ts => cases e
theorem sgs_cons {e : Expr} {es : List Expr} {s1 s2 : List Nat} {g : GF} {gs : List T → Env → Option Env} {w1 : TG} {w2 : TGs} (h1 : SG X e s1 g w1) (h2 : SGs X es s2 gs w2)
    (hs : (assignEach (e :: es) X.env).map (·.2) = assign e X.env :: (assignEach es X.env).map (·.2) := by rfl) : SGs X (e :: es) (s1 ++ s2) (gsCons g gs) (gCons w1 w2) := by
  obtain ⟨p1, k1⟩ := h1
  obtain ⟨p2, k2⟩ := h2
  refine ⟨pgs_cons p1 p2 hs, fun Φ Z ρ σ H env env1 m ts vs Q F r e h => ?_⟩
  cases ts with
  | nil => cases e
  | cons t ts =>
    unfold Reps at r
    obtain ⟨v, us, rfl, r1, rs⟩ := r
    unfold gsCons at e
    obtain ⟨envA, ea, eb⟩ := Option.bind_eq_some_iff.mp e
    refine ⟨v, us, rfl, k1 Φ Z ρ σ H env envA m t v _ F r1 ea fun σ1 F1 l1 w1' => ?_⟩
    refine k2 Φ Z ρ σ1 H envA env1 m ts us _ F1 rs eb fun σ2 F2 l2 w2' => h σ2 F2 (l2.trans l1) fun ws hw => ?_
    exact (w2' ws fun i hi => hw i (List.mem_append_right _ hi)).trans (w1' ws fun i hi => hw i (List.mem_append_left _ hi))
theorem pg_or {tg : Expr} {g1 g2 : TG} (h1 : PG X tg g1) (h2 : PG X tg g2) : PG X tg (fun v σ H Q => g1 v σ H Q ∨ g2 v σ H Q) :=
  ⟨fun pins s σ H v u Q I r h => h.elim (h1.run pins s σ H v u Q I r) (h2.run pins s σ H v u Q I r)⟩
theorem sg_tup {es : List Expr} {kk n : Nat} {pos : Pos} {sl : List Nat} {gs : List T → Env → Option Env} {w : TGs} (hc : X.calm = true) (h : SGs X es sl gs w)
    (hn : (assignEach es X.env).length = n := by rfl) (hst : (assignEach es X.env).findIdx? (·.1) = none := by rfl) : SG X (.Tuple es kk pos) sl (gT n gs) (gTup X.K n w) := by
  obtain ⟨p, k⟩ := h
  refine ⟨pg_tup hc p hn hst, fun Φ Z ρ σ H env env1 m t v Q F r e h => ?_⟩
  unfold gT at e
  split at e
  · rename_i ts
    split at e
    · rename_i hl
      unfold Rep at r
      obtain ⟨a, vs, rfl, q, rs⟩ := r
      exact ⟨a, vs, rfl, Same.sqt F.rel.same q, by rw [← rs.length]; exact hl, k Φ Z ρ σ H env env1 m ts vs Q F rs e h⟩
    · cases e
  · cases e
theorem sg_tupL {es : List Expr} {kk n : Nat} {pos : Pos} {sl : List Nat} {gs : List T → Env → Option Env} {w : TGs} (hc : X.calm = true) (h : SGs X es sl gs w)
    (hn : (assignEach es X.env).length = n := by rfl) (hst : (assignEach es X.env).findIdx? (·.1) = none := by rfl) : SG X (.Tuple es kk pos) sl (gTL n gs) (fun v σ H Q => gTup X.K n w v σ H Q ∨ gLst X.K n w v σ H Q) := by
  obtain ⟨p, k⟩ := h
  refine ⟨pg_or (pg_tup hc p hn hst) (pg_lst hc p hn hst), fun Φ Z ρ σ H env env1 m t v Q F r e h => ?_⟩
  unfold gTL at e
  split at e
  · rename_i ts
    split at e
    · rename_i hl
      unfold Rep at r
      obtain ⟨a, vs, rfl, q, rs⟩ := r
      exact .inl ⟨a, vs, rfl, Same.sqt F.rel.same q, by rw [← rs.length]; exact hl, k Φ Z ρ σ H env env1 m ts vs Q F rs e h⟩
    · cases e
  · rename_i ts
    split at e
    · rename_i hl
      unfold Rep at r
      obtain ⟨a, vs, rfl, q, rs⟩ := r
      exact .inr ⟨a, vs, rfl, .of (F.rel.zin _ _ q), by rw [← rs.length]; exact hl, k Φ Z ρ σ H env env1 m ts vs Q F rs e h⟩
    · cases e
  · rename_i ts
    split at e
    · rename_i hl
      unfold Rep at r
      obtain ⟨a, vs, rfl, q, rs⟩ := r
      exact .inr ⟨a, vs, rfl, F.rel.same.seq q, by rw [← rs.length]; exact hl, k Φ Z ρ σ H env env1 m ts vs Q F rs e h⟩
    · cases e
  · cases e
/-- a plain assignment to any target -/
def sAsg (f : EF) (g : GF) : SF := sOf f fun t env m => match g t env with
  | some env1 => .nx env1 m
  | none => .no
theorem ss_asg {tg e : Expr} {sl : List Nat} {f : EF} {g : GF} {w : TG} {pos : Pos} (he : SE X W e f) (hg : SG X tg sl g w) (hs : swapsWithSole [tg] e pos.line X.env = pure false := by rfl) (hw : swappedStores [tg] e X.env = pure none := by rfl)
    (h1 : (assignEach [tg] X.env).map (·.2) = [assign tg X.env] := by rfl) : SS X W (.Assign [tg] e pos) (sAsg f g) := by
  obtain ⟨p, k⟩ := hg
  refine ⟨ps_imp (ps_asg he.pe p hs hw h1) fun D σ H h => trS_bind (k := fun t env m => match g t env with
    | some env1 => .nx env1 m
    | none => .no) (fun Φ Z1 ρ1 H1 env m1 t v F r p => ?_) h⟩
  cases e : g t env with
  | none => rw [e] at p; exact (show False from p).elim
  | some env1 =>
    rw [e] at p
    exact k Φ Z1 ρ1 σ H1 env env1 m1 t v D.nx F r e fun σ' F' hl _ => p _ _ _ _ Ext.refl F' hl
/-! ### for -/
def loop (g : GF) (body : SF) : List T → Env → Mem → SOut
  | [], env, m => .nx env m
  | t :: ts, env, m => match g t env with
    | none => .no
    | some env1 => match body env1 m with
      | .nx env2 m2 => loop g body ts env2 m2
      | .ct env2 m2 => loop g body ts env2 m2
      | .bk env2 m2 => .nx env2 m2
      | .rt t m2 => .rt t m2
      | .ex C ns vs env2 m2 => .ex C ns vs env2 m2
      | .no => .no
def sFor (fi : LF) (g : GF) (body : SF) : SF := fun env m => match fi env m with
  | .ok ts m1 => loop g body ts env m1
  | .ex C ns vs m1 => .ex C ns vs env m1
  | .no => .no
theorem ss_for {k : Nat} {tg iter : Expr} {body : List Stmt} {sl : List Nat} {fi : LF} {g : GF} {fb : SF} {wg : TG} {pos : Pos} (c : Cok X W k) (hi : SI X W tg iter fi) (hg : SG X tg sl g wg) (hb : SSs X W body fb)
    (hs : ∀ x, foldedSetIterable iter X.env x = pure x := by intro _; rfl) : SS X W (.For tg iter body [] pos) (sFor fi g fb) := by
  obtain ⟨wi, pi, ki⟩ := hi.ex
  obtain ⟨pg, kg⟩ := hg
  refine ⟨ps_imp (ps_for c.pass c.calm pi pg hb.ps hs) fun D σ H ⟨Φ, Z, ρ, env, m, F, p⟩ => ki Φ Z ρ σ H env m _ F ?_⟩
  unfold sFor at p
  cases e0 : fi env m with
  | no => rw [e0] at p; exact p
  | ex C ns us m1 =>
    rw [e0] at p
    exact fun Z1 ρ1 H1 d us e1 r1 rs hl hd => p Z1 ρ1 H1 σ d us e1 ⟨r1, F.env.ext e1⟩ rs hl hd
  | ok ts m1 =>
    rw [e0] at p
    intro Z1 ρ1 H1 J e1 r1 wk
    let Pv : Nat → Nat → St → Hp → Prop := fun i k σ2 H2 => k = ts.length - i ∧ i ≤ ts.length ∧ σ2.length = σ.length ∧ ∃ Z2 ρ2 env2 m2, Ext Z1 Z2 ρ1 ρ2 ∧ Fits X.K Φ Z2 ρ2 σ2 H2 env2 m2 ∧ PostS X.K W Φ Z2 ρ2 σ.length D (loop g fb (ts.drop i) env2 m2)
    refine ⟨Pv, ⟨ts.length, by simp, Nat.zero_le _, rfl, Z1, ρ1, env, m1, Ext.refl, ⟨r1, F.env.ext e1⟩, by simpa using PostS.ext (o := loop g fb ts env m1) p e1⟩, ?_⟩
    rintro i k σ2 H2 ⟨hk, hi, hl2, Z2, ρ2, env2, m2, e2, F2, p2⟩
    obtain ⟨w1, w2⟩ := wk Φ Z2 ρ2 H2 m2 i e2 F2.rel
    by_cases hlt : i < ts.length
    · have hti : ts[i]? = some ts[i] := by simp [hlt]
      obtain ⟨go, yld⟩ := w2 _ hti
      rw [List.drop_eq_getElem_cons hlt] at p2
      refine .inr ⟨go, fun σ' H' => Pv (i + 1) (ts.length - (i + 1)) σ' H', fun σ' H' h' => ⟨_, by omega, h'⟩, fun x H3 y => ?_⟩
      obtain ⟨Z3, e3, r3, rep⟩ := yld x H3 y
      unfold loop at p2
      cases eg : g ts[i] env2 with
      | none => rw [eg] at p2; exact p2.elim
      | some env3 =>
        rw [eg] at p2
        refine kg Φ Z3 ρ2 σ2 H3 env2 env3 m2 ts[i] x _ ⟨r3, F2.env.ext e3⟩ rep eg fun σ4 F4 hl4 _ => ⟨Φ, Z3, ρ2, env3, m2, F4, ?_⟩
        have fin : ∀ env5 m5, PostS X.K W Φ Z2 ρ2 σ.length D (loop g fb (ts.drop (i + 1)) env5 m5) → ∀ Z' ρ' H' σ', Ext Z3 Z' ρ2 ρ' → Fits X.K Φ Z' ρ' σ' H' env5 m5 → σ'.length = σ4.length → Pv (i + 1) (ts.length - (i + 1)) σ' H' :=
          fun env5 m5 q Z' ρ' H' σ' e' F' hl' => ⟨rfl, hlt, by rw [hl', hl4, hl2], Z', ρ', env5, m5, (e2.trans e3).trans e', F', q.ext (e3.trans e')⟩
        cases eb : fb env3 m2 with
        | nx env5 m5 => simp only [eb] at p2; exact fin env5 m5 p2
        | ct env5 m5 => simp only [eb] at p2; exact fin env5 m5 p2
        | bk env5 m5 =>
          simp only [eb] at p2
          exact fun Z' ρ' H' σ' e' F' hl' => p2 Z' ρ' H' σ' (e3.trans e') F' (by rw [hl', hl4, hl2])
        | rt t m5 =>
          simp only [eb] at p2
          exact fun Z' ρ' H' v e' => p2 Z' ρ' H' v (e3.trans e')
        | ex C ns us env5 m5 =>
          simp only [eb] at p2
          exact fun Z' ρ' H' σ' d vs e' => p2 Z' ρ' H' σ' d vs (e3.trans e')
        | no => simp only [eb] at p2; exact p2.elim
    · have hi' : i = ts.length := by omega
      refine .inl ⟨w1 hi', ?_⟩
      rw [List.drop_eq_nil_of_le (by omega)] at p2
      exact p2 _ _ _ _ Ext.refl F2 hl2
/-! ### comprehensions -/
def wipeE (env : Env) : List Nat → Env
  | [] => env
  | v :: vs => (wipeE env vs).set v none
theorem envs_wipe {K : PySem.W.Frag} {Z : Hp} {ρ : List Addr} {env : Env} {σ : St} (r : Envs K Z ρ env σ) : ∀ vs : List Nat, Envs K Z ρ (wipeE env vs) (wipe σ vs)
  | [] => r
  | v :: vs => by
    have ih := envs_wipe r vs
    unfold wipeE wipe
    refine ⟨by simp [ih.len], fun i t e => ?_⟩
    by_cases hi : v = i
    · subst hi
      rw [List.getElem?_set] at e
      simp only [if_true] at e
      split at e <;> cases e
    · rw [List.getElem?_set_ne hi] at e ⊢
      exact ih.get i t e
def cLoop (g : GF) (tt : BF) (fe : EF) (env0 : Env) : List T → Mem → Out (List T)
  | [], m => .ok [] m
  | t :: ts, m => match g t env0 with
    | none => .no
    | some env1 => match tt env1 m with
      | .ok true m1 => match fe env1 m1 with
        | .ok y m2 => match cLoop g tt fe env0 ts m2 with
          | .ok ys m3 => .ok (y :: ys) m3
          | _ => .no
        | _ => .no
      | .ok false m1 => cLoop g tt fe env0 ts m1
      | _ => .no
def bYes : BF := fun _ m => .ok true m
def eComp (mu : Bool) (sl : List Nat) (fi : LF) (g : GF) (tt : BF) (fe : EF) : EF := fun env m => (fi env m).bind fun ts m1 =>
  if ts.length ≤ lim then match cLoop g tt fe (wipeE env sl) ts m1 with
    | .ok ys m2 => mk mu ys m2
    | _ => .no
  else .no
structure STs (X : Cx) (W : WX) (ifs : List Expr) (tt : BF) : Prop where
  pts : PTs X ifs (trB X.K W tt)
theorem sts_nil : STs X W [] bYes := ⟨⟨fun pins s σ H Q I ⟨Φ, Z, ρ, env, m, F, p⟩ => pts_nil.run pins s σ H Q I (p _ _ _ Ext.refl F.rel)⟩⟩
theorem sts_one {c : Expr} {f : BF} (h : SB X W c f) : STs X W [c] f := ⟨pts_one h.pt⟩
theorem tr_comp {K : PySem.W.Frag} {σ : St} {H : Hp} {Q : VK} {mu : Bool} {sl : List Nat} {fi : LF} {g : GF} {tt : BF} {fe : EF} {wi : TI} {wg : TG}
    (ki : ∀ (Φ Z : Hp) (ρ : List Addr) (σ : St) (H : Hp) (env : Env) (m : Mem) (R : It → Hp → Prop), Fits K Φ Z ρ σ H env m → PostI K W Φ Z ρ σ R (fi env m) → wi σ H R)
    (kg : KG K sl g wg)
    (h : tr K W (eComp mu sl fi g tt fe) σ H Q) : tLc wi wg (trB K W0 tt) (tr K W0 fe) sl σ H Q := by
  obtain ⟨Φ, Z, ρ, env, m, F, p⟩ := h
  refine ki Φ Z ρ σ H env m _ F ?_
  unfold eComp at p
  cases e0 : fi env m with
  | no => rw [e0] at p; exact p
  | ex C ns us m1 => rw [e0] at p; exact p
  | ok ts m1 =>
    rw [e0] at p
    simp only [Out.bind] at p
    split at p
    rotate_left
    · exact p.elim
    rename_i hlim
    intro Z1 ρ1 H1 J e1 r1 wk D hD
    have env1 : Envs K Z1 ρ1 env σ := F.env.ext e1
    -- the loop's word: what is made so far
    let Pv : Nat → Nat → Hp → Prop := fun i k H2 => k = ts.length - i ∧ i ≤ ts.length ∧ ∃ Z2 ρ2 m2 acc vs, Ext Z1 Z2 ρ1 ρ2 ∧ Rel K (upd Φ D (.lst vs)) Z2 ρ2 H2 m2 ∧ Reps K Z2 ρ2 acc vs ∧ acc.length ≤ i ∧
      Post K W Φ Z2 ρ2 σ Q (match cLoop g tt fe (wipeE env sl) (ts.drop i) m2 with
        | .ok ys m3 => mk mu (acc ++ ys) m3
        | _ => .no)
    have hΦD : Φ D = none := by
      cases e : Φ D with
      | none => rfl
      | some u => rw [(r1.fin D u e).1] at hD; cases hD
    refine ⟨Pv, ⟨ts.length, by simp, Nat.zero_le _, Z1, ρ1, m1, [], [], Ext.refl, r1.aside hD _, .nil, Nat.le_refl _, by
      simp only [List.drop_zero, List.nil_append]
      exact Post.ext p e1⟩, ?_⟩
    rintro i k H2 ⟨hk, hi, Z2, ρ2, m2, acc, vs, e2, r2, ra, hacc, p2⟩
    have hDv : (upd Φ D (.lst vs)) D = some (.lst vs) := upd_same
    obtain ⟨w1, w2⟩ := wk _ Z2 ρ2 H2 m2 i e2 r2
    by_cases hlt : i < ts.length
    · have hti : ts[i]? = some ts[i] := by simp [hlt]
      obtain ⟨go, yld⟩ := w2 _ hti
      rw [List.drop_eq_getElem_cons hlt] at p2
      refine .inr ⟨go, fun H' => Pv (i + 1) (ts.length - (i + 1)) H', fun H' h' => ⟨_, by omega, h'⟩, fun x H3 y => ?_⟩
      obtain ⟨Z3, e3, r3, rep⟩ := yld x H3 y
      unfold cLoop at p2
      cases eg : g ts[i] (wipeE env sl) with
      | none => rw [eg] at p2; exact p2.elim
      | some env3 =>
        rw [eg] at p2
        refine kg _ Z3 ρ2 (wipe σ sl) H3 (wipeE env sl) env3 m2 ts[i] x _ ⟨r3, (envs_wipe env1 sl).ext (e2.trans e3)⟩ rep eg fun σ4 F4 hl4 hw => ⟨?_, _, Z3, ρ2, env3, m2, F4, ?_⟩
        · rw [hw sl fun _ h => h]
          refine List.ext_getElem? fun j => ?_
          rw [wipe_get, wipe_get, wipe_length]
          by_cases hj : j ∈ sl ∧ j < σ.length
          · simp [hj]
          · simp only [hj, if_false]
        · cases et : tt env3 m2 with
          | no => simp only [et] at p2; exact p2.elim
          | ex _ _ _ _ => simp only [et] at p2; exact p2.elim
          | ok b m5 =>
            intro Z5 ρ5 H5 e5 r5
            cases b with
            | false =>
              simp only [et] at p2
              simp only [Bool.false_eq_true, if_false]
              exact ⟨rfl, hlt, Z5, ρ5, m5, acc, vs, (e2.trans e3).trans e5, r5, ra.ext (e3.trans e5), by omega, p2.ext (e3.trans e5)⟩
            | true =>
              simp only [et] at p2
              simp only [if_true]
              refine ⟨_, Z5, ρ5, env3, m5, ⟨r5, F4.env.ext e5⟩, ?_⟩
              cases ee : fe env3 m5 with
              | no => simp only [ee] at p2; exact p2.elim
              | ex _ _ _ _ => simp only [ee] at p2; exact p2.elim
              | ok z m6 =>
                simp only [ee] at p2
                intro Z6 ρ6 H6 v6 e6 r6 rep6
                have hD6 : H6 D = some (.lst vs) := (r6.fin D _ upd_same).1
                refine ⟨vs, hD6, ?_, rfl, hlt, Z6, ρ6, m6, acc ++ [z], vs ++ [v6], ((e2.trans e3).trans e5).trans e6, ?_, (ra.ext ((e3.trans e5).trans e6)).append (.cons rep6 .nil), by simp; omega, ?_⟩
                · rw [← ra.length]; exact lim_lt (by omega)
                · have := r6.aside_set (u := .lst (vs ++ [v6])) (p := D) upd_same
                  rw [upd_upd] at this
                  exact this
                · refine Post.ext ?_ ((e3.trans e5).trans e6)
                  cases el : cLoop g tt fe (wipeE env sl) (ts.drop (i + 1)) m6 with
                  | ok ys m7 =>
                    simp only [el] at p2
                    simpa using p2
                  | ex _ _ _ _ => simp only [el] at p2; exact p2.elim
                  | no => simp only [el] at p2; exact p2.elim
    · have hi' : i = ts.length := by omega
      refine .inl ⟨w1 hi', ?_⟩
      rw [List.drop_eq_nil_of_le (by omega)] at p2
      unfold cLoop at p2
      simp only [List.append_nil] at p2
      have hΨ : ∀ a u, Φ a = some u → (upd Φ D (.lst vs)) a = some u ∧ a ≠ D := fun a u e => by
        have hb := ne_of_none e hΦD
        exact ⟨by rw [upd_ne hb]; exact e, hb⟩
      cases mu with
      | false =>
        obtain ⟨r5, e5⟩ := r2.back (Ψ := Φ) upd_same hΨ
        refine p2 _ _ _ _ e5 r5 ?_
        unfold Rep
        exact ⟨D, vs, rfl, upd_same, ra.ext e5⟩
      | true =>
        obtain ⟨r5, e5⟩ := r2.backC (Ψ := Φ) (u := .lst acc) upd_same hΨ ⟨vs, rfl, ra⟩
        refine p2 _ _ _ _ e5 r5 ?_
        unfold Rep
        exact ⟨D, by rw [← r2.len]; simp, rfl⟩
section
variable {elt tg iter : Expr} {ifs : List Expr} {scope : Scope} {own : List (Str × Nat)} {pos : Pos} {fi : LF} {g : GF} {tt : BF} {fe : EF} {k : Nat} {wg : TG}
theorem Cok.blk (c : Cok X W k) (s : Shared) (H : Hp) (env : PySem.Env) (fp : List Addr) : Cok (X.blk s H scope env fp) W0 k := ⟨takes0, PassesOwn.never, c.calm, c.nd, c.room, ⟨c.here.p, c.here.w⟩⟩
/-- what a comprehension's parts are, in its own block -/
structure CompOk (X : Cx) (scope : Scope) (own : List (Str × Nat)) (tg : Expr) (ifs : List Expr) (elt : Expr) (g : GF) (tt : BF) (fe : EF) (wg : TG) : Prop where
  sg : ∀ (s : Shared) (H : Hp) (C : Addr) (cl : List (Str × Addr)) (fp : List Addr), SG (X.blk s H scope (compEnvC scope cl C X.env) fp) tg (own.map (·.2)) g wg
  kg : KG X.K (own.map (·.2)) g wg
  st : ∀ (s : Shared) (H : Hp) (C : Addr) (cl : List (Str × Addr)) (fp : List Addr), STs (X.blk s H scope (compEnvC scope cl C X.env) fp) W0 ifs tt
  se : ∀ (s : Shared) (H : Hp) (C : Addr) (cl : List (Str × Addr)) (fp : List Addr), SE (X.blk s H scope (compEnvC scope cl C X.env) fp) W0 elt fe
theorem se_comp (mu : Bool) (c : Cok X W k) (hi : SI X W tg iter fi) (ok : BlkOk X.N X.env.scope scope own) (hc : CompOk X scope own tg ifs elt g tt fe wg) (hs : ∀ x, foldedSetIterable iter X.env x = pure x := by intro _; rfl) :
    SE X W (.ListComp elt [⟨tg, iter, ifs, 0⟩] scope pos) (eComp mu (own.map (·.2)) fi g tt fe) := by
  obtain ⟨wi, pi, ki⟩ := hi.ex
  have pg := fun s H C cl fp => (hc.sg s H C cl fp).pg
  have kg := hc.kg
  exact ⟨pe_imp (pe_lc c.calm c.nd pi ok pg (fun s H C cl fp => (hc.st s H C cl fp).pts) (fun s H C cl fp => (hc.se s H C cl fp).pe) hs) fun σ H Q h => tr_comp ki kg h⟩
theorem ss_setComp (mu : Bool) (i : Nat) {y : Str} {py spos : Pos} (c : Cok X W k) (hi : SI X W tg iter fi) (ok : BlkOk X.N X.env.scope scope own) (hc : CompOk X scope own tg ifs elt g tt fe wg)
    (hy : X.N[i]? = some y := by rfl) (hyl : X.env.scope.names.lookup y = some .local := by rfl) (hsw : swapsWith (.ListComp elt [⟨tg, iter, ifs, 0⟩] scope pos) (some (.Name y py)) spos.line X.env = pure true := by exact sw_true rfl rfl rfl (by decide +kernel)) (hs : ∀ x, foldedSetIterable iter X.env x = pure x := by intro _; rfl) :
    SS X W (.Assign [.Name y py] (.ListComp elt [⟨tg, iter, ifs, 0⟩] scope pos) spos) (sOf (eComp mu (own.map (·.2)) fi g tt fe) fun t env m => .nx (env.set i (some t)) m) := by
  obtain ⟨wi, pi, ki⟩ := hi.ex
  have pg := fun s H C cl fp => (hc.sg s H C cl fp).pg
  have kg := hc.kg
  exact ⟨ps_imp (ps_setLc c.calm c.nd hy hyl hsw pi ok pg (fun s H C cl fp => (hc.st s H C cl fp).pts) (fun s H C cl fp => (hc.se s H C cl fp).pe) hs) fun D σ H h =>
    tr_comp ki kg (trS_bind (k := fun t env m => .nx (env.set i (some t)) m) (fun Φ Z1 ρ1 H1 env m1 t v F r p => p _ _ _ _ Ext.refl ⟨F.rel, F.env.set i r⟩ (by simp)) h)⟩
end
end
end Ev

namespace Ev
open PySem L2
variable [Wrl]

section
variable {K : PySem.W.Frag} {W : WX} {Φ Z : Hp} {ρ : List Addr} {σ : St} {H : Hp} {m : Mem}

/-! ### arithmetic -/
def small (k : Nat) (i : Int) : Bool := decide (-(2 ^ k) < i) && decide (i < 2 ^ k)
def gAdd (mu : Bool) : T → T → Mem → Out T
  | .int i, .int j, m => .ok (.int (i + j)) m
  | .str i, .str j, m => if i.length + j.length ≤ lim then .ok (.str (i ++ j)) m else .no
  | .tup xs, .tup ys, m => if xs.length + ys.length ≤ lim then .ok (.tup (xs ++ ys)) m else .no
  | x, y, m => match asO m x, asO m y with
    | some xs, some ys => if xs.length + ys.length ≤ lim then mk mu (xs ++ ys) m else .no
    | _, _ => .no
def rAdd (K : PySem.W.Frag) : R2 := fun x y H Q => ((rI0 (fun i j => .int (i + j)) x y H Q ∨ (∃ i j, x = .str i ∧ y = .str j ∧ i.length + j.length ≤ sizeLine ∧ Q (.str (i ++ j)) H)) ∨ rCatA K x y H Q) ∨ rCat x y H Q
theorem op_addA {X : Cx} : OpR X (binaryOp .Add) (rAdd X.K) := ((op_add.or op_add_str).or op_catA).or op_cat
theorem sem_add {mu : Bool} : Sem2 K (gAdd mu) (rAdd K) := by
  intro W Φ Z ρ σ H m Q x y vx vy r rx ry p
  unfold gAdd at p
  split at p
  · unfold Rep at rx ry; subst rx; subst ry
    exact .inl (.inl (.inl ⟨_, _, rfl, rfl, post_ok r rep_int p⟩))
  · unfold Rep at rx ry; subst rx; subst ry
    split at p
    · rename_i h
      exact .inl (.inl (.inr ⟨_, _, rfl, rfl, lim_le h, post_ok r rep_str p⟩))
    · exact p.elim
  · rename_i xs ys
    split at p
    · rename_i h
      obtain ⟨a, vs, rfl, qa, ra⟩ := asT_rep r rx (ts := xs) rfl
      obtain ⟨b, ws, rfl, qb, rb⟩ := asT_rep r ry (ts := ys) rfl
      refine .inl (.inr ⟨a, b, vs, ws, rfl, rfl, qa, qb, by rw [← ra.length, ← rb.length]; exact lim_le h, fun e => ?_, fun e1 e2 => ?_, fun e1 e2 q hq => ?_⟩)
      · have : xs = [] := List.eq_nil_of_length_eq_zero (by rw [ra.length, e]; rfl)
        subst this
        exact post_ok r ry p
      · have : ys = [] := List.eq_nil_of_length_eq_zero (by rw [rb.length, e2]; rfl)
        subst this
        rw [List.append_nil] at p
        exact post_ok r rx p
      · exact post_tup r (ra.append rb) p hq
    · exact p.elim
  · split at p
    · rename_i xs ys hx hy
      split at p
      · rename_i h
        obtain ⟨a, vs, rfl, qa, ra⟩ := asO_rep r rx hx
        obtain ⟨b, ws, rfl, qb, rb⟩ := asO_rep r ry hy
        exact .inr ⟨a, b, vs, ws, rfl, rfl, qa, qb, by rw [← ra.length, ← rb.length]; exact lim_le h, fun q hq => post_mk r (ra.append rb) p hq⟩
      · exact p.elim
    · exact p.elim
def gSub : T → T → Mem → Out T
  | .int i, .int j, m => .ok (.int (i - j)) m
  | _, _, _ => .no
theorem sem_sub : Sem2 K gSub (rI0 fun i j => .int (i - j)) := by
  intro W Φ Z ρ σ H m Q x y vx vy r rx ry p
  unfold gSub at p
  split at p
  · unfold Rep at rx ry; subst rx; subst ry
    exact ⟨_, _, rfl, rfl, post_ok r rep_int p⟩
  · exact p.elim
theorem small_iff {k : Nat} {i : Int} (h : small k i = true) : -(2 ^ k) < i ∧ i < 2 ^ k := by
  unfold small at h
  simpa using h
def gMul (mu : Bool) : T → T → Mem → Out T
  | .int i, .int j, m => if small 64 i || small 64 j then .ok (.int (i * j)) m else .no
  | x, .int j, m => match asO m x with
    | some xs => if small 62 j && decide (xs.length * j.toNat ≤ lim) then mk mu (List.replicate j.toNat xs).flatten m else .no
    | none => .no
  | _, _, _ => .no
def rMul : R2 := fun x y H Q => rI CMul (fun i j => .int (i * j)) x y H Q ∨ rRep x y H Q
theorem op_mulA {X : Cx} : OpR X (binaryOp .Mult) rMul := op_mul.or op_rep
theorem Reps.rep {ts : List T} {vs : List V} (r : Reps K Z ρ ts vs) : ∀ n : Nat, Reps K Z ρ (List.replicate n ts).flatten (List.replicate n vs).flatten
  | 0 => .nil
  | n + 1 => by
    rw [List.replicate_succ, List.replicate_succ, List.flatten_cons, List.flatten_cons]
    exact r.append (Reps.rep r n)
theorem sem_mul {mu : Bool} : Sem2 K (gMul mu) rMul := by
  intro W Φ Z ρ σ H m Q x y vx vy r rx ry p
  unfold gMul at p
  split at p
  · unfold Rep at rx ry; subst rx; subst ry
    split at p
    · rename_i h
      refine .inl ⟨_, _, rfl, rfl, ?_, post_ok r rep_int p⟩
      rw [Bool.or_eq_true] at h
      exact h.imp small_iff small_iff
    · exact p.elim
  · split at p
    · rename_i xs hx
      split at p
      · rename_i h
        rw [Bool.and_eq_true, decide_eq_true_eq] at h
        obtain ⟨a, vs, rfl, qa, ra⟩ := asO_rep r rx hx
        unfold Rep at ry; subst ry
        have h1 := small_iff h.1
        exact .inr ⟨a, _, vs, rfl, rfl, qa, by omega, by omega, by rw [← ra.length]; exact lim_le h.2, fun q hq => post_mk r (ra.rep _) p hq⟩
      · exact p.elim
    · exact p.elim
  · exact p.elim
def gMod : T → T → Mem → Out T
  | .int i, .int j, m => if 0 < j then .ok (.int (i % j)) m else .no
  | _, _, _ => .no
theorem sem_mod : Sem2 K gMod (rI (fun _ j => 0 < j) fun i j => .int (i % j)) := by
  intro W Φ Z ρ σ H m Q x y vx vy r rx ry p
  unfold gMod at p
  split at p
  · unfold Rep at rx ry; subst rx; subst ry
    split at p
    · exact ⟨_, _, rfl, rfl, by assumption, post_ok r rep_int p⟩
    · exact p.elim
  · exact p.elim
def gDiv : T → T → Mem → Out T
  | .int i, .int j, m => if 0 < j ∧ j < 1073741824 then .ok (.int (i / j)) m else .no
  | _, _, _ => .no
theorem sem_div : Sem2 K gDiv (rI CDiv fun i j => .int (i / j)) := by
  intro W Φ Z ρ σ H m Q x y vx vy r rx ry p
  unfold gDiv at p
  split at p
  · unfold Rep at rx ry; subst rx; subst ry
    split at p
    · exact ⟨_, _, rfl, rfl, by assumption, post_ok r rep_int p⟩
    · exact p.elim
  · exact p.elim
def gPow : T → T → Mem → Out T
  | .int i, .int j, m => if 0 ≤ j ∧ j ≤ 100 ∧ i.natAbs < 2 ^ 64 then .ok (.int (i ^ j.toNat)) m else .no
  | _, _, _ => .no
theorem sem_pow : Sem2 K gPow (rI CPow fun i j => .int (i ^ j.toNat)) := by
  intro W Φ Z ρ σ H m Q x y vx vy r rx ry p
  unfold gPow at p
  split at p
  · unfold Rep at rx ry; subst rx; subst ry
    split at p
    · rename_i h
      exact ⟨_, _, rfl, rfl, ⟨h.1, by omega, h.2.2⟩, post_ok r rep_int p⟩
    · exact p.elim
  · exact p.elim

/-! ### order -/
def gOrd (fi : Int → Int → Bool) (fs : List Nat → List Nat → Bool) : T → T → Mem → Out T
  | .int i, .int j, m => .ok (.bl (fi i j)) m
  | .str i, .str j, m => .ok (.bl (fs i.cps.toList j.cps.toList)) m
  | _, _, _ => .no
def rOrd (fi : Int → Int → Bool) (fs : List Nat → List Nat → Bool) : R2 := fun x y H Q => rI0 (fun i j => .bl (fi i j)) x y H Q ∨ ∃ i j, x = .str i ∧ y = .str j ∧ Q (.bl (fs i.cps.toList j.cps.toList)) H
theorem sem_ord {fi : Int → Int → Bool} {fs : List Nat → List Nat → Bool} : Sem2 K (gOrd fi fs) (rOrd fi fs) := by
  intro W Φ Z ρ σ H m Q x y vx vy r rx ry p
  unfold gOrd at p
  split at p
  · unfold Rep at rx ry; subst rx; subst ry
    exact .inl ⟨_, _, rfl, rfl, post_ok r rep_bl p⟩
  · unfold Rep at rx ry; subst rx; subst ry
    exact .inr ⟨_, _, rfl, rfl, post_ok r rep_bl p⟩
  · exact p.elim
def gLt := gOrd (fun i j => decide (i < j)) fun i j => decide (i < j)
def gLe := gOrd (fun i j => decide (i ≤ j)) fun i j => !decide (j < i)
def gGt := gOrd (fun i j => decide (j < i)) fun i j => decide (j < i)
def gGe := gOrd (fun i j => decide (j ≤ i)) fun i j => !decide (i < j)
variable {X : Cx}
theorem op_ltA : OpR X (compareOp .Lt) (rOrd (fun i j => decide (i < j)) fun i j => decide (i < j)) := op_lt.or op_lt_str
theorem op_leA : OpR X (compareOp .LtE) (rOrd (fun i j => decide (i ≤ j)) fun i j => !decide (j < i)) := op_le.or op_le_str
theorem op_gtA : OpR X (compareOp .Gt) (rOrd (fun i j => decide (j < i)) fun i j => decide (j < i)) := op_gt.or op_gt_str
theorem op_geA : OpR X (compareOp .GtE) (rOrd (fun i j => decide (j ≤ i)) fun i j => !decide (i < j)) := op_ge.or op_ge_str
/-! ### equality -/
mutual
def toD (m : Mem) : T → Option PyData
  | .non => some .none
  | .bl b => some (.bool b)
  | .int i => some (.int i)
  | .str x => some (.str x)
  | .tup ts => (toDs m ts).map .tuple
  | .lst ts => (toDs m ts).map .list
  | .rls ts => (toDs m ts).map .list
  | _ => none
def toDs (m : Mem) : List T → Option (List PyData)
  | [] => some []
  | t :: ts => match toD m t, toDs m ts with
    | some d, some ds => some (d :: ds)
    | _, _ => none
end
mutual
theorem toD_ok (r : Rel K Φ Z ρ H m) : ∀ {t : T} {v : V} {d : PyData}, Rep K Z ρ t v → toD m t = some d → Dp K H v d
  | .non, _, _, h, e => by unfold toD at e; cases e; unfold Rep at h; subst h; exact .non
  | .bl _, _, _, h, e => by unfold toD at e; cases e; unfold Rep at h; subst h; exact .bl _
  | .int _, _, _, h, e => by unfold toD at e; cases e; unfold Rep at h; subst h; exact .int _
  | .str _, _, _, h, e => by unfold toD at e; cases e; unfold Rep at h; subst h; exact .str _
  | .tup ts, _, _, h, e => by
    unfold toD at e
    obtain ⟨ds, e1, rfl⟩ := Option.map_eq_some_iff.mp e
    unfold Rep at h
    obtain ⟨a, vs, rfl, q, rs⟩ := h
    exact .tup (Same.sqt r.same q) (toDs_ok r rs e1)
  | .lst ts, _, _, h, e => by
    unfold toD at e
    obtain ⟨ds, e1, rfl⟩ := Option.map_eq_some_iff.mp e
    unfold Rep at h
    obtain ⟨a, vs, rfl, q, rs⟩ := h
    exact .lst (.of (r.zin _ _ q)) (toDs_ok r rs e1)
  | .rls ts, _, _, h, e => by
    unfold toD at e
    obtain ⟨ds, e1, rfl⟩ := Option.map_eq_some_iff.mp e
    unfold Rep at h
    obtain ⟨a, vs, rfl, q, rs⟩ := h
    exact .lst (r.same.seq q) (toDs_ok r rs e1)
  | .ty _, _, _, _, e => by unfold toD at e; cases e
  | .dct _ _, _, _, _, e => by unfold toD at e; cases e
  | .ins _ _ _, _, _, _, e => by unfold toD at e; cases e
  | .dcn _ _, _, _, _, e => by unfold toD at e; cases e
  | .exc _ _ _, _, _, _, e => by unfold toD at e; cases e
  | .set _, _, _, _, e => by unfold toD at e; cases e
  | .loc _, _, _, _, e => by unfold toD at e; cases e
theorem toDs_ok (r : Rel K Φ Z ρ H m) : ∀ {ts : List T} {vs : List V} {ds : List PyData}, Reps K Z ρ ts vs → toDs m ts = some ds → DpAll K H vs ds
  | [], _, _, h, e => by unfold toDs at e; cases e; unfold Reps at h; subst h; exact .nil
  | t :: ts, _, _, h, e => by
    unfold toDs at e
    split at e
    · rename_i d ds e1 e2
      cases e
      unfold Reps at h
      obtain ⟨v, us, rfl, r1, rs⟩ := h
      exact .cons (toD_ok r r1 e1) (toDs_ok r rs e2)
    · cases e
end
/-- a cell's list at the top, else trees -/
def toDT (m : Mem) : T → Option PyData
  | .loc n => match m[n]? with
    | some (some (.lst ts)) => (toDs m ts).map .list
    | _ => none
  | t => toD m t
theorem toDT_ok (r : Rel K Φ Z ρ H m) {t : T} {v : V} {d : PyData} (h : Rep K Z ρ t v) (e : toDT m t = some d) : Dp K H v d := by
  unfold toDT at e
  split at e
  · split at e
    · rename_i n us e1
      obtain ⟨ds, e2, rfl⟩ := Option.map_eq_some_iff.mp e
      obtain ⟨a, vs, rfl, _, q, rs⟩ := cell_lst r h e1
      exact .lst (.of q) (toDs_ok r rs e2)
    · cases e
  · exact toD_ok r h e
def gEqB (neg : Bool) : T → T → Mem → Out T
  | .int i, .int j, m => .ok (.bl (if neg then !decide (i = j) else decide (i = j))) m
  | .str i, .str j, m => .ok (.bl (if neg then !eqS i j else eqS i j)) m
  | x, y, m => match toDT m x, toDT m y with
    | some d, some e => if SeqAt.shaped d && SeqAt.shaped e then .ok (.bl (if neg then !PyData.eqv d e else PyData.eqv d e)) m else .no
    | _, _ => .no
def gEq := gEqB false
def gNe := gEqB true
theorem op_eqA (hu : X.A.units + 64 < cLine) : OpR X (compareOp .Eq) (fun x y H Q => rEq x y H Q ∨ rEqD X.K x y H Q) := op_eq.or (op_eqD hu)
theorem op_neA (hu : X.A.units + 64 < cLine) : OpR X (compareOp .NotEq) (fun x y H Q => rNe x y H Q ∨ rNeD X.K x y H Q) := op_ne.or (op_neD hu)
theorem sem_eq : Sem2 K gEq (fun x y H Q => rEq x y H Q ∨ rEqD K x y H Q) := by
  intro W Φ Z ρ σ H m Q x y vx vy r rx ry p
  unfold gEq gEqB at p
  split at p
  · unfold Rep at rx ry; subst rx; subst ry
    refine .inl ⟨rfl, ?_⟩
    have := post_ok r rep_bl p
    simpa using this
  · unfold Rep at rx ry; subst rx; subst ry
    refine .inl ⟨rfl, ?_⟩
    have := post_ok r rep_bl p
    rw [← eqS_dec] at this
    simpa using this
  · split at p
    · rename_i d e h1 h2
      split at p
      · rename_i h
        rw [Bool.and_eq_true] at h
        refine .inr ⟨d, e, toDT_ok r rx h1, toDT_ok r ry h2, h.1, h.2, ?_⟩
        have := post_ok r rep_bl p
        simpa using this
      · exact p.elim
    · exact p.elim
theorem sem_ne : Sem2 K gNe (fun x y H Q => rNe x y H Q ∨ rNeD K x y H Q) := by
  intro W Φ Z ρ σ H m Q x y vx vy r rx ry p
  unfold gNe gEqB at p
  split at p
  · unfold Rep at rx ry; subst rx; subst ry
    refine .inl ⟨rfl, ?_⟩
    have := post_ok r rep_bl p
    simpa using this
  · unfold Rep at rx ry; subst rx; subst ry
    refine .inl ⟨rfl, ?_⟩
    have := post_ok r rep_bl p
    rw [← eqS_dec] at this
    simpa using this
  · split at p
    · rename_i d e h1 h2
      split at p
      · rename_i h
        rw [Bool.and_eq_true] at h
        refine .inr ⟨d, e, toDT_ok r rx h1, toDT_ok r ry h2, h.1, h.2, ?_⟩
        have := post_ok r rep_bl p
        simpa using this
      · exact p.elim
    · exact p.elim
/-! ### is None -/
def gIsN (neg : Bool) : T → T → Mem → Out T
  | .non, .non, m => .ok (.bl (!neg)) m
  | .loc _, .non, m => .ok (.bl neg) m
  | _, .non, m => .ok (.bl neg) m
  | _, _, _ => .no
theorem rep_non_iff {t : T} {v : V} (h : Rep K Z ρ t v) : (v = .non ↔ t = .non) := by
  cases t <;> unfold Rep at h
  · simp [h]
  · simp [h]
  · simp [h]
  · simp [h]
  · simp [h]
  · obtain ⟨_, _, e, _⟩ := h; simp [e]
  · obtain ⟨_, _, e, _⟩ := h; simp [e]
  · obtain ⟨_, _, e, _⟩ := h; simp [e]
  · obtain ⟨_, _, _, e, _⟩ := h; simp [e]
  · obtain ⟨_, _, _, _, e, _⟩ := h; simp [e]
  · obtain ⟨_, _, _, e, _⟩ := h; simp [e]
  · obtain ⟨_, _, _, _, e, _⟩ := h; simp [e]
  · obtain ⟨_, e, _⟩ := h; simp [e]
  · obtain ⟨_, _, e⟩ := h; simp [e]
theorem sem_isN : Sem2 K (gIsN false) (fun x y H Q => y = .non ∧ Q (.bl (decide (x = .non))) H) := by
  intro W Φ Z ρ σ H m Q x y vx vy r rx ry p
  have h1 := rep_non_iff rx
  cases y with
  | non =>
    unfold Rep at ry
    refine ⟨ry, ?_⟩
    have e : decide (vx = .non) = (match x with | .non => true | _ => false) := by
      cases x <;> simp [h1]
    rw [e]
    cases x <;> exact post_ok r rep_bl p
  | _ => cases x <;> exact (show False from p).elim
theorem sem_notN : Sem2 K (gIsN true) (fun x y H Q => y = .non ∧ Q (.bl (!decide (x = .non))) H) := by
  intro W Φ Z ρ σ H m Q x y vx vy r rx ry p
  have h1 := rep_non_iff rx
  cases y with
  | non =>
    unfold Rep at ry
    refine ⟨ry, ?_⟩
    have e : (!decide (vx = .non)) = (match x with | .non => false | _ => true) := by
      cases x <;> simp [h1]
    rw [e]
    cases x <;> exact post_ok r rep_bl p
  | _ => cases x <;> exact (show False from p).elim
/-! ### dicts -/
def asD (m : Mem) : T → Option (List Key × List T)
  | .dct ks ts => some (ks, ts)
  | .loc n => match m[n]? with
    | some (some (.dct ks ts)) => some (ks, ts)
    | _ => none
  | _ => none
theorem asD_rep (r : Rel K Φ Z ρ H m) {t : T} {ks : List Key} {ts : List T} {v : V} (hv : Rep K Z ρ t v) (h : asD m t = some (ks, ts)) : ∃ a vs, v = .ref a ∧ Rd H a (.dK (ks.zip vs)) ∧ ks.length = vs.length ∧ Reps K Z ρ ts vs := by
  cases t with
  | dct js us =>
    cases h
    unfold Rep at hv
    obtain ⟨a, vs, o, rfl, e, hl, rs⟩ := hv
    exact ⟨a, vs, rfl, .inr ⟨o, r.zin _ _ e⟩, hl, rs⟩
  | loc n =>
    unfold asD at h
    simp only at h
    split at h
    · rename_i js us e
      cases h
      unfold Rep at hv
      obtain ⟨a, ha, rfl⟩ := hv
      obtain ⟨_, vs, e2, hl, rs⟩ := r.mem n _ a e ha
      exact ⟨a, vs, rfl, .inl e2, hl, rs⟩
    · cases h
  | _ => simp [asD] at h
/-- a key -/
def keyT : T → Option Key
  | .int i => some (.inl i)
  | .str x => some (.inr x)
  | _ => none
theorem keyT_rep {t : T} {v : V} {k : Key} (r : Rep K Z ρ t v) (e : keyT t = some k) : v = kV k := by
  cases t <;> cases e <;> (unfold Rep at r; exact r)
/-- what stands under a key -/
def getT (k : Key) : List Key → List T → Option T
  | j :: ks, t :: ts => if keyEq j k then some t else getT k ks ts
  | _, _ => none
theorem getT_ok {k : Key} : ∀ {ks : List Key} {ts : List T} {vs : List V}, ks.length = vs.length → Reps K Z ρ ts vs → (∀ t, getT k ks ts = some t → ∃ v, valV (ks.zip vs) k = some v ∧ Rep K Z ρ t v) ∧ (getT k ks ts = none → valV (ks.zip vs) k = none)
  | [], _, _, _, _ => ⟨fun _ h => (by cases h), fun _ => rfl⟩
  | j :: ks, [], _, hl, h => by unfold Reps at h; subst h; cases hl
  | j :: ks, t :: ts, _, hl, h => by
    unfold Reps at h
    obtain ⟨v, vs, rfl, r, rs⟩ := h
    have ih := getT_ok (k := k) (ks := ks) (by simpa using hl) rs
    unfold getT
    rw [List.zip_cons_cons]
    by_cases hj : j = k
    · rw [if_pos (keyEq_iff.mpr hj)]
      exact ⟨fun t2 e => (Option.some.inj e) ▸ ⟨v, valV_pos (p := (j, v)) hj, r⟩, fun e => (by cases e)⟩
    · rw [if_neg (fun z => hj (keyEq_iff.mp z)), valV_neg (p := (j, v)) hj]
      exact ih
def gIxD (x y : T) (m : Mem) : Out T := match asD m x, keyT y with
  | some (ks, ts), some k => match getT k ks ts with
    | some t => .ok t m
    | none => .no
  | _, _ => .no
def rIxK : R2 := fun x y H Q => ∃ a v, x = .ref a ∧ DGet H a y (some v) ∧ Q v H
theorem ix_dct (hu : X.A.units + 1 < cLine) : IxR X rIxK := by
  intro value slice pins s σ H x y v u Q I rx ry h hs
  obtain ⟨a, w, rfl, g, q⟩ := h
  obtain rfl : v = Value.ref a := rx
  exact PyProof.Rows.tail_any (dict_typeIs I g) PySem.F.slot_dict_getitem.lookup (d_getItem hu I g ry fun w' s' I' r => ⟨w, H, I', r, q⟩) hs
theorem sem_ixD : Sem2 K gIxD rIxK := by
  intro W Φ Z ρ σ H m Q x y vx vy r rx ry p
  unfold gIxD at p
  split at p
  · rename_i ks ts k hx hy
    split at p
    · rename_i t ht
      obtain ⟨a, vs, rfl, hd, hl, rs⟩ := asD_rep r rx hx
      obtain ⟨v, h1, h2⟩ := (getT_ok hl rs).1 t ht
      refine ⟨a, v, rfl, .inl ⟨_, k, hd, keyT_rep ry hy, h1.symm⟩, post_ok r h2 p⟩
    · exact p.elim
  · exact p.elim
/-! ### an item by its place -/
def gIx : T → T → Mem → Out T
  | .tup ts, .int i, m => match atI ts i with
    | some t => .ok t m
    | none => .no
  | .str z, .int i, m => if z.length ≤ lim then match atI z.cps.toList i with
    | some c => .ok (.str ⟨#[c]⟩) m
    | none => .no else .no
  | x, .int i, m => match asL m x with
    | some ts => match atI ts i with
      | some t => .ok t m
      | none => .no
    | none => gIxD x (.int i) m
  | x, y, m => gIxD x y m
theorem Reps.atI {ts : List T} {vs : List V} {i : Int} {t : T} (r : Reps K Z ρ ts vs) (h : L2.atI ts i = some t) : ∃ v, L2.atI vs i = some v ∧ Rep K Z ρ t v := by
  unfold L2.atI at h ⊢
  obtain ⟨j, h1, h2⟩ := Option.bind_eq_some_iff.mp h
  obtain ⟨v, h3, h4⟩ := r.get h2
  exact ⟨v, by rw [← r.length, h1]; exact h3, h4⟩
def rIx3 (K : PySem.W.Frag) : R2 := fun x y H Q => ((rIxL K x y H Q ∨ rIxT K x y H Q) ∨ rIxS x y H Q) ∨ rIxK x y H Q
theorem ix_all (hu : X.A.units + 1 < cLine) : IxR X (rIx3 X.K) := ((ix_list.or ix_tup).or ix_str).or (ix_dct hu)
theorem sem_ix : Sem2 K gIx (rIx3 K) := by
  intro W Φ Z ρ σ H m Q x y vx vy r rx ry p
  unfold gIx at p
  split at p
  · rename_i ts i
    split at p
    · rename_i t h
      obtain ⟨a, vs, rfl, qa, ra⟩ := asT_rep r rx (ts := ts) rfl
      unfold Rep at ry; subst ry
      obtain ⟨v, h1, h2⟩ := ra.atI h
      exact .inl (.inl (.inr ⟨a, vs, i, v, rfl, rfl, qa, h1, post_ok r h2 p⟩))
    · exact p.elim
  · rename_i z i
    split at p
    · rename_i hl
      split at p
      · rename_i c h
        unfold Rep at rx ry; subst rx; subst ry
        exact .inl (.inr ⟨z, i, c, rfl, rfl, lim_le hl, h, post_ok r rep_str p⟩)
      · exact p.elim
    · exact p.elim
  · split at p
    · rename_i ts hx
      split at p
      · rename_i t h
        obtain ⟨a, vs, rfl, qa, ra⟩ := asL_rep r rx hx
        unfold Rep at ry; subst ry
        obtain ⟨v, h1, h2⟩ := ra.atI h
        exact .inl (.inl (.inl ⟨a, vs, _, v, rfl, rfl, qa, h1, post_ok r h2 p⟩))
      · exact p.elim
    · exact .inr (sem_ixD W Φ Z ρ σ H m Q _ _ vx vy r rx ry p)
  · exact .inr (sem_ixD W Φ Z ρ σ H m Q _ _ vx vy r rx ry p)
end
end Ev

namespace Ev
open PySem L2
variable [Wrl]

section
variable {K : PySem.W.Frag} {W : WX} {Φ Z : Hp} {ρ : List Addr} {σ : St} {H : Hp} {m : Mem} {X : Cx}

/-! ### methods of built-in types -/
def isTy (n : String) (m : Mem) (t : T) : Bool := match t with
  | .str _ => n == "str"
  | .int _ => n == "int"
  | .loc k => match m[k]? with
    | some (some (.lst _)) => n == "list"
    | some (some (.dct _ _)) => n == "dict"
    | _ => false
  | .lst _ => n == "list"
  | .rls _ => n == "list"
  | _ => false
theorem isTy_ok (r : Rel K Φ Z ρ H m) {n : String} {t : T} {v : V} (h : Rep K Z ρ t v) (e : isTy n m t = true) : tyV K n v H := by
  cases t with
  | str x => unfold Rep at h; subst h; exact eq_of_beq e
  | int x => unfold Rep at h; subst h; exact eq_of_beq e
  | lst ts =>
    unfold Rep at h
    obtain ⟨a, vs, rfl, q, _⟩ := h
    exact .inl ⟨eq_of_beq e, _, .of (r.zin _ _ q)⟩
  | rls ts =>
    unfold Rep at h
    obtain ⟨a, vs, rfl, q, _⟩ := h
    exact .inl ⟨eq_of_beq e, _, r.same.seq q⟩
  | loc k =>
    unfold Rep at h
    obtain ⟨a, ha, rfl⟩ := h
    unfold isTy at e
    simp only at e
    split at e
    · rename_i ts em
      obtain ⟨_, vs, e2, _⟩ := r.mem k _ a em ha
      exact .inl ⟨eq_of_beq e, _, .of e2⟩
    · rename_i ks ts em
      obtain ⟨_, vs, e2, _⟩ := r.mem k _ a em ha
      exact .inr (.inr (.inl ⟨eq_of_beq e, .inl ⟨_, e2⟩⟩))
    · cases e
  | _ => cases e
def eMeth (n : String) (g : T → List T → Mem → Out T) (fo : EF) (fs : LF) : EF := fun env m => (fo env m).bind fun x m1 => if isTy n m1 x then (fs env m1).bind fun xs m2 => g x xs m2 else .no
def SemM (K : PySem.W.Frag) (g : T → List T → Mem → Out T) (r : V → List V → Hp → VK → Prop) : Prop :=
  ∀ (W : WX) (Φ Z : Hp) (ρ : List Addr) (σ : St) (H : Hp) (m : Mem) (Q : VK) (x : T) (xs : List T) (vx : V) (vs : List V), Rel K Φ Z ρ H m → Rep K Z ρ x vx → Reps K Z ρ xs vs → Post K W Φ Z ρ σ Q (g x xs m) → r vx vs H Q
theorem tr_meth {n : String} {g : T → List T → Mem → Out T} {r : V → List V → Hp → VK → Prop} (hg : SemM K g r) {fo : EF} {fs : LF} {Q : VK} (h : tr K W (eMeth n g fo fs) σ H Q) :
    tr K W fo σ H (fun x H1 => tyV K n x H1 ∧ trL K W fs σ H1 fun xs H2 => r x xs H2 Q) := by
  obtain ⟨Φ, Z, ρ, env, m, F, p⟩ := h
  refine tr_bind (P := Post K W Φ Z ρ σ Q) F (fun x m1 Z1 ρ1 H1 vx _ e1 F1 rx p1 => ?_) (fun _ _ _ _ h => h) (fun h => h) p
  split at p1
  · rename_i ht
    refine ⟨isTy_ok F1.rel rx ht, ?_⟩
    refine trL_bind (P := Post K W Φ Z1 ρ1 σ Q) F1 (fun y m2 Z2 ρ2 H2 vy _ e2 F2 ry p2 => ?_) (fun _ _ _ _ h => h) (fun h => h) (p1.ext e1)
    exact hg W Φ Z2 ρ2 σ H2 m2 Q x y vx vy F2.rel (rx.ext e2) ry (p2.ext e2)
  · exact p1.elim
section
variable {o e : Expr} {es : List Expr} {name : Str} {apos cpos : Pos} {n id : String} {r : V → List V → Hp → VK → Prop} {fo : EF} {fs : LF} {g : T → List T → Mem → Out T}
theorem se_meth (pa : PlainAttrs n) (slot : Slot n name id) (hty : typeOf (.builtin id) = pure (.type "method_descriptor")) (hm : MtR X id r) (hg : SemM X.K g r) (ho : SE X W o fo) (ha : SA X W (e :: es) fs)
    (hbase : attributeBase o name X.env (eval o X.env) = eval o X.env := by rfl)
    (hfew : ((backTo cpos (starEach (e :: es) X.env)).all (fun x => !x.1) && (backToKw cpos (keywordEach [] X.env)).all (fun x => x.1.isSome)
      && decide ((e :: es).length + ([] : List Keyword).length + (if ([] : List Keyword).isEmpty then 0 else 1) < 30)) = true := by rfl)
    (hline : (apos.endLine == cpos.line) = true := by rfl) (hs : starEach (e :: es) X.env = (false, eval e X.env) :: starEach es X.env := by rfl) (hplain : (backTo cpos (starEach es X.env)).any (·.1) = false := by rfl) :
    SE X W (.Call (.Attribute o name apos) (e :: es) [] cpos) (eMeth n g fo fs) :=
  ⟨pe_imp (pe_bm pa slot hty hm ho.pe ha.pa hbase hfew hline hs hplain) fun σ H Q h => tr_meth hg h⟩
theorem se_meth0 (pa : PlainAttrs n) (slot : Slot n name id) (hty : typeOf (.builtin id) = pure (.type "method_descriptor")) (hm : MtR X id r) (hg : SemM X.K g r) (ho : SE X W o fo)
    (hbase : attributeBase o name X.env (eval o X.env) = eval o X.env := by rfl) (hline : (apos.endLine == cpos.line) = true := by rfl) : SE X W (.Call (.Attribute o name apos) [] [] cpos) (eMeth n g fo lNil) :=
  ⟨pe_imp (pe_bm0 pa slot hty hm ho.pe hbase hline) fun σ H Q h => by
    obtain ⟨Φ, Z, ρ, env, m, F, p⟩ := h
    refine tr_bind (P := Post X.K W Φ Z ρ σ Q) F (fun x m1 Z1 ρ1 H1 vx _ e1 F1 rx p1 => ?_) (fun _ _ _ _ h => h) (fun h => h) p
    split at p1
    · rename_i ht
      exact ⟨isTy_ok F1.rel rx ht, hg W Φ Z1 ρ1 σ H1 m1 Q x [] vx [] F1.rel rx .nil (p1.ext e1)⟩
    · exact p1.elim⟩
end
theorem reps1 {t : T} {vs : List V} (h : Reps K Z ρ [t] vs) : ∃ v, vs = [v] ∧ Rep K Z ρ t v := by
  unfold Reps at h
  obtain ⟨v, us, rfl, r, rs⟩ := h
  unfold Reps at rs
  subst rs
  exact ⟨v, rfl, r⟩
theorem reps2 {t u : T} {vs : List V} (h : Reps K Z ρ [t, u] vs) : ∃ v w, vs = [v, w] ∧ Rep K Z ρ t v ∧ Rep K Z ρ u w := by
  unfold Reps at h
  obtain ⟨v, us, rfl, r, rs⟩ := h
  obtain ⟨w, rfl, r2⟩ := reps1 rs
  exact ⟨v, w, rfl, r, r2⟩
def cellL (m : Mem) : T → Option (Nat × List T)
  | .loc n => match m[n]? with
    | some (some (.lst ts)) => some (n, ts)
    | _ => none
  | _ => none
theorem cellL_ok (r : Rel K Φ Z ρ H m) {t : T} {v : V} {n : Nat} {ts : List T} (h : Rep K Z ρ t v) (e : cellL m t = some (n, ts)) : ∃ a vs, v = .ref a ∧ m[n]? = some (some (.lst ts)) ∧ ρ[n]? = some a ∧ H a = some (.lst vs) ∧ Reps K Z ρ ts vs := by
  cases t with
  | loc k =>
    unfold cellL at e
    simp only at e
    split at e
    · rename_i us em
      cases e
      obtain ⟨a, vs, h1, h2, h3, h4⟩ := cell_lst r h em
      exact ⟨a, vs, h1, em, h2, h3, h4⟩
    · cases e
  | _ => cases e
theorem post_write {n : Nat} {a : Addr} {ts ts' : List T} {vs' : List V} {t : T} {v : V} {Q : VK} (r : Rel K Φ Z ρ H m) (hn : m[n]? = some (some (.lst ts))) (ha : ρ[n]? = some a) (rs : Reps K Z ρ ts' vs') (rt : Rep K Z ρ t v)
    (p : Post K W Φ Z ρ σ Q (.ok t (m.set n (some (.lst ts'))))) : Q v (upd H a (.lst vs')) :=
  p _ _ _ _ Ext.refl (r.write hn ha (u := .lst ts') ⟨vs', rfl, rs⟩) rt
def gAppend : T → List T → Mem → Out T := fun x xs m => match cellL m x, xs with
  | some (n, ts), [y] => if ts.length < lim then .ok .non (m.set n (some (.lst (ts ++ [y])))) else .no
  | _, _ => .no
theorem sem_append : SemM K gAppend rAppend := by
  intro W Φ Z ρ σ H m Q x xs vx vs r rx rs p
  unfold gAppend at p
  split at p
  · rename_i n ts y hc
    split at p
    · rename_i hl
      obtain ⟨a, us, rfl, hn, ha, hH, ru⟩ := cellL_ok r rx hc
      obtain ⟨v, rfl, rv⟩ := reps1 rs
      exact ⟨a, us, v, rfl, rfl, hH, by rw [← ru.length]; exact lim_lt (Nat.le_of_lt hl), post_write r hn ha (ru.append (.cons rv .nil)) rep_non p⟩
    · exact p.elim
  · exact p.elim
def gExtend : T → List T → Mem → Out T := fun x xs m => match cellL m x, xs with
  | some (n, ts), [y] => match asO m y with
    | some us => if ts.length + us.length ≤ lim then .ok .non (m.set n (some (.lst (ts ++ us)))) else .no
    | none => .no
  | _, _ => .no
theorem sem_extend : SemM K gExtend rExtend := by
  intro W Φ Z ρ σ H m Q x xs vx vs r rx rs p
  unfold gExtend at p
  split at p
  · rename_i n ts y hc
    split at p
    · rename_i us hy
      split at p
      · rename_i hl
        obtain ⟨a, ws, rfl, hn, ha, hH, ru⟩ := cellL_ok r rx hc
        obtain ⟨v, rfl, rv⟩ := reps1 rs
        obtain ⟨b, zs, rfl, hB, rz⟩ := asO_rep r rv hy
        exact ⟨a, b, ws, zs, rfl, rfl, hH, hB, by rw [← ru.length, ← rz.length]; exact lim_le hl, post_write r hn ha (ru.append rz) rep_non p⟩
      · exact p.elim
    · exact p.elim
  · exact p.elim
theorem Reps.erase : ∀ {ts : List T} {vs : List V} (i : Nat), Reps K Z ρ ts vs → Reps K Z ρ (ts.eraseIdx i) (vs.eraseIdx i)
  | [], _, _, h => by unfold Reps at h; subst h; exact .nil
  | t :: ts, _, 0, h => by
    unfold Reps at h
    obtain ⟨v, vs, rfl, r, rs⟩ := h
    exact rs
  | t :: ts, _, i + 1, h => by
    unfold Reps at h
    obtain ⟨v, vs, rfl, r, rs⟩ := h
    exact .cons r (Reps.erase i rs)
def gPopAt : T → List T → Mem → Out T := fun x xs m => match cellL m x, xs with
  | some (n, ts), [.int i] => if small 62 i then match seqIndex? i ts.length with
    | some k => match ts[k]? with
      | some t => .ok t (m.set n (some (.lst (ts.eraseIdx k))))
      | none => .no
    | none => .no else .no
  | _, _ => .no
theorem sem_popAt : SemM K gPopAt rPopAt := by
  intro W Φ Z ρ σ H m Q x xs vx vs r rx rs p
  unfold gPopAt at p
  split at p
  · rename_i n ts i hc
    split at p
    · rename_i hi
      split at p
      · rename_i k hk
        split at p
        · rename_i t ht
          obtain ⟨a, ws, rfl, hn, ha, hH, ru⟩ := cellL_ok r rx hc
          obtain ⟨v, rfl, rv⟩ := reps1 rs
          unfold Rep at rv
          subst rv
          obtain ⟨w, h1, h2⟩ := ru.get ht
          have hb := small_iff hi
          exact ⟨a, ws, i, k, w, rfl, rfl, hH, by omega, by omega, by rw [← ru.length]; exact hk, h1, post_write r hn ha (ru.erase k) h2 p⟩
        · exact p.elim
      · exact p.elim
    · exact p.elim
  · exact p.elim
theorem Reps.dropLast : ∀ {ts : List T} {vs : List V}, Reps K Z ρ ts vs → Reps K Z ρ ts.dropLast vs.dropLast
  | [], _, h => by unfold Reps at h; subst h; exact .nil
  | [t], _, h => by obtain ⟨v, rfl, _⟩ := reps1 h; exact .nil
  | t :: u :: ts, _, h => by
    unfold Reps at h
    obtain ⟨v, vs, rfl, r, rs⟩ := h
    have ih := Reps.dropLast rs
    unfold Reps at rs
    obtain ⟨w, ws, rfl, r2, rs2⟩ := rs
    exact .cons r ih
def gPop : T → List T → Mem → Out T := fun x xs m => match cellL m x, xs with
  | some (n, ts), [] => match ts[ts.length - 1]? with
    | some t => .ok t (m.set n (some (.lst ts.dropLast)))
    | none => .no
  | _, _ => .no
theorem sem_pop : SemM K gPop rPop := by
  intro W Φ Z ρ σ H m Q x xs vx vs r rx rs p
  unfold gPop at p
  split at p
  · rename_i n ts hc
    split at p
    · rename_i t ht
      obtain ⟨a, ws, rfl, hn, ha, hH, ru⟩ := cellL_ok r rx hc
      unfold Reps at rs
      subst rs
      obtain ⟨w, h1, h2⟩ := ru.get ht
      exact ⟨a, ws, w, rfl, rfl, hH, by rw [← ru.length]; exact h1, post_write r hn ha ru.dropLast h2 p⟩
    · exact p.elim
  · exact p.elim
/-- the texts of a list of texts -/
def txts : List T → Option (List Str)
  | [] => some []
  | .str x :: ts => (txts ts).map (x :: ·)
  | _ :: _ => none
theorem strs_eq : ∀ {ts : List T} {xs : List Str}, txts ts = some xs → ts = xs.map T.str
  | [], _, e => by cases e; rfl
  | t :: ts, _, e => by
    cases t with
    | str x =>
      unfold txts at e
      obtain ⟨ys, e1, rfl⟩ := Option.map_eq_some_iff.mp e
      rw [strs_eq e1]; rfl
    | _ => cases e
theorem strs_map (xs : List Str) : txts (xs.map T.str) = some xs := by
  induction xs with
  | nil => rfl
  | cons x xs ih => unfold txts; simp only [List.map_cons]; rw [ih]; rfl
theorem reps_strs : ∀ {xs : List Str} {vs : List V}, Reps K Z ρ (xs.map T.str) vs → vs = xs.map V.str
  | [], _, h => by unfold Reps at h; exact h
  | x :: xs, _, h => by
    rw [List.map_cons] at h
    unfold Reps at h
    obtain ⟨v, us, rfl, r, rs⟩ := h
    unfold Rep at r
    subst r
    rw [reps_strs rs]; rfl
theorem reps_strs_mk : ∀ {xs : List Str}, Reps K Z ρ (xs.map T.str) (xs.map V.str)
  | [] => .nil
  | x :: xs => .cons rep_str reps_strs_mk
def asSeq (m : Mem) (t : T) : Option (List T) := match asT t with
  | some ts => some ts
  | none => asL m t
theorem asSeq_rep (r : Rel K Φ Z ρ H m) {t : T} {ts : List T} {v : V} (hv : Rep K Z ρ t v) (h : asSeq m t = some ts) : ∃ a vs, v = .ref a ∧ (SqL K H a vs ∨ SqT K H a vs) ∧ Reps K Z ρ ts vs := by
  unfold asSeq at h
  split at h
  · rename_i us e
    cases h
    obtain ⟨a, vs, h1, h2, h3⟩ := asT_rep r hv e
    exact ⟨a, vs, h1, .inr h2, h3⟩
  · obtain ⟨a, vs, h1, h2, h3⟩ := asL_rep r hv h
    exact ⟨a, vs, h1, .inl h2, h3⟩
def gJoin : T → List T → Mem → Out T := fun x xs m => match x, xs with
  | .str a, [y] => match asSeq m y with
    | some ts => match txts ts with
      | some ys => if (ys.map (·.length)).sum + ys.length * a.length ≤ lim then .ok (.str (Txt.join a ys)) m else .no
      | none => .no
    | none => .no
  | _, _ => .no
theorem sem_join : SemM K gJoin (fun x xs H Q => ∃ a p, ∃ ys : List Str, x = .str a ∧ xs = [.ref p] ∧ (SqL K H p (ys.map V.str) ∨ SqT K H p (ys.map V.str)) ∧ (ys.map (·.length)).sum + ys.length * a.length ≤ 16777216 ∧ Q (.str (Txt.join a ys)) H) := by
  intro W Φ Z ρ σ H m Q x xs vx vs r rx rs p
  unfold gJoin at p
  split at p
  · rename_i a y
    split at p
    · rename_i ts hy
      split at p
      · rename_i ys hs
        split at p
        · rename_i hl
          unfold Rep at rx
          subst rx
          obtain ⟨v, rfl, rv⟩ := reps1 rs
          obtain ⟨b, us, rfl, hq, ru⟩ := asSeq_rep r rv hy
          rw [strs_eq hs] at ru
          have := reps_strs ru
          subst this
          exact ⟨a, b, ys, rfl, rfl, hq, Nat.le_trans hl (by decide), post_ok r rep_str p⟩
        · exact p.elim
      · exact p.elim
    · exact p.elim
  · exact p.elim
/-! ### in, not in -/
def flatT : T → Bool
  | .non => true
  | .bl _ => true
  | .int _ => true
  | .str _ => true
  | _ => false
def toV : T → V
  | .bl b => .bl b
  | .int i => .int i
  | .str x => .str x
  | _ => .non
theorem toV_eq {t : T} {v : V} (h : Rep K Z ρ t v) (f : flatT t = true) : v = toV t ∧ flatV v = true := by
  cases t <;> first | (unfold Rep at h; subst h; exact ⟨rfl, rfl⟩) | cases f
theorem toV_all : ∀ {ts : List T} {vs : List V}, Reps K Z ρ ts vs → ts.all flatT = true → vs = ts.map toV ∧ vs.all flatV = true
  | [], _, h, _ => by unfold Reps at h; subst h; exact ⟨rfl, rfl⟩
  | t :: ts, _, h, f => by
    unfold Reps at h
    obtain ⟨v, us, rfl, r, rs⟩ := h
    rw [List.all_cons, Bool.and_eq_true] at f
    obtain ⟨e1, e2⟩ := toV_eq r f.1
    obtain ⟨e3, e4⟩ := toV_all rs f.2
    exact ⟨by rw [e1, e3]; rfl, by rw [List.all_cons, e2, e4]; rfl⟩
def eqT (x y : T) : Bool := match x, y with
  | .str a, .str b => a == b
  | x, y => eqV (toV x) (toV y)
def gInD (neg : Bool) (x y : T) (m : Mem) : Out T := match asD m y, keyT x with
  | some (ks, _), some k => .ok (.bl (if neg then !memK ks k else memK ks k)) m
  | _, _ => .no
def rInD (neg : Bool) : R2 := fun x y H Q => ∃ a o, y = .ref a ∧ DGet H a x o ∧ Q (.bl (if neg then !o.isSome else o.isSome)) H
theorem zipV_some {k : Key} : ∀ {ks : List Key} {vs : List V}, ks.length = vs.length → (valV (ks.zip vs) k).isSome = memK ks k
  | [], _, _ => rfl
  | _ :: _, [], h => by cases h
  | j :: ks, v :: vs, h => by
    have ih := zipV_some (k := k) (ks := ks) (vs := vs) (by simpa using h)
    rw [List.zip_cons_cons]
    unfold memK at ih ⊢
    rw [List.any_cons]
    by_cases hj : j = k
    · rw [valV_pos (p := (j, v)) hj, keyEq_iff.mpr hj]; rfl
    · rw [valV_neg (p := (j, v)) hj, ih, ← keyEq_dec, decide_eq_false hj]; rfl
theorem sem_inD {neg : Bool} : Sem2 K (gInD neg) (rInD neg) := by
  intro W Φ Z ρ σ H m Q x y vx vy r rx ry p
  unfold gInD at p
  split at p
  · rename_i ks ts k hy hx
    obtain ⟨a, vs, rfl, hd, hl, rs⟩ := asD_rep r ry hy
    refine ⟨a, valV (ks.zip vs) k, rfl, .inl ⟨_, k, hd, keyT_rep rx hx, rfl⟩, ?_⟩
    rw [zipV_some hl]
    exact post_ok r rep_bl p
  · exact p.elim
theorem op_inD (hu : X.A.units + 1 < cLine) : OpR X (compareOp .In) (rInD false) := by
  intro pins s σ H x y v u Q I rx ry h
  obtain ⟨a, o, rfl, g, q⟩ := h
  obtain rfl : u = Value.ref a := ry
  exact d_in hu I g rx fun s' I' => ⟨.bl o.isSome, H, I', rfl, q⟩
theorem op_notInD (hu : X.A.units + 1 < cLine) : OpR X (compareOp .NotIn) (rInD true) := by
  intro pins s σ H x y v u Q I rx ry h
  obtain ⟨a, o, rfl, g, q⟩ := h
  obtain rfl : u = Value.ref a := ry
  exact d_notIn hu I g rx fun s' I' => ⟨.bl (!o.isSome), H, I', rfl, q⟩
theorem op_inA (hu : X.A.units + 1 < cLine) : OpR X (compareOp .In) (fun x y H Q => rIn X.K false x y H Q ∨ rInD false x y H Q) := op_in_seq.or (op_inD hu)
theorem op_notInA (hu : X.A.units + 1 < cLine) : OpR X (compareOp .NotIn) (fun x y H Q => rIn X.K true x y H Q ∨ rInD true x y H Q) := op_notIn_seq.or (op_notInD hu)
def eqQ (t x : T) : Bool := match t, x with
  | .str a, .str b => eqS a b
  | t, x => eqV (toV t) (toV x)
theorem eqQ_eq (t x : T) : eqQ t x = eqV (toV t) (toV x) := by
  unfold eqQ
  split
  · exact (eqS_beq _ _).symm
  · rfl
def gIn (neg : Bool) : T → T → Mem → Out T := fun x y m => match asSeq m y with
  | some ts => if flatT x && ts.all flatT then .ok (.bl (if neg then !(ts.any fun t => eqQ t x) else ts.any fun t => eqQ t x)) m else .no
  | none => gInD neg x y m
theorem sem_in {neg : Bool} : Sem2 K (gIn neg) (fun x y H Q => rIn K neg x y H Q ∨ rInD neg x y H Q) := by
  intro W Φ Z ρ σ H m Q x y vx vy r rx ry p
  unfold gIn at p
  split at p
  · rename_i ts hy
    split at p
    · rename_i hf
      rw [Bool.and_eq_true] at hf
      obtain ⟨b, us, rfl, hq, ru⟩ := asSeq_rep r ry hy
      obtain ⟨e1, e2⟩ := toV_eq rx hf.1
      obtain ⟨e3, e4⟩ := toV_all ru hf.2
      refine .inl ⟨b, us, rfl, hq, e2, e4, ?_⟩
      have e5 : inV vx us = ts.any fun t => eqQ t x := by
        unfold inV
        rw [e1, e3, List.any_map]
        congr 1
        funext t
        exact (eqQ_eq t x).symm
      rw [e5]
      exact post_ok r rep_bl p
    · exact p.elim
  · exact .inr (sem_inD W Φ Z ρ σ H m Q x y vx vy r rx ry p)
/-! ### built-ins -/
def gLen : List T → Mem → Out T := fun xs m => match xs with
  | [.str x] => if x.length ≤ lim then .ok (.int x.length) m else .no
  | [y] => match asSeq m y with
    | some ts => .ok (.int ts.length) m
    | none => match y with
      | .dct ks _ => .ok (.int ks.length) m
      | .loc n => match m[n]? with
        | some (some (.dct ks _)) => .ok (.int ks.length) m
        | _ => .no
      | _ => .no
  | _ => .no
def rLen3 (K : PySem.W.Frag) : List V → Hp → VK → Prop := fun xs H Q => ((∃ p ys, xs = [.ref p] ∧ (SqL K H p ys ∨ SqT K H p ys) ∧ Q (.int ys.length) H) ∨ ∃ z, xs = [.str z] ∧ z.length ≤ sizeLine ∧ Q (.int z.length) H) ∨
  ∃ a kvs, xs = [V.ref a] ∧ Rd H a (.dK kvs) ∧ Q (.int kvs.length) H
theorem call_lenR : CallR X (.builtin "len") (fun xs H Q => ∃ a kvs, xs = [V.ref a] ∧ Rd H a (.dK kvs) ∧ Q (.int kvs.length) H) := by
  intro pins s σ H xs us Q I r h
  obtain ⟨a, kvs, rfl, ha, q⟩ := h
  obtain ⟨u, rfl, ru⟩ := vals1 r
  cases ru
  exact d_len I ha fun t s' I' => ⟨.int kvs.length, H, I', ⟨t, rfl⟩, q⟩
theorem call_len3 : CallR X (.builtin "len") (rLen3 X.K) := (call_len_seq.or call_len_str).or call_lenR
theorem sem_len : SemL K gLen (rLen3 K) := by
  intro W Φ Z ρ σ H m Q xs vs r rs p
  unfold gLen at p
  split at p
  · rename_i x
    split at p
    · rename_i hl
      obtain ⟨v, rfl, rv⟩ := reps1 rs
      unfold Rep at rv
      subst rv
      exact .inl (.inr ⟨x, rfl, lim_le hl, post_ok r rep_int p⟩)
    · exact p.elim
  · rename_i y hy
    obtain ⟨v, rfl, rv⟩ := reps1 rs
    split at p
    · rename_i ts ht
      obtain ⟨b, us, rfl, hq, ru⟩ := asSeq_rep r rv ht
      refine .inl (.inl ⟨b, us, rfl, hq, ?_⟩)
      rw [← ru.length]
      exact post_ok r rep_int p
    · split at p
      · rename_i ks ts _
        unfold Rep at rv
        obtain ⟨a, us, o, rfl, q, hl, ru⟩ := rv
        refine .inr ⟨a, _, rfl, .inr ⟨o, r.zin _ _ q⟩, ?_⟩
        rw [List.length_zip, ← hl, Nat.min_self]
        exact post_ok r rep_int p
      · rename_i n _
        split at p
        · rename_i ks ts em
          unfold Rep at rv
          obtain ⟨a, ha, rfl⟩ := rv
          obtain ⟨_, us, e2, hl, ru⟩ := r.mem n _ a em ha
          refine .inr ⟨a, _, rfl, .inl e2, ?_⟩
          rw [List.length_zip, ← hl, Nat.min_self]
          exact post_ok r rep_int p
        · exact p.elim
      · exact p.elim
  · exact p.elim
def gInt : List T → Mem → Out T := fun xs m => match xs with
  | [.int i] => .ok (.int i) m
  | _ => .no
theorem sem_int : SemL K gInt (fun xs H Q => (∃ i, xs = [.int i] ∧ Q (.int i) H) ∨ ∃ k, xs = [.bl k] ∧ Q (.int (if k then 1 else 0)) H) := by
  intro W Φ Z ρ σ H m Q xs vs r rs p
  unfold gInt at p
  split at p
  · rename_i i
    obtain ⟨v, rfl, rv⟩ := reps1 rs
    unfold Rep at rv
    subst rv
    exact .inl ⟨i, rfl, post_ok r rep_int p⟩
  · exact p.elim
def gTuple : List T → Mem → Out T := fun xs m => match xs with
  | [.tup ts] => .ok (.tup ts) m
  | [y] => match asL m y with
    | some ts => .ok (.tup ts) m
    | none => .no
  | _ => .no
theorem sem_tuple : SemL K gTuple (fun xs H Q => ∃ p ys, xs = [.ref p] ∧ ((SqL K H p ys ∧ ∀ l, H l = none → Q (.ref l) (upd H l (.tup ys))) ∨ (SqT K H p ys ∧ Q (.ref p) H))) := by
  intro W Φ Z ρ σ H m Q xs vs r rs p
  unfold gTuple at p
  split at p
  · rename_i ts
    obtain ⟨v, rfl, rv⟩ := reps1 rs
    obtain ⟨a, us, rfl, q, ru⟩ := asT_rep r rv (ts := ts) rfl
    exact ⟨a, us, rfl, .inr ⟨q, post_ok r rv p⟩⟩
  · rename_i y hy
    obtain ⟨v, rfl, rv⟩ := reps1 rs
    split at p
    · rename_i ts ht
      obtain ⟨a, us, rfl, q, ru⟩ := asL_rep r rv ht
      exact ⟨a, us, rfl, .inl ⟨q, fun l hl => post_tup r ru p hl⟩⟩
    · exact p.elim
  · exact p.elim
def gList (mu : Bool) : List T → Mem → Out T := fun xs m => match xs with
  | [y] => match asSeq m y with
    | some ts => mk mu ts m
    | none => .no
  | _ => .no
theorem sem_list {mu : Bool} : SemL K (gList mu) (fun xs H Q => ∃ p ys, xs = [.ref p] ∧ (SqL K H p ys ∨ SqT K H p ys) ∧ ∀ l, H l = none → Q (.ref l) (upd H l (.lst ys))) := by
  intro W Φ Z ρ σ H m Q xs vs r rs p
  unfold gList at p
  split at p
  · rename_i y
    obtain ⟨v, rfl, rv⟩ := reps1 rs
    split at p
    · rename_i ts ht
      obtain ⟨a, us, rfl, q, ru⟩ := asSeq_rep r rv ht
      exact ⟨a, us, rfl, q, fun l hl => post_mk r ru p hl⟩
    · exact p.elim
  · exact p.elim
def bools : List T → Option (List Bool)
  | [] => some []
  | .bl x :: ts => (bools ts).map (x :: ·)
  | _ :: _ => none
theorem bools_eq : ∀ {ts : List T} {xs : List Bool}, bools ts = some xs → ts = xs.map T.bl
  | [], _, e => by cases e; rfl
  | t :: ts, _, e => by
    cases t with
    | bl x =>
      unfold bools at e
      obtain ⟨ys, e1, rfl⟩ := Option.map_eq_some_iff.mp e
      rw [bools_eq e1]; rfl
    | _ => cases e
theorem reps_bools : ∀ {xs : List Bool} {vs : List V}, Reps K Z ρ (xs.map T.bl) vs → vs = xs.map V.bl
  | [], _, h => by unfold Reps at h; exact h
  | x :: xs, _, h => by
    rw [List.map_cons] at h
    unfold Reps at h
    obtain ⟨v, us, rfl, r, rs⟩ := h
    unfold Rep at r
    subst r
    rw [reps_bools rs]; rfl
def gAllAny (al : Bool) : List T → Mem → Out T := fun xs m => match xs with
  | [y] => match asL m y with
    | some ts => match bools ts with
      | some bs => .ok (.bl (if al then bs.all id else bs.any id)) m
      | none => .no
    | none => .no
  | _ => .no
theorem sem_all : SemL K (gAllAny true) (rAll K) := by
  intro W Φ Z ρ σ H m Q xs vs r rs p
  unfold gAllAny at p
  split at p
  · rename_i y
    obtain ⟨v, rfl, rv⟩ := reps1 rs
    split at p
    · rename_i ts ht
      split at p
      · rename_i bs hb
        obtain ⟨a, us, rfl, q, ru⟩ := asL_rep r rv ht
        rw [bools_eq hb] at ru
        have := reps_bools ru
        subst this
        exact ⟨a, bs, rfl, q, post_ok r rep_bl p⟩
      · exact p.elim
    · exact p.elim
  · exact p.elim
theorem sem_any : SemL K (gAllAny false) (rAny K) := by
  intro W Φ Z ρ σ H m Q xs vs r rs p
  unfold gAllAny at p
  split at p
  · rename_i y
    obtain ⟨v, rfl, rv⟩ := reps1 rs
    split at p
    · rename_i ts ht
      split at p
      · rename_i bs hb
        obtain ⟨a, us, rfl, q, ru⟩ := asL_rep r rv ht
        rw [bools_eq hb] at ru
        have := reps_bools ru
        subst this
        exact ⟨a, bs, rfl, q, post_ok r rep_bl p⟩
      · exact p.elim
    · exact p.elim
  · exact p.elim
/-! ### an item stored by its place -/
def gSetL : T → T → T → Mem → Option Mem := fun o i v m => match cellL m o, i with
  | some (n, ts), .int k => match ixN ts.length k with
    | some j => some (m.set n (some (.lst (ts.set j v))))
    | none => none
  | _, _ => none
def sSetIx (fe fo fi : EF) : SF := sOf fe fun v env m1 => match fo env m1 with
  | .ok o m2 => match fi env m2 with
    | .ok i m3 => match gSetL o i v m3 with
      | some m4 => .nx env m4
      | none => .no
    | _ => .no
  | _ => .no
theorem ss_setIx {o i e : Expr} {pos pos' : Pos} {fe fo fi : EF} (he : SE X W e fe) (ho : SE X W o fo) (hi : SE X W i fi)
    (ha : ∀ v, assign (.Subscript o i pos') X.env v = (do
      let ov ← holding [v] (eval o X.env)
      let iv ← holding [v, ov] (eval i X.env)
      standAt pos'
      holding [v, ov, iv] (setItem ov iv v)
      release [v, ov, iv] []) := by intro _; rfl)
    (hs : swapsWithSole [.Subscript o i pos'] e pos.line X.env = pure false := by rfl) (hw : swappedStores [.Subscript o i pos'] e X.env = pure none := by rfl)
    (h1 : (assignEach [.Subscript o i pos'] X.env).map (·.2) = [assign (.Subscript o i pos') X.env] := by rfl) : SS X W (.Assign [.Subscript o i pos'] e pos) (sSetIx fe fo fi) := by
  refine ⟨ps_imp (ps_asg he.pe (pg_sub ho.pe hi.pe set_list ha) hs hw h1) fun D σ H h => trS_bind (fun Φ Z1 ρ1 H1 env m1 t v F r p => ?_) h⟩
  show tr X.K W fo σ H1 fun ov H2 => tr X.K W fi σ H2 fun iv H3 => rSetL ov iv v H3 fun H4 => D.nx σ H4
  cases eo : fo env m1 with
  | no => simp only [eo] at p; exact p.elim
  | ex _ _ _ _ => simp only [eo] at p; exact p.elim
  | ok to m2 =>
    simp only [eo] at p
    cases ei : fi env m2 with
    | no => simp only [ei] at p; exact p.elim
    | ex _ _ _ _ => simp only [ei] at p; exact p.elim
    | ok ti m3 =>
      simp only [ei] at p
      refine ⟨Φ, Z1, ρ1, env, m1, F, ?_⟩
      rw [eo]
      intro Z2 ρ2 H2 vo e2 r2 ro
      refine ⟨Φ, Z2, ρ2, env, m2, ⟨r2, F.env.ext e2⟩, ?_⟩
      rw [ei]
      intro Z3 ρ3 H3 vi e3 r3 ri
      unfold gSetL at p
      split at p
      · rename_i m4 e4
        split at e4
        · rename_i n ts k hc
          split at e4
          · rename_i j hj
            cases e4
            obtain ⟨a, us, rfl, hn, ha, hH, ru⟩ := cellL_ok r3 (ro.ext e3) hc
            unfold Rep at ri
            subst ri
            refine ⟨a, us, k, j, rfl, rfl, hH, by rw [← ru.length]; exact hj, ?_⟩
            have rv := (r.ext e2).ext e3
            have r4 := r3.write hn ha (u := .lst (ts.set j t)) (o := .lst (us.set j v)) ⟨_, rfl, ru.set j rv⟩
            exact p _ _ _ _ (e2.trans e3) ⟨r4, (F.env.ext e2).ext e3⟩ rfl
          · cases e4
        · cases e4
      · exact p.elim
end
end Ev

/-! sorted texts -/
namespace Ev
open PySem L2
variable [Wrl]
/-- the order of texts -/
def ltS (a b : Str) : Bool := decide (a.cps.toList < b.cps.toList)
def leS (a b : Str) : Bool := !ltS b a
def insS (x : Str) : List Str → List Str
  | [] => [x]
  | y :: ys => if leS x y then x :: y :: ys else y :: insS x ys
def sortS : List Str → List Str
  | [] => []
  | x :: xs => insS x (sortS xs)
theorem leS_iff {a b : Str} : leS a b = true ↔ a.cps.toList ≤ b.cps.toList := by
  unfold leS ltS
  simp [List.not_lt]
theorem str_ext {a b : Str} (h : a.cps.toList = b.cps.toList) : a = b := by
  obtain ⟨x⟩ := a
  obtain ⟨y⟩ := b
  have : x = y := Array.toList_inj.mp h
  rw [this]
theorem leS_antisymm {a b : Str} (h1 : leS a b = true) (h2 : leS b a = true) : a = b :=
  str_ext (List.le_antisymm (leS_iff.mp h1) (leS_iff.mp h2))
theorem leS_trans {a b c : Str} (h1 : leS a b = true) (h2 : leS b c = true) : leS a c = true :=
  leS_iff.mpr (List.le_trans (leS_iff.mp h1) (leS_iff.mp h2))
theorem leS_total (a b : Str) : leS a b = true ∨ leS b a = true := by
  rw [leS_iff, leS_iff]
  exact List.le_total _ _
theorem insS_perm (x : Str) : ∀ ys : List Str, (insS x ys).Perm (x :: ys)
  | [] => .refl _
  | y :: ys => by
    unfold insS
    split
    · exact .refl _
    · exact ((insS_perm x ys).cons y).trans (.swap x y ys)
theorem sortS_perm : ∀ xs : List Str, (sortS xs).Perm xs
  | [] => .refl _
  | x :: xs => (insS_perm x _).trans ((sortS_perm xs).cons x)
theorem insS_pw (x : Str) : ∀ ys : List Str, ys.Pairwise (fun a b => leS a b = true) → (insS x ys).Pairwise (fun a b => leS a b = true)
  | [], _ => List.pairwise_singleton _ _
  | y :: ys, h => by
    unfold insS
    rw [List.pairwise_cons] at h
    split
    · rename_i hxy
      refine List.pairwise_cons.mpr ⟨fun b hb => ?_, List.pairwise_cons.mpr h⟩
      rcases List.mem_cons.mp hb with e | e
      · rw [e]; exact hxy
      · exact leS_trans hxy (h.1 b e)
    · rename_i hxy
      have hyx : leS y x = true := (leS_total x y).resolve_left hxy
      refine List.pairwise_cons.mpr ⟨fun b hb => ?_, insS_pw x ys h.2⟩
      rcases List.mem_cons.mp ((insS_perm x ys).mem_iff.mp hb) with e | e
      · rw [e]; exact hyx
      · exact h.1 b e
theorem sortS_pw : ∀ xs : List Str, (sortS xs).Pairwise (fun a b => leS a b = true)
  | [] => .nil
  | x :: xs => insS_pw x _ (sortS_pw xs)
theorem rising_pw : ∀ (xs : List Str) (p : Str), PyProof.Rows.risingS p xs = true → (p :: xs).Pairwise (fun a b => leS a b = true)
  | [], p, _ => List.pairwise_singleton _ _
  | x :: xs, p, h => by
    unfold PyProof.Rows.risingS at h
    rw [Bool.and_eq_true] at h
    have h1 : leS p x = true := by
      unfold leS ltS
      rw [PyProof.Rows.lt_meets]
      exact h.1
    have h2 := rising_pw xs x h.2
    refine List.pairwise_cons.mpr ⟨fun b hb => ?_, h2⟩
    rcases List.mem_cons.mp hb with e | e
    · rw [e]; exact h1
    · exact leS_trans h1 ((List.pairwise_cons.mp h2).1 b e)
theorem sorted_eq {ys xs : List Str} (hp : ys.Perm xs) (h : PyProof.Rows.sortedS ys = true) : ys = sortS xs := by
  have hw : ys.Pairwise (fun a b => leS a b = true) := by
    cases ys with
    | nil => exact .nil
    | cons y ys => exact rising_pw ys y h
  exact List.Perm.eq_of_pairwise (fun a b _ _ h1 h2 => leS_antisymm h1 h2) hw (sortS_pw xs) (hp.trans (sortS_perm xs).symm)
end Ev
namespace Ev
open PySem L2 PySem.Spec PyProof.Rows
variable [Wrl]
section
variable {prog : Program} {w : World} {A : Around} {E : Value → Shared → Prop} {s : Shared}
/-- what list(t) collects of a tuple -/
theorem collect_tup {l : Addr} {vs : List Value} {Q : List Value → Shared → Prop} (hl : IsTup s.heap l vs.toArray) (hsz : vs.length ≤ sizeLine)
    (h : Q vs { s with heap := (s.heap.push (seqObj "list" #[] 0)).update s.heap.objs.size (Obj.mapSeq (· ++ vs.toArray)) }) : wpAny (model prog w) A (collect (.ref l)) Q E s := by
  obtain ⟨o, ho, hc, n, hd⟩ := id hl
  unfold collect
  refine wpAny_bind (wpAny_runValue (codeAny_builtin entry_proto_collect' ?_))
  show wpAny _ _ (do again (.builtin "list.__iadd__" ⟨[← newList [], .ref l], []⟩)) _ _ s
  refine wpAny_bind (wpAny_newList (wpAny_pure ⟨Code.quiet_builtin _ (by decide +kernel), codeAny_builtin entry_list_iadd' ?_⟩))
  have ho' : (s.heap.push (seqObj "list" #[] 0)).get? l = some o := Heap.get?_push_of_some _ ho
  have new0 : (s.heap.push (seqObj "list" #[] 0)).get? s.heap.objs.size = some (seqObj "list" #[] 0) := Heap.get?_push_size _ rfl
  have ht1 : (Value.type "tuple" == Value.type "list") = false := by rfl
  have ht2 : (Value.type "tuple" == Value.type "tuple") = true := by rfl
  show wpAny _ _ (Builtin.List.listExtendWith (.ref s.heap.objs.size) (.ref l) (.ref s.heap.objs.size)) _ _ { s with heap := s.heap.push (seqObj "list" #[] 0) }
  unfold Builtin.List.listExtendWith
  refine wpAny_bind (wpAny_typeOf (T := "tuple") ⟨o, ho', hc⟩ ?_)
  rw [if_pos (by rw [ht2]; simp)]
  refine wpAny_bind (listItems_at ho' hd (wpAny_bind (listItems_at (xs := #[]) (n := 0) new0 rfl ?_)))
  rw [if_neg (by simp)]
  have fits : (#[] ++ vs.toArray).size ≤ sizeLine + 1 := by simp only [Array.size_append, List.size_toArray, List.length_nil]; omega
  refine wpAny_bind (listUpdate_at (xs := #[]) (n := 0) new0 rfl (wpAny_pure ?_) (Nat.zero_le _) fits)
  have em : ((#[] : Array Value) ++ vs.toArray).toList = vs := by simp
  show wpAny (model prog w) A (load s.heap.objs.size >>= fun o => match o.data with | .seq xs _ => pure xs.toList | _ => unsupported "internal:collect") Q E _
  refine wpAny_bind (wpAny_load (get?_update_seq new0 _) ?_)
  show wpAny _ _ (pure ((#[] : Array Value) ++ vs.toArray).toList) Q E _
  rw [em]
  exact wpAny_pure h
/-- sorted(t), a tuple of texts -/
theorem sorted_tup_strs {l : Addr} {vs : List Value} {ss : List Str} {Q : Value → Shared → Prop} (hl : IsTup s.heap l vs.toArray) (hS : StrsAre vs ss) (hL : vs.length ≤ sizeLine)
    (h : ∀ (out : Array Value) (ss' : List Str), StrsAre out.toList ss' → ss'.Perm ss → sortedS ss' = true → Q (.ref (s.heap.objs.size + 1)) { s with heap := sortedAll s.heap vs out }) :
    wpAny (model prog w) A (call (.builtin "sorted") [.ref l]) Q E s := by
  refine Calls.call_function_entry kind_sorted plain_sorted entry_sorted (args_sorted1 _) ?_
  unfold Builtin.«sorted»
  refine wpAny_bind (m := checkCount "sorted" 1 1 _) (wpAny_pure (wpAny_bind (collect_tup hl hL (wpAny_bind (wpAny_newList ?_)))))
  have z1 : ((s.heap.push (seqObj "list" #[] 0)).update s.heap.objs.size (Obj.mapSeq (· ++ vs.toArray))).objs.size = s.heap.objs.size + 1 := by rw [Heap.size_update, size_push']
  have z2 : (((s.heap.push (seqObj "list" #[] 0)).update s.heap.objs.size (Obj.mapSeq (· ++ vs.toArray))).push (seqObj "list" vs.toArray 0)).get? (s.heap.objs.size + 1) = some (seqObj "list" vs.toArray 0) := by rw [← z1]; exact Heap.get?_push_size _ rfl
  have z3 : ∀ v₁ v₂ rest, vs = v₁ :: v₂ :: rest → keyKind' (v₁ :: v₂ :: rest).toArray = pure oneType' := fun v₁ v₂ rest e => keyKind_strs (by rw [← e]; exact hS)
  show wpAny _ _ _ _ _ { s with heap := ((s.heap.push (seqObj "list" #[] 0)).update s.heap.objs.size (Obj.mapSeq (· ++ vs.toArray))).push (seqObj "list" vs.toArray 0) }
  rw [z1]
  refine wpAny_bind (wpAny_holding (wpAny_call_entry slot_list_sort ⟨_, z2, rfl⟩ entry_list_sort (list_sort_treeKAny strKind_oneLt z2 hS.keysOf z3 hL fun st' a1 a2 => ⟨_, rfl, wpAny_pure ⟨_, rfl, ?_⟩⟩) (args_list_sort _)))
  obtain ⟨ss', h1, h2, h3⟩ := sorted_out_str hS a1 a2
  exact h _ ss' h1 h2 h3
end
section
variable {K : PySem.W.Frag} {W : WX} {Φ Z : Hp} {ρ : List Addr} {σ : L2.St} {H : Hp} {m : Mem} {X : Cx}
def rSortA (K : PySem.W.Frag) : List V → Hp → VK → Prop := fun vs H Q => ∃ (a : Addr) (xs : List Str), vs = [V.ref a] ∧ (SqL K H a (xs.map V.str) ∨ SqT K H a (xs.map V.str)) ∧ xs.length ≤ sizeLine ∧
  ∀ p, H p = none → Q (.ref p) (upd H p (.lst ((sortS xs).map V.str)))
theorem cr_sortA : CallR X (.builtin "sorted") (rSortA X.K) := by
  intro pins s σ H vs us Q I r h
  obtain ⟨a, xs, rfl, hs, hz, q⟩ := h
  rw [Vals.ref1 r]
  have fin : ∀ (its : List Value) (out : Array Value) (ys : List Str), Vals (xs.map V.str) its → StrsAre out.toList ys → ys.Perm xs → sortedS ys = true → EP X pins σ Q (.ref (s.heap.objs.size + 1)) { s with heap := sortedAll s.heap its out } := by
    intro its out ys rv h1 h2 h3
    obtain ⟨ep, he'⟩ := sortedAll_at s.heap its out
    have e := sorted_eq h2 h3
    subst e
    have hlen : ((sortS xs).map V.str).length ≤ sizeLine := by rw [List.length_map, h2.length_eq]; exact hz
    exact ⟨.ref _, upd H (s.heap.objs.size + 1) (.lst ((sortS xs).map V.str)), I.laid (t' := s.toks) (fun _ _ => sortedAll_old) (Nat.le_succ _) ⟨hlen, out.toList, ep, vals_of_strs h1, he'⟩, rfl, q _ (I.hok.fresh (Nat.le_succ _))⟩
  rcases hs with hs | hs
  · obtain ⟨its, rv, hl, _⟩ := I.list hs
    have hln : its.length ≤ sizeLine := by rw [← rv.length, List.length_map]; exact hz
    exact sorted_strsAny hl.isList rv.strs hln fun out ys h1 h2 h3 => fin its out ys rv h1 h2 h3
  · obtain ⟨its, rv, hl, _⟩ := I.tuple hs
    have hln : its.length ≤ sizeLine := by rw [← rv.length, List.length_map]; exact hz
    exact sorted_tup_strs hl rv.strs hln fun out ys h1 h2 h3 => fin its out ys rv h1 h2 h3
def gSorted (mu : Bool) : List T → Mem → Out T := fun xs m => match xs with
  | [y] => match asSeq m y with
    | some ts => match txts ts with
      | some ys => if ys.length ≤ lim then mk mu ((sortS ys).map T.str) m else .no
      | none => .no
    | none => .no
  | _ => .no
theorem sem_sorted {mu : Bool} : SemL K (gSorted mu) (rSortA K) := by
  intro W Φ Z ρ σ H m Q xs vs r rs p
  unfold gSorted at p
  split at p
  · rename_i y
    obtain ⟨v, rfl, rv⟩ := reps1 rs
    split at p
    · rename_i ts ht
      split at p
      · rename_i ys hy
        split at p
        · rename_i hl
          obtain ⟨a, us, rfl, q, ru⟩ := asSeq_rep r rv ht
          rw [strs_eq hy] at ru
          have := reps_strs ru
          subst this
          exact ⟨a, ys, rfl, q, lim_le hl, fun l hl => post_mk r reps_strs_mk p hl⟩
        · exact p.elim
      · exact p.elim
    · exact p.elim
  · exact p.elim
end
end Ev

namespace Ev
open PySem L2
variable [Wrl]
section
variable {K : PySem.W.Frag} {W : WX} {Φ Z : Hp} {ρ : List Addr} {σ : L2.St} {H : Hp} {m : Mem} {X : Cx}
/-! ### slices -/
abbrev OF := Env → Mem → Out (Option Int)
def PostO (K : PySem.W.Frag) (W : WX) (Φ Z : Hp) (ρ : List Addr) (σ : L2.St) (Q : Option Int → Hp → Prop) : Out (Option Int) → Prop
  | .ok o m => ∀ Z' ρ' H', Ext Z Z' ρ ρ' → Rel K Φ Z' ρ' H' m → Q o H'
  | .ex C ns ts m => ∀ Z' ρ' H' d vs, Ext Z Z' ρ ρ' → Rel K Φ Z' ρ' H' m → Reps K Z' ρ' ts vs → ns.length = vs.length → Z' d = some (.xd (ns.zip vs)) → WR K W C d σ H'
  | .no => False
def trO (K : PySem.W.Frag) (W : WX) (f : OF) : TO := fun σ H Q => ∃ Φ Z ρ env m, Fits K Φ Z ρ σ H env m ∧ PostO K W Φ Z ρ σ Q (f env m)
structure SO (X : Cx) (W : WX) (e : Option Expr) (f : OF) : Prop where
  po : PO X e (trO X.K W f)
def oNone : OF := fun _ m => .ok none m
def oSome (f : EF) : OF := fun env m => (f env m).bind fun t m1 => match t with
  | .int i => .ok (some i) m1
  | _ => .no
theorem so_none : SO X W none oNone := ⟨⟨fun pins s σ H Q I ⟨Φ, Z, ρ, env, m, F, p⟩ => po_none.run pins s σ H Q I (p _ _ _ Ext.refl F.rel)⟩⟩
theorem so_some {e : Expr} {f : EF} (h : SE X W e f) : SO X W (some e) (oSome f) := by
  refine ⟨⟨fun pins s σ H Q I ⟨Φ, Z, ρ, env, m, F, p⟩ => (po_some h.pe).run pins s σ H Q I ?_⟩⟩
  refine tr_bind (P := PostO X.K W Φ Z ρ σ Q) F (fun t m1 Z1 ρ1 H1 v _ e1 F1 r p1 => ?_) (fun _ _ _ _ h => h) (fun h => h) p
  cases t with
  | int i => unfold Rep at r; subst r; exact ⟨i, rfl, p1 _ _ _ e1 F1.rel⟩
  | _ => exact (show False from p1).elim
def cutT (ts : List T) (lo hi : Option Int) : List T := (ts.drop (HT.sIx ts.length 0 lo)).take (HT.sIx ts.length ts.length hi - HT.sIx ts.length 0 lo)
theorem Reps.cut {ts : List T} {vs : List V} (r : Reps K Z ρ ts vs) (lo hi : Option Int) : Reps K Z ρ (cutT ts lo hi) (cutV vs lo hi) := by
  unfold cutT cutV
  rw [r.length]
  exact (r.drop _).take _
def gSlice (mu : Bool) : T → Option Int → Option Int → Mem → Out T := fun x lo hi m => match x with
  | .str z => if z.length ≤ lim then .ok (.str (cutS z lo hi)) m else .no
  | .tup ts => .ok (.tup (cutT ts lo hi)) m
  | y => match asL m y with
    | some ts => mk mu (cutT ts lo hi) m
    | none => .no
def rSlice (K : PySem.W.Frag) : V → Option Int → Option Int → Hp → VK → Prop := fun x lo hi H Q => (rSlL K x lo hi H Q ∨ rSlS x lo hi H Q) ∨ rSlA K x lo hi H Q
theorem sl_all : SlR X (rSlice X.K) := (sl_list.or sl_str).or sl_tupA
theorem cutT_whole {ts : List T} {lo hi : Option Int} (h : HT.sIx ts.length 0 lo = 0 ∧ HT.sIx ts.length ts.length hi = ts.length) : cutT ts lo hi = ts := by
  unfold cutT
  rw [h.1, h.2]
  simp
def eSlice (mu : Bool) (f : EF) (lo hi : OF) : EF := fun env m => (f env m).bind fun x m1 => (lo env m1).bind fun l m2 => (hi env m2).bind fun u m3 => gSlice mu x l u m3
theorem trO_bind {α : Type} {f : OF} {env : Env} {k : Option Int → Mem → Out α} {P : Out α → Prop} {R : Option Int → Hp → Prop} (F : Fits K Φ Z ρ σ H env m)
    (hk : ∀ t m1 Z1 ρ1 H1, f env m = .ok t m1 → Ext Z Z1 ρ ρ1 → Fits K Φ Z1 ρ1 σ H1 env m1 → P (k t m1) → R t H1)
    (hx : ∀ C ns vs m1, P (.ex C ns vs m1) → PostO K W Φ Z ρ σ R (.ex C ns vs m1)) (hn : P .no → False)
    (h : P ((f env m).bind k)) : trO K W f σ H R := by
  refine ⟨Φ, Z, ρ, env, m, F, ?_⟩
  cases e : f env m with
  | ok t m1 =>
    rw [e] at h
    exact fun Z1 ρ1 H1 e1 r1 => hk t m1 Z1 ρ1 H1 e e1 ⟨r1, F.env.ext e1⟩ h
  | ex C ns vs m1 =>
    rw [e] at h
    exact hx C ns vs m1 h
  | no =>
    rw [e] at h
    exact (hn h).elim
theorem sem_slice {mu : Bool} {x : T} {l u : Option Int} {vx : V} {Q : VK} (r : Rel K Φ Z ρ H m) (rx : Rep K Z ρ x vx) (p : Post K W Φ Z ρ σ Q (gSlice mu x l u m)) : rSlice K vx l u H Q := by
  unfold gSlice at p
  split at p
  · rename_i z
    split at p
    · rename_i h
      unfold Rep at rx
      subst rx
      exact .inl (.inr ⟨z, rfl, lim_le h, post_ok r rep_str p⟩)
    · exact p.elim
  · rename_i ts
    obtain ⟨a, vs, rfl, q, ru⟩ := asT_rep r rx (ts := ts) rfl
    refine .inr ⟨a, vs, rfl, q, fun hw => ?_, fun hw pp hp => ?_⟩
    · rw [← ru.length] at hw
      rw [cutT_whole hw] at p
      exact post_ok r rx p
    · exact post_tup r (ru.cut l u) p hp
  · split at p
    · rename_i ts ht
      obtain ⟨a, vs, rfl, q, ru⟩ := asL_rep r rx ht
      exact .inl (.inl ⟨a, vs, rfl, q, fun pp hp => post_mk r (ru.cut l u) p hp⟩)
    · exact p.elim
theorem se_slice (mu : Bool) {e : Expr} {lo hi : Option Expr} {p2 pos : Pos} {f : EF} {fl fh : OF} (he : SE X W e f) (hl : SO X W lo fl) (hh : SO X W hi fh) : SE X W (.Subscript e (.Slice lo hi none p2) pos) (eSlice mu f fl fh) := by
  refine ⟨pe_imp (pe_slice sl_all he.pe hl.po hh.po) fun σ H Q ⟨Φ, Z, ρ, env, m, F, p⟩ => ?_⟩
  refine tr_bind (P := Post X.K W Φ Z ρ σ Q) F (fun x m1 Z1 ρ1 H1 vx _ e1 F1 rx p1 => ?_) (fun _ _ _ _ h => h) (fun h => h) p
  refine trO_bind (P := Post X.K W Φ Z1 ρ1 σ Q) F1 (fun l m2 Z2 ρ2 H2 _ e2 F2 p2 => ?_) (fun _ _ _ _ h => h) (fun h => h) (p1.ext e1)
  refine trO_bind (P := Post X.K W Φ Z2 ρ2 σ Q) F2 (fun u m3 Z3 ρ3 H3 _ e3 F3 p3 => ?_) (fun _ _ _ _ h => h) (fun h => h) (p2.ext e2)
  exact sem_slice F3.rel ((rx.ext e2).ext e3) (p3.ext e3)
/-! ### chains of comparisons -/
def eChain (g g' : T → T → Mem → Out T) (fa fb fc : EF) : EF := fun env m => (fa env m).bind fun x m1 => (fb env m1).bind fun y m2 => (g x y m2).bind fun t m3 => match t with
  | .bl true => (fc env m3).bind fun z m4 => g' y z m4
  | .bl false => .ok (.bl false) m3
  | _ => .no
theorem tr_chain {g g' : T → T → Mem → Out T} {r r' : R2} (hg : Sem2 K g r) (hg' : Sem2 K g' r') {fa fb fc : EF} {Q : VK} (h : tr K W (eChain g g' fa fb fc) σ H Q) : tChain r r' (tr K W fa) (tr K W fb) (tr K W fc) σ H Q := by
  obtain ⟨Φ, Z, ρ, env, m, F, p⟩ := h
  refine tr_bind (P := Post K W Φ Z ρ σ Q) F (fun x m1 Z1 ρ1 H1 vx _ e1 F1 rx p1 => ?_) (fun _ _ _ _ h => h) (fun h => h) p
  refine tr_bind (P := Post K W Φ Z1 ρ1 σ Q) F1 (fun y m2 Z2 ρ2 H2 vy _ e2 F2 ry p2 => ?_) (fun _ _ _ _ h => h) (fun h => h) (p1.ext e1)
  refine hg W Φ Z2 ρ2 σ H2 m2 _ x y vx vy F2.rel (rx.ext e2) ry ?_
  have p2 := p2.ext e2
  cases eg : g x y m2 with
  | no => rw [eg] at p2; exact p2
  | ex _ _ _ _ => rw [eg] at p2; exact p2
  | ok t m3 =>
    rw [eg] at p2
    intro Z3 ρ3 H3 v e3 r3 rt
    have F3 : Fits K Φ Z3 ρ3 σ H3 env m3 := ⟨r3, F2.env.ext e3⟩
    cases t with
    | bl b =>
      unfold Rep at rt
      subst rt
      refine ⟨b, rfl, ?_⟩
      cases b with
      | true =>
        simp only [if_true]
        refine tr_bind (P := Post K W Φ Z2 ρ2 σ Q) F3 (fun z m4 Z4 ρ4 H4 vz _ e4 F4 rz p4 => ?_) (fun _ _ _ _ h => h.ext e3) (fun h => h) p2
        exact hg' W Φ Z4 ρ4 σ H4 m4 Q y z vy vz F4.rel ((ry.ext e3).ext e4) rz (p4.ext (e3.trans e4))
      | false =>
        simp only [Bool.false_eq_true, if_false]
        exact p2 _ _ _ _ e3 r3 rep_bl
    | _ => exact (show False from p2).elim
theorem se_chain {op op' : CmpOp} {a b c : Expr} {pos : Pos} {g g' : T → T → Mem → Out T} {r r' : R2} {fa fb fc : EF} (ho : OpR X (compareOp op) r) (hg : Sem2 X.K g r) (ho' : OpR X (compareOp op') r') (hg' : Sem2 X.K g' r') (ha : SE X W a fa) (hb : SE X W b fb) (hc : SE X W c fc)
    (hm : lastMarks [op, op'] [b, c] = false := by with_unfolding_all rfl) : SE X W (.Compare a [op, op'] [b, c] pos) (eChain g g' fa fb fc) :=
  ⟨pe_imp (pe_chain ho ho' ha.pe hb.pe hc.pe hm) fun _ _ _ h => tr_chain hg hg' h⟩
theorem sb_chain {op op' : CmpOp} {a b c : Expr} {pos : Pos} {g g' : T → T → Mem → Out T} {r r' : R2} {fa fb fc : EF} (ho : OpR X (compareOp op) r) (hg : Sem2 X.K g r) (ho' : OpR X (compareOp op') r') (hg' : Sem2 X.K g' r') (ha : SE X W a fa) (hb : SE X W b fb) (hc : SE X W c fc)
    (hm : lastMarks [op, op'] [b, c] = false := by with_unfolding_all rfl) : SB X W (.Compare a [op, op'] [b, c] pos) (bV (eChain g g' fa fb fc)) :=
  ⟨pt_imp (pt_chain ho ho' ha.pe hb.pe hc.pe hm) fun _ _ _ h => tr_chain hg hg' (tr_bV h)⟩
/-! ### isinstance -/
/-- the built-in type of a value; none where it is not told -/
def tyOf (m : Mem) : T → Option String
  | .non => some "NoneType"
  | .bl _ => some "bool"
  | .int _ => some "int"
  | .str _ => some "str"
  | .tup _ => some "tuple"
  | .lst _ => some "list"
  | .rls _ => some "list"
  | .dct _ _ => some "dict"
  | .loc n => match m[n]? with
    | some (some (.lst _)) => some "list"
    | some (some (.dct _ _)) => some "dict"
    | _ => none
  | _ => none
theorem tyOf_ok (r : Rel K Φ Z ρ H m) {t : T} {v : V} {n : String} (h : Rep K Z ρ t v) (e : tyOf m t = some n) : TyX K H v (.type n) := by
  have sqt : ∀ {a : Addr} {vs : List V}, SqT K H a vs → TyX K H (.ref a) (.type "tuple") := by
    intro a vs q
    rcases q with (q | ⟨o, q⟩) | ⟨o, its, k, q, c, _⟩
    · exact .base (.tup q)
    · exact .fTuple q
    · exact .kTuple q c
  have sql : ∀ {a : Addr} {vs : List V}, SqL K H a vs → TyX K H (.ref a) (.type "list") := by
    intro a vs q
    rcases q with (q | ⟨o, q⟩) | ⟨o, its, k, q, c, _⟩
    · exact .base (.lst q)
    · exact .base (.frz q)
    · exact .kList q c
  cases t with
  | non => unfold Rep at h; subst h; cases e; exact .base .non
  | bl b => unfold Rep at h; subst h; cases e; exact .base (.bl b)
  | int i => unfold Rep at h; subst h; cases e; exact .base (.int i)
  | str x => unfold Rep at h; subst h; cases e; exact .base (.str x)
  | tup ts => unfold Rep at h; obtain ⟨a, vs, rfl, q, _⟩ := h; cases e; exact sqt (Same.sqt r.same q)
  | lst ts => unfold Rep at h; obtain ⟨a, vs, rfl, q, _⟩ := h; cases e; exact sql (.of (r.zin _ _ q))
  | rls ts => unfold Rep at h; obtain ⟨a, vs, rfl, q, _⟩ := h; cases e; exact sql (r.same.seq q)
  | dct ks ts => unfold Rep at h; obtain ⟨a, vs, o, rfl, q, _⟩ := h; cases e; exact .fDict (r.zin _ _ q)
  | loc n =>
    unfold Rep at h
    obtain ⟨a, ha, rfl⟩ := h
    unfold tyOf at e
    simp only at e
    split at e
    · rename_i us em
      cases e
      obtain ⟨_, vs, e2, _⟩ := r.mem n _ a em ha
      exact .base (.lst e2)
    · rename_i ks us em
      cases e
      obtain ⟨_, vs, e2, _⟩ := r.mem n _ a em ha
      exact .base (.dK e2)
    · cases e
  | _ => cases e
def kitAll (a : String) : List String → Option Bool
  | [] => some false
  | b :: bs => match kitB a b with
    | some true => some true
    | some false => kitAll a bs
    | none => none
theorem kitAll_ok {K : PySem.W.Frag} {a : String} : ∀ {bs : List String} {r : Bool}, kitAll a bs = some r → PySem.W.kitAny K (.type a) (bs.map Value.type) = some r
  | [], _, e => by cases e; rfl
  | b :: bs, r, e => by
    unfold kitAll at e
    cases h : kitB a b with
    | none => rw [h] at e; cases e
    | some q =>
      rw [h] at e
      cases q with
      | true =>
        cases e
        exact kitAny_cons (kit_ty h) (fun z => nomatch z) (fun _ => rfl)
      | false => exact kitAny_cons (kit_ty h) (fun _ => kitAll_ok e) (fun z => nomatch z)
def gIsi : List T → Mem → Out T := fun xs m => match xs with
  | [x, .ty n] => match tyOf m x with
    | some a => match kitB a n with
      | some b => .ok (.bl b) m
      | none => .no
    | none => .no
  | _ => .no
theorem sem_isi : SemL K gIsi (rIsi K) := by
  intro W Φ Z ρ σ H m Q xs vs r rs p
  unfold gIsi at p
  split at p
  · rename_i x n
    split at p
    · rename_i a ha
      split at p
      · rename_i b hb
        obtain ⟨v, w, rfl, rv, rw'⟩ := reps2 rs
        unfold Rep at rw'
        subst rw'
        exact ⟨v, .ty n, .type a, .type n, b, rfl, .ty n, tyOf_ok r rv ha, kit_ty hb, post_ok r rep_bl p⟩
      · exact p.elim
    · exact p.elim
  · exact p.elim
/-- isinstance(e, (t1, t2, ..)), the tuple written there -/
def eIsiT (ns : List String) (f : EF) : EF := fun env m => (f env m).bind fun x m1 => match tyOf m1 x with
  | some a => match kitAll a ns with
    | some b => .ok (.bl b) m1
    | none => .no
  | none => .no
/-- names of built-in types, as arguments -/
def TysA (X : Cx) (es : List Expr) (ns : List String) : Prop := PA X es (fun _ H Q => Q (ns.map V.ty) H)
theorem tys_nil : TysA X [] [] := pa_nil
theorem tys_cons {x : Str} {n : String} {ns : List String} {pos : Pos} {es : List Expr} (h : TysA X es ns) (hm : X.mg x = none) (hv : bootBuiltins x = some (.type n) := by decide +kernel) (hg : Gl X x := by rfl) (hn : x ≠ "__name__" := by decide) (hd : (x == ("__debug__" : Str)) = false := by decide)
    (hs : starEach (.Name x pos :: es) X.env = (false, eval (.Name x pos) X.env) :: starEach es X.env := by rfl) : TysA X (.Name x pos :: es) (n :: ns) :=
  pa_imp (pa_cons (pe_bltn (v := .ty n) hg hm hv rfl hn hd) h hs) fun _ _ _ h => h
theorem tys_cls : ∀ ns : List String, Paired ClsV (ns.map V.ty) (ns.map Value.type)
  | [] => .nil
  | n :: ns => .cons (.ty n) (tys_cls ns)
theorem se_isiT {e : Expr} {es : List Expr} {ns : List String} {k : Nat} {p tpos pos : Pos} {f : EF} (he : SE X W e f) (ht : TysA X es ns) (hl : ns.length ≤ 1000) (hm : X.mg "isinstance" = none) (hg : Gl X "isinstance" := by rfl)
    (h1 : starEach [e, .Tuple es k tpos] X.env = (false, eval e X.env) :: starEach [.Tuple es k tpos] X.env := by rfl) (h2 : starEach [.Tuple es k tpos] X.env = (false, eval (.Tuple es k tpos) X.env) :: starEach [] X.env := by rfl)
    (hpl : (backTo pos (starEach [.Tuple es k tpos] X.env)).any (·.1) = false := by rfl) : SE X W (.Call (.Name "isinstance" p) [e, .Tuple es k tpos] [] pos) (eIsiT ns f) := by
  refine ⟨pe_imp (pe_callB call_isiT hg hm (by decide +kernel) (pa_cons he.pe (pa_cons (pe_tup ht) pa_nil h2) h1) (by decide) (by decide) h1 hpl) fun σ H Q ⟨Φ, Z, ρ, env, m, F, p⟩ => ?_⟩
  refine tr_bind (P := Post X.K W Φ Z ρ σ Q) F (fun x m1 Z1 ρ1 H1 vx _ e1 F1 rx p1 => ?_) (fun _ _ _ _ h => h) (fun h => h) p
  refine ⟨by rw [List.length_map]; exact Nat.le_trans hl (by decide), fun t ht => ?_⟩
  obtain ⟨r2, e2⟩ := F1.rel.allocZ ht (.tup (ns.map V.ty))
  split at p1
  · rename_i a ha
    split at p1
    · rename_i b hb
      exact ⟨vx, t, ns.map V.ty, .type a, ns.map Value.type, b, rfl, upd_same, tys_cls ns, tyOf_ok r2 (rx.ext e2) ha, kitAll_ok hb, p1 _ _ _ _ (e1.trans e2) r2 rep_bl⟩
    · exact p1.elim
  · exact p1.elim
/-! ### two names at once -/
def sPar (i j : Nat) (fs : LF) : SF := fun env m => match fs env m with
  | .ok [t, u] m1 => .nx ((env.set i (some t)).set j (some u)) m1
  | .ex C ns vs m1 => .ex C ns vs env m1
  | _ => .no
theorem ss_par {k : Nat} (i j : Nat) {x y : Str} {a b : Expr} {fs : LF} {px py pt pos : Pos} {kt k2 : Nat} {pt2 : Pos} (c : Cok X W k) (ha : SA X W [a, b] fs) (hi : X.N[i]? = some x := by rfl) (hj : X.N[j]? = some y := by rfl) (hij : i ≠ j := by decide)
    (hx : X.env.scope.names.lookup x = some .local := by rfl) (hy : X.env.scope.names.lookup y = some .local := by rfl) (hw : swappedStores [.Tuple [.Name x px, .Name y py] kt pt] (.Tuple [a, b] k2 pt2) X.env = pure (some [x, y]) := by rfl)
    (hs : swapsWithSole [.Tuple [.Name x px, .Name y py] kt pt] (.Tuple [a, b] k2 pt2) pos.line X.env = pure false := by rfl) : SS X W (.Assign [.Tuple [.Name x px, .Name y py] kt pt] (.Tuple [a, b] k2 pt2) pos) (sPar i j fs) := by
  refine ⟨ps_imp (ps_par c.calm c.nd hi hj hij hx hy ha.pa hw hs) fun D σ H ⟨Φ, Z, ρ, env, m, F, p⟩ => ⟨Φ, Z, ρ, env, m, F, ?_⟩⟩
  unfold sPar at p
  cases e : fs env m with
  | no => rw [e] at p; exact p
  | ex C ns vs m1 =>
    rw [e] at p
    exact fun Z1 ρ1 H1 d us e1 r1 rs hl hd => p Z1 ρ1 H1 σ d us e1 ⟨r1, F.env.ext e1⟩ rs hl hd
  | ok ts m1 =>
    rw [e] at p
    intro Z1 ρ1 H1 vs e1 r1 rs
    match ts, p, rs with
    | [t, u], p, rs =>
      obtain ⟨v, w, rfl, rv, rw'⟩ := reps2 rs
      exact ⟨v, w, rfl, p _ _ _ _ e1 ⟨r1, ((F.env.ext e1).set i rv).set j rw'⟩ (by simp)⟩
    | [], p, rs => exact (show False from p).elim
    | [_], p, rs => exact (show False from p).elim
    | _ :: _ :: _ :: _, p, rs => exact (show False from p).elim
/-! ### a name's list stays from here on -/
def frz (i : Nat) (env : Env) (m : Mem) : Option (Env × Mem) := match env[i]? with
  | some (some (.loc n)) => match m[n]? with
    | some (some (.lst ts)) => some (env.set i (some (.lst ts)), m.set n none)
    | _ => none
  | _ => none
def sFrz (i : Nat) (g : SF) : SF := fun env m => match frz i env m with
  | some (env1, m1) => g env1 m1
  | none => .no
theorem fits_frz {env env1 : Env} {m1 : Mem} {i : Nat} (F : Fits K Φ Z ρ σ H env m) (e : frz i env m = some (env1, m1)) : ∃ Z1, Ext Z Z1 ρ ρ ∧ Fits K Φ Z1 ρ σ H env1 m1 := by
  unfold frz at e
  split at e
  · rename_i n e1
    split at e
    · rename_i ts e2
      cases e
      obtain ⟨v, h1, h2⟩ := F.env.get i _ e1
      obtain ⟨a, vs, rfl, ha, hH, rs⟩ := cell_lst F.rel h2 e2
      obtain ⟨r2, e3⟩ := F.rel.freeze e2 ha hH
      refine ⟨_, e3, r2, ?_⟩
      have E2 := F.env.ext e3
      refine ⟨by simp [E2.len], fun j u ej => ?_⟩
      by_cases hj : i = j
      · subst hj
        have hl := (List.getElem?_eq_some_iff.mp e1).1
        rw [List.getElem?_set_self hl] at ej
        have eu : T.lst ts = u := by simpa using ej
        subst eu
        refine ⟨.ref a, h1, ?_⟩
        unfold Rep
        exact ⟨a, vs, rfl, upd_same, rs.ext e3⟩
      · rw [List.getElem?_set_ne hj] at ej
        exact E2.get j u ej
    · cases e
  · cases e
theorem ss_frz (i : Nat) {st : Stmt} {g : SF} (h : SS X W st g) : SS X W st (sFrz i g) := by
  refine ⟨ps_imp h.ps fun D σ H ⟨Φ, Z, ρ, env, m, F, p⟩ => ?_⟩
  unfold sFrz at p
  split at p
  · rename_i env1 m1 e
    obtain ⟨Z1, e1, F1⟩ := fits_frz F e
    exact ⟨Φ, Z1, ρ, env1, m1, F1, p.ext e1⟩
  · exact p.elim
end
end Ev

/-! enumerate over a tuple -/
namespace Ev
open PySem L2 RZ
variable [Wrl]
open AutoSeq1 (wpAny_loadPart')
theorem draws_tup {prog : Program} {w : World} {A : Around} (hh : A.handled = none) (it l : Addr) (hne : l ≠ it) (items : Array Value) :
    Draws prog w A it [it, l] items.size (fun i v => items[i]? = some v) (fun i h => h.IsTupleIter it l i ∧ h.IsTuple l items) where
  live := fun _ _ ⟨⟨o, ho, _⟩, _⟩ => ⟨o, ho⟩
  frame := fun i h h' st hk => by
    obtain ⟨⟨o, ho, r⟩, ⟨u, hu, r2⟩⟩ := st
    exact ⟨⟨o, hk it (by simp) o ho, r⟩, ⟨u, hk l (by simp) u hu, r2⟩⟩
  item := fun i s Q E hi st hQ => nextOf_tuple_item st.1 st.2 (x := items[i]) (by simp [hi]) fun h' a b => hQ _ h' s.toks (by simp [hi]) ⟨a, st.2.extBut b.extBut hne⟩ b
  done := fun s Q E st hE => nextOf_tuple_end hh st.1 st.2 (by simp) hE
theorem meets_enum_tup (l : Addr) (items : Array Value) (n : Nat) (dct : Option Addr) (sl : Array (Option Value)) :
    Meets (Builtin.«enumerate.__new__» ⟨[.type "enumerate", .ref l], []⟩) (fun _ R s => s.heap.get? l = some { cls := .type "tuple", dict := dct, data := .seq items n, slots := sl } ∧
      R (.ok (.ret (.ref (s.heap.push { cls := .type "tuple_iterator", data := .fields #[.ref l, .int 0 0] }).objs.size)))
        { s with heap := (s.heap.push { cls := .type "tuple_iterator", data := .fields #[.ref l, .int 0 0] }).push { cls := .type "enumerate", data := .fields #[.none, .bool false, .ref s.heap.objs.size, rawInt 0, .none, .none] } }) :=
  .of_wp fun prog w A R s h => by
    obtain ⟨hp, g, d, tk, os⟩ := s
    obtain ⟨hl, h⟩ := h
    have hsub := sub_enumerate
    have hT : Heap.IsTuple (Shared.heap ⟨hp, g, d, tk, os⟩) l items := ⟨_, hl, rfl, n, rfl⟩
    wp_walk using wpAny_loadPart' hl
    refine wpAny_stack_any fun st => wpAny_pure ?_
    split
    · rename_i c _ _ _ _ _
      cases (c == Value.type "enumerate") <;> (wp_walk using wpAny_loadPart' hl, wpAny_pyIter_tuple hT; exact ⟨_, rfl, h⟩)
    · wp_walk using wpAny_loadPart' hl, wpAny_pyIter_tuple hT
      exact ⟨_, rfl, h⟩
section
variable {prog : Program} {w : World} {A : Around} {E : Value → Shared → Prop} {s : Shared}
theorem call_enum_tup {l : Addr} {items : Array Value} {Q : Value → Shared → Prop} (hL : s.heap.IsTuple l items)
    (h : ∀ h', IsEnum h' (s.heap.objs.size + 1) s.heap.objs.size 0 .none → h'.IsTupleIter s.heap.objs.size l 0 → h'.objs.size = s.heap.objs.size + 2 →
      (∀ b o, s.heap.get? b = some o → h'.get? b = some o) → Q (.ref (s.heap.objs.size + 1)) { s with heap := h' }) : wpAny (model prog w) A (call (.type "enumerate") [.ref l]) Q E s := by
  obtain ⟨⟨c, dct, dt, sl⟩, hl, hc, n, hd⟩ := hL
  replace hc : c = .type "tuple" := hc
  replace hd : dt = .seq items n := hd
  subst hc
  subst hd
  refine callType_new F.called_enumerate (by decide) (F.typeCall_enumerate_1 _) (F.newCall_enumerate_1 _) (fun obj => F.args_object_init_2 obj _) F.entry_enumerate_new (meets_enum_tup l items n dct sl) ⟨hl, ?_⟩
  generalize h1 : s.heap.push { cls := .type "tuple_iterator", data := .fields #[.ref l, .int 0 0] } = g1
  have hz : g1.objs.size = s.heap.objs.size + 1 := by rw [← h1]; exact Heap.size_push ..
  show _ ∧ _
  have he := Heap.get?_push_size g1 (o := { cls := .type "enumerate", data := .fields #[.none, .bool false, .ref s.heap.objs.size, rawInt 0, .none, .none] }) rfl
  rw [hz] at he ⊢
  have it0 : g1.get? s.heap.objs.size = some { cls := .type "tuple_iterator", data := .fields #[.ref l, .int 0 0] } := by rw [← h1]; exact Heap.get?_push_size _ rfl
  have kp : ∀ b o, s.heap.get? b = some o → g1.get? b = some o := fun b o x => by rw [← h1]; exact Heap.get?_push_of_some _ x
  refine ⟨⟨_, he, rfl⟩, h _ he ⟨_, Heap.get?_push_of_some _ it0, rfl, rfl⟩ (by rw [Heap.size_push, hz]) fun b o x => Heap.get?_push_of_some _ (kp b o x)⟩
end
/-- as Ite, of a tuple -/
def IteT (K : PySem.W.Frag) (a : Addr) : It where
  go := fun i H => ∃ (xs : List V) (x : V), SqT K H a xs ∧ xs[i]? = some x
  yld := fun i H v H' => ∃ t x, v = .ref t ∧ H t = none ∧ H' = upd H t (.tup [.int (i : Nat), x]) ∧ ∀ xs, SqT K H a xs → xs[i]? = some x
  stop := fun i H => ∃ xs : List V, SqT K H a xs ∧ xs.length = i
theorem turn_enumT {P : Program} {w : World} {K : PySem.W.Frag} {elts : List Expr} {kk : Nat} {tpos : Pos} (a e it : Addr) :
    Turn P w K (.Tuple elts kk tpos) (IteT K a) [e, it] e (fun i h => (∃ old, IsEnum h e it ((i : Nat) : Int) old) ∧ h.IsTupleIter it a i ∧ e ≠ it ∧ a ≠ it ∧ a ≠ e) where
  mem := by simp
  obj := fun i h ⟨⟨old, he⟩, ⟨o, ho, hc, hd⟩, _⟩ b hb => by
    rcases (show b = e ∨ b = it by simpa using hb) with z | z
    · rw [z]; exact ⟨_, he, fun v q => nomatch q⟩
    · rw [z]; exact ⟨o, ho, fun v q => by rw [hd] at q; cases q⟩
  keep := fun i h h' ⟨⟨old, he⟩, ⟨o, ho, r⟩, hne⟩ k => ⟨⟨old, k e (by simp) _ he⟩, ⟨o, k it (by simp) _ ho, r⟩, hne⟩
  item := by
    intro X hP hw hK hc i pins s σ H E I hf ⟨⟨old, he⟩, hit, hne, hai, hae⟩ ⟨xs, x, hq, hx⟩
    subst hP hw hK
    obtain ⟨its, rv, p, hz⟩ := I.tuple hq
    obtain ⟨u, hu, ru⟩ := rv.get hx
    have hel : e < s.heap.objs.size := Heap.lt_size he
    have hil : it < s.heap.objs.size := by obtain ⟨_, q, _⟩ := hit; exact Heap.lt_size q
    have hlt : i < its.toArray.size := by
      have := (List.getElem?_eq_some_iff.mp hu).1
      simpa using this
    have hh : X.A.in1.handled = none := I.ok.hd hc
    refine wpAny_pyNext_enum_itemD (draws_tup hh it a hai its.toArray) he ⟨hit, p⟩ hlt hne (by simp [hne, hae.symm]) fun y h' tk hy ho st hT hsz hk => ⟨_, rfl, ?_⟩
    have ey : y = u := by
      have hu' : its.toArray[i]? = some u := by simpa using hu
      rw [hu'] at hy; exact (Option.some.inj hy).symm
    subst ey
    refine wpAny_letOwnedTupleGo_enum (s := { s with heap := h', toks := tk + 1 }) ho fun h'' he' sb => ?_
    have hT2 : h''.get? s.heap.objs.size = some { cls := .type "tuple", data := .seq #[.int i tk, y] } := (sb.2 _ (Nat.ne_of_gt hel)).trans hT
    have new : ObjOk X.prog X.w (upd H s.heap.objs.size (.tup [.int (i : Nat), x])) h'' s.heap.objs.size (.tup [.int (i : Nat), x]) :=
      ⟨by show 2 ≤ sizeLine; decide, [.int i tk, y], .cons ⟨_, rfl⟩ (.cons ru .nil), ⟨_, hT2, rfl, _, rfl⟩⟩
    have kp : ∀ b ob, b ∉ [e, it] → s.heap.get? b = some ob → h''.get? b = some ob := fun b ob hb q =>
      (sb.2 b (fun z => hb (by simp [z]))).trans (hk b ob (fun z => hb (by simp [z])) (fun z => hb (by simp [z])) q)
    refine ⟨.ref s.heap.objs.size, _, I.turnedNew (t' := tk + 1) kp hf (Nat.le_refl _) new, rfl, ⟨_, x, rfl, I.hok.fresh (Nat.le_refl _), rfl, fun ys hy => by rw [I.tuple_inj hy hq]; exact hx⟩, ⟨⟨y, ?_⟩, ?_, hne, hai, hae⟩, fun b hb => ?_⟩
    · have e1 : ((i + 1 : Nat) : Int) = (i : Int) + 1 := by omega
      rw [e1]; exact he'
    · obtain ⟨⟨o1, ho1, r1⟩, _⟩ := st
      exact ⟨o1, (sb.2 it (Ne.symm hne)).trans ho1, r1⟩
    · have hb' : b < s.heap.objs.size := by
        rcases (show b = e ∨ b = it by simpa using hb) with z | z
        · rw [z]; exact hel
        · rw [z]; exact hil
      rw [upd_ne (Nat.ne_of_lt hb')]
      exact (hf b hb).1
  done := by
    intro X hP hw hK hc i pins s σ H E I hf ⟨⟨old, he⟩, hit, hne, hai, hae⟩ ⟨xs, hq, hx⟩
    subst hP hw hK
    obtain ⟨its, rv, p, hz⟩ := I.tuple hq
    obtain ⟨f0, f1, f2, f3, f4, f5⟩ := hf it (by simp)
    have hh : X.A.in1.handled = none := I.ok.hd hc
    have hn : its.toArray.size = i := by rw [List.size_toArray, ← rv.length]; exact hx
    refine wpAny_pyNext_enum_endD (draws_tup hh it a hai its.toArray) he ⟨by rw [hn]; exact hit, p⟩ fun h' eb => ⟨rfl, I.turned (t' := s.toks) (fun b o hb q => eb b o hb q) f0 f1 f3 f4 f5⟩
  self := fun A i s Q E st h => let ⟨⟨_, he⟩, _⟩ := st; wpAny_pyIter_enum he h
/-- enumerate(t) over a list or a tuple -/
def iEnumT (K : PySem.W.Frag) (ta : TA) : TI := fun σ H R => ta σ H fun vs H1 => ∃ a xs, vs = [.ref a] ∧ SqT K H1 a xs ∧ R (IteT K a) H1
section
variable {X : Cx} {W : WX}
theorem pi_enumT {e : Expr} {ta : TA} {p pos tpos : Pos} {elts : List Expr} {kk : Nat} (hg : Gl X "enumerate") (hm : X.mg "enumerate" = none) (ha : PA X [e] ta) (hs : starEach [e] X.env = [(false, eval e X.env)]) :
    PI X (.Tuple elts kk tpos) (.Call (.Name "enumerate" p) [e] [] pos) (iEnumT X.K ta) := by
  refine ⟨fun pins s σ H R I h => PyProof.Rows.Call_ (ld_blt I hg hm PyProof.Rows.boot_enumerate (PyProof.Rows.callWith_type1 (thn (ha.run pos pins s σ H _ I h) fun us s1 ⟨vs, H1, I1, r1, a, xs, ex, hq, q⟩ => ?_) hs rfl))⟩
  subst ex
  rw [Vals.ref1 r1]
  obtain ⟨its, rv, p', hz⟩ := I1.tuple hq
  have hal : a < s1.heap.objs.size := p'.lt
  refine call_enum_tup p' fun h' he hit hsz hk => wpAny_pyIter_enum he ?_
  have I2 : Inv X pins σ H1 { s1 with heap := h' } := I1.kept (t' := s1.toks) hk
  refine ⟨s1.heap.objs.size + 1, [s1.heap.objs.size + 1, s1.heap.objs.size], _, _, H1, rfl, I2, turn_enumT a (s1.heap.objs.size + 1) s1.heap.objs.size, ⟨⟨.none, he⟩, hit, Nat.succ_ne_self _, Nat.ne_of_lt hal, Nat.ne_of_lt (Nat.lt_succ_of_lt hal)⟩, fun b hb => ?_, q⟩
  have hle : s1.heap.objs.size ≤ b := by
    rcases (show b = s1.heap.objs.size + 1 ∨ b = s1.heap.objs.size by simpa using hb) with z | z
    · rw [z]; exact Nat.le_add_right _ _
    · rw [z]; exact Nat.le_refl _
  exact I1.fpOk hle (I1.hok.fresh hle)
def enumT (n : Nat) : List T → List T
  | [] => []
  | t :: ts => .tup [.int (n : Nat), t] :: enumT (n + 1) ts
theorem enumT_get : ∀ (ts : List T) (n i : Nat), (enumT n ts)[i]? = ts[i]?.map fun t => .tup [.int ((n + i : Nat) : Int), t]
  | [], n, i => by simp [enumT]
  | t :: ts, n, 0 => by simp [enumT]
  | t :: ts, n, i + 1 => by
    rw [enumT, List.getElem?_cons_succ, List.getElem?_cons_succ, enumT_get ts (n + 1) i]
    have e : n + 1 + i = n + (i + 1) := by omega
    rw [e]
theorem enumT_len : ∀ (ts : List T) (n : Nat), (enumT n ts).length = ts.length
  | [], _ => rfl
  | t :: ts, n => by simp [enumT, enumT_len ts]
theorem wk_new {K : PySem.W.Frag} {Φ Z1 : Hp} {ρ1 : List Addr} {H : Hp} {m : Mem} (r : Rel K Φ Z1 ρ1 H m) {p : Addr} (hp : H p = none) {ts : List T} {vs : List V} (rs : Reps K Z1 ρ1 ts vs) :
    ∃ Z2, Ext Z1 Z2 ρ1 ρ1 ∧ Rel K Φ Z2 ρ1 (upd H p (.tup vs)) m ∧ Rep K Z2 ρ1 (.tup ts) (.ref p) := by
  obtain ⟨r2, e2⟩ := r.allocZ hp (.tup vs)
  refine ⟨_, e2, r2, ?_⟩
  unfold Rep
  exact ⟨p, vs, rfl, .of upd_same, rs.ext e2⟩
theorem wk_enumL {K : PySem.W.Frag} {Z : Hp} {ρ : List Addr} {a : Addr} {vs : List V} {ts : List T} (h : SqL K Z a vs) (rs : Reps K Z ρ ts vs) : Wk K Z ρ (Ite K a) (enumT 0 ts) := fun Φ Z1 ρ1 H m i e r => by
  have q : SqL K H a vs := r.same.seq (e.z.seq h)
  refine ⟨fun hi => ⟨vs, q, by rw [hi, enumT_len, rs.length]; exact Nat.le_refl _⟩, fun t ht => ?_⟩
  rw [enumT_get] at ht
  obtain ⟨u, hu, rfl⟩ := Option.map_eq_some_iff.mp ht
  obtain ⟨v, h1, h2⟩ := rs.get hu
  refine ⟨⟨vs, v, q, h1⟩, fun x H' ⟨p, y, e1, hp, e3, hy⟩ => ?_⟩
  have ey : v = y := by have := hy vs q; rw [h1] at this; exact Option.some.inj this
  subst ey; subst e1; subst e3
  have := wk_new r hp (ts := [.int ((0 + i : Nat) : Int), u]) (vs := [.int (i : Nat), v]) (.cons (by rw [Nat.zero_add]; exact rep_int) (.cons (h2.ext e) .nil))
  exact this
theorem wk_enumT {K : PySem.W.Frag} {Z : Hp} {ρ : List Addr} {a : Addr} {vs : List V} {ts : List T} (h : SqT K Z a vs) (rs : Reps K Z ρ ts vs) : Wk K Z ρ (IteT K a) (enumT 0 ts) := fun Φ Z1 ρ1 H m i e r => by
  have q : SqT K H a vs := Same.sqt r.same (Same.sqt e.z h)
  refine ⟨fun hi => ⟨vs, q, by rw [hi, enumT_len, rs.length]⟩, fun t ht => ?_⟩
  rw [enumT_get] at ht
  obtain ⟨u, hu, rfl⟩ := Option.map_eq_some_iff.mp ht
  obtain ⟨v, h1, h2⟩ := rs.get hu
  refine ⟨⟨vs, v, q, h1⟩, fun x H' ⟨p, y, e1, hp, e3, hy⟩ => ?_⟩
  have ey : v = y := by have := hy vs q; rw [h1] at this; exact Option.some.inj this
  subst ey; subst e1; subst e3
  exact wk_new r hp (ts := [.int ((0 + i : Nat) : Int), u]) (vs := [.int (i : Nat), v]) (.cons (by rw [Nat.zero_add]; exact rep_int) (.cons (h2.ext e) .nil))
def gEn : List T → Mem → Out (List T) := fun ts m1 => match ts with
  | [.lst us] => .ok (enumT 0 us) m1
  | [.rls us] => .ok (enumT 0 us) m1
  | [.tup us] => .ok (enumT 0 us) m1
  | _ => .no
def iEnumA (fs : LF) : LF := fun env m => (fs env m).bind gEn
theorem si_enum {e : Expr} {fs : LF} {p pos tpos : Pos} {elts : List Expr} {kk : Nat} (ha : SA X W [e] fs) (hm : X.mg "enumerate" = none) (hg : Gl X "enumerate" := by rfl) (hs : starEach [e] X.env = [(false, eval e X.env)] := by rfl) :
    SI X W (.Tuple elts kk tpos) (.Call (.Name "enumerate" p) [e] [] pos) (iEnumA fs) := by
  refine ⟨_, pi_or (pi_enum hg hm ha.pa hs) (pi_enumT hg hm ha.pa hs), fun Φ Z ρ σ H env m R F p => ?_⟩
  have key : ∀ (R' : List V → Hp → Prop), (∀ ts m1 Z1 ρ1 H1 vs, fs env m = .ok ts m1 → Ext Z Z1 ρ ρ1 → Fits X.K Φ Z1 ρ1 σ H1 env m1 → Reps X.K Z1 ρ1 ts vs → PostI X.K W Φ Z1 ρ1 σ R (gEn ts m1) → R' vs H1) → trL X.K W fs σ H R' := by
    intro R' hk
    refine trL_bind (P := PostI X.K W Φ Z ρ σ R) F (fun ts m1 Z1 ρ1 H1 vs e0 e1 F1 r p1 => hk ts m1 Z1 ρ1 H1 vs e0 e1 F1 r ?_) (fun _ _ _ _ h => h) (fun h => h) p
    cases hi : gEn ts m1 with
    | ok us m2 => rw [hi] at p1; exact fun Z2 ρ2 H2 J e2 => p1 Z2 ρ2 H2 J (e1.trans e2)
    | ex _ _ _ _ => rw [hi] at p1; exact fun Z2 ρ2 H2 d us e2 => p1 Z2 ρ2 H2 d us (e1.trans e2)
    | no => rw [hi] at p1; exact p1
  cases e0 : fs env m with
  | no => unfold iEnumA at p; rw [e0] at p; exact p.elim
  | ex C ns vs m1 => exact .inl (key _ fun ts m1 Z1 ρ1 H1 vs e1 => by rw [e0] at e1; cases e1)
  | ok ts m1 =>
    have hp : PostI X.K W Φ Z ρ σ R (gEn ts m1) := by unfold iEnumA at p; rw [e0] at p; exact p
    match ts, e0, hp with
    | [.lst us], e0, _ =>
      refine .inl (key _ fun ts m1 Z1 ρ1 H1 vs e1 e F1 r p1 => ?_)
      rw [e0] at e1; cases e1
      obtain ⟨v, rfl, rv⟩ := reps1 r
      unfold Rep at rv
      obtain ⟨a, ws, rfl, q, rs⟩ := rv
      exact ⟨a, ws, rfl, .of (F1.rel.zin _ _ q), p1 _ _ _ _ Ext.refl F1.rel (wk_enumL (.of q) rs)⟩
    | [.rls us], e0, _ =>
      refine .inl (key _ fun ts m1 Z1 ρ1 H1 vs e1 e F1 r p1 => ?_)
      rw [e0] at e1; cases e1
      obtain ⟨v, rfl, rv⟩ := reps1 r
      unfold Rep at rv
      obtain ⟨a, ws, rfl, q, rs⟩ := rv
      exact ⟨a, ws, rfl, F1.rel.same.seq q, p1 _ _ _ _ Ext.refl F1.rel (wk_enumL q rs)⟩
    | [.tup us], e0, _ =>
      refine .inr (key _ fun ts m1 Z1 ρ1 H1 vs e1 e F1 r p1 => ?_)
      rw [e0] at e1; cases e1
      obtain ⟨v, rfl, rv⟩ := reps1 r
      unfold Rep at rv
      obtain ⟨a, ws, rfl, q, rs⟩ := rv
      exact ⟨a, ws, rfl, Same.sqt F1.rel.same q, p1 _ _ _ _ Ext.refl F1.rel (wk_enumT q rs)⟩
    | [], e0, hp => exact (show False from hp).elim
    | [.non], e0, hp => exact (show False from hp).elim
    | [.bl _], e0, hp => exact (show False from hp).elim
    | [.int _], e0, hp => exact (show False from hp).elim
    | [.str _], e0, hp => exact (show False from hp).elim
    | [.ty _], e0, hp => exact (show False from hp).elim
    | [.dct _ _], e0, hp => exact (show False from hp).elim
    | [.ins _ _ _], e0, hp => exact (show False from hp).elim
    | [.loc _], e0, hp => exact (show False from hp).elim
    | a :: b :: c, e0, hp => cases a <;> exact (show False from hp).elim
end
end Ev

/-! own classes: attributes, methods, properties, new instances -/
namespace Ev
open PySem L2
variable [Wrl]
section
variable {K : PySem.W.Frag} {W : WX} {Φ Z : Hp} {ρ : List Addr} {σ : L2.St} {H : Hp} {m : Mem} {X : Cx}
/-- the attribute f among the names -/
def fld (f : Str) : List Str → List T → Option T
  | n :: ns, t :: ts => if eqS f n then some t else fld f ns ts
  | _, _ => none
theorem fld_ok {f : Str} : ∀ {ns : List Str} {ts : List T} {vs : List V} {t : T}, Reps K Z ρ ts vs → fld f ns ts = some t → ∃ v, (ns.zip vs).lookup f = some v ∧ Rep K Z ρ t v
  | [], _, _, _, _, e => by cases e
  | _ :: _, [], _, _, _, e => by cases e
  | n :: ns, t :: ts, _, u, h, e => by
    unfold Reps at h
    obtain ⟨v, vs, rfl, r, rs⟩ := h
    unfold fld at e
    rw [List.zip_cons_cons, List.lookup_cons]
    split at e
    · rename_i h
      cases e
      have h := eqS_iff.mp h
      subst h
      exact ⟨v, by simp, r⟩
    · rename_i h
      have : (f == n) = false := beq_eq_false_iff_ne.mpr fun z => h (eqS_iff.mpr z)
      rw [this]
      exact fld_ok rs e
theorem fld_no {f : Str} : ∀ {ns : List Str} {vs : List V}, f ∉ ns → (ns.zip vs).lookup f = none
  | [], _, _ => rfl
  | _ :: _, [], _ => rfl
  | n :: ns, v :: vs, h => by
    rw [List.zip_cons_cons, List.lookup_cons]
    have : (f == n) = false := beq_eq_false_iff_ne.mpr fun z => h (by rw [z]; exact List.mem_cons_self)
    rw [this]
    exact fld_no fun z => h (List.mem_cons_of_mem _ z)
def memS (f : Str) (ns : List Str) : Bool := ns.any fun n => eqS f n
theorem memS_not {f : Str} {ns : List Str} (h : (!memS f ns) = true) : f ∉ ns := fun z => by
  have : memS f ns = true := List.any_eq_true.mpr ⟨f, z, eqS_iff.mpr rfl⟩
  rw [this] at h; cases h
/-- an instance's class and attributes -/
def asIns (m : Mem) : T → Option (Str × List Str × List T)
  | .ins c ns ts => some (c, ns, ts)
  | .loc n => match m[n]? with
    | some (some (.ins c ns ts)) => some (c, ns, ts)
    | _ => none
  | _ => none
theorem asIns_ok (r : Rel K Φ Z ρ H m) {t : T} {v : V} {c : Str} {ns : List Str} {ts : List T} (h : Rep K Z ρ t v) (e : asIns m t = some (c, ns, ts)) :
    ∃ a C dx vs, v = .ref a ∧ CAt K c C ∧ H a = some (.ins C dx (ns.zip vs)) ∧ ns.length = vs.length ∧ Reps K Z ρ ts vs := by
  cases t with
  | ins c' ns' ts' =>
    cases e
    unfold Rep at h
    obtain ⟨a, C, dx, vs, rfl, k, q, hl, rs⟩ := h
    exact ⟨a, C, dx, vs, rfl, k, r.zin _ _ q, hl, rs⟩
  | loc n =>
    unfold Rep at h
    obtain ⟨a, ha, rfl⟩ := h
    unfold asIns at e
    simp only at e
    split at e
    · rename_i c' ns' ts' em
      cases e
      obtain ⟨_, C, dx, vs, q, k, hl, rs⟩ := r.mem n _ a em ha
      exact ⟨a, C, dx, vs, rfl, k, q, hl, rs⟩
    · cases e
  | _ => cases e
/-- what is known of a class of the program -/
structure ClsT (K : PySem.W.Frag) (c : Str) : Prop where
  ex : ∃ C, CAt K c C ∧ Cls K C
def NoA (K : PySem.W.Frag) (c : Str) (f : Str) : Prop := ∀ C, CAt K c C → NoAttr K C f
/-- e.f, an attribute of an instance of the class c -/
def eFld (c f : Str) (fe : EF) : EF := fun env m => (fe env m).bind fun x m1 => match asIns m1 x with
  | some (d, ns, ts) => if eqS d c then match fld f ns ts with
    | some t => .ok t m1
    | none => .no else .no
  | none => .no
theorem se_fld {c f : Str} {e : Expr} {fe : EF} {pos : Pos} (hc : ClsT X.K c) (hn : NoA X.K c f) (he : SE X W e fe) (hb : attributeBase e f X.env (eval e X.env) = eval e X.env := by rfl) : SE X W (.Attribute e f pos) (eFld c f fe) := by
  refine ⟨pe_imp (pe_fld he.pe hb) fun σ H Q ⟨Φ, Z, ρ, env, m, F, p⟩ => ?_⟩
  refine tr_bind (P := Post X.K W Φ Z ρ σ Q) F (fun x m1 Z1 ρ1 H1 vx _ e1 F1 rx p1 => ?_) (fun _ _ _ _ h => h) (fun h => h) p
  split at p1
  · rename_i d ns ts hi
    split at p1
    · rename_i hd
      have hd := eqS_iff.mp hd
      subst hd
      split at p1
      · rename_i t ht
        obtain ⟨a, C, dx, vs, rfl, k, q, hl, rs⟩ := asIns_ok F1.rel rx hi
        obtain ⟨v, h1, h2⟩ := fld_ok rs ht
        obtain ⟨C', k', hcl⟩ := hc.ex
        have := k.inj k'
        subst this
        exact ⟨a, C, dx, _, v, rfl, q, hcl, hn C k, h1, p1 _ _ _ _ e1 F1.rel h2⟩
      · exact p1.elim
    · exact p1.elim
  · exact p1.elim
/-- self.f = e -/
def putN (f : Str) (t : T) : List Str → List T → List Str × List T
  | n :: ns, u :: us => if eqS f n then (n :: ns, t :: us) else let (a, b) := putN f t ns us; (n :: a, u :: b)
  | _, _ => ([f], [t])
theorem putN_ok {f : Str} {t : T} {v : V} (rt : Rep K Z ρ t v) : ∀ {ns : List Str} {ts : List T} {vs : List V}, ns.length = vs.length → Reps K Z ρ ts vs →
    ∃ ws, putF f v (ns.zip vs) = (putN f t ns ts).1.zip ws ∧ (putN f t ns ts).1.length = ws.length ∧ Reps K Z ρ (putN f t ns ts).2 ws
  | [], ts, vs, hl, rs => by
    cases vs with
    | nil =>
      have := rs.length
      cases ts with
      | nil => exact ⟨[v], rfl, rfl, .cons rt .nil⟩
      | cons _ _ => cases this
    | cons _ _ => cases hl
  | n :: ns, ts, vs, hl, rs => by
    cases vs with
    | nil => cases hl
    | cons w ws =>
      cases ts with
      | nil => have := rs.length; cases this
      | cons u us =>
        have rs0 := rs
        unfold Reps at rs
        obtain ⟨v', ws', e0, r, rs⟩ := rs
        cases e0
        unfold putN
        show ∃ zs, (if n = f then (n, v) :: ns.zip ws else (n, w) :: putF f v (ns.zip ws)) = _ ∧ _
        by_cases h : f = n
        · subst h
          rw [if_pos rfl, if_pos (eqS_iff.mpr rfl)]
          exact ⟨v :: ws, rfl, by simpa using hl, .cons rt rs⟩
        · rw [if_neg (fun z => h z.symm), if_neg (fun z => h (eqS_iff.mp z))]
          obtain ⟨zs, h1, h2, h3⟩ := putN_ok rt (ns := ns) (by simpa using hl) rs
          exact ⟨w :: zs, by rw [h1]; rfl, by simpa using h2, .cons r h3⟩
def sFldT (c f : Str) (fe fo : EF) : SF := sOf fe fun t env m1 => match fo env m1 with
  | .ok (.loc n) m2 => match m2[n]? with
    | some (some (.ins d ns ts)) => if eqS d c && decide (ns.length < 900) then .nx env (m2.set n (some (.ins d (putN f t ns ts).1 (putN f t ns ts).2))) else .no
    | _ => .no
  | _ => .no
theorem ss_fld {c f : Str} {o e : Expr} {fe fo : EF} {pos pos' : Pos} (hc : ClsT X.K c) (hn : NoA X.K c f) (he : SE X W e fe) (ho : SE X W o fo) (hs : swapsWith e (some (.Attribute o f pos')) pos.line X.env = pure false := by rfl) : SS X W (.Assign [.Attribute o f pos'] e pos) (sFldT c f fe fo) := by
  refine ⟨ps_imp (ps_fld ho.pe he.pe hs) fun D σ H h => trS_bind (fun Φ Z1 ρ1 H1 env m1 t v F r p => ?_) h⟩
  show tr X.K W fo σ H1 fun ov H2 => ∃ a C dx fs, ov = V.ref a ∧ H2 a = some (.ins C dx fs) ∧ Cls X.K C ∧ NoAttr X.K C f ∧ fs.length < 1000 ∧ D.nx σ (upd H2 a (.ins C dx (putF f v fs)))
  cases eo : fo env m1 with
  | no => simp only [eo] at p; exact p.elim
  | ex _ _ _ _ => simp only [eo] at p; exact p.elim
  | ok to m2 =>
    simp only [eo] at p
    refine ⟨Φ, Z1, ρ1, env, m1, F, ?_⟩
    rw [eo]
    intro Z2 ρ2 H2 vo e2 r2 ro
    cases to with
    | loc n =>
      simp only at p
      split at p
      · rename_i d ns ts em
        split at p
        · rename_i hd
          rw [Bool.and_eq_true] at hd
          have hl9 := of_decide_eq_true hd.2
          obtain rfl := eqS_iff.mp hd.1
          unfold Rep at ro
          obtain ⟨a, ha, rfl⟩ := ro
          obtain ⟨hz, C, dx, vs, q, k, hl, rs⟩ := r2.mem n _ a em ha
          obtain ⟨C', k', hcl⟩ := hc.ex
          have := k.inj k'
          subst this
          obtain ⟨ws, w1, w2, w3⟩ := putN_ok (f := f) (r.ext e2) hl rs
          refine ⟨a, C, dx, _, rfl, q, hcl, hn C k, by rw [List.length_zip, ← hl, Nat.min_self]; omega, ?_⟩
          rw [w1]
          exact p _ _ _ _ e2 ⟨r2.write em ha (u := .ins d _ _) ⟨C, dx, ws, rfl, k, w2, w3⟩, F.env.ext e2⟩ rfl
        · exact p.elim
      · exact p.elim
    | _ => exact (show False from p).elim
/-! ### methods -/
structure MethOk (P : Program) (w : World) (K : PySem.W.Frag) (mg : Str → Option Value) (base : Heap) (n k : Nat) (c mn : Str) (F : FS) : Prop where
  ok : ∃ (C f : Addr) (fd : FuncData) (ps : List Str), ps.length = n ∧ CAt K c C ∧ Cls K C ∧ Meth K C mn f ∧ FnOk P w K mg base (L2.CX P w) k f fd ps (spF K n F) ∧ Binds K fd ps []
def eMethO (c mn : Str) (n : Nat) (F : FS) (fo : EF) (fs : LF) : EF := fun env m => (fo env m).bind fun x m1 => match asIns m1 x with
  | some (d, ns, _) => if eqS d c && !memS mn ns then (fs env m1).bind fun ts m2 => if ts.length + 1 = n then F (x :: ts) m2 else .no else .no
  | none => .no
theorem pe_methS {CX : CXT} {k : Nat} {f C : Addr} {fd : FuncData} {ps : List Str} {sp : Sp} {E : L2.St → XK} {mn : Str} {pos apos : Pos} {e o : Expr} {es : List Expr} {ta : TE} {t : TA} {pl : Sem Bool} (he : PE X o ta) (c : Cls X.K C) (hm : Meth X.K C mn f)
    (F : FnOk X.prog X.w X.K X.mg X.base CX k f fd ps sp) (hr : Room k X.A) (hb : Binds X.K fd ps []) (hx : ∀ σ, PassesAt CX X σ (E σ)) (ha : PA X (e :: es) t)
    (hst : starEach (e :: es) X.env = (false, eval e X.env) :: starEach es X.env) (hpl : (backTo pos (starEach es X.env)).any (·.1) = false)
    (ht : eval (.Call (.Attribute o mn apos) (e :: es) [] pos) X.env = (do let ov ← eval o X.env; standAt apos.atName; let (f, first) ← holding [ov] (getMethod ov mn pl); callWith pos f first (backTo pos (starEach (e :: es) X.env)) (backToKw pos (keywordEach [] X.env)))) :
    PE X (.Call (.Attribute o mn apos) (e :: es) [] pos) (fun σ H Q => ta σ H fun x H1 => ∃ a dx fs, x = .ref a ∧ H1 a = some (.ins C dx fs) ∧ fs.lookup mn = none ∧ t σ H1 fun vs H2 => sp (x :: vs) H2 Q (E σ)) := by
  refine ⟨fun pins s σ H Q I h => PySem.W.methodCall_KW (pl := pl) (thn (he.run pins s σ H _ I h) fun u s1 ⟨x, H1, I1, rx, a, dx, fs, ex, ea, l, q⟩ => ?_) ht⟩
  subst ex
  obtain rfl : u = Value.ref a := rx
  refine getmeth_ok I1 ea c hm l (PySem.W.callWith_K (first := [.ref a]) (h₀ := X.base) I.ok.mod.kin hm.kp (thn (ha.run pos pins s1 σ H1 _ I1 q) fun us s2 ⟨vs, H2, I2, r, q2⟩ => ⟨I2.kIn, ?_⟩) hst hpl)
  exact run_fnS (us := .ref a :: us) (vs := .ref a :: vs) F hr hb (hx σ) I2 (.cons rfl r) q2
theorem se_methO {k j n : Nat} {c mn : Str} {F : FS} {o e : Expr} {es : List Expr} {fo : EF} {fs : LF} {apos pos : Pos} {pl : Sem Bool} (ck : Cok X W k) (D : MethOk X.prog X.w X.K X.mg X.base n j c mn F) (ho : SE X W o fo) (ha : SA X W (e :: es) fs) (hj : j ≤ k := by decide)
    (hst : starEach (e :: es) X.env = (false, eval e X.env) :: starEach es X.env := by rfl) (hpl : (backTo pos (starEach es X.env)).any (·.1) = false := by rfl)
    (ht : eval (.Call (.Attribute o mn apos) (e :: es) [] pos) X.env = (do let ov ← eval o X.env; standAt apos.atName; let (f, first) ← holding [ov] (getMethod ov mn pl); callWith pos f first (backTo pos (starEach (e :: es) X.env)) (backToKw pos (keywordEach [] X.env))) := by rfl) :
    SE X W (.Call (.Attribute o mn apos) (e :: es) [] pos) (eMethO c mn n F fo fs) := by
  obtain ⟨C, f, fd, ps, hn, hC, hcl, hm, hF, hb⟩ := D.ok
  refine ⟨pe_imp (pe_methS ho.pe hcl hm hF (ck.room.mono hj) hb (fun σ => passAt ck.tk σ) ha.pa hst hpl ht) fun σ H Q ⟨Φ, Z, ρ, env, m, Fi, p⟩ => ?_⟩
  refine tr_bind (P := Post X.K W Φ Z ρ σ Q) Fi (fun x m1 Z1 ρ1 H1 vx _ e1 F1 rx p1 => ?_) (fun _ _ _ _ h => h) (fun h => h) p
  split at p1
  · rename_i d ns ts0 hi
    split at p1
    · rename_i hd
      rw [Bool.and_eq_true] at hd
      have hno := memS_not hd.2
      obtain rfl := eqS_iff.mp hd.1
      obtain ⟨a, C', dx, us, rfl, k', q, hl, rs⟩ := asIns_ok F1.rel rx hi
      have := k'.inj hC
      subst this
      refine ⟨a, dx, _, rfl, q, fld_no hno, ?_⟩
      refine trL_bind (P := Post X.K W Φ Z1 ρ1 σ Q) F1 (fun ts m2 Z2 ρ2 H2 vs _ e2 F2 rts p2 => ?_) (fun _ _ _ _ h => h) (fun h => h) (p1.ext e1)
      split at p2
      · rename_i hlen
        have rxs : Reps X.K Z2 ρ2 (x :: ts) (.ref a :: vs) := .cons (rx.ext e2) rts
        exact ⟨Φ, Z2, ρ2, m2, x :: ts, F2.rel, rxs, by rw [← rxs.length]; exact hlen, post_w (p2.ext e2)⟩
      · exact p2.elim
    · exact p1.elim
  · exact p1.elim
theorem pe_methS0 {CX : CXT} {k : Nat} {f C : Addr} {fd : FuncData} {ps : List Str} {sp : Sp} {E : L2.St → XK} {mn : Str} {pos apos : Pos} {o : Expr} {ta : TE} {pl : Sem Bool} (he : PE X o ta) (c : Cls X.K C) (hm : Meth X.K C mn f)
    (F : FnOk X.prog X.w X.K X.mg X.base CX k f fd ps sp) (hr : Room k X.A) (hb : Binds X.K fd ps []) (hx : ∀ σ, PassesAt CX X σ (E σ))
    (ht : eval (.Call (.Attribute o mn apos) [] [] pos) X.env = (do let ov ← eval o X.env; standAt apos.atName; let (f, first) ← holding [ov] (getMethod ov mn pl); callWith pos f first (backTo pos (starEach [] X.env)) (backToKw pos (keywordEach [] X.env)))) :
    PE X (.Call (.Attribute o mn apos) [] [] pos) (fun σ H Q => ta σ H fun x H1 => ∃ a dx fs, x = .ref a ∧ H1 a = some (.ins C dx fs) ∧ fs.lookup mn = none ∧ sp [x] H1 Q (E σ)) := by
  refine ⟨fun pins s σ H Q I h => PySem.W.methodCall_KW (pl := pl) (thn (he.run pins s σ H _ I h) fun u s1 ⟨x, H1, I1, rx, a, dx, fs, ex, ea, l, q⟩ => ?_) ht⟩
  subst ex
  obtain rfl : u = Value.ref a := rx
  exact getmeth_ok I1 ea c hm l (PySem.W.callWith_K0 (first := [.ref a]) I1.kIn hm.kp (run_fnS (us := [.ref a]) (vs := [.ref a]) F hr hb (hx σ) I1 (.cons rfl .nil) q))
theorem se_methO0 {k j n : Nat} {c mn : Str} {F : FS} {o : Expr} {fo : EF} {apos pos : Pos} {pl : Sem Bool} (ck : Cok X W k) (D : MethOk X.prog X.w X.K X.mg X.base n j c mn F) (ho : SE X W o fo) (hj : j ≤ k := by decide)
    (ht : eval (.Call (.Attribute o mn apos) [] [] pos) X.env = (do let ov ← eval o X.env; standAt apos.atName; let (f, first) ← holding [ov] (getMethod ov mn pl); callWith pos f first (backTo pos (starEach [] X.env)) (backToKw pos (keywordEach [] X.env))) := by rfl) :
    SE X W (.Call (.Attribute o mn apos) [] [] pos) (eMethO c mn n F fo lNil) := by
  obtain ⟨C, f, fd, ps, hn, hC, hcl, hm, hF, hb⟩ := D.ok
  refine ⟨pe_imp (pe_methS0 ho.pe hcl hm hF (ck.room.mono hj) hb (fun σ => passAt ck.tk σ) ht) fun σ H Q ⟨Φ, Z, ρ, env, m, Fi, p⟩ => ?_⟩
  refine tr_bind (P := Post X.K W Φ Z ρ σ Q) Fi (fun x m1 Z1 ρ1 H1 vx _ e1 F1 rx p1 => ?_) (fun _ _ _ _ h => h) (fun h => h) p
  split at p1
  · rename_i d ns ts0 hi
    split at p1
    · rename_i hd
      rw [Bool.and_eq_true] at hd
      have hno := memS_not hd.2
      obtain rfl := eqS_iff.mp hd.1
      obtain ⟨a, C', dx, us, rfl, k', q, hl, rs⟩ := asIns_ok F1.rel rx hi
      have := k'.inj hC
      subst this
      refine ⟨a, dx, _, rfl, q, fld_no hno, ?_⟩
      have p2 : Post X.K W Φ Z ρ σ Q (if ([] : List T).length + 1 = n then F [x] m1 else .no) := p1
      split at p2
      · rename_i hlen
        have rxs : Reps X.K Z1 ρ1 [x] [.ref a] := .cons rx .nil
        exact ⟨Φ, Z1, ρ1, m1, [x], F1.rel, rxs, by rw [← rxs.length]; exact hlen, post_w (p2.ext e1)⟩
      · exact p2.elim
    · exact p1.elim
  · exact p1.elim
/-! ### a property -/
structure PropOk (P : Program) (w : World) (K : PySem.W.Frag) (mg : Str → Option Value) (base : Heap) (k : Nat) (c f : Str) (F : FS) : Prop where
  ok : ∃ (C p g : Addr) (fd : FuncData) (ps : List Str), ps.length = 1 ∧ CAt K c C ∧ Cls K C ∧ PropOf K C f p g ∧ FnOk P w K mg base (L2.CX P w) k g fd ps (spF K 1 F) ∧ Binds K fd ps []
def eProp (c : Str) (F : FS) (fo : EF) : EF := fun env m => (fo env m).bind fun x m1 => match asIns m1 x with
  | some (d, _, _) => if eqS d c then match F [x] m1 with
    | .ok t m2 => .ok t m2
    | _ => .no else .no
  | none => .no
theorem se_prop {k j : Nat} {c f : Str} {F : FS} {o : Expr} {fo : EF} {pos : Pos} (ck : Cok X W k) (D : PropOk X.prog X.w X.K X.mg X.base j c f F) (ho : SE X W o fo) (hj : j + 1 ≤ k := by decide) (hab : attributeBase o f X.env (eval o X.env) = eval o X.env := by rfl) :
    SE X W (.Attribute o f pos) (eProp c F fo) := by
  obtain ⟨C, p, g, fd, ps, hn, hC, hcl, hp, hF, hb⟩ := D.ok
  refine ⟨pe_imp (pe_prop ho.pe hcl hp hF (ck.room.mono hj) hb .nil passL hab) fun σ H Q ⟨Φ, Z, ρ, env, m, Fi, p⟩ => ?_⟩
  refine tr_bind (P := Post X.K W Φ Z ρ σ Q) Fi (fun x m1 Z1 ρ1 H1 vx _ e1 F1 rx p1 => ?_) (fun _ _ _ _ h => h) (fun h => h) p
  split at p1
  · rename_i d ns ts0 hi
    split at p1
    · rename_i hd
      have hd := eqS_iff.mp hd
      subst hd
      obtain ⟨a, C', dx, us, rfl, k', q, hl, rs⟩ := asIns_ok F1.rel rx hi
      have := k'.inj hC
      subst this
      refine ⟨a, dx, _, rfl, q, Φ, Z1, ρ1, m1, [x], F1.rel, .cons rx .nil, rfl, ?_⟩
      cases e : F [x] m1 with
      | ok t m2 =>
        rw [e] at p1
        exact fun Z2 ρ2 H2 v e2 => p1 Z2 ρ2 H2 v (e1.trans e2)
      | ex _ _ _ _ => rw [e] at p1; exact p1.elim
      | no => rw [e] at p1; exact p1.elim
    · exact p1.elim
  · exact p1.elim
/-! ### a new instance -/
structure InitOk (P : Program) (w : World) (K : PySem.W.Frag) (mg : Str → Option Value) (base : Heap) (n k : Nat) (c : Str) (F : FS) : Prop where
  ok : ∃ (C f : Addr) (fd : FuncData) (ps : List Str), ps.length = n + 1 ∧ CAt K c C ∧ mg c = some (.ref C) ∧ Mk K C f ∧ FnOk P w K mg base (L2.CX P w) k f fd ps (spF K (n + 1) F) ∧ Binds K fd ps []
def eMake (fz : Bool) (c : Str) (n : Nat) (F : FS) (fs : LF) : EF := fun env m => (fs env m).bind fun ts m1 => if ts.length = n then match F (.loc m1.length :: ts) (m1 ++ [some (.ins c [] [])]) with
  | .ok .non m2 => if fz then match m2[m1.length]? with
      | some (some (.ins d ns us)) => .ok (.ins d ns us) (m2.set m1.length none)
      | _ => .no
    else .ok (.loc m1.length) m2
  | .ex C ns vs m2 => .ex C ns vs m2
  | _ => .no else .no
theorem pe_makeS {CX : CXT} {k : Nat} {f C : Addr} {fd : FuncData} {ps : List Str} {sp : Sp} {E : L2.St → XK} {x : Str} {p pos : Pos} {e : Expr} {es : List Expr} {t : TA} (M : Mk X.K C f) (F : FnOk X.prog X.w X.K X.mg X.base CX k f fd ps sp) (hr : Room (k + 1) X.A)
    (hg : Gl X x) (hm : X.mg x = some (.ref C)) (hb : Binds X.K fd ps []) (hx : ∀ σ, PassesAt CX X σ (E σ)) (ha : PA X (e :: es) t) (hdb : (x == ("__debug__" : Str)) = false) (he : starEach (e :: es) X.env = (false, eval e X.env) :: starEach es X.env)
    (hpl : (backTo pos (starEach es X.env)).any (·.1) = false) : PE X (.Call (.Name x p) (e :: es) [] pos) (fun σ H Q => t σ H fun vs H1 => ∀ y dx, H1 y = none → H1 dx = none → dx ≠ y →
      sp (.ref y :: vs) (upd (upd H1 dx (.own y)) y (.ins C dx [])) (fun v H2 => v = .non ∧ Q (.ref y) H2) (E σ)) := by
  refine ⟨fun pins s σ H Q I h => wpAny_Call_Name_kw (ld_glob I hg hm (PySem.W.callWith_K (h₀ := X.base) I.ok.mod.kin M.kp (thn (ha.run pos pins s σ H _ I h) fun us s1 ⟨vs, H1, I1, r, q⟩ => ⟨I1.kIn, ?_⟩) he hpl) hdb)⟩
  generalize hy : s1.heap.objs.size = y0
  have hq := q (y0 + 1) y0 (I1.hok.fresh (by rw [hy]; exact Nat.le_succ _)) (I1.hok.fresh (Nat.le_of_eq hy)) (Nat.ne_of_lt (Nat.lt_succ_self _))
  have I2 := Inv.made (C := C) I1
  rw [hy] at I2
  have r2 : Vals (V.ref (y0 + 1) :: vs) (Value.ref (y0 + 1) :: us) := .cons rfl r
  have hl : (Value.ref (y0 + 1) :: us).length = ps.length := by rw [← r2.length]; exact F.len _ _ _ _ hq
  have hB := hb _ (Value.ref (y0 + 1) :: us) I2.kIn (by rw [List.append_nil]; exact hl)
  rw [List.append_nil] at hB
  subst hy
  refine wpAny_call (make_map (f := f) I1.kIn M.makes M.init (beq_iff_eq.mp M.fn) (codeAny_mono (F.run _ X.stack _ _ ⟨Value.ref (s1.heap.objs.size + 1) :: us, []⟩ (Value.ref (s1.heap.objs.size + 1) :: us) _ _ (E σ) (hr.make C us []) (I2.env0.make C us []) hB r2 hq) fun r s' hq' => ?_))
  match r, hq' with
  | .error e, hq' => exact hx σ pins _ _ e s' I2 hq'
  | .ok (.ret u), hq' =>
    obtain ⟨v, H', I3, rv, ev, q3⟩ := I2.after hq'
    subst ev
    exact ⟨rv, ⟨V.ref (s1.heap.objs.size + 1), H', I3, rfl, q3⟩⟩
  | .ok .next, hq' => exact False.elim hq'
  | .ok .brk, hq' => exact False.elim hq'
  | .ok .cont, hq' => exact False.elim hq'
theorem Rel.junk (r : Rel K Φ Z ρ H m) {p : Addr} (hp : H p = none) (o : HO) : Rel K Φ Z ρ (upd H p o) m := by
  have hz := r.zn hp
  refine ⟨fun a u h => ?_, fun a u h => ?_, r.len, r.nd, fun a ha => ?_, fun i w a h1 h2 => ?_, fun q hq => ?_⟩
  · have hb : a ≠ p := fun z => by subst z; rw [hz] at h; cases h
    rw [upd_ne hb]; exact r.zin a u h
  · obtain ⟨h1, h2, h3⟩ := r.fin a u h
    exact ⟨by rw [upd_ne (ne_of_none h1 hp)]; exact h1, h2, h3⟩
  · have hb : a ≠ p := fun z => r.rn hp (z ▸ ha)
    rw [upd_ne hb]; exact r.trk a ha
  · have hb : a ≠ p := fun z => r.rn hp (z ▸ List.mem_of_getElem? h2)
    rw [upd_ne hb]; exact r.mem i w a h1 h2
  · obtain ⟨t, h1, h2, h3⟩ := r.tab q hq
    have hb : q.1 ≠ p := fun z => t.live (by rw [z]; exact hp)
    exact ⟨t.to (Same.refl _) (upd_ne hb), h1, h2, h3⟩
theorem se_make {k j n : Nat} {c : Str} {F : FS} {e : Expr} {es : List Expr} {fs : LF} {p pos : Pos} (fz : Bool) (ck : Cok X W k) (D : InitOk X.prog X.w X.K X.mg X.base n j c F) (ha : SA X W (e :: es) fs) (hj : j + 1 ≤ k := by decide)
    (hg : Gl X c := by rfl) (hdb : (c == ("__debug__" : Str)) = false := by decide) (he : starEach (e :: es) X.env = (false, eval e X.env) :: starEach es X.env := by rfl) (hpl : (backTo pos (starEach es X.env)).any (·.1) = false := by rfl) :
    SE X W (.Call (.Name c p) (e :: es) [] pos) (eMake fz c n F fs) := by
  obtain ⟨C, f, fd, ps, hn, hC, hm, M, hF, hb⟩ := D.ok
  refine ⟨pe_imp (pe_makeS M hF (ck.room.mono hj) hg hm hb (fun σ => passAt ck.tk σ) ha.pa hdb he hpl) fun σ H Q ⟨Φ, Z, ρ, env, m, Fi, p⟩ => ?_⟩
  refine trL_bind (P := Post X.K W Φ Z ρ σ Q) Fi (fun ts m1 Z1 ρ1 H1 vs _ e1 F1 rs p1 => ?_) (fun _ _ _ _ h => h) (fun h => h) p
  split at p1
  rotate_left
  · exact p1.elim
  rename_i hl
  intro y dx hy hdx hne
  have r2 := F1.rel.junk hdx (.own y)
  have hy2 : (upd H1 dx (.own y)) y = none := by rw [upd_ne (Ne.symm hne)]; exact hy
  obtain ⟨r3, e3⟩ := r2.allocC hy2 (o := .ins C dx []) (u := .ins c [] []) ⟨C, dx, [], rfl, hC, rfl, .nil⟩
  have rself : Rep X.K Z1 (ρ1 ++ [y]) (.loc m1.length) (.ref y) := by
    unfold Rep
    exact ⟨y, by rw [← F1.rel.len]; simp, rfl⟩
  have rxs : Reps X.K Z1 (ρ1 ++ [y]) (.loc m1.length :: ts) (.ref y :: vs) := .cons rself (rs.ext e3)
  refine ⟨Φ, Z1, ρ1 ++ [y], _, _, r3, rxs, by rw [← rxs.length]; simp [hl], ?_⟩
  have p1 := p1.ext (e1.trans e3)
  cases er : F (.loc m1.length :: ts) (m1 ++ [some (.ins c [] [])]) with
  | no => rw [er] at p1; exact p1.elim
  | ex C' ns us m2 => rw [er] at p1; exact p1
  | ok t m2 =>
    rw [er] at p1
    intro Z4 ρ4 H4 v e4 r4 rt
    cases t with
    | non =>
      unfold Rep at rt
      refine ⟨rt, ?_⟩
      cases fz with
      | false =>
        simp only [Bool.false_eq_true, if_false] at p1
        exact p1 _ _ _ _ e4 r4 (rself.ext e4)
      | true =>
        simp only [if_true] at p1
        split at p1
        · rename_i d ns us em
          have rs4 := rself.ext e4
          unfold Rep at rs4
          obtain ⟨a, ha, ea⟩ := rs4
          cases ea
          obtain ⟨hz, C2, dx2, ws, q, k2, hl2, rw2⟩ := r4.mem _ _ _ em ha
          obtain ⟨r5, e5⟩ := r4.freeze em ha q
          refine p1 _ _ _ _ (e4.trans e5) r5 ?_
          unfold Rep
          exact ⟨y, C2, dx2, ws, rfl, k2, upd_same, hl2, rw2.ext e5⟩
        · exact p1.elim
    | _ => exact (show False from p1).elim
end
end Ev

/-! small further rules -/
namespace Ev
open PySem L2
variable [Wrl]
section
variable {X : Cx} {W : WX} {K : PySem.W.Frag}
/-! ### targets, whatever the context -/
theorem kg_name (i : Nat) : KG K [i] (gN i) (gName i) := by
  intro Φ Z ρ σ H env env1 m t v Q F r e h
  cases e
  exact h _ ⟨F.rel, F.env.set i r⟩ (by simp) fun vs hv => wipe_set (hv i (by simp))
theorem kgs_nil : KGs K [] gsNil gNil := by
  intro Φ Z ρ σ H env env1 m ts vs Q F r e h
  cases ts with
  | nil =>
    unfold Reps at r
    cases e
    exact ⟨r, h σ F rfl fun _ _ => rfl⟩
  | cons t ts => cases e
theorem kgs_cons {s1 s2 : List Nat} {g : GF} {gs : List T → Env → Option Env} {w1 : TG} {w2 : TGs} (k1 : KG K s1 g w1) (k2 : KGs K s2 gs w2) : KGs K (s1 ++ s2) (gsCons g gs) (gCons w1 w2) := by
  intro Φ Z ρ σ H env env1 m ts vs Q F r e h
  cases ts with
  | nil => cases e
  | cons t ts =>
    unfold Reps at r
    obtain ⟨v, us, rfl, r1, rs⟩ := r
    unfold gsCons at e
    obtain ⟨envA, ea, eb⟩ := Option.bind_eq_some_iff.mp e
    refine ⟨v, us, rfl, k1 Φ Z ρ σ H env envA m t v _ F r1 ea fun σ1 F1 l1 w1' => k2 Φ Z ρ σ1 H envA env1 m ts us _ F1 rs eb fun σ2 F2 l2 w2' => h σ2 F2 (l2.trans l1) fun ws hw => ?_⟩
    exact (w2' ws fun i hi => hw i (List.mem_append_right _ hi)).trans (w1' ws fun i hi => hw i (List.mem_append_left _ hi))
theorem kg_tup {n : Nat} {sl : List Nat} {gs : List T → Env → Option Env} {w : TGs} (k : KGs K sl gs w) : KG K sl (gT n gs) (gTup K n w) := by
  intro Φ Z ρ σ H env env1 m t v Q F r e h
  unfold gT at e
  split at e
  · rename_i ts
    split at e
    · rename_i hl
      unfold Rep at r
      obtain ⟨a, vs, rfl, q, rs⟩ := r
      exact ⟨a, vs, rfl, Same.sqt F.rel.same q, by rw [← rs.length]; exact hl, k Φ Z ρ σ H env env1 m ts vs Q F rs e h⟩
    · cases e
  · cases e
/-! ### calls without arguments, ints of the module, list(range(n)), -n -/
theorem se_call0 {k j : Nat} {F : FS} {x : Str} {p pos : Pos} (c : Cok X W k) (D : DefOk X.prog X.w X.K X.mg X.base 0 j x F) (hj : j ≤ k := by decide) (hg : Gl X x := by rfl) (hdb : (x == ("__debug__" : Str)) = false := by decide) :
    SE X W (.Call (.Name x p) [] [] pos) (eCall 0 F lNil) := by
  obtain ⟨f, fd, ps, hn, hF, hm, hk, hb⟩ := D.ok
  refine ⟨⟨fun pins s σ H Q I ⟨Φ, Z, ρ, env, m, Fi, p⟩ => ?_⟩⟩
  refine wpAny_Call_Name_kw (ld_glob I hg hm (PySem.W.callWith_K0 I.kIn hk (run_fnS (us := []) (vs := []) (E := fun σ => WE W σ) hF (c.room.mono hj) hb (passAt c.tk σ) I .nil ?_)) hdb)
  exact ⟨Φ, Z, ρ, m, [], Fi.rel, .nil, rfl, post_w p⟩
/-- the module's name holds an int -/
def GI (mg : Str → Option Value) (x : Str) (i : Int) : Prop := ∃ t, mg x = some (.int i t)
def GS (mg : Str → Option Value) (x : Str) (z : Str) : Prop := ∃ t, mg x = some (.str z t)
theorem se_gi {x : Str} {i : Int} {pos : Pos} (h : GI X.mg x i) (hg : Gl X x := by rfl) (hd : (x == ("__debug__" : Str)) = false := by decide) : SE X W (.Name x pos) (eC (.int i)) := by
  obtain ⟨t, h⟩ := h
  exact se_glob (v := .int i) h ⟨t, rfl⟩ (fun _ _ => rep_int) hg hd
theorem se_gs {x z : Str} {pos : Pos} (h : GS X.mg x z) (hg : Gl X x := by rfl) (hd : (x == ("__debug__" : Str)) = false := by decide) : SE X W (.Name x pos) (eC (.str z)) := by
  obtain ⟨t, h⟩ := h
  exact se_glob (v := .str z) h ⟨t, rfl⟩ (fun _ _ => rep_str) hg hd
def eNeg (f : EF) : EF := fun env m => (f env m).bind fun t m1 => match t with
  | .int i => .ok (.int (-i)) m1
  | _ => .no
theorem se_neg {a : Expr} {f : EF} {pos : Pos} (ha : SE X W a f) : SE X W (.UnaryOp .USub a pos) (eNeg f) :=
  ⟨pe_imp (pe_un un_neg ha.pe) fun σ H Q ⟨Φ, Z, ρ, env, m, F, p⟩ =>
    tr_bind (P := Post X.K W Φ Z ρ σ Q) F (fun t m1 Z1 ρ1 H1 v _ e1 F1 r p1 => by
      cases t with
      | int i => unfold Rep at r; subst r; exact ⟨i, rfl, p1 _ _ _ _ e1 F1.rel rep_int⟩
      | _ => exact (show False from p1).elim) (fun _ _ _ _ h => h) (fun h => h) p⟩
theorem reps_rng {Z : Hp} {ρ : List Addr} (n : Int) : Reps K Z ρ (rng 0 n) (rgV 0 n) := by
  unfold rng rgV
  generalize (n - 0).toNat = k
  have : ∀ l : List Nat, Reps K Z ρ (l.map fun i => T.int (0 + (i : Nat))) (l.map fun i => V.int (0 + (i : Nat))) := by
    intro l
    induction l with
    | nil => exact .nil
    | cons a l ih => exact .cons rep_int ih
  exact this _
/-- list(range(n)) -/
def eListRange (mu : Bool) (f : EF) : EF := fun env m => (f env m).bind fun t m1 => match t with
  | .int n => if -1000000 ≤ n ∧ n ≤ 1000000 then mk mu (rng 0 n) m1 else .no
  | _ => .no
theorem se_listRange (mu : Bool) {k : Nat} {a : Expr} {f : EF} {p p2 pos pos2 : Pos} (c : Cok X W k) (ha : SE X W a f) (hm : X.mg "list" = none) (hm2 : X.mg "range" = none) (hg : Gl X "list" := by rfl) (hg2 : Gl X "range" := by rfl)
    (na : starEach [a] X.env = (false, eval a X.env) :: starEach [] X.env := by rfl) (nb : starEach [.Call (.Name "range" p2) [a] [] pos2] X.env = (false, eval (.Call (.Name "range" p2) [a] [] pos2) X.env) :: starEach [] X.env := by rfl) :
    SE X W (.Call (.Name "list" p) [.Call (.Name "range" p2) [a] [] pos2] [] pos) (eListRange mu f) :=
  ⟨pe_imp (pe_listRg c.calm hg hm (prg_1 hg2 hm2 ha.pe na) nb) fun σ H Q ⟨Φ, Z, ρ, env, m, F, p⟩ =>
    tr_bind (P := Post X.K W Φ Z ρ σ Q) F (fun t m1 Z1 ρ1 H1 v _ e1 F1 r p1 => by
      cases t with
      | int n =>
        simp only at p1
        split at p1
        · rename_i hb
          unfold Rep at r
          subst r
          refine ⟨n, rfl, ⟨by omega, by omega, by omega, by omega, by omega⟩, fun q hq => post_mk F1.rel (reps_rng n) (p1.ext e1) hq⟩
        · exact p1.elim
      | _ => exact (show False from p1).elim) (fun _ _ _ _ h => h) (fun h => h) p⟩
end
end Ev

/-! sets of texts, made of a list or a tuple -/
namespace EvS
open PySem PySem.Spec PyProof.Rows
/-- how many different texts stand among the first i -/
def ucnt (xs : List Str) : Nat → Nat
  | 0 => 0
  | i + 1 => if (xs.take i).any (· == xs.getD i Str.empty) then ucnt xs i else ucnt xs i + 1
theorem ucnt_le (xs : List Str) : ∀ i, ucnt xs i ≤ i
  | 0 => Nat.le_refl _
  | i + 1 => by
    have := ucnt_le xs i
    unfold ucnt
    split <;> omega
theorem take_any (xs : List Str) (i : Nat) (hi : i < xs.length) (k : Str) : (xs.take (i + 1)).any (· == k) = ((xs.take i).any (· == k) || decide (k = xs.getD i Str.empty)) := by
  have e : xs.getD i Str.empty = xs[i] := by rw [List.getD_eq_getElem?_getD, List.getElem?_eq_getElem hi]; rfl
  have e2 : xs.take (i + 1) = xs.take i ++ [xs[i]] := (List.take_append_getElem hi).symm
  have e3 : (xs[i] == k) = decide (k = xs[i]) := by
    by_cases h : k = xs[i]
    · rw [← h]; rw [decide_eq_true rfl]; exact beq_self_eq_true k
    · rw [decide_eq_false h]; exact beq_eq_false_iff_ne.mpr fun z => h z.symm
  rw [e, e2, List.any_append, List.any_cons, List.any_nil, Bool.or_false, e3]
abbrev set0 (led : Bool) : Obj := { cls := .type "set", dict := none, data := .set #[] 0 (.fresh 0 0 led) }
section
variable {prog : Program} {w : World} {A : Around} {R : Result → Shared → Prop} {I : Addr} {fp wr : List Addr} {G : Array GenState → Array GenState → Prop} {n : Nat} {P : Nat → Value → Prop} {St : Nat → Shared → Prop}
theorem fill (V : WalksS prog w A.in1 I fp wr G n P St) (S : Addr) (hS : S ∉ fp) (xs : List Str) (hx : xs.length = n) (hb : n + 1 < scanBound) (hv : ∀ i v, P i v → ∃ t, v = .str (xs.getD i Str.empty) t) :
    ∀ (k i : Nat) (s : Shared), n - i = k → i ≤ n → St i s → s.heap.SetOf (PySem.strKind prog w) S (fun z => (xs.take i).any (· == z)) (ucnt xs i) →
      (∀ s', Moved (S :: wr) G s s' → s'.heap.SetOf (PySem.strKind prog w) S (fun z => (xs.take n).any (· == z)) (ucnt xs n) → R (.ok (.ret .none)) s') →
      codeAny (model prog w) A (.builtin "set.update.loop" ⟨[.ref S, .ref I], []⟩) R s := by
  have hw : S ∉ wr := fun h => hS (V.sub _ h)
  have up : ∀ b ∈ wr, b ∈ S :: wr := fun b hb => List.mem_cons_of_mem _ hb
  have keep : ∀ {s s' : Shared} {f : Str → Bool} {c : Nat}, Moved wr G s s' → s.heap.SetOf (PySem.strKind prog w) S f c → s'.heap.SetOf (PySem.strKind prog w) S f c := fun hm ⟨o, es, ep, t, ho, r⟩ => ⟨o, es, ep, t, hm.heap S _ hw ho, r⟩
  intro k
  induction k with
  | zero =>
    intro i s hk hi st hs hR
    obtain rfl : i = n := by omega
    refine codeAny_builtin F.entry_set_update_loop ?_
    rw [Around.under_plainId F.plain_set_update_loop _]
    show wpAny _ A.in1 (pyNext (.ref I) >>= _) _ _ s
    exact wpAny_bind (V.done s _ _ st fun s' hm => (show wpAny _ A.in1 (ret Value.none) _ _ s' from wpAny_pure (hR s' (hm.mono up) (keep hm hs))))
  | succ k ih =>
    intro i s hk hi st hs hR
    have hlt : i < n := by omega
    have hc := ucnt_le xs i
    refine codeAny_builtin F.entry_set_update_loop ?_
    rw [Around.under_plainId F.plain_set_update_loop _]
    show wpAny _ A.in1 (pyNext (.ref I) >>= _) _ _ s
    refine wpAny_bind (V.item i s _ _ hlt st fun v s' hP st' hm => ?_)
    obtain ⟨t, rfl⟩ := hv i v hP
    have hs' := keep hm hs
    show wpAny _ A.in1 (holding [Value.str (xs.getD i Str.empty) t] (setAdd S (.str (xs.getD i Str.empty) t)) >>= _) _ _ s'
    refine wpAny_bind (wpAny_holding ?_)
    unfold setAdd
    refine wpAny_holding (wpAny_bind ((PySem.strKind prog w).pyHash (k := xs.getD i Str.empty) (strKind_is _ _ _ _) ?_))
    refine wpAny_setAddHashed_of (knd := PySem.strKind prog w) (s := { s' with toks := s'.toks + 1 }) (strKind_is _ _ _ _) rfl hs' (by omega) fun h' sb h2 => ?_
    have h3 : h'.SetOf (PySem.strKind prog w) S (fun z => (xs.take (i + 1)).any (· == z)) (ucnt xs (i + 1)) := SetOf_congr h2 (fun z => (take_any xs i (by omega) z).symm) rfl
    refine wpAny_pure ⟨plainId_quiet F.plain_set_update_loop _, ih (i + 1) _ (by omega) hlt (V.frame _ s' _ _ st' (Nat.le_succ _) fun b hb o e => ?_) h3 fun s2 hm2 h4 => ?_⟩
    · rw [sb.2 b (fun z : b = S => hS (by rw [← z]; exact hb))]
      exact e
    · refine hR s2 (Moved.trans V.gtrans ((hm.mono up).then_heap (Nat.le_succ _) fun b o hb e => ?_) hm2) h4
      rw [sb.2 b (fun z : b = S => hb (by rw [z]; exact List.mem_cons_self))]
      exact e
end
section
variable {prog : Program} {w : World} {A : Around} {E : Value → Shared → Prop} {s : Shared}

set_option maxHeartbeats 3200000 in
theorem call_set_list {l : Addr} {items : Array Value} {xs : List Str} {Q : Value → Shared → Prop} (hh : A.handled = none) (hl : s.heap.IsList l items) (hi : StrsAre items.toList xs) (hb : xs.length + 1 < scanBound)
    (h : ∀ (h' : Heap) (tk : Nat), h'.SetOf (PySem.strKind prog w) s.heap.objs.size (fun z => (xs.take xs.length).any (· == z)) (ucnt xs xs.length) → (∀ b o, b < s.heap.objs.size → s.heap.get? b = some o → h'.get? b = some o) → Q (.ref s.heap.objs.size) { s with heap := h', toks := tk }) :
    wpAny (model prog w) A (call (.type "set") [.ref l]) Q E s := by
  obtain ⟨c, tl, hmro⟩ := PySem.F.called_set.mro
  have hmade := PySem.F.called_set.made
  have hsub := PySem.F.called_set.sub
  refine wpAny_call (codeAny_of_tree (show wpAny _ _ (callAny (.type "set") _) _ _ _ from wpAny_pure ⟨Code.quiet_builtin _ (by decide +kernel), codeAny_builtin PySem.F.entry_type_call ?_⟩))
  rw [Around.under_plain (weight_type_call_type "set" [.ref l] []) rfl]
  have h1 := PySem.F.called_set.notType
  have h2 := PySem.F.called_set.canCreate
  have hct := PySem.F.typeCall_set_1 (.ref l)
  repeat (any_goals (first | assumption | wp_step))
  refine codeAny_mono (code_set_new_1 (.ref l) (E := E) (Q₁ := fun obj s₁ => ∃ led : Bool, obj = .ref s.heap.objs.size ∧ s₁ = { s with heap := s.heap.push (set0 led) }) fun led => ⟨led, rfl, rfl⟩) fun r s₁ hr => ?_
  match r, hr with
  | .error e, hr => exact hr
  | .ok .next, hr => exact hr.elim
  | .ok .brk, hr => exact hr.elim
  | .ok .cont, hr => exact hr.elim
  | .ok (.ret obj), hr =>
    obtain ⟨led, rfl, rfl⟩ := hr
    have hS : (s.heap.push (set0 led)).get? s.heap.objs.size = some (set0 led) := Heap.get?_push_size _ rfl
    have hT : Shared.TypeIs { s with heap := s.heap.push (set0 led) } (.ref s.heap.objs.size) "set" := ⟨_, hS, rfl⟩
    have hli := PySem.F.called_set.init.lookup
    have hbi := PySem.F.called_set.init.bind (.ref s.heap.objs.size)
    repeat (any_goals (first | assumption | wp_step))
    refine codeAny_mono (codeAny_call_builtin (R := wants (fun r s₂ => r = .none ∧ ∃ h' tk, s₂ = { s with heap := h', toks := tk } ∧ h'.SetOf (PySem.strKind prog w) s.heap.objs.size (fun z => (xs.take xs.length).any (· == z)) (ucnt xs xs.length) ∧
      (∀ b o, b < s.heap.objs.size → s.heap.get? b = some o → h'.get? b = some o)) E) PySem.F.called_set.init.plain PySem.F.entry_set_init (check_set_init_1 hT ?_)) fun r₂ s₂ hr₂ => ?_
    · obtain ⟨⟨oc, od, dt, sl⟩, hol, hc1, nl, hd1⟩ := hl
      replace hc1 : oc = .type "list" := hc1
      replace hd1 : dt = .seq items nl := hd1
      subst hc1
      subst hd1
      have hol' : (s.heap.push (set0 led)).get? l = some { cls := .type "list", dict := od, data := .seq items nl, slots := sl } := Heap.get?_push_of_some _ hol
      have q1 := PySem.F.sub_list_set
      have q2 := PySem.F.sub_list_frozenset
      have q3 : (Value.type "list" == Value.type "dict") = false := by decide
      have hl1 : (s.heap.push (set0 led)).IsList l items := ⟨_, hol', rfl, nl, rfl⟩
      unfold Builtin.«set.__init__» noKeywords Builtin.Frozenset.updateFrom
      generalize hPI : pyIter = PI
      wp_walk
      subst hPI
      refine wpAny_pyIter_list hl1 (wpAny_bind (wpAny_runValue ?_))
      have hlS : l < s.heap.objs.size := Heap.lt_size hol
      have hz : (s.heap.push (set0 led)).objs.size = s.heap.objs.size + 1 := Heap.size_push ..
      have a1 : A.in1.in1.in1.handled = none := by simp [hh]
      have a2 : l ≠ (s.heap.push (set0 led)).objs.size := by rw [hz]; exact Nat.ne_of_lt (Nat.lt_succ_of_lt hlS)
      have a3 : s.heap.objs.size ∉ [(s.heap.push (set0 led)).objs.size, l] := by
        rw [hz]
        simp only [List.mem_cons, List.not_mem_nil, or_false, not_or]
        exact ⟨Nat.ne_of_lt (Nat.lt_succ_self _), Nat.ne_of_gt hlS⟩
      have a4 : xs.length = items.size := by rw [← StrsAre.len_eq hi, Array.length_toList]
      have a5 : ∀ (i : Nat) (v : Value), items[i]? = some v → ∃ t, v = .str (xs.getD i Str.empty) t := fun i v hv => SS.strs_at hi i v (by rw [Array.getElem?_toList]; exact hv)
      refine fill ((Walks.list a1 _ l a2 items).toS) s.heap.objs.size a3 xs a4 (by omega) a5 (items.size - 0) 0 _ (by omega) (Nat.zero_le _) ⟨⟨_, Heap.get?_push_size _ rfl, rfl, rfl⟩, (hl1.push _)⟩ ?_ fun s' hm h9 => ?_
      · have hg : ((s.heap.push (set0 led)).push { cls := .type "list_iterator", data := .fields #[.ref l, .int 0 0] }).get? s.heap.objs.size = some (set0 led) := Heap.get?_push_of_some _ hS
        exact SetOf_congr ((setObjOf_fresh (knd := PySem.strKind prog w) led).setOf hg (by unfold scanBound; omega)) (fun _ => rfl) rfl
      · obtain ⟨h', g', d', tk', os'⟩ := s'
        obtain rfl : g' = s.gens := hm.gens
        obtain rfl : d' = s.drawn := hm.drawn
        obtain rfl : os' = s.os := hm.os
        rw [← a4] at h9
        refine wpAny_pure (show wpAny _ _ (ret Value.none) _ _ _ from wpAny_pure ⟨rfl, h', tk', rfl, h9, fun b o hb e => hm.heap b o ?_ (Heap.get?_push_of_some _ (Heap.get?_push_of_some _ e))⟩)
        simp only [List.mem_cons, List.not_mem_nil, or_false, not_or]
        exact ⟨Nat.ne_of_lt hb, by rw [hz]; exact Nat.ne_of_lt (Nat.lt_succ_of_lt hb)⟩
    · match r₂, hr₂ with
      | .error e, hr₂ => exact hr₂
      | .ok .next, hr₂ => exact hr₂.elim
      | .ok .brk, hr₂ => exact hr₂.elim
      | .ok .cont, hr₂ => exact hr₂.elim
      | .ok (.ret r), hr₂ =>
        obtain ⟨rfl, h', tk, rfl, hs', hk'⟩ := hr₂
        repeat (any_goals (first | assumption | wp_step))
        exact h _ _ hs' hk'

set_option maxHeartbeats 3200000 in
theorem call_set_tuple {l : Addr} {items : Array Value} {xs : List Str} {Q : Value → Shared → Prop} (hh : A.handled = none) (hl : s.heap.IsTuple l items) (hi : StrsAre items.toList xs) (hb : xs.length + 1 < scanBound)
    (h : ∀ (h' : Heap) (tk : Nat), h'.SetOf (PySem.strKind prog w) s.heap.objs.size (fun z => (xs.take xs.length).any (· == z)) (ucnt xs xs.length) → (∀ b o, b < s.heap.objs.size → s.heap.get? b = some o → h'.get? b = some o) → Q (.ref s.heap.objs.size) { s with heap := h', toks := tk }) :
    wpAny (model prog w) A (call (.type "set") [.ref l]) Q E s := by
  obtain ⟨c, tl, hmro⟩ := PySem.F.called_set.mro
  have hmade := PySem.F.called_set.made
  have hsub := PySem.F.called_set.sub
  refine wpAny_call (codeAny_of_tree (show wpAny _ _ (callAny (.type "set") _) _ _ _ from wpAny_pure ⟨Code.quiet_builtin _ (by decide +kernel), codeAny_builtin PySem.F.entry_type_call ?_⟩))
  rw [Around.under_plain (weight_type_call_type "set" [.ref l] []) rfl]
  have h1 := PySem.F.called_set.notType
  have h2 := PySem.F.called_set.canCreate
  have hct := PySem.F.typeCall_set_1 (.ref l)
  repeat (any_goals (first | assumption | wp_step))
  refine codeAny_mono (code_set_new_1 (.ref l) (E := E) (Q₁ := fun obj s₁ => ∃ led : Bool, obj = .ref s.heap.objs.size ∧ s₁ = { s with heap := s.heap.push (set0 led) }) fun led => ⟨led, rfl, rfl⟩) fun r s₁ hr => ?_
  match r, hr with
  | .error e, hr => exact hr
  | .ok .next, hr => exact hr.elim
  | .ok .brk, hr => exact hr.elim
  | .ok .cont, hr => exact hr.elim
  | .ok (.ret obj), hr =>
    obtain ⟨led, rfl, rfl⟩ := hr
    have hS : (s.heap.push (set0 led)).get? s.heap.objs.size = some (set0 led) := Heap.get?_push_size _ rfl
    have hT : Shared.TypeIs { s with heap := s.heap.push (set0 led) } (.ref s.heap.objs.size) "set" := ⟨_, hS, rfl⟩
    have hli := PySem.F.called_set.init.lookup
    have hbi := PySem.F.called_set.init.bind (.ref s.heap.objs.size)
    repeat (any_goals (first | assumption | wp_step))
    refine codeAny_mono (codeAny_call_builtin (R := wants (fun r s₂ => r = .none ∧ ∃ h' tk, s₂ = { s with heap := h', toks := tk } ∧ h'.SetOf (PySem.strKind prog w) s.heap.objs.size (fun z => (xs.take xs.length).any (· == z)) (ucnt xs xs.length) ∧
      (∀ b o, b < s.heap.objs.size → s.heap.get? b = some o → h'.get? b = some o)) E) PySem.F.called_set.init.plain PySem.F.entry_set_init (check_set_init_1 hT ?_)) fun r₂ s₂ hr₂ => ?_
    · obtain ⟨⟨oc, od, dt, sl⟩, hol, hc1, nl, hd1⟩ := hl
      replace hc1 : oc = .type "tuple" := hc1
      replace hd1 : dt = .seq items nl := hd1
      subst hc1
      subst hd1
      have hol' : (s.heap.push (set0 led)).get? l = some { cls := .type "tuple", dict := od, data := .seq items nl, slots := sl } := Heap.get?_push_of_some _ hol
      have q1 := PySem.F.sub_tuple_set
      have q2 := PySem.F.sub_tuple_frozenset
      have q3 : (Value.type "tuple" == Value.type "dict") = false := by decide
      have hl1 : (s.heap.push (set0 led)).IsTuple l items := ⟨_, hol', rfl, nl, rfl⟩
      unfold Builtin.«set.__init__» noKeywords Builtin.Frozenset.updateFrom
      generalize hPI : pyIter = PI
      wp_walk
      subst hPI
      refine wpAny_pyIter_tuple hl1 (wpAny_bind (wpAny_runValue ?_))
      have hlS : l < s.heap.objs.size := Heap.lt_size hol
      have hz : (s.heap.push (set0 led)).objs.size = s.heap.objs.size + 1 := Heap.size_push ..
      have a1 : A.in1.in1.in1.handled = none := by simp [hh]
      have a2 : l ≠ (s.heap.push (set0 led)).objs.size := by rw [hz]; exact Nat.ne_of_lt (Nat.lt_succ_of_lt hlS)
      have a3 : s.heap.objs.size ∉ [(s.heap.push (set0 led)).objs.size, l] := by
        rw [hz]
        simp only [List.mem_cons, List.not_mem_nil, or_false, not_or]
        exact ⟨Nat.ne_of_lt (Nat.lt_succ_self _), Nat.ne_of_gt hlS⟩
      have a4 : xs.length = items.size := by rw [← StrsAre.len_eq hi, Array.length_toList]
      have a5 : ∀ (i : Nat) (v : Value), items[i]? = some v → ∃ t, v = .str (xs.getD i Str.empty) t := fun i v hv => SS.strs_at hi i v (by rw [Array.getElem?_toList]; exact hv)
      refine fill ((Walks.tuple a1 _ l a2 items).toS) s.heap.objs.size a3 xs a4 (by omega) a5 (items.size - 0) 0 _ (by omega) (Nat.zero_le _) ⟨⟨_, Heap.get?_push_size _ rfl, rfl, rfl⟩, (hl1.push _)⟩ ?_ fun s' hm h9 => ?_
      · have hg : ((s.heap.push (set0 led)).push { cls := .type "tuple_iterator", data := .fields #[.ref l, .int 0 0] }).get? s.heap.objs.size = some (set0 led) := Heap.get?_push_of_some _ hS
        exact SetOf_congr ((setObjOf_fresh (knd := PySem.strKind prog w) led).setOf hg (by unfold scanBound; omega)) (fun _ => rfl) rfl
      · obtain ⟨h', g', d', tk', os'⟩ := s'
        obtain rfl : g' = s.gens := hm.gens
        obtain rfl : d' = s.drawn := hm.drawn
        obtain rfl : os' = s.os := hm.os
        rw [← a4] at h9
        refine wpAny_pure (show wpAny _ _ (ret Value.none) _ _ _ from wpAny_pure ⟨rfl, h', tk', rfl, h9, fun b o hb e => hm.heap b o ?_ (Heap.get?_push_of_some _ (Heap.get?_push_of_some _ e))⟩)
        simp only [List.mem_cons, List.not_mem_nil, or_false, not_or]
        exact ⟨Nat.ne_of_lt hb, by rw [hz]; exact Nat.ne_of_lt (Nat.lt_succ_of_lt hb)⟩
    · match r₂, hr₂ with
      | .error e, hr₂ => exact hr₂
      | .ok .next, hr₂ => exact hr₂.elim
      | .ok .brk, hr₂ => exact hr₂.elim
      | .ok .cont, hr₂ => exact hr₂.elim
      | .ok (.ret r), hr₂ =>
        obtain ⟨rfl, h', tk, rfl, hs', hk'⟩ := hr₂
        repeat (any_goals (first | assumption | wp_step))
        exact h _ _ hs' hk'

end
end EvS

namespace Ev
open PySem L2
variable [Wrl]
section
variable {X : Cx} {W : WX}
def tLenS (K : PySem.W.Frag) (ta : TE) : TE := fun σ H Q => ta σ H fun x H1 => ∃ l, ∃ xs : List Str, x = .ref l ∧ (SqL K H1 l (xs.map V.str) ∨ SqT K H1 l (xs.map V.str)) ∧ xs.length ≤ 4000 ∧ Q (.int (EvS.ucnt xs xs.length : Nat)) H1
theorem pe_lenS {a : Expr} {ta : TE} {p p2 q pos : Pos} (hc : X.calm = true) (hg : Gl X "len") (hm : X.mg "len" = none) (hg2 : Gl X "set") (hm2 : X.mg "set" = none) (ha : PE X a ta)
    (na : starEach [a] X.env = (false, eval a X.env) :: starEach [] X.env) : PE X (.Call (.Name "len" p) [.Call (.Name "set" p2) [a] [] q] [] pos) (tLenS X.K ta) := by
  refine ⟨fun pins s σ H Q I h => PyProof.Rows.Call_ (ld_blt I hg hm PySem.boot_len ?_)⟩
  refine PyProof.Rows.callWith_builtin1 (PyProof.Rows.args_cons (PyProof.Rows.Call_ (ld_blt I hg2 hm2 PyProof.Rows.boot_set ?_)) rfl) rfl rfl
  refine PyProof.Rows.callWith_type1 (PyProof.Rows.args_cons (thn (ha.run pins s σ H _ I h) fun v s1 ⟨x, H1, I1, r1, l, xs, e1, hq, h1, q1⟩ => PyProof.Rows.args_nil ?_) na) na rfl
  subst e1
  cases r1
  have fin : ∀ (its : List Value), Vals (xs.map V.str) its → ∀ (h' : Heap) (tk : Nat), h'.SetOf (PySem.strKind X.prog X.w) s1.heap.objs.size (fun z => (xs.take xs.length).any (· == z)) (EvS.ucnt xs xs.length) → (∀ b o, b < s1.heap.objs.size → s1.heap.get? b = some o → h'.get? b = some o) →
      wpAny (model X.prog X.w) X.A (spliced (backTo pos (starEach [] X.env))) (fun vs s₂ => wpAny (model X.prog X.w) X.A (call (.builtin "len") (Value.ref s1.heap.objs.size :: vs)) (EP X pins σ Q) X.xe s₂) X.xe { s1 with heap := h', toks := tk } := fun its r h' tk hS hk => by
    refine PyProof.Rows.args_nil ?_
    have hu := EvS.ucnt_le xs xs.length
    obtain ⟨o, es, ep, t, ho, hex, hd, _, _, _, hf, hn⟩ := hS
    have I2 : Inv X pins σ H1 { s1 with heap := h', toks := tk } := I1.kept fun b o e => hk b o (Heap.lt_size e) e
    exact PySem.call_len_set ho hex hd hf (by rw [hn] <;> omega) ⟨.int (EvS.ucnt xs xs.length : Nat), H1, I2.tok _, ⟨_, by rw [hn]⟩, q1⟩
  have hb : xs.length + 1 < scanBound := by unfold scanBound; omega
  rcases hq with hq | hq
  · obtain ⟨its, r, pl, hz⟩ := I1.list hq
    exact EvS.call_set_list (I1.ok.hd hc) pl.isList (by simpa using strsAre_of r) hb fun h' tk hS hk => fin its r h' tk hS hk
  · obtain ⟨its, r, pl, hz⟩ := I1.tuple hq
    exact EvS.call_set_tuple (I1.ok.hd hc) pl (by simpa using strsAre_of r) hb fun h' tk hS hk => fin its r h' tk hS hk
/-- len(set(t)), texts -/
def eLenSet (f : EF) : EF := fun env m => (f env m).bind fun t m1 => match asSeq m1 t with
  | some ts => match txts ts with
    | some xs => if xs.length ≤ 4000 then .ok (.int (EvS.ucnt xs xs.length : Nat)) m1 else .no
    | none => .no
  | none => .no
theorem se_lenSet {k : Nat} {a : Expr} {f : EF} {p p2 q pos : Pos} (c : Cok X W k) (ha : SE X W a f) (hm : X.mg "len" = none) (hm2 : X.mg "set" = none) (hg : Gl X "len" := by rfl) (hg2 : Gl X "set" := by rfl)
    (na : starEach [a] X.env = (false, eval a X.env) :: starEach [] X.env := by rfl) : SE X W (.Call (.Name "len" p) [.Call (.Name "set" p2) [a] [] q] [] pos) (eLenSet f) := by
  refine ⟨pe_imp (pe_lenS c.calm hg hm hg2 hm2 ha.pe na) fun σ H Q ⟨Φ, Z, ρ, env, m, F, p⟩ => ?_⟩
  refine tr_bind (P := Post X.K W Φ Z ρ σ Q) F (fun x m1 Z1 ρ1 H1 vx _ e1 F1 rx p1 => ?_) (fun _ _ _ _ h => h) (fun h => h) p
  split at p1
  · rename_i ts ht
    split at p1
    · rename_i xs hx
      split at p1
      · rename_i hl
        obtain ⟨l, us, rfl, hq, ru⟩ := asSeq_rep F1.rel rx ht
        rw [strs_eq hx] at ru
        have := reps_strs ru
        subst this
        exact ⟨l, xs, rfl, hq, hl, p1 _ _ _ _ e1 F1.rel rep_int⟩
      · exact p1.elim
    · exact p1.elim
  · exact p1.elim
end
end Ev

namespace Ev
open PySem L2
variable [Wrl]
theorem fn_okE {P : Program} {w : World} {K : PySem.W.Frag} {mg : Str → Option Value} {base : Heap} {x qual : Str} {st : Stmt} {f : Addr} {fd : FuncData} {N ps : List Str} {k : Nat} {g : SF} (hw : HereP P w) (Fn : Fun K x qual st f fd) (S : FnScope N ps (defScope st))
    (hbody : ∀ (cdv : Value) (A : Around) (outer : List PySem.Env) (s : Shared) (H : Hp) (E : XK), Cok (cxOf (L2.CX P w) P w K mg base N qual (defScope st) f cdv A outer s H E) (fun cls d _ H => E cls d H) k →
      SSs (cxOf (L2.CX P w) P w K mg base N qual (defScope st) f cdv A outer s H E) (fun cls d _ H => E cls d H) (defBody st) g) : FnOk P w K mg base (L2.CX P w) (k + 1) f fd ps (spF K ps.length (fnOf N.length g)) := by
  refine Fn.okX S (fun vs H Q E ⟨Φ, Z, ρ, m, ts, _, _, hl, _⟩ => hl) (fun cdv A outer s H vs Q E hr ⟨Φ, Z, ρ, m, ts, r, rs, hl, p⟩ => ?_)
  have c : Cok (cxOf (L2.CX P w) P w K mg base N qual (defScope st) f cdv A outer s H E) (fun cls d _ H => E cls d H) k := ⟨takes_of rfl rfl rfl rfl, passes_of rfl, rfl, S.nd, hr, ⟨hw.p, hw.w⟩⟩
  refine ⟨_, (hbody cdv A outer s H E c).ps, Φ, Z, ρ, _, m, ⟨r, envs_start N rs⟩, ?_⟩
  unfold fnOf at p
  cases e : g (ts.map some ++ List.replicate (N.length - ts.length) none) m with
  | nx env1 m1 => rw [e] at p; exact fun Z1 ρ1 H1 σ1 e1 F1 _ => p Z1 ρ1 H1 .non e1 F1.rel rep_non
  | rt t m1 => rw [e] at p; exact p
  | ex C ns us env1 m1 => rw [e] at p; exact fun Z1 ρ1 H1 σ1 d us e1 F1 rs hl hd => p Z1 ρ1 H1 d us e1 F1.rel rs hl hd
  | bk _ _ => rw [e] at p; exact (show False from p).elim
  | ct _ _ => rw [e] at p; exact (show False from p).elim
  | no => rw [e] at p; exact p
end Ev

/-! exceptions of the program's own classes that keep one field: made, raised, caught -/
namespace Ev
open PySem L2
variable [Wrl]
/-- __init__(self, x): self.f = x -/
def spX (K : PySem.W.Frag) (f : Str) : Sp := fun vs H Q _ => ∃ (a C : Addr) (y : V), vs = [.ref a, y] ∧ OexC K C ∧ PySem.W.findIn K (.ref C) f = some none ∧ H a = some (exo a C none) ∧
  ∀ dx, H dx = none → dx ≠ a → Q .non (upd (upd H dx (exd dx [(f, y)])) a (exo a C (some dx)))
theorem fn_okX {P : Program} {w : World} {K : PySem.W.Frag} {mg : Str → Option Value} {base : Heap} {x qual f : Str} {st : Stmt} {fa : Addr} {fd : FuncData} {N ps : List Str} {k : Nat} (Fn : Fun K x qual st fa fd) (S : FnScope N ps (defScope st)) (hl2 : ps.length = 2) (hN : N.length = 2)
    (hbody : ∀ (cdv : Value) (A : Around) (outer : List PySem.Env) (s : Shared) (H : Hp) (E : XK), PSs (cxOf (L2.CX P w) P w K mg base N qual (defScope st) fa cdv A outer s H E) (defBody st) (tOst K f (tVar 0) (tVar 1))) : FnOk P w K mg base (L2.CX P w) (k + 1) fa fd ps (spX K f) := by
  refine Fn.okX S (fun vs H Q E ⟨a, C, y, e, _⟩ => by rw [e, hl2]; rfl) (fun cdv A outer s H vs Q E hr ⟨a, C, y, e, T, hno, ha, q⟩ => ⟨_, hbody cdv A outer s H E, ?_⟩)
  subst e
  refine ⟨y, ?_, .ref a, ?_, a, C, rfl, T, hno, .inl ⟨ha, fun dx hd hne => q dx hd hne⟩⟩
  · unfold L2.start; rfl
  · unfold L2.start; rfl
structure XcOk (P : Program) (w : World) (K : PySem.W.Frag) (mg : Str → Option Value) (base : Heap) (k : Nat) (c f : Str) : Prop where
  ok : ∃ (C fI : Addr) (fd : FuncData) (ps : List Str), CAt K c C ∧ mg c = some (.ref C) ∧ OexC K C ∧ PySem.W.findIn K (.ref C) f = some none ∧ PySem.W.findIn K (.ref C) "__init__" = some (some (.ref fI)) ∧ PySem.W.typeIn K (.ref fI) = some (.type "function") ∧
    FnOk P w K mg base (L2.CX P w) k fI fd ps (spX K f) ∧ Binds K fd ps [] ∧ XfC K C ∧ PySem.W.exmOne K (.ref C) (.ref C) = some true
theorem exm_self {K : PySem.W.Frag} {nm q : Str} {C N : Addr} {bs bm : List Value} {hdct : Bool} {sn : List Str} {sub : List Value} {ab : Bool} {col : Option Bool} {dd : Option Addr} {k0 k1 k2 k3 k5 : Option Value} {newId : String} (lx : K.lookup C = some (excClassObj nm q C N bs bm hdct sn sub ab col dd k0 k1 k2 k3 k5 newId))
    (ex : PySem.W.subIn K (.ref C) (.type "BaseException") = some true) (ty : PySem.W.typeIn K (.ref C) = some (.type "type")) (su : PySem.W.subIn K (.ref C) (.ref C) = some true) : PySem.W.exmOne K (.ref C) (.ref C) = some true := by
  have hc : (PySem.W.clsIn K C).isSome = true := by unfold PySem.W.clsIn; rw [lx]; rfl
  unfold PySem.W.exmOne PySem.W.kitCls
  simp only [ex, ty, su, hc]
  rfl
section
variable {X : Cx} {W : WX}
def sRaise (c f : Str) (fe : EF) : SF := fun env m => match fe env m with
  | .ok t m1 => .ex c [f] [t] env m1
  | .ex C ns vs m1 => .ex C ns vs env m1
  | .no => .no
theorem ss_raise {k j : Nat} {c f : Str} {e : Expr} {fe : EF} {p pos pos' : Pos} (ck : Cok X W k) (D : XcOk X.prog X.w X.K X.mg X.base j c f) (ha : SE X W e fe) (hj : j + 1 ≤ k := by decide)
    (hg : Gl X c := by rfl) (hdb : (c == ("__debug__" : Str)) = false := by decide) (he : starEach [e] X.env = (false, eval e X.env) :: starEach [] X.env := by rfl) (hpl : (backTo pos (starEach [] X.env)).any (·.1) = false := by rfl) :
    SS X W (.Raise (some (.Call (.Name c p) [e] [] pos)) none pos') (sRaise c f fe) := by
  obtain ⟨C, fI, fd, ps, hC, hm, T, hno, iC, tI, hF, hb, _, _⟩ := D.ok
  have pk := pmk_oex (e := e) (es := []) (p := p) (pos := pos) T iC tI hF (ck.room.mono hj) hb .nil passL hg hm (sa_cons ha sa_nil he).pa hdb he hpl
  refine ⟨ps_imp (ps_raise ck.calm ck.tk pk) fun D σ H ⟨Φ, Z, ρ, env, m, F, q⟩ => ?_⟩
  unfold sRaise at q
  refine ⟨Φ, Z, ρ, env, m, F, ?_⟩
  unfold lCons lNil
  cases ef : fe env m with
  | no => rw [ef] at q; exact q.elim
  | ex C ns vs m1 =>
    rw [ef] at q
    exact fun Z1 ρ1 H1 d us e1 r1 rs hl hd => q Z1 ρ1 H1 σ d us e1 ⟨r1, F.env.ext e1⟩ rs hl hd
  | ok t m1 =>
    rw [ef] at q
    intro Z1 ρ1 H1 vs e1 r1 rs
    unfold Reps at rs
    obtain ⟨v, us, rfl, rv, rn⟩ := rs
    unfold Reps at rn
    subst rn
    refine ⟨Nat.le_of_ble_eq_true rfl, fun a na => ⟨a, C, v, rfl, T, hno, upd_same, fun dx hdx hne => ⟨rfl, dx, [(f, v)], upd_same, ?_, ?_, ?_⟩⟩⟩
    · rw [upd_ne hne, upd_same]
    · rw [upd_ne hne] at hdx; exact hdx
    · have hdx' : H1 dx = none := by rw [upd_ne hne] at hdx; exact hdx
      have eH : upd (del (upd (upd (upd H1 a (exo a C none)) dx (exd dx [(f, v)])) a (exo a C (some dx))) a) dx (.xd [(f, v)]) = upd H1 dx (.xd [(f, v)]) := by
        funext b
        by_cases hbd : b = dx
        · subst hbd; rw [upd_same, upd_same]
        · rw [upd_ne hbd, upd_ne hbd]
          by_cases hba : b = a
          · subst hba; rw [del_same, na]
          · rw [del_ne hba, upd_ne hba, upd_ne hbd, upd_ne hba]
      rw [eH]
      obtain ⟨r2, e2⟩ := r1.allocZ hdx' (.xd [(f, v)])
      exact q _ _ _ σ dx [v] (e1.trans e2) ⟨r2, F.env.ext (e1.trans e2)⟩ (.cons (rv.ext e2) .nil) rfl upd_same C hC
/-! ### try: body, except c as n: x = (w, n.f) -/
/-- what an except suite of that form does -/
def tsA (K : PySem.W.Frag) (i j : Nat) (w : Str) (f : Str) (C : Addr) (a : Addr) (cls : Value) (d : Option Addr) : TS := fun D σ H => tTup (tCons (tC (.str w)) (tCons (tXf a cls d C f (tVar i)) tNil)) σ H fun v H1 => D.nx (σ.set j (some v)) H1
def sTryA (c : Str) (i j : Nat) (w f : Str) (body : SF) : SF := fun env m => match body env m with
  | .ex d ns vs env1 m1 => if d = c ∧ i < env1.length ∧ env1.length = env.length then match fld f ns vs with
      | some t => .nx ((env1.set j (some (.tup [.str w, t]))).set i none) m1
      | none => .no
    else .no
  | r => r
theorem fld_zip {f : Str} {ns : List Str} {ts : List T} {us : List V} {K : PySem.W.Frag} {Z : Hp} {ρ : List Addr} {t : T} (hl : ns.length = us.length) (r : Reps K Z ρ ts us) (h : fld f ns ts = some t) : ∃ v, (ns.zip us).lookup f = some v ∧ Rep K Z ρ t v := by
  induction ns generalizing ts us with
  | nil => simp [fld] at h
  | cons n ns ih =>
    cases us with
    | nil => simp at hl
    | cons u us =>
      cases ts with
      | nil => simp [fld] at h
      | cons s ts =>
        unfold Reps at r
        obtain ⟨v, vs, e, rv, rs⟩ := r
        cases e
        unfold fld at h
        rw [List.zip_cons_cons, List.lookup_cons]
        by_cases q : f = n
        · subst q
          rw [if_pos (eqS_iff.mpr rfl)] at h
          cases h
          exact ⟨u, by simp, rv⟩
        · rw [if_neg (fun z => q (eqS_iff.mp z))] at h
          obtain ⟨v', h1, h2⟩ := ih (by simpa using hl) rs h
          refine ⟨v', ?_, h2⟩
          have : (f == n) = false := by simpa using q
          rw [this]; exact h1
theorem ss_tryA {k j' : Nat} {i j : Nat} {c f w n : Str} {body : List Stmt} {b₀ : Stmt} {fb : SF} {np pos pos' : Pos} (ck : Cok X W k) (D : XcOk X.prog X.w X.K X.mg X.base j' c f)
    (hb : ∀ (W' : WX) (pn : List (Addr × Obj)) (xe : Value → Shared → Prop), Cok (X.tr pn xe) W' k → SSs (X.tr pn xe) W' body fb)
    (hsu : ∀ (C a : Addr) (oe : Obj) (cls : Value) (d : Option Addr) (pn : List (Addr × Obj)), XfC X.K C → PySem.W.findIn X.K (.ref C) f = some none → Zc cls d oe → (∃ vs, oe.data = .fields vs) → PSs (X.suite a ((a, oe) :: pn)) [b₀] (tsA X.K i j w f C a cls d))
    (hij : i ≠ j) (hs : X.stack = X.env :: X.outer := by rfl) (hf : X.env.frame = some X.env.locals := by rfl) (hi : X.N[i]? = some n := by rfl) (hln : X.env.kindOf n = some .local := by rfl) (hg : Gl X c := by rfl) (hdb : (c == ("__debug__" : Str)) = false := by decide) :
    SS X W (.Try body [.ExceptHandler (some (.Name c np)) (some n) [b₀] pos'] [] [] pos) (sTryA c i j w f fb) := by
  obtain ⟨C, fI, fd, ps, hC, hm, T, hno, iC, tI, hF, hbi, hx, hex⟩ := D.ok
  refine ⟨ps_imp (ps_try_as (c := .ref C) (tb := fun W' => trS X.K W' fb) (ts := fun a cls d => tsA X.K i j w f C a cls d) hs hf ck.nd hi hln ⟨hg, hdb, .inl hm⟩ ck.tk (fun W' pn xe tk pa => (hb W' pn xe ⟨tk, pa, ck.calm, ck.nd, ck.room, ⟨ck.here.p, ck.here.w⟩⟩).ps) (fun a oe cls d pn hz hfl => hsu C a oe cls d pn hx hno hz hfl)) fun D σ H ⟨Φ, Z, ρ, env, m, F, q⟩ => ⟨Φ, Z, ρ, env, m, F, ?_⟩⟩
  unfold sTryA at q
  cases eb : fb env m with
  | nx env1 m1 => rw [eb] at q; exact q
  | rt t m1 => rw [eb] at q; exact q
  | bk env1 m1 => rw [eb] at q; exact q
  | ct env1 m1 => rw [eb] at q; exact q
  | no => rw [eb] at q; exact q
  | ex d ns vs env1 m1 =>
    rw [eb] at q
    intro Z1 ρ1 H1 σ1 dd us e1 F1 rs hl hd C' hC'
    simp only at q
    split at q
    rotate_left
    · exact q.elim
    rename_i hdc
    obtain ⟨hdc, hil, hel⟩ := hdc
    subst hdc
    have hCC := hC'.inj hC
    subst hCC
    split at q
    rotate_left
    · exact q.elim
    rename_i t ht
    obtain ⟨v, h1, h2⟩ := fld_zip hl rs ht
    refine ⟨true, hex, fun _ a na => ?_, fun z => by cases z⟩
    refine ⟨.ref a, ?_, rfl, rfl, dd, ns.zip us, v, rfl, F1.rel.zin _ _ hd, h1, ?_⟩
    · rw [List.getElem?_set_self (by rw [← F1.env.len]; exact hil)]
    · refine ⟨Nat.le_of_ble_eq_true rfl, fun p hp => ?_⟩
      obtain ⟨r2, e2⟩ := F1.rel.allocZ hp (.tup [.str w, v])
      have rt : Rep X.K (upd Z1 p (.tup [.str w, v])) ρ1 (.tup [.str w, t]) (.ref p) := by
        unfold Rep
        exact ⟨p, _, rfl, .of upd_same, .cons rep_str (.cons (h2.ext e2) .nil)⟩
      have V := (F1.env.ext e2).set j rt
      refine q _ _ _ _ (e1.trans e2) ⟨r2, ?_⟩ ?_
      · refine ⟨by simp [F1.env.len], fun y u hy => ?_⟩
        by_cases hyi : i = y
        · subst hyi
          rw [List.getElem?_set] at hy
          simp only [if_true] at hy
          split at hy <;> cases hy
        · rw [List.getElem?_set_ne hyi] at hy
          obtain ⟨v', g1, g2⟩ := V.get y u hy
          refine ⟨v', ?_, g2⟩
          rw [List.getElem?_set_ne hyi]
          by_cases hyj : j = y
          · subst hyj
            have hjl : j < σ1.length := by
              have := (List.getElem?_eq_some_iff.mp g1).1
              simpa using this
            rw [List.getElem?_set_self (by simpa using hjl)]
            rw [List.getElem?_set_self hjl] at g1
            exact g1
          · rw [List.getElem?_set_ne hyj, List.getElem?_set_ne hyi]
            rw [List.getElem?_set_ne hyj] at g1
            exact g1
      · simp only [List.length_set]
        rw [← F1.env.len, hel, F.env.len]
end
end Ev

/-! further built-in things -/
namespace Ev
open PySem L2
variable [Wrl]
theorem vals_signs : ∀ (cs : List Nat) (vs : List Value), vs.length = cs.length → (∀ (j : Nat) (v : Value), vs[j]? = some v → ∃ c u, cs[j]? = some c ∧ v = .str ⟨#[c]⟩ u) → Vals (cs.map fun c => V.str ⟨#[c]⟩) vs
  | [], [], _, _ => .nil
  | [], _ :: _, h, _ => by simp at h
  | _ :: _, [], h, _ => by simp at h
  | c :: cs, v :: vs, h, hv => by
    obtain ⟨d, u, e1, e2⟩ := hv 0 v rfl
    have e1 : c = d := by simpa using e1
    subst e1
    exact .cons ⟨u, e2⟩ (vals_signs cs vs (by simpa using h) fun j w hw => by simpa using hv (j + 1) w (by simpa using hw))
theorem vals_of_items {x : Str} {acc : Array Value} (h : ItemsOf (SignAt x) acc x.cps.size) : Vals (x.cps.toList.map fun c => V.str ⟨#[c]⟩) acc.toList := by
  refine vals_signs _ _ (by simpa using h.1) fun j v hv => ?_
  obtain ⟨c, u, e1, e2⟩ := h.2 j v (by simpa using hv)
  exact ⟨c, u, by simpa using e1, e2⟩
section
variable {X : Cx} {W : WX} {K : PySem.W.Frag}
def rTupS : List V → Hp → VK → Prop := fun xs H Q => ∃ x : Str, xs = [.str x] ∧ x.length ≤ 1000 ∧ ∀ l, H l = none → Q (.ref l) (upd H l (.tup (x.cps.toList.map fun c => V.str ⟨#[c]⟩)))
theorem call_tupS (hc : X.calm = true) : CallR X (.type "tuple") rTupS := by
  intro pins s σ H xs us Q I r h
  obtain ⟨x, rfl, hl, h⟩ := h
  obtain ⟨u, rfl, rx⟩ := vals1 r
  obtain ⟨t, rfl⟩ := rx
  have hsz : x.cps.size ≤ sizeLine := Nat.le_trans hl (lim_le (by unfold lim; decide))
  refine call_tuple_str (I.ok.hd hc) x t (fun h' tk acc kp hit => ?_) hsz
  have I1 : Inv X pins σ H { s with heap := h', toks := tk } := I.kept (t' := tk) kp
  have hv := vals_of_items hit
  have I2 : Inv X pins σ (upd H h'.objs.size (.tup (x.cps.toList.map fun c => V.str ⟨#[c]⟩))) { s with heap := h'.push { cls := .type "tuple", data := .seq acc }, toks := tk } :=
    I1.laid (t' := tk) (fun b o e => Heap.get?_push_of_some _ e) (Nat.le_refl _) (show ObjOk X.prog X.w _ _ _ (.tup _) from ⟨by rw [List.length_map]; simpa using hsz, acc.toList, hv, by simpa using PyProof.Rows.IsTup.new _ _⟩)
  exact ⟨.ref h'.objs.size, _, I2, rfl, h _ (I1.hok.fresh (Nat.le_refl _))⟩
def letters (x : Str) : List T := x.cps.toList.map fun c => .str ⟨#[c]⟩
def gTupleS : List T → Mem → Out T := fun xs m => match xs with
  | [.str x] => if x.length ≤ 1000 then .ok (.tup (letters x)) m else .no
  | _ => .no
variable {Φ Z : Hp} {ρ : List Addr} {σ : L2.St} {H : Hp} {m : Mem}
theorem reps_letters (x : List Nat) : Reps K Z ρ (x.map fun c => T.str ⟨#[c]⟩) (x.map fun c => V.str ⟨#[c]⟩) := by
  induction x with
  | nil => exact .nil
  | cons c cs ih => exact .cons rep_str ih
theorem sem_tupS : SemL K gTupleS rTupS := by
  intro W Φ Z ρ σ H m Q xs vs r rs p
  unfold gTupleS at p
  split at p
  · rename_i x
    split at p
    · rename_i hl
      unfold Reps at rs
      obtain ⟨v, us, rfl, rv, rn⟩ := rs
      unfold Reps at rn
      subst rn
      unfold Rep at rv
      subst rv
      exact ⟨x, rfl, hl, fun q hq => post_tup r (reps_letters _) p hq⟩
    · exact p.elim
  · exact p.elim
/-- a sign in a text -/
def gInZ (neg : Bool) : T → T → Mem → Out T := fun x y m => match x, y with
  | .str a, .str z => match a.cps.toList with
    | [c] => .ok (.bl (if neg then !decide (c ∈ z.cps.toList) else decide (c ∈ z.cps.toList))) m
    | _ => .no
  | _, _ => .no
theorem one_sign {a : Str} {c : Nat} (h : a.cps.toList = [c]) : a = ⟨#[c]⟩ := by
  cases a with
  | mk cps =>
    have : cps = #[c] := by
      apply Array.ext'
      simpa using h
    rw [this]
theorem sem_inZ : Sem2 K (gInZ false) (fun x y H Q => ∃ (c : Nat) (z : Str), x = .str ⟨#[c]⟩ ∧ y = .str z ∧ Q (.bl (decide (c ∈ z.cps.toList))) H) := by
  intro W Φ Z ρ σ H m Q x y vx vy r rx ry p
  unfold gInZ at p
  split at p
  · rename_i a z
    split at p
    · rename_i c e
      unfold Rep at rx ry; subst rx; subst ry
      exact ⟨c, z, by rw [one_sign e], rfl, post_ok r rep_bl (by simpa using p)⟩
    · exact p.elim
  · exact p.elim
theorem sem_notInZ : Sem2 K (gInZ true) (fun x y H Q => ∃ (c : Nat) (z : Str), x = .str ⟨#[c]⟩ ∧ y = .str z ∧ Q (.bl (!decide (c ∈ z.cps.toList))) H) := by
  intro W Φ Z ρ σ H m Q x y vx vy r rx ry p
  unfold gInZ at p
  split at p
  · rename_i a z
    split at p
    · rename_i c e
      unfold Rep at rx ry; subst rx; subst ry
      exact ⟨c, z, by rw [one_sign e], rfl, post_ok r rep_bl (by simpa using p)⟩
    · exact p.elim
  · exact p.elim
/-- a tuple taken several times -/
def gMulT : T → T → Mem → Out T := fun x y m => match x, y with
  | .tup xs, .int k => if xs ≠ [] ∧ 2 ≤ k ∧ k ≤ 1000 ∧ xs.length ≤ 1000 then .ok (.tup (List.replicate k.toNat xs).flatten) m else .no
  | _, _ => .no
instance (xs : List T) : Decidable (xs ≠ []) := match xs with
  | [] => .isFalse fun h => h rfl
  | _ :: _ => .isTrue fun h => nomatch h
theorem sem_mulT : Sem2 K gMulT (rRepT K) := by
  intro W Φ Z ρ σ H m Q x y vx vy r rx ry p
  unfold gMulT at p
  split at p
  · rename_i xs k
    split at p
    · rename_i h
      obtain ⟨a, vs, rfl, qa, ra⟩ := asT_rep r rx (ts := xs) rfl
      unfold Rep at ry; subst ry
      refine ⟨a, k, vs, rfl, rfl, qa, fun e => h.1 ?_, h.2.1, h.2.2.1, by rw [← ra.length]; exact h.2.2.2, fun q hq => post_tup r (ra.rep _) p hq⟩
      have := ra.length
      rw [e] at this
      exact List.eq_nil_of_length_eq_zero this
    · exact p.elim
  · exact p.elim
/-- an expression whose new dict is locked for good -/
theorem pe_locked {X : Cx} {e : Expr} {t : TE} (h : PE X e t) : PE X e (fun σ H Q => t σ H fun v H1 => ∃ a u, v = .ref a ∧ H1 a = some u ∧ Mut (some u) ∧ ∀ od, Q v (upd H1 a (.frz od u))) := by
  refine ⟨fun pins s σ H Q I hw => ?_⟩
  refine thn (h.run pins s σ _ _ I hw) fun v s1 ⟨x, H1, I1, r, a, u, ex, ea, mu, q⟩ => ?_
  obtain ⟨od, I2⟩ := I1.lock ea mu
  exact ⟨x, _, I2, r, q od⟩
theorem upd2 {H : Hp} {a : Addr} {o u : HO} : upd (upd H a o) a u = upd H a u := upd_upd
/-- {}: a cell, or locked -/
def mkD (mu : Bool) (ks : List Key) (ts : List T) (m : Mem) : Out T := if mu then .ok (.loc m.length) (m ++ [some (.dct ks ts)]) else .ok (.dct ks ts) m
def eDict (mu : Bool) : EF := fun _ m => mkD mu [] [] m
theorem post_mkD {mu : Bool} {ks : List Key} {ts : List T} {vs : List V} {Q : VK} (r : Rel K Φ Z ρ H m) (rs : Reps K Z ρ ts vs) (hl : ks.length = vs.length) (h : Post K W Φ Z ρ σ Q (mkD mu ks ts m)) {p : Addr} (hp : H p = none) :
    (mu = true → Q (.ref p) (upd H p (.dK (ks.zip vs)))) ∧ (mu = false → ∀ od, Q (.ref p) (upd H p (.frz od (.dK (ks.zip vs))))) := by
  cases mu with
  | false =>
    refine ⟨fun z => (nomatch z), fun _ od => ?_⟩
    obtain ⟨r', e⟩ := r.allocZ hp (.frz od (.dK (ks.zip vs)))
    refine h _ _ _ _ e r' ?_
    unfold Rep
    exact ⟨p, vs, od, rfl, upd_same, hl, rs.ext e⟩
  | true =>
    refine ⟨fun _ => ?_, fun z => nomatch z⟩
    obtain ⟨r', e⟩ := r.allocC hp (o := .dK (ks.zip vs)) (u := .dct ks ts) ⟨vs, rfl, hl, rs⟩
    refine h _ _ _ _ e r' ?_
    unfold Rep
    exact ⟨p, by rw [← r.len]; simp, rfl⟩
/-- a rule that makes a dict makes one in a cell, or one that is locked -/
theorem se_mkD {e : Expr} {f : EF} {t : TE} {mu : Bool} (h : PE X e t)
    (i : ∀ Φ Z ρ σ H env m (Q : VK), Fits X.K Φ Z ρ σ H env m → Post X.K W Φ Z ρ σ Q (f env m) → if mu then t σ H Q else t σ H fun v H1 => ∃ a u, v = .ref a ∧ H1 a = some u ∧ Mut (some u) ∧ ∀ od, Q v (upd H1 a (.frz od u))) : SE X W e f := by
  cases mu with
  | true => exact ⟨pe_imp h fun σ H Q ⟨Φ, Z, ρ, env, m, F, p⟩ => i Φ Z ρ σ H env m Q F p⟩
  | false => exact ⟨pe_imp (pe_locked h) fun σ H Q ⟨Φ, Z, ρ, env, m, F, p⟩ => i Φ Z ρ σ H env m Q F p⟩
theorem se_dict (mu : Bool) {pos : Pos} : SE X W (.Dict [] [] pos) (eDict mu) := se_mkD (mu := mu) pe_dnewK fun Φ Z ρ σ H env m Q F p => by
  cases mu with
  | true => exact fun q hq => ((post_mkD F.rel .nil rfl p hq).1 rfl)
  | false => exact fun q hq => ⟨q, _, rfl, upd_same, True.intro, fun od => by rw [upd_upd]; exact (post_mkD F.rel .nil rfl p hq).2 rfl od⟩
end
end Ev

/-! sets of ints and texts: what they are, add, sorted -/
namespace EvM
open PySem PySem.Spec PyProof.Rows L2
theorem good_key {P : Program} {w : World} {e : Int × Value} {k : Key} (g : RelV (kV k) e.2) : Ev.keyM e = k := by
  unfold Ev.keyM
  cases k with
  | inl i => obtain ⟨t, q⟩ := (show ∃ t, e.2 = Value.int i t from g); rw [q]
  | inr x => obtain ⟨t, q⟩ := (show ∃ t, e.2 = Value.str x t from g); rw [q]
section
variable {P : Program} {w : World} {A : Around} {E : Value → Shared → Prop} {s : Shared} {a : Addr} {ks : List Key}
theorem gd_elems {l : List (Int × Value)} (g : ∀ e ∈ l, Ev.GoodM P w e) : ElemsOf (mixKind P w) l := fun e he => by
  obtain ⟨k, r, hh⟩ := g e he
  refine ⟨⟨k, kV_is r, hh⟩, ?_⟩
  cases k with
  | inl i => obtain ⟨t, q⟩ := (show ∃ t, e.2 = Value.int i t from r); rw [q]; rfl
  | inr x => obtain ⟨t, q⟩ := (show ∃ t, e.2 = Value.str x t from r); rw [q]; rfl
theorem gd_is {e : Int × Value} (g : Ev.GoodM P w e) (k : Key) : (mixKind P w).is k e.2 = true ↔ Ev.keyM e = k := by
  obtain ⟨j, r, _⟩ := g
  have ej := good_key (P := P) (w := w) r
  refine ⟨fun z => ej.trans ((mixKind P w).inj _ _ _ (kV_is r) z), fun z => ?_⟩
  have : j = k := ej.symm.trans z
  rw [← this]; exact kV_is r
theorem gd_mem {l : List (Int × Value)} (g : ∀ e ∈ l, Ev.GoodM P w e) (k : Key) : k ∈ l.map Ev.keyM ↔ ∃ e ∈ l, (mixKind P w).is k e.2 = true := by
  rw [List.mem_map]
  exact ⟨fun ⟨e, h1, h2⟩ => ⟨e, h1, (gd_is (g e h1) k).mpr h2⟩, fun ⟨e, h1, h2⟩ => ⟨e, h1, (gd_is (g e h1) k).mp h2⟩⟩
theorem sm_fresh {h : Heap} (w : World) : Ev.SetM P w (h.push { cls := .type "set", dict := none, data := .set #[] 0 (.fresh 0 0 (!w.params.followText "set-order")) }) h.objs.size [] :=
  ⟨_, #[], 0, _, Heap.get?_push_size _ rfl, ⟨rfl, rfl, rfl⟩, rfl, (fun _ z => by simp at z), .nil, List.nodup_nil, by decide, rfl, List.Pairwise.nil, by
    cases hw : w.params.followText "set-order" with
    | true => exact .inl rfl
    | false => exact .inr rfl⟩
/-- what is left of add behind the new entry's place -/
theorem sm_tail {g : Bool → Sem Unit} (gOk : ∀ (c : Bool) (z : Shared) (q : Unit → Shared → Prop), q () z → wpAny (model P w) A (g c) q E z)
    {ob : Obj} {es0 es1 : Array (Int × Value)} {ep : Nat} {t0 t1 : SetTable} {js : List Key} (h0 : s.heap.get? a = some ob) (hx : ob.ExactSet) (hd : ob.data = .set es0 ep t0)
    (good : ∀ e ∈ es1.toList, Ev.GoodM P w e) (pm : (es1.toList.map Ev.keyM).Perm js) (nd : js.Nodup) (few : js.length < 4090)
    (fit : t1.fits es1.size = true) (ris : Ris t1.place.toList) (led : w.params.followText "set-order" = true ∨ t1.led = true) {wasDummy : Bool} {R : Option Bool → Shared → Prop}
    (fin : ∀ h1, Heap.SameBut a s.heap h1 → Ev.SetM P w h1 a js → R (some true) { s with heap := h1 }) :
    wpAny (model P w) A (do
        storeSet a es1 t1
        if (!wasDummy && t1.tooFull) = true then do
            g (relayAll t1 es1 (SetTable.grown es1.size)).2.2
            storeSet a (relayAll t1 es1 (SetTable.grown es1.size)).1 (relayAll t1 es1 (SetTable.grown es1.size)).2.1
            pure (some true)
          else pure (some true)) R E s := by
  have sz1 : es1.size = js.length := by rw [← Array.length_toList, ← List.length_map (f := Ev.keyM), pm.length_eq]
  have b1 : es1.size < scanBound := by rw [sz1]; exact Nat.lt_trans few (by decide)
  refine wpAny_bind (wpAny_storeSet_of h0 hd ?_ (fits_of_scanBound b1))
  have at1 := store_at (es' := es1) (t' := t1) h0 hd
  have same1 := Heap.SameBut.update s.heap a (Obj.putSet es1 t1)
  split
  · have pmR := relayAll_perm t1 es1 (SetTable.grown es1.size)
    have fitR := relayAll_fits t1 es1 (SetTable.grown es1.size)
    have risR := relayAll_ris t1 es1 (SetTable.grown es1.size)
    have ledR := relayAll_led t1 es1 (SetTable.grown es1.size)
    generalize relayAll t1 es1 (SetTable.grown es1.size) = Y at pmR fitR risR ledR ⊢
    obtain ⟨es2, t2, gone⟩ := Y
    dsimp only at pmR fitR risR ledR ⊢
    have sz2 : es2.size = es1.size := by rw [← Array.length_toList, pmR.length_eq, Array.length_toList]
    refine wpAny_bind (gOk _ _ _ ?_)
    refine wpAny_bind (wpAny_storeSet_of at1 rfl ?_ (fits_of_scanBound (by rw [sz2]; exact b1)))
    have at2 := store_at (es' := es2) (t' := t2) at1 rfl
    exact wpAny_pure (fin _ (same1.trans (Heap.SameBut.update _ a _)) ⟨_, es2, _, t2, at2, hx, rfl, fun e he => good e (pmR.mem_iff.mp he), (pmR.map Ev.keyM).trans pm, nd, few, fitR, risR, led.imp id fun z => ledR.trans z⟩)
  · exact wpAny_pure (fin _ same1 ⟨_, es1, _, t1, at1, hx, rfl, good, pm, nd, few, fit, ris, led⟩)
theorem sm_add_hashed {k : Key} {u : Value} {Q : Bool → Shared → Prop} (S : Ev.SetM P w s.heap a ks) (ru : RelV (kV k) u) (few : ks.length < 4000)
    (fin : ∀ h1, Heap.SameBut a s.heap h1 → Ev.SetM P w h1 a (Ev.addK ks k) → ∀ r, Q r { s with heap := h1 }) : wpAny (model P w) A (setAddHashed a u ((mixKind P w).hash k)) Q E s := by
  obtain ⟨ob, es0, ep, t0, h0, hx, hd, good, pm, nd, few0, fit, ris, led⟩ := S
  have hkey : (mixKind P w).is k u = true := kV_is ru
  have hsc : u.scannable = true := by
    cases k with
    | inl i => obtain ⟨t, q⟩ := (show ∃ t, u = Value.int i t from ru); rw [q]; rfl
    | inr x => obtain ⟨t, q⟩ := (show ∃ t, u = Value.str x t from ru); rw [q]; rfl
  have els : ElemsOf (mixKind P w) es0.toList := gd_elems good
  have sz0 : es0.size = ks.length := by rw [← Array.length_toList, ← List.length_map (f := Ev.keyM), pm.length_eq]
  have b0 : es0.size < scanBound := by rw [sz0]; exact Nat.lt_trans few (by decide)
  unfold setAddHashed setAddHashedIn
  refine wpAny_holding (wpAny_bind (wpAny_setState_of h0 hd fit ?_))
  dsimp only
  rw [byScan_of hsc b0 els]
  simp only [↓reduceIte]
  unfold setAddByScan
  refine wpAny_bind (wpAny_bind (wpAny_rule ?_))
  refine wpAny_bind (wpAny_setScan_of hkey h0 hd fit els ?_)
  cases hf : List.findIdx? (fun e => (mixKind P w).is k e.2) es0.toList with
  | some j =>
    dsimp only
    obtain ⟨hj, pj, _⟩ := List.findIdx?_eq_some_iff_getElem.mp hf
    have hin : k ∈ ks := pm.mem_iff.mp ((gd_mem good k).mpr ⟨_, List.getElem_mem hj, pj⟩)
    refine wpAny_pure (wpAny_pure (fin s.heap (Heap.SameBut.refl a s.heap) ⟨ob, es0, ep, t0, h0, hx, hd, good, ?_, ?_, ?_, fit, ris, led⟩ _))
    · rw [Ev.addK_in hin]; exact pm
    · rw [Ev.addK_in hin]; exact nd
    · rw [Ev.addK_in hin]; exact few0
  | none =>
    dsimp only
    have hin : k ∉ ks := fun z => by
      obtain ⟨e, he, q⟩ := (gd_mem good k).mp (pm.mem_iff.mpr z)
      have c := List.findIdx?_eq_none_iff.mp hf e he
      rw [q] at c; cases c
    have gOk : ∀ (c : Bool) {z : Shared} {q : Unit → Shared → Prop}, q () z → wpAny (model P w) A (match c with | true => rule "set.scan.the-table-gave-way" | false => pure ()) q E z :=
      fun c z q h => by cases c <;> first | exact wpAny_pure h | exact wpAny_rule h
    have pmL := layNew_perm t0 es0 ((mixKind P w).hash k) u
    have fitL := layNew_fits t0 es0 ((mixKind P w).hash k) u
    have risL := layNew_ris t0 es0 ((mixKind P w).hash k) u ris
    have ledL := layNew_led t0 es0 ((mixKind P w).hash k) u
    generalize layNew t0 es0 ((mixKind P w).hash k) u = Y at pmL fitL risL ledL ⊢
    obtain ⟨es1, t1, wasDummy, gone⟩ := Y
    dsimp only at pmL fitL risL ledL ⊢
    rw [Array.toList_push] at pmL
    have goodU : Ev.GoodM P w ((mixKind P w).hash k, u) := ⟨k, ru, rfl⟩
    have good1 : ∀ e ∈ es1.toList, Ev.GoodM P w e := fun e he => by
      rcases List.mem_append.mp (pmL.mem_iff.mp he) with z | z
      · exact good e z
      · rw [List.mem_singleton.mp z]; exact goodU
    have pm1 : (es1.toList.map Ev.keyM).Perm (Ev.addK ks k) := by
      rw [Ev.addK_out hin]
      refine (pmL.map Ev.keyM).trans ?_
      rw [List.map_append, List.map_cons, List.map_nil, good_key (P := P) (w := w) (e := ((mixKind P w).hash k, u)) ru]
      exact pm.append_right _
    have nd1 : (Ev.addK ks k).Nodup := by
      rw [Ev.addK_out hin]
      exact List.nodup_append.mpr ⟨nd, by simp, fun x hx y hy e => hin (by rw [← List.mem_singleton.mp hy, ← e]; exact hx)⟩
    have few1 : (Ev.addK ks k).length < 4090 := by
      rw [Ev.addK_out hin, List.length_append, List.length_singleton]; omega
    have led1 : w.params.followText "set-order" = true ∨ t1.led = true := led.imp id fun z => by rw [ledL]; exact z
    refine wpAny_bind (gOk _ ?_)
    split
    · refine wpAny_bind ?_
      rw [hashByValue_scannable 8 hsc]
      refine wpAny_pure (sm_tail (fun c z q h => by cases c <;> first | exact wpAny_pure h | exact wpAny_rule h) h0 hx hd good1 pm1 nd1 few1 ?_ ?_ ?_ fun h1 sb r => by dsimp only; exact wpAny_pure (fin h1 sb r _))
      · first | (split <;> first | exact fitL | exact SetTable.fits_plain_off fitL) | exact fitL
      · first | (split <;> exact risL) | exact risL
      · first | (split <;> exact led1) | exact led1
    · refine wpAny_bind (wpAny_pure ?_)
      simp only [↓reduceIte]
      exact sm_tail (fun c z q h => by cases c <;> first | exact wpAny_pure h | exact wpAny_rule h) h0 hx hd good1 pm1 nd1 few1 fitL risL led1 fun h1 sb r => by dsimp only; exact wpAny_pure (fin h1 sb r _)
/-- s.add(k) -/
theorem sm_add {k : Key} {u : Value} {Q : Value → Shared → Prop} (S : Ev.SetM P w s.heap a ks) (ru : RelV (kV k) u) (few : ks.length < 4000)
    (fin : ∀ h1 tk, Heap.SameBut a s.heap h1 → Ev.SetM P w h1 a (Ev.addK ks k) → Q .none { s with heap := h1, toks := tk }) : wpAny (model P w) A (call (.builtin "set.add") [.ref a, u]) Q E s := by
  have ty : s.TypeIs (.ref a) "set" := let ⟨ob, _, _, _, h0, hx, _⟩ := S; ⟨ob, h0, hx.1⟩
  refine wpAny_call_entry F.slot_set_add ty F.entry_set_add ?_ (F.args_set_add_2 _ _)
  unfold Builtin.«set.add» Builtin.Frozenset.oneOther
  simp only [List.isEmpty_nil, bind_assoc]
  unfold Builtin.Frozenset.addrOf setAdd
  refine wpAny_bind (wpAny_pure ?_)
  try dsimp only
  refine wpAny_bind (wpAny_pure ?_)
  try dsimp only
  refine wpAny_bind (wpAny_holding (wpAny_bind ((mixKind P w).pyHash (kV_is ru) ?_)))
  refine sm_add_hashed (s := { s with toks := s.toks + 1 }) S ru few fun h1 sb r b => ?_
  show wpAny _ _ (ret Value.none) _ _ _
  exact wpAny_pure ⟨_, rfl, fin h1 _ sb r⟩
end
end EvM

/-! set comprehensions of ints and texts, with one clause and with two -/
namespace EvN
open PySem PySem.Spec PyProof.Rows L2
abbrev scx (elt a ia : Expr) (fa : List Expr) (b ib : Expr) (fb : List Expr) (sc : Scope) (po : Pos) : Expr := .SetComp elt [⟨a, ia, fa, 0⟩, ⟨b, ib, fb, 0⟩] sc po
abbrev tsts (fs : List Expr) (env : PySem.Env) : Sem Bool := forIn fs true fun c r => if r = true then do let ok ← isTrue c env (eval c env); pure (ForInStep.yield ok) else pure (ForInStep.yield r)
theorem turn0 (elt a ia b ib : Expr) (fa fb : List Expr) (sc : Scope) (po : Pos) (it acc : Value) (env : PySem.Env) : compTurn (scx elt a ia fa b ib fb sc po) 0 it acc env = (do
      standAt ia.pos
      match ← pyNext it with
      | none => pure (.done .next)
      | some v =>
        letOwnedTupleGo a it v
        assign a env v
        let mut ok := true
        for c in fa do
          if ok then ok ← isTrue c env (eval c env)
        if ok then
          let x ← eval ib env
          standAt ib.pos
          let x ← foldedSetIterable ib env x
          let _ ← runOwn (.compStart (scx elt a ia fa b ib fb sc po) 1 (← holding [x] (pyIter x)) acc env) env
        again (.compLoop (scx elt a ia fa b ib fb sc po) 0 it acc env)) := by rfl
theorem turn1 (elt a ia b ib : Expr) (fa fb : List Expr) (sc : Scope) (po : Pos) (it acc : Value) (env : PySem.Env) : compTurn (scx elt a ia fa b ib fb sc po) 1 it acc env = (do
      standAt ib.pos
      match ← pyNext it with
      | none => pure (.done .next)
      | some v =>
        letOwnedTupleGo b it v
        assign b env v
        let mut ok := true
        for c in fb do
          if ok then ok ← isTrue c env (eval c env)
        if ok then
          (do let v ← eval elt env; standAt elt.pos; let _ ← call (.builtin "set.add") [acc, v])
        again (.compLoop (scx elt a ia fa b ib fb sc po) 1 it acc env)) := by rfl
section
variable {P : Program} {w : World} {A : Around} {R : Result → Shared → Prop} {s : Shared} {elt a ia b ib : Expr} {fa fb : List Expr} {sc : Scope} {po : Pos} {it acc : Value} {env : PySem.Env}
theorem loop0 (plain : ∀ x, foldedSetIterable ib env x = pure x) (J : Nat → Shared → Prop)
    (step : ∀ k z, J k z → wpAny (model P w) A (pyNext it) (fun r z1 => match r with
      | none => R (.ok .next) z1
      | some v => wpAny (model P w) A (letOwnedTupleGo a it v) (fun _ z2 => wpAny (model P w) A (assign a env v) (fun _ z3 => wpAny (model P w) A (tsts fa env) (fun ok z4 =>
            if ok = true then wpAny (model P w) A (eval ib env) (fun x z5 => wpAny (model P w) A (pyIter x) (fun jt z6 =>
              codeAny (model P w) A (.compStart (scx elt a ia fa b ib fb sc po) 1 jt acc env) (fun r z7 => match r with
                | .ok _ => ∃ l, l < k ∧ J l z7
                | .error _ => False) z6) (notedBy (model P w) A env fun e z => R (.error e) z) z5) (notedBy (model P w) A env fun e z => R (.error e) z) z4
            else ∃ l, l < k ∧ J l z4) (notedBy (model P w) A env fun e z => R (.error e) z) z3) (notedBy (model P w) A env fun e z => R (.error e) z) z2) (notedBy (model P w) A env fun e z => R (.error e) z) z1) (notedBy (model P w) A env fun e z => R (.error e) z) z)
    (k : Nat) (j0 : J k s) : codeAny (model P w) A (.compLoop (scx elt a ia fa b ib fb sc po) 0 it acc env) R s := by
  refine codeAny_loop rfl J (fun k z hJ => ?_) k j0
  show wpAny _ A ((compTurn (scx elt a ia fa b ib fb sc po) 0 it acc env).onRaise (fun x => do noteFrame x env; theTreesLotGoes x)) _ _ z
  refine wpAny_noted ?_
  rw [turn0]
  refine wpAny_bind (wpAny_standAt (wpAny_bind (wpAny_mono (step k z hJ) (fun r z1 q1 => ?_) fun _ _ e => e)))
  cases r with
  | none => exact wpAny_pure q1
  | some v =>
    refine wpAny_bind (wpAny_mono q1 (fun _ z2 q2 => wpAny_bind (wpAny_mono q2 (fun _ z3 q3 => wpAny_bind (wpAny_mono q3 (fun ok z4 q4 => ?_) fun _ _ e => e)) fun _ _ e => e)) fun _ _ e => e)
    cases ok with
    | false => exact wpAny_pure ⟨rfl, q4⟩
    | true =>
      refine wpAny_bind (wpAny_mono q4 (fun x z5 q5 => ?_) fun _ _ e => e)
      refine wpAny_bind (wpAny_standAt (wpAny_bind (wpAny_of_eq (plain x) (wpAny_bind (wpAny_holding (wpAny_mono q5 (fun jt z6 q6 => ?_) fun _ _ e => e))))))
      refine wpAny_bind (wpAny_runOwn ?_)
      rw [Around.mark_none]
      refine codeAny_mono q6 fun r z7 q7 => ?_
      cases r with
      | ok f => first | exact wpAny_pure ⟨rfl, q7⟩ | exact wpAny_bind (wpAny_pure (wpAny_pure ⟨rfl, q7⟩))
      | error e => exact q7.elim
theorem loop1 (J : Nat → Shared → Prop)
    (step : ∀ k z, J k z → wpAny (model P w) A (pyNext it) (fun r z1 => match r with
      | none => R (.ok .next) z1
      | some v => wpAny (model P w) A (letOwnedTupleGo b it v) (fun _ z2 => wpAny (model P w) A (assign b env v) (fun _ z3 => wpAny (model P w) A (tsts fb env) (fun ok z4 =>
            if ok = true then wpAny (model P w) A (eval elt env) (fun x z5 => wpAny (model P w) A (call (.builtin "set.add") [acc, x]) (fun _ z6 => ∃ l, l < k ∧ J l z6) (notedBy (model P w) A env fun e z => R (.error e) z) z5) (notedBy (model P w) A env fun e z => R (.error e) z) z4
            else ∃ l, l < k ∧ J l z4) (notedBy (model P w) A env fun e z => R (.error e) z) z3) (notedBy (model P w) A env fun e z => R (.error e) z) z2) (notedBy (model P w) A env fun e z => R (.error e) z) z1) (notedBy (model P w) A env fun e z => R (.error e) z) z)
    (k : Nat) (j0 : J k s) : codeAny (model P w) A (.compLoop (scx elt a ia fa b ib fb sc po) 1 it acc env) R s := by
  refine codeAny_loop rfl J (fun k z hJ => ?_) k j0
  show wpAny _ A ((compTurn (scx elt a ia fa b ib fb sc po) 1 it acc env).onRaise (fun x => do noteFrame x env; theTreesLotGoes x)) _ _ z
  refine wpAny_noted ?_
  rw [turn1]
  refine wpAny_bind (wpAny_standAt (wpAny_bind (wpAny_mono (step k z hJ) (fun r z1 q1 => ?_) fun _ _ e => e)))
  cases r with
  | none => exact wpAny_pure q1
  | some v =>
    refine wpAny_bind (wpAny_mono q1 (fun _ z2 q2 => wpAny_bind (wpAny_mono q2 (fun _ z3 q3 => wpAny_bind (wpAny_mono q3 (fun ok z4 q4 => ?_) fun _ _ e => e)) fun _ _ e => e)) fun _ _ e => e)
    cases ok with
    | false => exact wpAny_pure ⟨rfl, q4⟩
    | true => exact wpAny_bind (wpAny_bind (wpAny_mono q4 (fun x z5 q5 => wpAny_bind (wpAny_standAt (wpAny_bind (wpAny_mono q5 (fun _ z6 q6 => wpAny_pure (wpAny_pure ⟨rfl, q6⟩)) fun _ _ e => e)))) fun _ _ e => e))
theorem start1 (l0 : codeAny (model P w) A (.compLoop (scx elt a ia fa b ib fb sc po) 1 it acc env) R s)
    (l1 : wpAny (model P w) A (pyIter it) (fun jt z => codeAny (model P w) A (.compLoop (scx elt a ia fa b ib fb sc po) 1 jt acc env) R z) (notedBy (model P w) A env fun x z => R (.error x) z) s) :
    codeAny (model P w) A (.compStart (scx elt a ia fa b ib fb sc po) 1 it acc env) R s := by
  refine codeAny_of_tree ?_
  show wpAny _ _ ((compStart (scx elt a ia fa b ib fb sc po) 1 it acc env).onRaise (fun x => do noteFrame x env; standAt theWindowsPlace)) _ _ s
  refine wpAny_notedAt ?_
  unfold compStart
  show wpAny _ _ (ask >>= _) _ _ s
  refine wpAny_bind (wpAny_askSetting (wpAny_ite ?_))
  split
  · first | exact wpAny_bind (wpAny_pure (wpAny_pure (And.intro rfl l0))) | exact wpAny_pure (And.intro rfl l0)
  · first
      | exact wpAny_bind (wpAny_rule (wpAny_bind (wpAny_standAt (wpAny_bind (wpAny_mono l1 (fun jt z q => wpAny_pure (And.intro rfl q)) fun _ _ x => x)))))
      | (refine wpAny_bind (wpAny_rule ?_); show wpAny _ _ (standAt ib.pos >>= _) _ _ s; exact wpAny_bind (wpAny_standAt (wpAny_bind (wpAny_mono l1 (fun jt z q => wpAny_pure (And.intro rfl q)) fun _ _ x => x))))
end
section
variable {X : Cx} [Ev.Wrl]
theorem set_ok {H : Hp} {h : Heap} {a : Addr} {ks : List Key} (hr : Ev.Here X) (S : Ev.SetM X.prog X.w h a ks) : ObjOk X.prog X.w H h a (Ev.setO a ks) := by
  have S' : Ev.SetM Ev.Wrl.P Ev.Wrl.w h a ks := by rw [hr.p, hr.w]; exact S
  refine ⟨S', ?_, fun h1 h2 q k => ?_⟩
  · obtain ⟨o, _, _, _, e, _⟩ := S; exact ⟨o, e⟩
  · obtain ⟨o, es, ep, t, e, r⟩ := q
    exact ⟨o, es, ep, t, k o e, r⟩
theorem set_at {H : Hp} {h : Heap} {a : Addr} {ks : List Key} (hr : Ev.Here X) (ok : HOk X.prog X.w H h) (e : H a = some (Ev.setO a ks)) : Ev.SetM X.prog X.w h a ks := by
  have q : ObjOk X.prog X.w H h a (.ext fun h => Ev.SetM Ev.Wrl.P Ev.Wrl.w h a ks) := ok a _ e
  have q1 := q.1
  rw [hr.p, hr.w] at q1
  exact q1
theorem set_mut {a : Addr} {ks : List Key} : Mut (some (Ev.setO a ks)) := True.intro
/-- s.add(k) at a tracked set -/
theorem setAdd_ok {pins : List (Addr × Obj)} {σ : L2.St} {H : Hp} {s : Shared} {E : Value → Shared → Prop} {D : Addr} {ks : List Key} {k : Key} {y : V} {v : Value} {Q : Value → Shared → Prop} (hr : Ev.Here X) (I : Inv X pins σ H s) (hD : H D = some (Ev.setO D ks)) (ey : y = kV k) (r : RelV y v) (few : ks.length < 4000)
    (fin : ∀ z, Inv X pins σ (upd H D (Ev.setO D (Ev.addK ks k))) z → Q .none z) : wpAny (model X.prog X.w) X.A (call (.builtin "set.add") [.ref D, v]) Q E s := by
  subst ey
  refine EvM.sm_add (set_at hr I.hok hD) r few fun h1 tk sb S => fin _ (I.write (t' := tk) (by rw [hD]; exact set_mut) (.inl rfl) (fun c u hb q => (sb.2 c hb).trans q) ?_ (set_ok hr S))
  exact let ⟨o, _, _, _, e, _⟩ := S; ⟨o, e⟩
def tSc1 (wi : TI) (g : TG) (tt : TT) (te : TE) (vs : List Nat) : TE := fun σ H Q => wi σ H fun J H1 => ∀ D, H1 D = none → ∃ W : Nat → Nat → Hp → Prop, (∃ m, W 0 m (upd H1 D (Ev.setO D []))) ∧ ∀ i m H, W i m H →
  (J.stop i H ∧ Q (.ref D) H) ∨ (J.go i H ∧ ∃ Nx : Hp → Prop, (∀ H', Nx H' → ∃ m', m' < m ∧ W (i + 1) m' H') ∧ ∀ x H', J.yld i H x H' → g x (wipe σ vs) H' fun σ2 H2 => wipe σ2 vs = wipe σ vs ∧ tt σ2 H2 fun b H3 =>
    if b = true then te σ2 H3 fun y H4 => ∃ ks k, H4 D = some (Ev.setO D ks) ∧ y = kV k ∧ ks.length < 4000 ∧ Nx (upd H4 D (Ev.setO D (Ev.addK ks k))) else Nx H3)
def tSc2 (wi : TI) (g : TG) (tt : TT) (wi1 : TI) (g1 : TG) (tt1 : TT) (te : TE) (vs vs1 : List Nat) : TE := fun σ H Q => wi σ H fun J H1 => ∀ D, H1 D = none → ∃ W : Nat → Nat → Hp → Prop, (∃ m, W 0 m (upd H1 D (Ev.setO D []))) ∧ ∀ i m H, W i m H →
  (J.stop i H ∧ Q (.ref D) H) ∨ (J.go i H ∧ ∃ Nx : Hp → Prop, (∀ H', Nx H' → ∃ m', m' < m ∧ W (i + 1) m' H') ∧ ∀ x H', J.yld i H x H' → g x (wipe σ vs) H' fun σ2 H2 => wipe σ2 vs = wipe σ vs ∧ tt σ2 H2 fun b H3 =>
    if b = true then wi1 σ2 H3 fun J1 H4 => ∃ W1 : Nat → Nat → Hp → Prop, (∃ m, W1 0 m H4) ∧ ∀ j k H, W1 j k H →
      (J1.stop j H ∧ Nx H) ∨ (J1.go j H ∧ ∃ Nx1 : Hp → Prop, (∀ H', Nx1 H' → ∃ k', k' < k ∧ W1 (j + 1) k' H') ∧ ∀ x H', J1.yld j H x H' → g1 x (wipe σ2 vs1) H' fun σ3 H5 => wipe σ3 vs1 = wipe σ2 vs1 ∧ tt1 σ3 H5 fun b H6 =>
        if b = true then te σ3 H6 fun y H7 => ∃ ks k, H7 D = some (Ev.setO D ks) ∧ y = kV k ∧ ks.length < 4000 ∧ Nx1 (upd H7 D (Ev.setO D (Ev.addK ks k))) else Nx1 H6)
    else Nx H3)
abbrev CLs : Type := List (Str × Addr)
abbrev bkX (X : Cx) (sc : Scope) (z : Shared) (H : Hp) (C : Addr) (cl : CLs) (fp : List Addr) : Cx := X.blk z H sc (compEnvC sc cl C X.env) fp
/-- the block's own things, all read in it -/
structure Blk (X : Cx) (sc : Scope) (tg : Expr) (fs : List Expr) (g : TG) (tt : TT) : Prop where
  g : ∀ z H C cl fp, PG (bkX X sc z H C cl fp) tg g
  t : ∀ z H C cl fp, PTs (bkX X sc z H C cl fp) fs tt
theorem pe_sc2 {elt a ia b ib : Expr} {fa fb : List Expr} {sc : Scope} {own : List (Str × Nat)} {vs1 : List Nat} {po : Pos} {wi wi1 : TI} {g g1 : TG} {tt tt1 : TT} {te : TE} (hr : Ev.Here X) (hc : X.calm = true) (hN : X.N.Nodup) (hi : PI X a ia wi) (ok : BlkOk X.N X.env.scope sc own) (hv : ∀ i ∈ vs1, i ∈ own.map (·.2))
    (k0 : Blk X sc a fa g tt) (hi1 : ∀ z H C cl fp, PI (bkX X sc z H C cl fp) b ib wi1) (k1 : Blk X sc b fb g1 tt1) (he : ∀ z H C cl fp, PE (bkX X sc z H C cl fp) elt te)
    (hs : ∀ x, foldedSetIterable ia X.env x = pure x := by intro _; rfl) (hs1 : ∀ env x, foldedSetIterable ib env x = pure x := by intro _ _; rfl) :
    PE X (scx elt a ia fa b ib fb sc po) (tSc2 wi g tt wi1 g1 tt1 te (own.map (·.2)) vs1) := by
  refine ⟨fun pins s σ H Q I h => ?_⟩
  rw [arm_eval_SetComp]
  have cellsAt : ∀ y ∈ sc.names, y.2 = .free → ∃ c, X.env.cells.lookup y.1 = some c := fun y hy e => (ok.free y hy e).elim (fun k => I.ok.has _ (.inl k)) fun k => I.ok.has _ (.inr k)
  refine wpAny_comprehension_free (use := none) rfl hs (closure_ok cellsAt) ok.kind (fun y hy e => by rw [ok.uniq y hy, e]) (thn (hi.run pins s σ H _ I h) fun xv z1 hx => thn hx fun itv z2 h2 => ?_)
  obtain ⟨it, fp, tn, J, H2, e, I2, T, st2, f2, q⟩ := h2
  subst e
  refine wpAny_newSet_raw fun led hled => newEnv_comp ?_
  subst hled
  generalize hD : z2.heap.objs.size = D
  have freshD : H2 D = none := I2.hok.fresh (Nat.le_of_eq hD)
  obtain ⟨W, ⟨m0, w0⟩, turn⟩ := q D freshD
  generalize ez : ({ z2 with heap := z2.heap.push { cls := .type "set", dict := none, data := .set #[] 0 (.fresh 0 0 (!X.w.params.followText "set-order")) } } : Shared) = z3
  have hp3 : z3.heap = z2.heap.push { cls := .type "set", dict := none, data := .set #[] 0 (.fresh 0 0 (!X.w.params.followText "set-order")) } := by rw [← ez]
  have I3 : Inv X pins σ (upd H2 D (Ev.setO D [])) z3 := by
    rw [← ez]
    refine I2.laid (t' := z2.toks) (fun c o e => Heap.get?_push_of_some _ e) (Nat.le_of_eq hD) (set_ok hr ?_)
    rw [← hD]
    exact EvM.sm_fresh (P := X.prog) X.w
  have below : ∀ c ∈ fp, c < z2.heap.objs.size := fun c hm => let ⟨_, e, _⟩ := T.obj _ _ st2 c hm; Heap.lt_size e
  have f3 : ∀ c ∈ fp, FpOk X pins (upd H2 D (Ev.setO D [])) c ∧ c < z3.heap.objs.size := fun c hm => by
    have lt := below c hm
    refine ⟨⟨?_, (f2 c hm).2⟩, by rw [hp3, Heap.size_push]; exact Nat.lt_succ_of_lt lt⟩
    rw [upd_ne (by rw [← hD]; exact Nat.ne_of_lt lt)]; exact (f2 c hm).1
  have st3 : tn 0 z3.heap := T.keep _ _ _ st2 fun c _ o e => by rw [hp3]; exact Heap.get?_push_of_some _ e
  have I4 := block_start I3 ok hN f3
  generalize hH3 : upd H2 D (Ev.setO D []) = H3 at I3 I4 w0 f3
  generalize hcl : cellsFrom (z3.heap.objs.size + 1) sc.names (cloFrom X.env.cells sc.names []) = cl at I4
  have pg : PG (X.blk z3 H3 sc (compEnvC sc cl z3.heap.objs.size X.env) fp) a g := k0.g z3 H3 z3.heap.objs.size cl fp
  have pt : PTs (X.blk z3 H3 sc (compEnvC sc cl z3.heap.objs.size X.env) fp) fa tt := k0.t z3 H3 z3.heap.objs.size cl fp
  have pe : PE (X.blk z3 H3 sc (compEnvC sc cl z3.heap.objs.size X.env) fp) elt te := he z3 H3 z3.heap.objs.size cl fp
  have pi1 : PI (X.blk z3 H3 sc (compEnvC sc cl z3.heap.objs.size X.env) fp) b ib wi1 := hi1 z3 H3 z3.heap.objs.size cl fp
  have pg1 : PG (X.blk z3 H3 sc (compEnvC sc cl z3.heap.objs.size X.env) fp) b g1 := k1.g z3 H3 z3.heap.objs.size cl fp
  have pt1 : PTs (X.blk z3 H3 sc (compEnvC sc cl z3.heap.objs.size X.env) fp) fb tt1 := k1.t z3 H3 z3.heap.objs.size cl fp
  have noneF : ∀ c ∈ fp, H3 c = none := fun c hm => (f3 c hm).1.1
  have back : ∀ {σ' : L2.St} {Hn : Hp} {zn : Shared}, Inv (X.blk z3 H3 sc (compEnvC sc cl z3.heap.objs.size X.env) fp) [] σ' Hn zn → Q (.ref D) Hn → compPost (model X.prog X.w) X.A X.xe none (EP X pins σ Q) (.ref D) z3.heap.objs.size (.ok .next) zn := fun {σ' Hn zn} In qq => by
    have Iq : Inv X pins σ Hn zn := I3.call' (ch := fp) In.os In.base In.hok In.bare fun c hm => ⟨(f3 c hm).1.2.2.2.1, (f3 c hm).1.2.1, (f3 c hm).1.2.2.2.2.1, (f3 c hm).1.2.2.2.2.2⟩
    have nC : Hn z3.heap.objs.size = none := In.free
    obtain ⟨mm, hn, _⟩ := In.loc
    obtain ⟨y0, y1, y2, y3, y4, y5⟩ := I3.fpOk (Nat.le_refl z3.heap.objs.size) nC
    exact ⟨mm, hn, fun hh sb => ⟨.ref D, Hn, Iq.turned (t' := zn.toks) (fun c o hb e => (sb.2 c hb).trans e) y0 y1 y3 y4 y5, rfl, qq⟩⟩
  show codeAny _ _ (.compStart (scx elt a ia fa b ib fb sc po) 0 (.ref it) (.ref D) (compEnvC sc cl z3.heap.objs.size X.env)) (compPost (model X.prog X.w) X.A X.xe none (EP X pins σ Q) (.ref D) z3.heap.objs.size) { z3 with heap := pushCells (z3.heap.push { cls := .type "dict", data := .dict #[] }) sc.names }
  generalize hce : compEnvC sc cl z3.heap.objs.size X.env = ce at I4 pg pt pe pi1 pg1 pt1 back ⊢
  generalize hz4 : ({ z3 with heap := pushCells (z3.heap.push { cls := .type "dict", data := .dict #[] }) sc.names } : Shared) = z4 at I4 ⊢
  have st4 : tn 0 z4.heap := T.keep _ _ _ st3 fun c _ o e => by rw [← hz4]; exact pushCells_keeps _ _ _ _ (Heap.get?_push_of_some _ e)
  let B : Cx := X.blk z3 H3 sc ce fp
  have stat : ∀ {σ' : L2.St} {Hn : Hp} {zn : Shared}, Inv B [] σ' Hn zn → (∀ c ∈ fp, Hn c = none) → ∀ c ∈ fp, FpOk B [] Hn c := fun {σ' Hn zn} In hn c hm =>
    ⟨hn c hm, (In.ok.exf c hm).1, In.ok.exfs c hm, .inl hm, fun x y e => (In.ok.exf c hm).2 x y e, fun p hp => absurd (show p ∈ ([] : List (Addr × Obj)) ++ [] from hp) (by simp)⟩
  let V := own.map (·.2)
  have loop : codeAny (model X.prog X.w) X.A (.compLoop (scx elt a ia fa b ib fb sc po) 0 (.ref it) (.ref D) ce) (compPost (model X.prog X.w) X.A X.xe none (EP X pins σ Q) (.ref D) z3.heap.objs.size) z4 := by
    refine loop0 (hs1 ce) (fun n z => ∃ i Hn, Inv B [] (wipe σ V) Hn z ∧ tn i z.heap ∧ (∀ c ∈ fp, Hn c = none) ∧ W i n Hn) ?_ m0 ⟨0, H3, I4, st4, noneF, w0⟩
    rintro n z5 ⟨i, H5, I5, st5, n5, w5⟩
    rcases turn i n H5 w5 with ⟨stop, qq⟩ | ⟨go, Nx, hNx, step⟩
    · refine thnF (T.done B rfl rfl rfl hc i [] z5 _ H5 (fun _ _ => False) I5 (stat I5 n5) st5 stop) fun r z6 ⟨hr6, I6⟩ => ?_
      subst hr6
      exact back I6 qq
    · refine thnF (T.item B rfl rfl rfl hc i [] z5 _ H5 (fun _ _ => False) I5 (stat I5 n5) st5 go) fun r z6 ⟨u, hr6, h6⟩ => ?_
      subst hr6
      refine thnF h6 fun _ z7 ⟨x, H7, I7, r7, y7, st7, n7⟩ => ?_
      have P7 := I7.pinned (stat I7 n7) (T.obj _ _ st7)
      refine thnF (pg.run _ z7 _ H7 x u _ P7 r7 (step x H7 y7)) fun _ z8 ⟨σ8, H8, I8, w8, q8⟩ => thnF (pt.run _ z8 σ8 H8 _ I8 q8) fun t8 z9 ⟨H9, I9, q9⟩ => ?_
      have on : ∀ {σ9 : L2.St} {zn : Shared} {Hn : Hp}, Inv B ([] ++ pinsAt fp z7.heap) σ9 Hn zn → (wipe σ V).length = σ9.length → (∀ (j : Nat) v, (wipe σ V)[j]? = some (some v) → σ9[j]? = some (some v)) → Nx Hn →
          ∃ l, l < n ∧ ∃ i Hn, Inv B [] (wipe σ V) Hn zn ∧ tn i zn.heap ∧ (∀ c ∈ fp, Hn c = none) ∧ W i l Hn := fun {σ9 zn Hn} In hl hk nx => by
        obtain ⟨l, hl2, wn⟩ := hNx Hn nx
        have pinned : ∀ c ∈ fp, ∀ o, z7.heap.get? c = some o → zn.heap.get? c = some o ∧ Hn c = none := fun c hm o e =>
          let y := In.pin (c, o) (List.mem_append_right _ (List.mem_append_right _ (mem_pinsAt hm e)))
          ⟨y.1, y.2.1⟩
        exact ⟨l, hl2, i + 1, Hn, (In.unpinned (pins := [])).weak hl hk, T.keep _ _ _ st7 fun c hm o e => (pinned c hm o e).1, fun c hm => let ⟨o, e, _⟩ := T.obj _ _ st7 c hm; (pinned c hm o e).2, wn⟩
      have len8 : (wipe σ V).length = σ8.length := by rw [← w8, wipe_length]
      cases t8 with
      | false =>
        simp only [Bool.false_eq_true, if_false] at q9 ⊢
        exact on I9 len8 (fun j v e => by rw [← w8] at e; exact (wipe_some e).1) q9
      | true =>
        simp only [if_true] at q9 ⊢
        refine thnF (pi1.run _ z9 σ8 H9 _ I9 q9) fun xv zA hx => thnF hx fun itv zB hB => ?_
        obtain ⟨jt, fq, tm, J1, HB, e1, IB, T1, stB, fB, W1, ⟨m1, w1⟩, turn1⟩ := hB
        subst e1
        have stat1 : ∀ {Hn : Hp}, (∀ c ∈ fq, Hn c = none) → ∀ c ∈ fq, FpOk B ([] ++ pinsAt fp z7.heap) Hn c := fun hn c hm => ⟨hn c hm, (fB c hm).2⟩
        have inner : codeAny (model X.prog X.w) X.A (.compLoop (scx elt a ia fa b ib fb sc po) 1 (.ref jt) (.ref D) ce)
            (fun r zn => match r with
              | .ok _ => ∃ l, l < n ∧ ∃ i Hn, Inv B [] (wipe σ V) Hn zn ∧ tn i zn.heap ∧ (∀ c ∈ fp, Hn c = none) ∧ W i l Hn
              | .error _ => False) zB := by
          refine loop1 (fun k z => ∃ j Hn, Inv B ([] ++ pinsAt fp z7.heap) (wipe σ8 vs1) Hn z ∧ tm j z.heap ∧ (∀ c ∈ fq, Hn c = none) ∧ W1 j k Hn) ?_ m1 ⟨0, HB, IB.weak (wipe_length _ _) (fun j v e => (wipe_some e).1), stB, fun c hm => (fB c hm).1, w1⟩
          rintro k zC ⟨j, HC, IC, stC, nC, wC⟩
          rcases turn1 j k HC wC with ⟨stop1, nx1⟩ | ⟨go1, Nx1, hNx1, step1⟩
          · refine thnF (T1.done B rfl rfl rfl hc j _ zC (wipe σ8 vs1) HC (fun _ _ => False) IC (stat1 nC) stC stop1) fun r zD ⟨hrD, ID⟩ => ?_
            subst hrD
            refine on ID (len8.trans (wipe_length σ8 vs1).symm) (fun j v e => ?_) nx1
            rw [← w8] at e
            obtain ⟨e1, e2⟩ := wipe_some e
            rw [wipe_out fun z => e2 (hv j z)]
            exact e1
          · refine thnF (T1.item B rfl rfl rfl hc j _ zC (wipe σ8 vs1) HC (fun _ _ => False) IC (stat1 nC) stC go1) fun r zD ⟨u1, hrD, hD1⟩ => ?_
            subst hrD
            refine thnF hD1 fun _ zE ⟨x1, HE, IE, rE, yE, stE, nE⟩ => ?_
            have PE1 := IE.pinned (stat1 nE) (T1.obj _ _ stE)
            refine thnF (pg1.run _ zE (wipe σ8 vs1) HE x1 u1 _ PE1 rE (step1 x1 HE yE)) fun _ zF ⟨σF, HF, IF, wF, qF⟩ => thnF (pt1.run _ zF σF HF _ IF qF) fun tF zG ⟨HG, IG, qG⟩ => ?_
            have on1 : ∀ {zn : Shared} {Hn : Hp}, Inv B (([] ++ pinsAt fp z7.heap) ++ pinsAt fq zE.heap) σF Hn zn → Nx1 Hn → ∃ l, l < k ∧ ∃ j Hn, Inv B ([] ++ pinsAt fp z7.heap) (wipe σ8 vs1) Hn zn ∧ tm j zn.heap ∧ (∀ c ∈ fq, Hn c = none) ∧ W1 j l Hn := fun {zn Hn} In nx => by
              obtain ⟨l, hl2, wn⟩ := hNx1 Hn nx
              have pinned : ∀ c ∈ fq, ∀ o, zE.heap.get? c = some o → zn.heap.get? c = some o ∧ Hn c = none := fun c hm o e =>
                let y := In.pin (c, o) (List.mem_append_right _ (List.mem_append_right _ (mem_pinsAt hm e)))
                ⟨y.1, y.2.1⟩
              exact ⟨l, hl2, j + 1, Hn, In.unpinned.weak (by rw [← wF, wipe_length]) (fun j v e => by rw [← wF] at e; exact (wipe_some e).1), T1.keep _ _ _ stE fun c hm o e => (pinned c hm o e).1, fun c hm => let ⟨o, e, _⟩ := T1.obj _ _ stE c hm; (pinned c hm o e).2, wn⟩
            cases tF with
            | false =>
              simp only [Bool.false_eq_true, if_false] at qG ⊢
              exact on1 IG qG
            | true =>
              simp only [if_true] at qG ⊢
              refine thnF (pe.run _ zG σF HG _ IG qG) fun zz zI ⟨yv, HI, II, rI, ks, kk, hDI, ey, few, nx⟩ => ?_
              exact setAdd_ok (X := B) ⟨hr.p, hr.w⟩ II hDI ey rI few fun zJ IJ => on1 IJ nx
        exact start1 inner (T1.self X.A 0 _ _ _ stB inner)
  exact codeAny_compStart_set loop (T.self X.A 0 _ _ _ st4 loop)
theorem pe_sc1 {elt a ia : Expr} {fa : List Expr} {sc : Scope} {own : List (Str × Nat)} {po : Pos} {wi : TI} {g : TG} {tt : TT} {te : TE} (hr : Ev.Here X) (hc : X.calm = true) (hN : X.N.Nodup) (hi : PI X a ia wi) (ok : BlkOk X.N X.env.scope sc own)
    (k0 : Blk X sc a fa g tt) (he : ∀ z H C cl fp, PE (bkX X sc z H C cl fp) elt te) (hs : ∀ x, foldedSetIterable ia X.env x = pure x := by intro _; rfl) :
    PE X (.SetComp elt [⟨a, ia, fa, 0⟩] sc po) (tSc1 wi g tt te (own.map (·.2))) := by
  refine ⟨fun pins s σ H Q I h => ?_⟩
  rw [arm_eval_SetComp]
  have cellsAt : ∀ y ∈ sc.names, y.2 = .free → ∃ c, X.env.cells.lookup y.1 = some c := fun y hy e => (ok.free y hy e).elim (fun k => I.ok.has _ (.inl k)) fun k => I.ok.has _ (.inr k)
  refine wpAny_comprehension_free (use := none) rfl hs (closure_ok cellsAt) ok.kind (fun y hy e => by rw [ok.uniq y hy, e]) (thn (hi.run pins s σ H _ I h) fun xv z1 hx => thn hx fun itv z2 h2 => ?_)
  obtain ⟨it, fp, tn, J, H2, e, I2, T, st2, f2, q⟩ := h2
  subst e
  refine wpAny_newSet_raw fun led hled => newEnv_comp ?_
  subst hled
  generalize hD : z2.heap.objs.size = D
  have freshD : H2 D = none := I2.hok.fresh (Nat.le_of_eq hD)
  obtain ⟨W, ⟨m0, w0⟩, turn⟩ := q D freshD
  generalize ez : ({ z2 with heap := z2.heap.push { cls := .type "set", dict := none, data := .set #[] 0 (.fresh 0 0 (!X.w.params.followText "set-order")) } } : Shared) = z3
  have hp3 : z3.heap = z2.heap.push { cls := .type "set", dict := none, data := .set #[] 0 (.fresh 0 0 (!X.w.params.followText "set-order")) } := by rw [← ez]
  have I3 : Inv X pins σ (upd H2 D (Ev.setO D [])) z3 := by
    rw [← ez]
    refine I2.laid (t' := z2.toks) (fun c o e => Heap.get?_push_of_some _ e) (Nat.le_of_eq hD) (set_ok hr ?_)
    rw [← hD]
    exact EvM.sm_fresh (P := X.prog) X.w
  have below : ∀ c ∈ fp, c < z2.heap.objs.size := fun c hm => let ⟨_, e, _⟩ := T.obj _ _ st2 c hm; Heap.lt_size e
  have f3 : ∀ c ∈ fp, FpOk X pins (upd H2 D (Ev.setO D [])) c ∧ c < z3.heap.objs.size := fun c hm => by
    have lt := below c hm
    refine ⟨⟨?_, (f2 c hm).2⟩, by rw [hp3, Heap.size_push]; exact Nat.lt_succ_of_lt lt⟩
    rw [upd_ne (by rw [← hD]; exact Nat.ne_of_lt lt)]; exact (f2 c hm).1
  have st3 : tn 0 z3.heap := T.keep _ _ _ st2 fun c _ o e => by rw [hp3]; exact Heap.get?_push_of_some _ e
  have I4 := block_start I3 ok hN f3
  generalize hH3 : upd H2 D (Ev.setO D []) = H3 at I3 I4 w0 f3
  generalize hcl : cellsFrom (z3.heap.objs.size + 1) sc.names (cloFrom X.env.cells sc.names []) = cl at I4
  have pg : PG (X.blk z3 H3 sc (compEnvC sc cl z3.heap.objs.size X.env) fp) a g := k0.g z3 H3 z3.heap.objs.size cl fp
  have pt : PTs (X.blk z3 H3 sc (compEnvC sc cl z3.heap.objs.size X.env) fp) fa tt := k0.t z3 H3 z3.heap.objs.size cl fp
  have pe : PE (X.blk z3 H3 sc (compEnvC sc cl z3.heap.objs.size X.env) fp) elt te := he z3 H3 z3.heap.objs.size cl fp
  have noneF : ∀ c ∈ fp, H3 c = none := fun c hm => (f3 c hm).1.1
  have back : ∀ {σ' : L2.St} {Hn : Hp} {zn : Shared}, Inv (X.blk z3 H3 sc (compEnvC sc cl z3.heap.objs.size X.env) fp) [] σ' Hn zn → Q (.ref D) Hn → compPost (model X.prog X.w) X.A X.xe none (EP X pins σ Q) (.ref D) z3.heap.objs.size (.ok .next) zn := fun {σ' Hn zn} In qq => by
    have Iq : Inv X pins σ Hn zn := I3.call' (ch := fp) In.os In.base In.hok In.bare fun c hm => ⟨(f3 c hm).1.2.2.2.1, (f3 c hm).1.2.1, (f3 c hm).1.2.2.2.2.1, (f3 c hm).1.2.2.2.2.2⟩
    have nC : Hn z3.heap.objs.size = none := In.free
    obtain ⟨mm, hn, _⟩ := In.loc
    obtain ⟨y0, y1, y2, y3, y4, y5⟩ := I3.fpOk (Nat.le_refl z3.heap.objs.size) nC
    exact ⟨mm, hn, fun hh sb => ⟨.ref D, Hn, Iq.turned (t' := zn.toks) (fun c o hb e => (sb.2 c hb).trans e) y0 y1 y3 y4 y5, rfl, qq⟩⟩
  show codeAny _ _ (.compStart (.SetComp elt [⟨a, ia, fa, 0⟩] sc po) 0 (.ref it) (.ref D) (compEnvC sc cl z3.heap.objs.size X.env)) (compPost (model X.prog X.w) X.A X.xe none (EP X pins σ Q) (.ref D) z3.heap.objs.size) { z3 with heap := pushCells (z3.heap.push { cls := .type "dict", data := .dict #[] }) sc.names }
  generalize hce : compEnvC sc cl z3.heap.objs.size X.env = ce at I4 pg pt pe back ⊢
  generalize hz4 : ({ z3 with heap := pushCells (z3.heap.push { cls := .type "dict", data := .dict #[] }) sc.names } : Shared) = z4 at I4 ⊢
  have st4 : tn 0 z4.heap := T.keep _ _ _ st3 fun c _ o e => by rw [← hz4]; exact pushCells_keeps _ _ _ _ (Heap.get?_push_of_some _ e)
  let B : Cx := X.blk z3 H3 sc ce fp
  have stat : ∀ {σ' : L2.St} {Hn : Hp} {zn : Shared}, Inv B [] σ' Hn zn → (∀ c ∈ fp, Hn c = none) → ∀ c ∈ fp, FpOk B [] Hn c := fun {σ' Hn zn} In hn c hm =>
    ⟨hn c hm, (In.ok.exf c hm).1, In.ok.exfs c hm, .inl hm, fun x y e => (In.ok.exf c hm).2 x y e, fun p hp => absurd (show p ∈ ([] : List (Addr × Obj)) ++ [] from hp) (by simp)⟩
  let V := own.map (·.2)
  have loop : codeAny (model X.prog X.w) X.A (.compLoop (.SetComp elt [⟨a, ia, fa, 0⟩] sc po) 0 (.ref it) (.ref D) ce) (compPost (model X.prog X.w) X.A X.xe none (EP X pins σ Q) (.ref D) z3.heap.objs.size) z4 := by
    refine compLoop_set_any (fun n z => ∃ i Hn, Inv B [] (wipe σ V) Hn z ∧ tn i z.heap ∧ (∀ c ∈ fp, Hn c = none) ∧ W i n Hn) ?_ m0 ⟨0, H3, I4, st4, noneF, w0⟩
    rintro n z5 ⟨i, H5, I5, st5, n5, w5⟩
    rcases turn i n H5 w5 with ⟨stop, qq⟩ | ⟨go, Nx, hNx, step⟩
    · refine thnF (T.done B rfl rfl rfl hc i [] z5 _ H5 (fun _ _ => False) I5 (stat I5 n5) st5 stop) fun r z6 ⟨hr6, I6⟩ => ?_
      subst hr6
      exact back I6 qq
    · refine thnF (T.item B rfl rfl rfl hc i [] z5 _ H5 (fun _ _ => False) I5 (stat I5 n5) st5 go) fun r z6 ⟨u, hr6, h6⟩ => ?_
      subst hr6
      refine thnF h6 fun _ z7 ⟨x, H7, I7, r7, y7, st7, n7⟩ => ?_
      have P7 := I7.pinned (stat I7 n7) (T.obj _ _ st7)
      refine thnF (pg.run _ z7 _ H7 x u _ P7 r7 (step x H7 y7)) fun _ z8 ⟨σ8, H8, I8, w8, q8⟩ => thnF (pt.run _ z8 σ8 H8 _ I8 q8) fun t8 z9 ⟨H9, I9, q9⟩ => ?_
      have on : ∀ {zn : Shared} {Hn : Hp}, Inv B ([] ++ pinsAt fp z7.heap) σ8 Hn zn → Nx Hn → ∃ l, l < n ∧ ∃ i Hn, Inv B [] (wipe σ V) Hn zn ∧ tn i zn.heap ∧ (∀ c ∈ fp, Hn c = none) ∧ W i l Hn := fun {zn Hn} In nx => by
        obtain ⟨l, hl2, wn⟩ := hNx Hn nx
        have pinned : ∀ c ∈ fp, ∀ o, z7.heap.get? c = some o → zn.heap.get? c = some o ∧ Hn c = none := fun c hm o e =>
          let y := In.pin (c, o) (List.mem_append_right _ (List.mem_append_right _ (mem_pinsAt hm e)))
          ⟨y.1, y.2.1⟩
        exact ⟨l, hl2, i + 1, Hn, (In.unpinned (pins := [])).weak (by rw [← w8, wipe_length]) (fun j v e => by rw [← w8] at e; exact (wipe_some e).1), T.keep _ _ _ st7 fun c hm o e => (pinned c hm o e).1, fun c hm => let ⟨o, e, _⟩ := T.obj _ _ st7 c hm; (pinned c hm o e).2, wn⟩
      cases t8 with
      | false =>
        simp only [Bool.false_eq_true, if_false] at q9 ⊢
        exact on I9 q9
      | true =>
        simp only [if_true] at q9 ⊢
        refine thnF (pe.run _ z9 σ8 H9 _ I9 q9) fun zz zI ⟨yv, HI, II, rI, ks, kk, hDI, ey, few, nx⟩ => ?_
        exact setAdd_ok (X := B) ⟨hr.p, hr.w⟩ II hDI ey rI few fun zJ IJ => on IJ nx
  exact codeAny_compStart_set loop (T.self X.A 0 _ _ _ st4 loop)
end
end EvN

/-! comprehensions with one clause and with two, of lists, sets and dicts: one reading for all -/
namespace Ev
open PySem L2
variable [Wrl]
/-! ### the loops -/
def cLoopA {α : Type} (st : α → List T → Option α) (g : GF) (tt : BF) (fe : LF) (env0 : Env) : List T → α → Mem → Out α
  | [], a, m => .ok a m
  | t :: ts, a, m => match g t env0 with
    | none => .no
    | some env1 => match tt env1 m with
      | .ok true m1 => match fe env1 m1 with
        | .ok ys m2 => match st a ys with
          | some a1 => cLoopA st g tt fe env0 ts a1 m2
          | none => .no
        | _ => .no
      | .ok false m1 => cLoopA st g tt fe env0 ts a m1
      | _ => .no
def cLoopB {α : Type} (st : α → List T → Option α) (g : GF) (tt : BF) (fi1 : LF) (sl1 : List Nat) (g1 : GF) (tt1 : BF) (fe : LF) (env0 : Env) : List T → α → Mem → Out α
  | [], a, m => .ok a m
  | t :: ts, a, m => match g t env0 with
    | none => .no
    | some env1 => match tt env1 m with
      | .ok true m1 => match fi1 env1 m1 with
        | .ok us m2 => match cLoopA st g1 tt1 fe (wipeE env1 sl1) us a m2 with
          | .ok a1 m3 => cLoopB st g tt fi1 sl1 g1 tt1 fe env0 ts a1 m3
          | _ => .no
        | _ => .no
      | .ok false m1 => cLoopB st g tt fi1 sl1 g1 tt1 fe env0 ts a m1
      | _ => .no
def eCompA {α : Type} (a0 : α) (st : α → List T → Option α) (fin : α → Mem → Out T) (sl : List Nat) (fi : LF) (g : GF) (tt : BF) (fe : LF) : EF := fun env m => (fi env m).bind fun ts m1 => match cLoopA st g tt fe (wipeE env sl) ts a0 m1 with
  | .ok a m2 => fin a m2
  | _ => .no
def eCompB {α : Type} (a0 : α) (st : α → List T → Option α) (fin : α → Mem → Out T) (sl : List Nat) (fi : LF) (g : GF) (tt : BF) (fi1 : LF) (sl1 : List Nat) (g1 : GF) (tt1 : BF) (fe : LF) : EF := fun env m => (fi env m).bind fun ts m1 =>
  match cLoopB st g tt fi1 sl1 g1 tt1 fe (wipeE env sl) ts a0 m1 with
  | .ok a m2 => fin a m2
  | _ => .no
/-! ### the readings, the collection left open -/
abbrev ADD := Addr → List V → Hp → (Hp → Prop) → Prop
abbrev ADE := Addr → (Hp → Prop) → L2.St → Hp → Prop
def tC1 (o0 : Addr → HO) (El : ADE) (wi : TI) (g : TG) (tt : TT) (vs : List Nat) : TE := fun σ H Q => wi σ H fun J H1 => ∀ D, H1 D = none → ∃ W : Nat → Nat → Hp → Prop, (∃ m, W 0 m (upd H1 D (o0 D))) ∧ ∀ i m H, W i m H →
  (J.stop i H ∧ Q (.ref D) H) ∨ (J.go i H ∧ ∃ Nx : Hp → Prop, (∀ H', Nx H' → ∃ m', m' < m ∧ W (i + 1) m' H') ∧ ∀ x H', J.yld i H x H' → g x (wipe σ vs) H' fun σ2 H2 => wipe σ2 vs = wipe σ vs ∧ tt σ2 H2 fun b H3 =>
    if b = true then El D Nx σ2 H3 else Nx H3)
def tC2 (o0 : Addr → HO) (El : ADE) (wi : TI) (g : TG) (tt : TT) (wi1 : TI) (g1 : TG) (tt1 : TT) (vs vs1 : List Nat) : TE := fun σ H Q => wi σ H fun J H1 => ∀ D, H1 D = none → ∃ W : Nat → Nat → Hp → Prop, (∃ m, W 0 m (upd H1 D (o0 D))) ∧ ∀ i m H, W i m H →
  (J.stop i H ∧ Q (.ref D) H) ∨ (J.go i H ∧ ∃ Nx : Hp → Prop, (∀ H', Nx H' → ∃ m', m' < m ∧ W (i + 1) m' H') ∧ ∀ x H', J.yld i H x H' → g x (wipe σ vs) H' fun σ2 H2 => wipe σ2 vs = wipe σ vs ∧ tt σ2 H2 fun b H3 =>
    if b = true then wi1 σ2 H3 fun J1 H4 => ∃ W1 : Nat → Nat → Hp → Prop, (∃ m, W1 0 m H4) ∧ ∀ j k H, W1 j k H →
      (J1.stop j H ∧ Nx H) ∨ (J1.go j H ∧ ∃ Nx1 : Hp → Prop, (∀ H', Nx1 H' → ∃ k', k' < k ∧ W1 (j + 1) k' H') ∧ ∀ x H', J1.yld j H x H' → g1 x (wipe σ2 vs1) H' fun σ3 H5 => wipe σ3 vs1 = wipe σ2 vs1 ∧ tt1 σ3 H5 fun b H6 =>
        if b = true then El D Nx1 σ3 H6 else Nx1 H6)
    else Nx H3)
/-- what a collection is -/
structure AccOk (K : PySem.W.Frag) {α : Type} (a0 : α) (st : α → List T → Option α) (o0 : Addr → HO) (RA : Hp → List Addr → Addr → α → HO → Prop) (Ad : ADD) : Prop where
  init : ∀ Z ρ D, RA Z ρ D a0 (o0 D)
  mono : ∀ {Z Z' ρ ρ' D a o}, RA Z ρ D a o → Ext Z Z' ρ ρ' → RA Z' ρ' D a o
  add : ∀ {Z ρ D a a1 o ts vs H} {Nx : Hp → Prop}, RA Z ρ D a o → Reps K Z ρ ts vs → st a ts = some a1 → H D = some o → (∀ o1, RA Z ρ D a1 o1 → Nx (upd H D o1)) → Ad D vs H Nx
def trI (K : PySem.W.Frag) (W : WX) (fi : LF) : TI := fun σ H R => ∃ Φ Z ρ env m, Fits K Φ Z ρ σ H env m ∧ PostI K W Φ Z ρ σ R (fi env m)
theorem pi_imp {X : Cx} {tg iter : Expr} {w u : TI} (h : PI X tg iter w) (i : ∀ σ H R, u σ H R → w σ H R) : PI X tg iter u := ⟨fun pins s σ H R I q => h.run pins s σ H R I (i σ H R q)⟩
theorem SI.pi {X : Cx} {W : WX} {tg iter : Expr} {fi : LF} (h : SI X W tg iter fi) : PI X tg iter (trI X.K W fi) := by
  obtain ⟨wi, p, k⟩ := h.ex
  exact pi_imp p fun σ H R ⟨Φ, Z, ρ, env, m, F, q⟩ => k Φ Z ρ σ H env m R F q
section
variable {K : PySem.W.Frag} {W : WX} {α : Type} {a0 : α} {st : α → List T → Option α} {o0 : Addr → HO} {RA : Hp → List Addr → Addr → α → HO → Prop} {Ad : ADD}
theorem wipe_back {sl : List Nat} {σ σ4 : L2.St} (hw : ∀ vs : List Nat, (∀ i ∈ sl, i ∈ vs) → wipe σ4 vs = wipe (wipe σ sl) vs) : wipe σ4 sl = wipe σ sl := by
  rw [hw sl fun _ h => h]
  refine List.ext_getElem? fun j => ?_
  rw [wipe_get, wipe_get, wipe_length]
  by_cases hj : j ∈ sl ∧ j < σ.length
  · simp [hj]
  · simp only [hj, if_false]
def outK {α : Type} (o : Out α) (k : α → Mem → Out T) : Out T := match o with
  | .ok a m => k a m
  | _ => .no
/-- one loop: from what stands at its start to what follows -/
theorem loopA (acc : AccOk K a0 st o0 RA Ad) {El : ADE} {Φ Z1 : Hp} {ρ1 : List Addr} {σ σ0 : L2.St} {Q : VK} {env : Env} {sl : List Nat} {ts : List T} {g : GF} {tt : BF} {fe : LF} {wg : TG} {D : Addr} {J : It} {Dn : Hp → Prop} {fin : α → Mem → Out T}
    (kg : KG K sl g wg) (hE : ∀ D Nx σ H, trL K W0 fe σ H (fun ys H4 => Ad D ys H4 Nx) → El D Nx σ H) (env1 : Envs K Z1 ρ1 env σ) (wk : Wk K Z1 ρ1 J ts)
    (dn : ∀ Z2 ρ2 m2 a o H2, Ext Z1 Z2 ρ1 ρ2 → Rel K (upd Φ D o) Z2 ρ2 H2 m2 → RA Z2 ρ2 D a o → Post K W Φ Z2 ρ2 σ0 Q (fin a m2) → Dn H2)
    {m1 : Mem} {a : α} {o : HO} {H1 : Hp} (r1 : Rel K (upd Φ D o) Z1 ρ1 H1 m1) (ra : RA Z1 ρ1 D a o) (p : Post K W Φ Z1 ρ1 σ0 Q (outK (cLoopA st g tt fe (wipeE env sl) ts a m1) fin)) :
    ∃ Wd : Nat → Nat → Hp → Prop, (∃ m, Wd 0 m H1) ∧ ∀ i m H, Wd i m H →
      (J.stop i H ∧ Dn H) ∨ (J.go i H ∧ ∃ Nx : Hp → Prop, (∀ H', Nx H' → ∃ m', m' < m ∧ Wd (i + 1) m' H') ∧ ∀ x H', J.yld i H x H' → wg x (wipe σ sl) H' fun σ2 H2 => wipe σ2 sl = wipe σ sl ∧ trB K W0 tt σ2 H2 fun b H3 =>
        if b = true then El D Nx σ2 H3 else Nx H3) := by
  let Pv : Nat → Nat → Hp → Prop := fun i k H2 => k = ts.length - i ∧ i ≤ ts.length ∧ ∃ Z2 ρ2 m2 a o, Ext Z1 Z2 ρ1 ρ2 ∧ Rel K (upd Φ D o) Z2 ρ2 H2 m2 ∧ RA Z2 ρ2 D a o ∧
      Post K W Φ Z2 ρ2 σ0 Q (outK (cLoopA st g tt fe (wipeE env sl) (ts.drop i) a m2) fin)
  refine ⟨Pv, ⟨ts.length, by simp, Nat.zero_le _, Z1, ρ1, m1, a, o, Ext.refl, r1, ra, by simpa only [List.drop_zero] using p⟩, ?_⟩
  rintro i k H2 ⟨hk, hi, Z2, ρ2, m2, a2, o2, e2, r2, ra2, p2⟩
  obtain ⟨w1, w2⟩ := wk _ Z2 ρ2 H2 m2 i e2 r2
  by_cases hlt : i < ts.length
  · have hti : ts[i]? = some ts[i] := by simp [hlt]
    obtain ⟨go, yld⟩ := w2 _ hti
    rw [List.drop_eq_getElem_cons hlt] at p2
    refine .inr ⟨go, fun H' => Pv (i + 1) (ts.length - (i + 1)) H', fun H' h' => ⟨_, by omega, h'⟩, fun x H3 y => ?_⟩
    obtain ⟨Z3, e3, r3, rep⟩ := yld x H3 y
    unfold cLoopA at p2
    cases eg : g ts[i] (wipeE env sl) with
    | none => rw [eg] at p2; exact p2.elim
    | some env3 =>
      rw [eg] at p2
      refine kg _ Z3 ρ2 (wipe σ sl) H3 (wipeE env sl) env3 m2 ts[i] x _ ⟨r3, (envs_wipe env1 sl).ext (e2.trans e3)⟩ rep eg fun σ4 F4 hl4 hw => ⟨wipe_back hw, _, Z3, ρ2, env3, m2, F4, ?_⟩
      cases et : tt env3 m2 with
      | no => simp only [et] at p2; exact p2.elim
      | ex _ _ _ _ => simp only [et] at p2; exact p2.elim
      | ok b m5 =>
        intro Z5 ρ5 H5 e5 r5
        cases b with
        | false =>
          simp only [et] at p2
          simp only [Bool.false_eq_true, if_false]
          exact ⟨rfl, hlt, Z5, ρ5, m5, a2, o2, (e2.trans e3).trans e5, r5, acc.mono ra2 (e3.trans e5), p2.ext (e3.trans e5)⟩
        | true =>
          simp only [et] at p2
          simp only [if_true]
          refine hE _ _ _ _ ⟨_, Z5, ρ5, env3, m5, ⟨r5, F4.env.ext e5⟩, ?_⟩
          cases ee : fe env3 m5 with
          | no => simp only [ee] at p2; exact p2.elim
          | ex _ _ _ _ => simp only [ee] at p2; exact p2.elim
          | ok ys m6 =>
            simp only [ee] at p2
            intro Z6 ρ6 H6 vs6 e6 r6 reps6
            cases es : st a2 ys with
            | none => simp only [es] at p2; exact p2.elim
            | some a7 =>
              simp only [es] at p2
              have hD6 : H6 D = some o2 := (r6.fin D _ upd_same).1
              refine acc.add (acc.mono ra2 ((e3.trans e5).trans e6)) reps6 es hD6 fun o7 ra7 => ⟨rfl, hlt, Z6, ρ6, m6, a7, o7, ((e2.trans e3).trans e5).trans e6, ?_, ra7, p2.ext ((e3.trans e5).trans e6)⟩
              have q7 := r6.aside_set (u := o7) (p := D) upd_same
              rw [upd_upd] at q7
              exact q7
  · have hi' : i = ts.length := by omega
    refine .inl ⟨w1 hi', ?_⟩
    rw [List.drop_eq_nil_of_le (by omega)] at p2
    exact dn _ _ _ _ _ _ e2 r2 ra2 p2
theorem tr_c1 (acc : AccOk K a0 st o0 RA Ad) {El : ADE} {σ : L2.St} {H : Hp} {Q : VK} {sl : List Nat} {fi : LF} {g : GF} {tt : BF} {fe : LF} {wg : TG} {fin : α → Mem → Out T} {Qr : VK} (kg : KG K sl g wg) (hE : ∀ D Nx σ H, trL K W0 fe σ H (fun ys H4 => Ad D ys H4 Nx) → El D Nx σ H)
    (fo : ∀ Φ Z ρ H m D a o, Rel K (upd Φ D o) Z ρ H m → (∀ c u, Φ c = some u → (upd Φ D o) c = some u ∧ c ≠ D) → RA Z ρ D a o → Post K W Φ Z ρ σ Q (fin a m) → Qr (.ref D) H)
    (h : tr K W (eCompA a0 st fin sl fi g tt fe) σ H Q) : tC1 o0 El (trI K W fi) wg (trB K W0 tt) sl σ H Qr := by
  obtain ⟨Φ, Z, ρ, env, m, F, p⟩ := h
  refine ⟨Φ, Z, ρ, env, m, F, ?_⟩
  unfold eCompA at p
  cases e0 : fi env m with
  | no => rw [e0] at p; exact p
  | ex C ns us m1 => rw [e0] at p; exact p
  | ok ts m1 =>
    rw [e0] at p
    simp only [Out.bind] at p
    intro Z1 ρ1 H1 J e1 r1 wk D hD
    have hΦD : Φ D = none := by
      cases e : Φ D with
      | none => rfl
      | some u => rw [(r1.fin D u e).1] at hD; cases hD
    have hΨ : ∀ o c u, Φ c = some u → (upd Φ D o) c = some u ∧ c ≠ D := fun o c u e => by
      have hb := ne_of_none e hΦD
      exact ⟨by rw [upd_ne hb]; exact e, hb⟩
    refine loopA (W := W) (Q := Q) (σ0 := σ) acc kg hE (F.env.ext e1) wk (fun Z2 ρ2 m2 a o H2 e2 r2 ra2 p2 => fo Φ Z2 ρ2 H2 m2 D a o r2 (hΨ o) ra2 p2) (r1.aside hD _) (acc.init _ _ _) ?_
    have p' := Post.ext p e1
    cases el : cLoopA st g tt fe (wipeE env sl) ts a0 m1 with
    | ok a m2 => simp only [el] at p'; exact p'
    | ex _ _ _ _ => simp only [el] at p'; exact p'.elim
    | no => simp only [el] at p'; exact p'.elim
theorem tr_c2 (acc : AccOk K a0 st o0 RA Ad) {El : ADE} {σ : L2.St} {H : Hp} {Q : VK} {sl sl1 : List Nat} {fi fi1 : LF} {g g1 : GF} {tt tt1 : BF} {fe : LF} {wg wg1 : TG} {fin : α → Mem → Out T} {Qr : VK} (kg : KG K sl g wg) (kg1 : KG K sl1 g1 wg1) (hE : ∀ D Nx σ H, trL K W0 fe σ H (fun ys H4 => Ad D ys H4 Nx) → El D Nx σ H)
    (fo : ∀ Φ Z ρ H m D a o, Rel K (upd Φ D o) Z ρ H m → (∀ c u, Φ c = some u → (upd Φ D o) c = some u ∧ c ≠ D) → RA Z ρ D a o → Post K W Φ Z ρ σ Q (fin a m) → Qr (.ref D) H)
    (h : tr K W (eCompB a0 st fin sl fi g tt fi1 sl1 g1 tt1 fe) σ H Q) : tC2 o0 El (trI K W fi) wg (trB K W0 tt) (trI K W0 fi1) wg1 (trB K W0 tt1) sl sl1 σ H Qr := by
  obtain ⟨Φ, Z, ρ, env, m, F, p⟩ := h
  refine ⟨Φ, Z, ρ, env, m, F, ?_⟩
  unfold eCompB at p
  cases e0 : fi env m with
  | no => rw [e0] at p; exact p
  | ex C ns us m1 => rw [e0] at p; exact p
  | ok ts m1 =>
    rw [e0] at p
    simp only [Out.bind] at p
    intro Z1 ρ1 H1 J e1 r1 wk D hD
    have env1 : Envs K Z1 ρ1 env σ := F.env.ext e1
    have hΦD : Φ D = none := by
      cases e : Φ D with
      | none => rfl
      | some u => rw [(r1.fin D u e).1] at hD; cases hD
    have hΨ : ∀ o c u, Φ c = some u → (upd Φ D o) c = some u ∧ c ≠ D := fun o c u e => by
      have hb := ne_of_none e hΦD
      exact ⟨by rw [upd_ne hb]; exact e, hb⟩
    let Pv : Nat → Nat → Hp → Prop := fun i k H2 => k = ts.length - i ∧ i ≤ ts.length ∧ ∃ Z2 ρ2 m2 a o, Ext Z1 Z2 ρ1 ρ2 ∧ Rel K (upd Φ D o) Z2 ρ2 H2 m2 ∧ RA Z2 ρ2 D a o ∧
      Post K W Φ Z2 ρ2 σ Q (outK (cLoopB st g tt fi1 sl1 g1 tt1 fe (wipeE env sl) (ts.drop i) a m2) fin)
    refine ⟨Pv, ⟨ts.length, by simp, Nat.zero_le _, Z1, ρ1, m1, a0, o0 D, Ext.refl, r1.aside hD _, acc.init _ _ _, ?_⟩, ?_⟩
    · have p' := Post.ext p e1
      simp only [List.drop_zero]
      cases el : cLoopB st g tt fi1 sl1 g1 tt1 fe (wipeE env sl) ts a0 m1 with
      | ok a m2 => simp only [el] at p'; exact p'
      | ex _ _ _ _ => simp only [el] at p'; exact p'.elim
      | no => simp only [el] at p'; exact p'.elim
    rintro i k H2 ⟨hk, hi, Z2, ρ2, m2, a2, o2, e2, r2, ra2, p2⟩
    obtain ⟨w1, w2⟩ := wk _ Z2 ρ2 H2 m2 i e2 r2
    by_cases hlt : i < ts.length
    · have hti : ts[i]? = some ts[i] := by simp [hlt]
      obtain ⟨go, yld⟩ := w2 _ hti
      rw [List.drop_eq_getElem_cons hlt] at p2
      refine .inr ⟨go, fun H' => Pv (i + 1) (ts.length - (i + 1)) H', fun H' h' => ⟨_, by omega, h'⟩, fun x H3 y => ?_⟩
      obtain ⟨Z3, e3, r3, rep⟩ := yld x H3 y
      unfold cLoopB at p2
      cases eg : g ts[i] (wipeE env sl) with
      | none => rw [eg] at p2; exact p2.elim
      | some env3 =>
        rw [eg] at p2
        refine kg _ Z3 ρ2 (wipe σ sl) H3 (wipeE env sl) env3 m2 ts[i] x _ ⟨r3, (envs_wipe env1 sl).ext (e2.trans e3)⟩ rep eg fun σ4 F4 hl4 hw => ⟨wipe_back hw, _, Z3, ρ2, env3, m2, F4, ?_⟩
        cases et : tt env3 m2 with
        | no => simp only [et] at p2; exact p2.elim
        | ex _ _ _ _ => simp only [et] at p2; exact p2.elim
        | ok b m5 =>
          intro Z5 ρ5 H5 e5 r5
          cases b with
          | false =>
            simp only [et] at p2
            simp only [Bool.false_eq_true, if_false]
            exact ⟨rfl, hlt, Z5, ρ5, m5, a2, o2, (e2.trans e3).trans e5, r5, acc.mono ra2 (e3.trans e5), p2.ext (e3.trans e5)⟩
          | true =>
            simp only [et] at p2
            simp only [if_true]
            refine ⟨_, Z5, ρ5, env3, m5, ⟨r5, F4.env.ext e5⟩, ?_⟩
            cases ei : fi1 env3 m5 with
            | no => simp only [ei] at p2; exact p2.elim
            | ex _ _ _ _ => simp only [ei] at p2; exact p2.elim
            | ok us m6 =>
              simp only [ei] at p2
              intro Z6 ρ6 H6 J1 e6 r6 wk1
              refine loopA (W := W) (Q := Q) (σ0 := σ) (fin := fun a m => outK (cLoopB st g tt fi1 sl1 g1 tt1 fe (wipeE env sl) (ts.drop (i + 1)) a m) fin) acc kg1 hE (F4.env.ext (e5.trans e6)) wk1
                (fun Z7 ρ7 m7 a7 o7 H7 e7 r7 ra7 p7 => ⟨rfl, hlt, Z7, ρ7, m7, a7, o7, (((e2.trans e3).trans e5).trans e6).trans e7, r7, ra7, p7⟩) r6 (acc.mono ra2 ((e3.trans e5).trans e6)) ?_
              have p' := Post.ext p2 ((e3.trans e5).trans e6)
              cases el : cLoopA st g1 tt1 fe (wipeE env3 sl1) us a2 m6 with
              | ok a m2 => simp only [el] at p'; exact p'
              | ex _ _ _ _ => simp only [el] at p'; exact p'.elim
              | no => simp only [el] at p'; exact p'.elim
    · have hi' : i = ts.length := by omega
      refine .inl ⟨w1 hi', ?_⟩
      rw [List.drop_eq_nil_of_le (by omega)] at p2
      exact fo Φ _ _ _ _ D _ _ r2 (hΨ _) ra2 p2
/-! ### lists, sets, dicts -/
theorem trL_one {fe : EF} {σ : L2.St} {H : Hp} {R : List V → Hp → Prop} (h : trL K W (lCons fe lNil) σ H R) : tr K W fe σ H fun y H1 => R [y] H1 := by
  obtain ⟨Φ, Z, ρ, env, m, F, p⟩ := h
  refine ⟨Φ, Z, ρ, env, m, F, ?_⟩
  unfold lCons lNil at p
  cases e : fe env m with
  | no => simp only [e, Out.bind] at p; exact p
  | ex _ _ _ _ => simp only [e, Out.bind] at p; exact p
  | ok t m1 =>
    simp only [e, Out.bind] at p
    exact fun Z' ρ' H' v e1 r rep => p Z' ρ' H' [v] e1 r (.cons rep .nil)
theorem trL_two {fe fv : EF} {σ : L2.St} {H : Hp} {R : List V → Hp → Prop} (h : trL K W (lCons fe (lCons fv lNil)) σ H R) : tr K W fe σ H fun y H1 => tr K W fv σ H1 fun z H2 => R [y, z] H2 := by
  obtain ⟨Φ, Z, ρ, env, m, F, p⟩ := h
  refine ⟨Φ, Z, ρ, env, m, F, ?_⟩
  unfold lCons at p
  simp only [lCons, lNil] at p
  cases e : fe env m with
  | no => simp only [e, Out.bind] at p; exact p
  | ex _ _ _ _ => simp only [e, Out.bind] at p; exact p
  | ok t m1 =>
    simp only [e, Out.bind] at p
    intro Z' ρ' H' v e1 r rep
    refine ⟨Φ, Z', ρ', env, m1, ⟨r, F.env.ext e1⟩, ?_⟩
    cases e2 : fv env m1 with
    | no => simp only [e2] at p; exact p
    | ex _ _ _ _ =>
      simp only [e2] at p
      exact fun Z2 ρ2 H2 d vs e3 => p Z2 ρ2 H2 d vs (e1.trans e3)
    | ok u m2 =>
      simp only [e2] at p
      exact fun Z2 ρ2 H2 v2 e3 r2 rep2 => p Z2 ρ2 H2 [v, v2] (e1.trans e3) r2 (.cons (rep.ext e3) (.cons rep2 .nil))
def stL (a : List T) (ys : List T) : Option (List T) := match ys with
  | [y] => if a.length < lim then some (a ++ [y]) else none
  | _ => none
def AdL : ADD := fun D ys H Nx => ∃ y acc, ys = [y] ∧ H D = some (.lst acc) ∧ acc.length < sizeLine ∧ Nx (upd H D (.lst (acc ++ [y])))
theorem accL : AccOk K [] stL (fun _ => .lst []) (fun Z ρ _ a o => ∃ vs, o = .lst vs ∧ Reps K Z ρ a vs) AdL where
  init := fun Z ρ D => ⟨[], rfl, .nil⟩
  mono := fun ⟨vs, e, r⟩ x => ⟨vs, e, r.ext x⟩
  add := by
    rintro Z ρ D a a1 o ts vs H Nx ⟨us, rfl, ra⟩ rs e hD nx
    unfold stL at e
    split at e
    · rename_i y
      split at e
      · rename_i hl
        cases e
        unfold Reps at rs
        obtain ⟨v, ws, rfl, rv, rn⟩ := rs
        unfold Reps at rn
        subst rn
        exact ⟨v, us, rfl, hD, by rw [← ra.length]; exact lim_lt (Nat.le_of_lt hl), nx _ ⟨_, rfl, ra.append (.cons rv .nil)⟩⟩
      · cases e
    · cases e
theorem finL {mu : Bool} {σ : L2.St} {Q : VK} (Φ Z : Hp) (ρ : List Addr) (H : Hp) (m : Mem) (D : Addr) (a : List T) (o : HO) (r : Rel K (upd Φ D o) Z ρ H m) (hΨ : ∀ c u, Φ c = some u → (upd Φ D o) c = some u ∧ c ≠ D) (ra : ∃ vs, o = .lst vs ∧ Reps K Z ρ a vs)
    (p : Post K W Φ Z ρ σ Q (mk mu a m)) : Q (.ref D) H := by
  obtain ⟨vs, rfl, ra⟩ := ra
  cases mu with
  | false =>
    obtain ⟨r5, e5⟩ := r.back (Ψ := Φ) upd_same hΨ
    refine p _ _ _ _ e5 r5 ?_
    unfold Rep
    exact ⟨D, vs, rfl, upd_same, ra.ext e5⟩
  | true =>
    obtain ⟨r5, e5⟩ := r.backC (Ψ := Φ) (u := .lst a) upd_same hΨ ⟨vs, rfl, ra⟩
    refine p _ _ _ _ e5 r5 ?_
    unfold Rep
    exact ⟨D, by rw [← r.len]; simp, rfl⟩
def stS (a : List Key) (ys : List T) : Option (List Key) := match ys with
  | [y] => match keyT y with
    | some k => if a.length < 4000 then some (addK a k) else none
    | none => none
  | _ => none
def AdS : ADD := fun D ys H Nx => ∃ y ks k, ys = [y] ∧ H D = some (setO D ks) ∧ y = kV k ∧ ks.length < 4000 ∧ Nx (upd H D (setO D (addK ks k)))
theorem accS : AccOk K [] stS (fun D => setO D []) (fun _ _ D a o => o = setO D a) AdS where
  init := fun Z ρ D => rfl
  mono := fun e _ => e
  add := by
    rintro Z ρ D a a1 o ts vs H Nx rfl rs e hD nx
    unfold stS at e
    split at e
    · rename_i y
      split at e
      · rename_i k hk
        split at e
        · rename_i hl
          cases e
          unfold Reps at rs
          obtain ⟨v, ws, rfl, rv, rn⟩ := rs
          unfold Reps at rn
          subst rn
          exact ⟨v, a, k, rfl, hD, keyT_rep rv hk, hl, nx _ rfl⟩
        · cases e
      · cases e
    · cases e
theorem finS {σ : L2.St} {Q : VK} (Φ Z : Hp) (ρ : List Addr) (H : Hp) (m : Mem) (D : Addr) (a : List Key) (o : HO) (r : Rel K (upd Φ D o) Z ρ H m) (hΨ : ∀ c u, Φ c = some u → (upd Φ D o) c = some u ∧ c ≠ D) (ra : o = setO D a)
    (p : Post K W Φ Z ρ σ Q (.ok (.set a) m)) : Q (.ref D) H := by
  subst ra
  obtain ⟨r5, e5⟩ := r.back (Ψ := Φ) upd_same hΨ
  refine p _ _ _ _ e5 r5 ?_
  unfold Rep
  exact ⟨D, rfl, upd_same⟩
/-- the values behind d[k] = v; the keys are addK's -/
def putT (k : Key) (v : T) (ks : List Key) (us : List T) : List T := if memK ks k then (ks.zip us).map fun p => if keyEq p.1 k then v else p.2 else us ++ [v]
theorem zip_put {k : Key} {v : V} : ∀ {ks : List Key} {vs : List V}, ks.length = vs.length → (ks.zip vs).map (fun p => if p.1 = k then (p.1, v) else p) = ks.zip ((ks.zip vs).map fun p => if p.1 = k then v else p.2)
  | [], _, _ => rfl
  | _ :: _, [], h => by cases h
  | j :: ks, u :: vs, h => by
    have ih := zip_put (k := k) (v := v) (ks := ks) (vs := vs) (by simpa using h)
    rw [List.zip_cons_cons, List.map_cons, List.map_cons, List.zip_cons_cons, ih]
    by_cases hj : j = k
    · simp [hj]
    · simp [hj]
theorem zip_any {k : Key} : ∀ {ks : List Key} {vs : List V}, ks.length = vs.length → ((ks.zip vs).any fun p => decide (p.1 = k)) = memK ks k
  | [], _, _ => rfl
  | _ :: _, [], h => by cases h
  | j :: ks, u :: vs, h => by
    have ih := zip_any (k := k) (ks := ks) (vs := vs) (by simpa using h)
    unfold memK at ih ⊢
    rw [List.zip_cons_cons, List.any_cons, List.any_cons, ih, keyEq_dec]
theorem reps_put {Z : Hp} {ρ : List Addr} {k : Key} {t : T} {v : V} (rt : Rep K Z ρ t v) : ∀ {ks : List Key} {us : List T} {vs : List V}, Reps K Z ρ us vs → Reps K Z ρ ((ks.zip us).map fun p => if keyEq p.1 k then t else p.2) ((ks.zip vs).map fun p => if p.1 = k then v else p.2)
  | [], _, _, _ => .nil
  | _ :: _, [], _, h => by unfold Reps at h; subst h; exact .nil
  | j :: ks, u :: us, _, h => by
    unfold Reps at h
    obtain ⟨w, ws, rfl, r, rs⟩ := h
    rw [List.zip_cons_cons, List.zip_cons_cons, List.map_cons, List.map_cons]
    refine .cons ?_ (reps_put rt rs)
    by_cases hj : j = k
    · rw [if_pos (keyEq_iff.mpr hj), if_pos hj]; exact rt
    · rw [if_neg (fun z => hj (keyEq_iff.mp z)), if_neg hj]; exact r
theorem putT_ok {Z : Hp} {ρ : List Addr} {k : Key} {t : T} {v : V} {ks : List Key} {us : List T} {vs : List V} (rt : Rep K Z ρ t v) (hl : ks.length = vs.length) (rs : Reps K Z ρ us vs) :
    ∃ ws, putK (ks.zip vs) k v = (addK ks k).zip ws ∧ (addK ks k).length = ws.length ∧ Reps K Z ρ (putT k t ks us) ws := by
  unfold putK addK putT
  rw [zip_any hl]
  cases hm : memK ks k with
  | true =>
    simp only [if_true]
    refine ⟨_, zip_put hl, ?_, reps_put rt rs⟩
    rw [List.length_map, List.length_zip, ← hl, Nat.min_self]
  | false =>
    simp only [Bool.false_eq_true, if_false]
    exact ⟨vs ++ [v], by rw [List.zip_append hl]; rfl, by simp [hl], rs.append (.cons rt .nil)⟩
def stD (a : List Key × List T) (ys : List T) : Option (List Key × List T) := match ys with
  | [y, z] => match keyT y with
    | some k => if a.1.length < lim then some (addK a.1 k, putT k z a.1 a.2) else none
    | none => none
  | _ => none
def AdD : ADD := fun D ys H Nx => ∃ y z kvs k, ys = [y, z] ∧ y = kV k ∧ H D = some (.dK kvs) ∧ kvs.length < sizeLine ∧ Nx (upd H D (.dK (putK kvs k z)))
theorem accD : AccOk K (([] : List Key), ([] : List T)) stD (fun _ => .dK []) (fun Z ρ _ a o => ∃ vs, o = .dK (a.1.zip vs) ∧ a.1.length = vs.length ∧ Reps K Z ρ a.2 vs) AdD where
  init := fun Z ρ D => ⟨[], rfl, rfl, .nil⟩
  mono := fun ⟨vs, e, l, r⟩ x => ⟨vs, e, l, r.ext x⟩
  add := by
    rintro Z ρ D ⟨ks, us⟩ a1 o ts vs H Nx ⟨ws, rfl, hl, ra⟩ rs e hD nx
    unfold stD at e
    split at e
    · rename_i y z
      split at e
      · rename_i k hk
        split at e
        · rename_i h9
          cases e
          unfold Reps at rs
          obtain ⟨v, ws2, rfl, rv, rs⟩ := rs
          unfold Reps at rs
          obtain ⟨v2, ws3, rfl, rv2, rn⟩ := rs
          unfold Reps at rn
          subst rn
          obtain ⟨xs, q1, q2, q3⟩ := putT_ok (k := k) rv2 hl ra
          refine ⟨v, v2, _, k, rfl, keyT_rep rv hk, hD, ?_, ?_⟩
          · rw [List.length_zip, ← hl, Nat.min_self]; exact lim_lt (Nat.le_of_lt h9)
          · rw [q1]
            exact nx _ ⟨xs, rfl, q2, q3⟩
        · cases e
      · cases e
    · cases e
/-- a dict made by a comprehension: a cell, or locked -/
theorem finD {mu : Bool} {σ : L2.St} {Q : VK} (Φ Z : Hp) (ρ : List Addr) (H : Hp) (m : Mem) (D : Addr) (a : List Key × List T) (o : HO) (r : Rel K (upd Φ D o) Z ρ H m) (hΨ : ∀ c u, Φ c = some u → (upd Φ D o) c = some u ∧ c ≠ D) (ra : ∃ vs, o = .dK (a.1.zip vs) ∧ a.1.length = vs.length ∧ Reps K Z ρ a.2 vs)
    (p : Post K W Φ Z ρ σ Q (mkD mu a.1 a.2 m)) : if mu then Q (.ref D) H else ∃ b u, V.ref D = .ref b ∧ H b = some u ∧ Mut (some u) ∧ ∀ od, Q (.ref D) (upd H b (.frz od u)) := by
  obtain ⟨vs, rfl, hl, ra⟩ := ra
  cases mu with
  | true =>
    obtain ⟨r5, e5⟩ := r.backC (Ψ := Φ) (u := .dct a.1 a.2) upd_same hΨ ⟨vs, rfl, hl, ra⟩
    refine p _ _ _ _ e5 r5 ?_
    unfold Rep
    exact ⟨D, by rw [← r.len]; simp, rfl⟩
  | false =>
    refine ⟨D, _, rfl, (r.fin D _ upd_same).1, True.intro, fun od => ?_⟩
    have r2 := r.aside_set (u := .frz od (.dK (a.1.zip vs))) (p := D) upd_same
    rw [upd_upd] at r2
    obtain ⟨r5, e5⟩ := r2.back (Ψ := Φ) upd_same (fun c u e => by
      obtain ⟨_, q⟩ := hΨ c u e
      exact ⟨by rw [upd_ne q]; exact e, q⟩)
    refine p _ _ _ _ e5 r5 ?_
    unfold Rep
    exact ⟨D, vs, od, rfl, upd_same, hl, ra.ext e5⟩
end
theorem kg_up {K : PySem.W.Frag} {sl sl' : List Nat} {g : GF} {w : TG} (hs : sl.all (fun i => decide (i ∈ sl')) = true) (k : KG K sl g w) : KG K sl' g w :=
  fun Φ Z ρ σ H env env1 m t v Q F r e h => k Φ Z ρ σ H env env1 m t v Q F r e fun σ' F' hl hw => h σ' F' hl fun vs hv => hw vs fun i hi => hv i (of_decide_eq_true (List.all_eq_true.mp hs i hi))
theorem sg_up {X : Cx} {tg : Expr} {sl sl' : List Nat} {g : GF} {w : TG} (hs : sl.all (fun i => decide (i ∈ sl')) = true) (h : SG X tg sl g w) : SG X tg sl' g w := ⟨h.pg, kg_up hs h.kg⟩
theorem Cok.hu {X : Cx} {W : WX} {k : Nat} (c : Cok X W k) : X.A.units + 1 < cLine := by have := c.room.units; omega
/-! ### the rules -/
section
variable {X : Cx} {W : WX} {k : Nat} {elt tg iter tg1 iter1 : Expr} {ifs ifs1 : List Expr} {scope : Scope} {own own1 : List (Str × Nat)} {pos : Pos} {fi fi1 : LF} {g g1 : GF} {tt tt1 : BF} {fe fv : EF} {wg wg1 : TG}
def sl1 (own1 : List (Str × Nat)) : List Nat := own1.map (·.2)
/-- the second clause's things, in the block -/
structure Clause2 (X : Cx) (scope : Scope) (own1 : List (Str × Nat)) (tg1 iter1 : Expr) (ifs1 : List Expr) (fi1 : LF) (g1 : GF) (tt1 : BF) (wg1 : TG) : Prop where
  si : ∀ (s : Shared) (H : Hp) (C : Addr) (cl : List (Str × Addr)) (fp : List Addr), SI (X.blk s H scope (compEnvC scope cl C X.env) fp) W0 tg1 iter1 fi1
  sg : ∀ (s : Shared) (H : Hp) (C : Addr) (cl : List (Str × Addr)) (fp : List Addr), SG (X.blk s H scope (compEnvC scope cl C X.env) fp) tg1 (own1.map (·.2)) g1 wg1
  kg : KG X.K (own1.map (·.2)) g1 wg1
  st : ∀ (s : Shared) (H : Hp) (C : Addr) (cl : List (Str × Addr)) (fp : List Addr), STs (X.blk s H scope (compEnvC scope cl C X.env) fp) W0 ifs1 tt1
def eComp2 (mu : Bool) (sl sl1 : List Nat) (fi : LF) (g : GF) (tt : BF) (fi1 : LF) (g1 : GF) (tt1 : BF) (fe : EF) : EF := eCompB [] stL (mk mu) sl fi g tt fi1 sl1 g1 tt1 (lCons fe lNil)
theorem se_comp2 (mu : Bool) (c : Cok X W k) (hi : SI X W tg iter fi) (ok : BlkOk X.N X.env.scope scope own) (hc : CompOk X scope own tg ifs elt g tt fe wg) (h1 : Clause2 X scope own1 tg1 iter1 ifs1 fi1 g1 tt1 wg1) (hv : (own1.map (·.2)).all (fun i => decide (i ∈ own.map (·.2))) = true := by decide)
    (hs : ∀ x, foldedSetIterable iter X.env x = pure x := by intro _; rfl) (hs1 : ∀ env x, foldedSetIterable iter1 env x = pure x := by intro _ _; rfl) :
    SE X W (.ListComp elt [⟨tg, iter, ifs, 0⟩, ⟨tg1, iter1, ifs1, 0⟩] scope pos) (eComp2 mu (own.map (·.2)) (own1.map (·.2)) fi g tt fi1 g1 tt1 fe) :=
  ⟨pe_imp (pe_lc2 (vs1 := own1.map (·.2)) c.calm c.nd hi.pi ok (fun i h => of_decide_eq_true (List.all_eq_true.mp hv i h)) (fun s H C cl fp => (hc.sg s H C cl fp).pg) (fun s H C cl fp => (hc.st s H C cl fp).pts) (fun s H C cl fp => (h1.si s H C cl fp).pi) (fun s H C cl fp => (h1.sg s H C cl fp).pg) (fun s H C cl fp => (h1.st s H C cl fp).pts) (fun s H C cl fp => (hc.se s H C cl fp).pe) hs hs1)
    fun σ H Q h => tr_c2 (Qr := Q) accL hc.kg h1.kg (El := fun D Nx σ H => tr X.K W0 fe σ H fun y H4 => ∃ acc, H4 D = some (.lst acc) ∧ acc.length < sizeLine ∧ Nx (upd H4 D (.lst (acc ++ [y]))))
      (fun D Nx σ H h => by
        obtain ⟨Φ, Z, ρ, env, m, F, p⟩ := trL_one h
        refine ⟨Φ, Z, ρ, env, m, F, ?_⟩
        cases e : fe env m with
        | ok t m1 =>
          rw [e] at p
          intro Z' ρ' H' v e1 r rep
          obtain ⟨y, acc, e2, q⟩ := p Z' ρ' H' v e1 r rep
          cases e2
          exact ⟨acc, q⟩
        | ex _ _ _ _ => rw [e] at p; exact p
        | no => rw [e] at p; exact p) (finL (mu := mu)) h⟩
def eSet1 (sl : List Nat) (fi : LF) (g : GF) (tt : BF) (fe : EF) : EF := eCompA [] stS (fun a m => .ok (.set a) m) sl fi g tt (lCons fe lNil)
def eSet2 (sl sl1 : List Nat) (fi : LF) (g : GF) (tt : BF) (fi1 : LF) (g1 : GF) (tt1 : BF) (fe : EF) : EF := eCompB [] stS (fun a m => .ok (.set a) m) sl fi g tt fi1 sl1 g1 tt1 (lCons fe lNil)
theorem elS {K : PySem.W.Frag} (D : Addr) (Nx : Hp → Prop) (σ : L2.St) (H : Hp) (h : trL K W0 (lCons fe lNil) σ H fun ys H4 => AdS D ys H4 Nx) : tr K W0 fe σ H fun y H4 => ∃ ks k, H4 D = some (setO D ks) ∧ y = kV k ∧ ks.length < 4000 ∧ Nx (upd H4 D (setO D (addK ks k))) := by
  obtain ⟨Φ, Z, ρ, env, m, F, p⟩ := trL_one h
  refine ⟨Φ, Z, ρ, env, m, F, ?_⟩
  cases e : fe env m with
  | ok t m1 =>
    rw [e] at p
    intro Z' ρ' H' v e1 r rep
    obtain ⟨y, ks, kk, e2, q⟩ := p Z' ρ' H' v e1 r rep
    cases e2
    exact ⟨ks, kk, q⟩
  | ex _ _ _ _ => rw [e] at p; exact p
  | no => rw [e] at p; exact p
theorem se_set1 (c : Cok X W k) (hi : SI X W tg iter fi) (ok : BlkOk X.N X.env.scope scope own) (hc : CompOk X scope own tg ifs elt g tt fe wg) (hs : ∀ x, foldedSetIterable iter X.env x = pure x := by intro _; rfl) :
    SE X W (.SetComp elt [⟨tg, iter, ifs, 0⟩] scope pos) (eSet1 (own.map (·.2)) fi g tt fe) :=
  ⟨pe_imp (EvN.pe_sc1 c.here c.calm c.nd hi.pi ok ⟨fun s H C cl fp => (hc.sg s H C cl fp).pg, fun s H C cl fp => (hc.st s H C cl fp).pts⟩ (fun s H C cl fp => (hc.se s H C cl fp).pe) hs)
    fun σ H Q h => tr_c1 (Qr := Q) accS hc.kg (El := fun D Nx σ H => tr X.K W0 fe σ H fun y H4 => ∃ ks k, H4 D = some (setO D ks) ∧ y = kV k ∧ ks.length < 4000 ∧ Nx (upd H4 D (setO D (addK ks k)))) elS finS h⟩
theorem tSc2_eq {wi : TI} {wg0 : TG} {t0 : TT} {wi2 : TI} {wg2 : TG} {t2 : TT} {te : TE} {vs vs2 : List Nat} : EvN.tSc2 wi wg0 t0 wi2 wg2 t2 te vs vs2 = tC2 (fun D => setO D []) (fun D Nx σ H => te σ H fun y H4 => ∃ ks k, H4 D = some (setO D ks) ∧ y = kV k ∧ ks.length < 4000 ∧ Nx (upd H4 D (setO D (addK ks k)))) wi wg0 t0 wi2 wg2 t2 vs vs2 := rfl
theorem se_set2 (c : Cok X W k) (hi : SI X W tg iter fi) (ok : BlkOk X.N X.env.scope scope own) (hc : CompOk X scope own tg ifs elt g tt fe wg) (h1 : Clause2 X scope own1 tg1 iter1 ifs1 fi1 g1 tt1 wg1) (hv : (own1.map (·.2)).all (fun i => decide (i ∈ own.map (·.2))) = true := by decide)
    (hs : ∀ x, foldedSetIterable iter X.env x = pure x := by intro _; rfl) (hs1 : ∀ env x, foldedSetIterable iter1 env x = pure x := by intro _ _; rfl) :
    SE X W (.SetComp elt [⟨tg, iter, ifs, 0⟩, ⟨tg1, iter1, ifs1, 0⟩] scope pos) (eSet2 (own.map (·.2)) (own1.map (·.2)) fi g tt fi1 g1 tt1 fe) := by
  have rule := EvN.pe_sc2 (po := pos) (own := own) (vs1 := own1.map (fun x => x.2)) (wi := trI X.K W fi) (wi1 := trI X.K W0 fi1) (g := wg) (g1 := wg1) (tt := trB X.K W0 tt) (tt1 := trB X.K W0 tt1) (te := tr X.K W0 fe) c.here c.calm c.nd hi.pi ok
    (fun i h => of_decide_eq_true (List.all_eq_true.mp hv i h)) ⟨fun s H C cl fp => (hc.sg s H C cl fp).pg, fun s H C cl fp => (hc.st s H C cl fp).pts⟩ (fun s H C cl fp => (h1.si s H C cl fp).pi)
      ⟨fun s H C cl fp => (h1.sg s H C cl fp).pg, fun s H C cl fp => (h1.st s H C cl fp).pts⟩ (fun s H C cl fp => (hc.se s H C cl fp).pe) hs hs1
  rw [tSc2_eq] at rule
  exact ⟨pe_imp rule fun σ H Q h => tr_c2 accS hc.kg h1.kg elS finS h⟩
def eDictC (mu : Bool) (sl : List Nat) (fi : LF) (g : GF) (tt : BF) (fe fv : EF) : EF := eCompA ([], []) stD (fun a m => mkD mu a.1 a.2 m) sl fi g tt (lCons fe (lCons fv lNil))
theorem se_dictC {vx : Expr} (mu : Bool) (c : Cok X W k) (hi : SI X W tg iter fi) (ok : BlkOk X.N X.env.scope scope own) (hc : CompOk X scope own tg ifs elt g tt fe wg) (hv : ∀ (s : Shared) (H : Hp) (C : Addr) (cl : List (Str × Addr)) (fp : List Addr), SE (X.blk s H scope (compEnvC scope cl C X.env) fp) W0 vx fv)
    (hs : ∀ x, foldedSetIterable iter X.env x = pure x := by intro _; rfl) : SE X W (.DictComp elt vx [⟨tg, iter, ifs, 0⟩] scope pos) (eDictC mu (own.map (·.2)) fi g tt fe fv) := by
  have rule := pe_dc (X := X) (kx := elt) (vx := vx) (pos := pos) (own := own) (wi := trI X.K W fi) (g := wg) (tt := trB X.K W0 tt) (tk := tr X.K W0 fe) (tv := tr X.K W0 fv) c.calm c.nd hi.pi ok (fun s H C cl fp => (hc.sg s H C cl fp).pg) (fun s H C cl fp => (hc.st s H C cl fp).pts) (fun s H C cl fp => (hc.se s H C cl fp).pe) (fun s H C cl fp => (hv s H C cl fp).pe) hs
  have el : ∀ (D : Addr) (Nx : Hp → Prop) (σ : L2.St) (H : Hp), trL X.K W0 (lCons fe (lCons fv lNil)) σ H (fun ys H4 => AdD D ys H4 Nx) → tr X.K W0 fe σ H fun y H4 => tr X.K W0 fv σ H4 fun z H5 => ∃ kvs k, y = kV k ∧ H5 D = some (.dK kvs) ∧ kvs.length < sizeLine ∧ Nx (upd H5 D (.dK (putK kvs k z))) := by
    intro D Nx σ H h
    obtain ⟨Φ, Z, ρ, env, m, F, p⟩ := trL_two h
    refine ⟨Φ, Z, ρ, env, m, F, ?_⟩
    cases e : fe env m with
    | ok t m1 =>
      rw [e] at p
      intro Z' ρ' H' v e1 r rep
      obtain ⟨Φ2, Z2, ρ2, env2, m2, F2, p2⟩ := p Z' ρ' H' v e1 r rep
      refine ⟨Φ2, Z2, ρ2, env2, m2, F2, ?_⟩
      cases e3 : fv env2 m2 with
      | ok t3 m3 =>
        rw [e3] at p2
        intro Z4 ρ4 H4 v4 e4 r4 rep4
        obtain ⟨y, z, kvs, kk, e5, q⟩ := p2 Z4 ρ4 H4 v4 e4 r4 rep4
        cases e5
        exact ⟨kvs, kk, q⟩
      | ex _ _ _ _ => rw [e3] at p2; exact p2
      | no => rw [e3] at p2; exact p2
    | ex _ _ _ _ => rw [e] at p; exact p
    | no => rw [e] at p; exact p
  cases mu with
  | true => exact ⟨pe_imp rule fun σ H Q h => tr_c1 (Qr := Q) accD hc.kg el (fun Φ Z ρ H m D a o r hΨ ra p => finD (mu := true) Φ Z ρ H m D a o r hΨ ra p) h⟩
  | false => exact ⟨pe_imp (pe_locked rule) fun σ H Q h => tr_c1 (Qr := fun v H1 => ∃ a u, v = V.ref a ∧ H1 a = some u ∧ Mut (some u) ∧ ∀ od, Q v (upd H1 a (.frz od u))) accD hc.kg el (fun Φ Z ρ H m D a o r hΨ ra p => finD (mu := false) Φ Z ρ H m D a o r hΨ ra p) h⟩
end
end Ev

/-! dicts walked and written, sets sorted, and other things -/
namespace Ev
open PySem L2
variable [Wrl]
section
variable {K : PySem.W.Frag} {W : WX} {Φ Z Z' : Hp} {ρ ρ' : List Addr} {σ : L2.St} {H : Hp} {m : Mem} {X : Cx}
/-! ### a dict's values and pairs, walked -/
theorem wk_vals {a : Addr} {o : Obj} {ks : List Key} {vs : List V} {ts : List T} (h : Z a = some (.frz o (.dK (ks.zip vs)))) (hl : ks.length = vs.length) (rs : Reps K Z ρ ts vs) : Wk K Z ρ (Itd a o (ks.zip vs)) ts := fun Φ Z1 ρ1 H m i e r => by
  have q := r.zin _ _ (e.z _ _ h)
  have hz : (ks.zip vs).length = ts.length := by rw [List.length_zip, hl, Nat.min_self, rs.length]
  refine ⟨fun hi => ⟨q, by rw [hi, hz]; exact Nat.le_refl _⟩, fun t ht => ?_⟩
  have hi := (List.getElem?_eq_some_iff.mp ht).1
  refine ⟨⟨q, by rw [hz]; exact hi⟩, fun x H' ⟨e1, k, h3⟩ => ?_⟩
  subst e1
  obtain ⟨v, h1, h2⟩ := rs.get ht
  have := (zip_get h3).2
  rw [h1] at this
  cases this
  exact ⟨Z1, Ext.refl, r, h2.ext e⟩
def pairsT (ks : List Key) (ts : List T) : List T := (ks.zip ts).map fun p => .tup [kT p.1, p.2]
theorem wk_items {a : Addr} {o : Obj} {ks : List Key} {vs : List V} {ts : List T} (h : Z a = some (.frz o (.dK (ks.zip vs)))) (hl : ks.length = vs.length) (rs : Reps K Z ρ ts vs) : Wk K Z ρ (Iti a o (ks.zip vs)) (pairsT ks ts) := fun Φ Z1 ρ1 H m i e r => by
  have q := r.zin _ _ (e.z _ _ h)
  have hl2 : ks.length = ts.length := by rw [hl, rs.length]
  have hz : (ks.zip vs).length = (pairsT ks ts).length := by unfold pairsT; rw [List.length_map, List.length_zip, List.length_zip, ← hl, ← hl2]
  refine ⟨fun hi => ⟨q, by rw [hi, hz]; exact Nat.le_refl _⟩, fun t ht => ?_⟩
  have hi := (List.getElem?_eq_some_iff.mp ht).1
  refine ⟨⟨q, by rw [hz]; exact hi⟩, fun x H' ⟨p, k, v, h3, h4, h5, h6⟩ => ?_⟩
  subst h4; subst h6
  unfold pairsT at ht
  rw [List.getElem?_map] at ht
  obtain ⟨⟨k2, t2⟩, h7, rfl⟩ := Option.map_eq_some_iff.mp ht
  rw [List.getElem?_zip_eq_some] at h7
  obtain ⟨v2, h8, h9⟩ := rs.get h7.2
  have e1 := (zip_get h3).1
  have e2 := (zip_get h3).2
  rw [h7.1] at e1
  rw [h8] at e2
  obtain ⟨r', e'⟩ := r.allocZ h5 (.tup [kV k, v])
  have ek : k2 = k := Option.some.inj e1
  have ev : v2 = v := Option.some.inj e2
  rw [ev] at h9
  rw [ek]
  refine ⟨_, e', r', ?_⟩
  unfold Rep
  exact ⟨p, _, rfl, .of upd_same, .cons (rep_kT k) (.cons (h9.ext (e.trans e')) .nil)⟩
def iValsD (f : EF) : LF := fun env m => (f env m).bind fun t m1 => match t with
  | .dct _ ts => .ok ts m1
  | _ => .no
def iItemsD (f : EF) : LF := fun env m => (f env m).bind fun t m1 => match t with
  | .dct ks ts => .ok (pairsT ks ts) m1
  | _ => .no
theorem si_valsD {tg e : Expr} {f : EF} {apos cpos : Pos} (h : SE X W e f) (hbase : attributeBase e "values" X.env (eval e X.env) = eval e X.env := by rfl) (hline : (apos.endLine == cpos.line) = true := by rfl) : SI X W tg (.Call (.Attribute e "values" apos) [] [] cpos) (iValsD f) := by
  refine ⟨_, pi_values h.pe hbase hline, fun Φ Z ρ σ H env m R F p => ?_⟩
  refine tr_bind (P := PostI X.K W Φ Z ρ σ R) F (fun t m1 Z1 ρ1 H1 v e0 e1 F1 r p1 => ?_) (fun _ _ _ _ h => h) (fun h => h) p
  cases t with
  | dct ks ts =>
    unfold Rep at r
    obtain ⟨a, vs, o, rfl, q, hl, rs⟩ := r
    exact ⟨a, o, _, rfl, F1.rel.zin _ _ q, p1 _ _ _ _ e1 F1.rel (wk_vals q hl rs)⟩
  | _ => exact (show False from p1).elim
theorem si_itemsD {e : Expr} {elts : List Expr} {kk : Nat} {tpos : Pos} {f : EF} {apos cpos : Pos} (h : SE X W e f) (hbase : attributeBase e "items" X.env (eval e X.env) = eval e X.env := by rfl) (hline : (apos.endLine == cpos.line) = true := by rfl) : SI X W (.Tuple elts kk tpos) (.Call (.Attribute e "items" apos) [] [] cpos) (iItemsD f) := by
  refine ⟨_, pi_items h.pe hbase hline, fun Φ Z ρ σ H env m R F p => ?_⟩
  refine tr_bind (P := PostI X.K W Φ Z ρ σ R) F (fun t m1 Z1 ρ1 H1 v e0 e1 F1 r p1 => ?_) (fun _ _ _ _ h => h) (fun h => h) p
  cases t with
  | dct ks ts =>
    unfold Rep at r
    obtain ⟨a, vs, o, rfl, q, hl, rs⟩ := r
    exact ⟨a, o, _, rfl, F1.rel.zin _ _ q, p1 _ _ _ _ e1 F1.rel (wk_items q hl rs)⟩
  | _ => exact (show False from p1).elim
/-! ### d[k] = v -/
def setTD : TSet := fun o i v H Q => ∃ a H4, o = .ref a ∧ DPut H a i v H4 ∧ Q H4
theorem set_dct (hu : X.A.units + 1 < cLine) : PSet X setTD := by
  intro pins s σ H o i v ov iv u Q I ro ri rv h
  obtain ⟨a, H4, rfl, g, q⟩ := h
  cases ro
  exact d_setItem hu I g ri rv fun s' I' => ⟨H4, I', q⟩
def cellD (m : Mem) : T → Option (Nat × List Key × List T)
  | .loc n => match m[n]? with
    | some (some (.dct ks ts)) => some (n, ks, ts)
    | _ => none
  | _ => none
def gSetD (o i v : T) (m : Mem) : Option Mem := match cellD m o, keyT i with
  | some (n, ks, ts), some k => if ks.length < lim then some (m.set n (some (.dct (addK ks k) (putT k v ks ts)))) else none
  | _, _ => none
def sSetD (fe fo fi : EF) : SF := sOf fe fun v env m1 => match fo env m1 with
  | .ok o m2 => match fi env m2 with
    | .ok i m3 => match gSetD o i v m3 with
      | some m4 => .nx env m4
      | none => .no
    | _ => .no
  | _ => .no
theorem ss_setD {k : Nat} {o i e : Expr} {pos pos' : Pos} {fe fo fi : EF} (c : Cok X W k) (he : SE X W e fe) (ho : SE X W o fo) (hi : SE X W i fi)
    (ha : ∀ v, assign (.Subscript o i pos') X.env v = (do
      let ov ← holding [v] (eval o X.env)
      let iv ← holding [v, ov] (eval i X.env)
      standAt pos'
      holding [v, ov, iv] (setItem ov iv v)
      release [v, ov, iv] []) := by intro _; rfl)
    (hs : swapsWithSole [.Subscript o i pos'] e pos.line X.env = pure false := by rfl) (hw : swappedStores [.Subscript o i pos'] e X.env = pure none := by rfl)
    (h1 : (assignEach [.Subscript o i pos'] X.env).map (·.2) = [assign (.Subscript o i pos') X.env] := by rfl) : SS X W (.Assign [.Subscript o i pos'] e pos) (sSetD fe fo fi) := by
  have hu : X.A.units + 1 < cLine := by have := c.room.units; omega
  refine ⟨ps_imp (ps_asg he.pe (pg_sub ho.pe hi.pe (set_dct hu) ha) hs hw h1) fun D σ H h => trS_bind (fun Φ Z1 ρ1 H1 env m1 t v F r p => ?_) h⟩
  show tr X.K W fo σ H1 fun ov H2 => tr X.K W fi σ H2 fun iv H3 => setTD ov iv v H3 fun H4 => D.nx σ H4
  cases eo : fo env m1 with
  | no => simp only [eo] at p; exact p.elim
  | ex _ _ _ _ => simp only [eo] at p; exact p.elim
  | ok to m2 =>
    simp only [eo] at p
    cases ei : fi env m2 with
    | no => simp only [ei] at p; exact p.elim
    | ex _ _ _ _ => simp only [ei] at p; exact p.elim
    | ok ti m3 =>
      simp only [ei] at p
      refine ⟨Φ, Z1, ρ1, env, m1, F, ?_⟩
      rw [eo]
      intro Z2 ρ2 H2 vo e2 r2 ro
      refine ⟨Φ, Z2, ρ2, env, m2, ⟨r2, F.env.ext e2⟩, ?_⟩
      rw [ei]
      intro Z3 ρ3 H3 vi e3 r3 ri
      unfold gSetD at p
      cases ec : cellD m3 to with
      | none => simp only [ec] at p; exact p.elim
      | some nkt =>
        obtain ⟨n, ks, ts⟩ := nkt
        cases ek : keyT ti with
        | none => simp only [ec, ek] at p; exact p.elim
        | some kk =>
          simp only [ec, ek] at p
          split at p
          · rename_i m4 e4
            split at e4
            · rename_i h9
              cases e4
              cases to with
              | loc n0 =>
                unfold cellD at ec
                simp only at ec
                split at ec
                · rename_i js us em
                  cases ec
                  have ro' := ro.ext e3
                  unfold Rep at ro'
                  obtain ⟨a, ha', rfl⟩ := ro'
                  obtain ⟨hz, vs, hH, hl, rs⟩ := r3.mem n _ a em ha'
                  obtain ⟨ws, q1, q2, q3⟩ := putT_ok (k := kk) (r.ext (e2.trans e3)) hl rs
                  refine ⟨a, _, rfl, .inl ⟨_, kk, hH, keyT_rep ri ek, ?_, rfl⟩, ?_⟩
                  · rw [List.length_zip, ← hl, Nat.min_self]; exact lim_lt (Nat.le_of_lt h9)
                  · rw [q1]
                    exact p _ _ _ _ (e2.trans e3) ⟨r3.write em ha' (u := .dct _ _) ⟨ws, rfl, q2, q3⟩, F.env.ext (e2.trans e3)⟩ rfl
                · cases ec
              | _ => cases ec
            · cases e4
          · exact p.elim
/-! ### a name's dict stays from here on -/
theorem Rel.lockC (r : Rel K Φ Z ρ H m) {n : Nat} {a : Addr} {w : MO} (hn : m[n]? = some (some w)) (ha : ρ[n]? = some a) (o : HO) : Rel K Φ (upd Z a o) ρ (upd H a o) (m.set n none) ∧ Ext Z (upd Z a o) ρ ρ := by
  have hz := (r.mem n w a hn ha).1
  have hm : a ∈ ρ := List.mem_of_getElem? ha
  have e : Ext Z (upd Z a o) ρ ρ := ⟨same_upd hz, List.prefix_refl _⟩
  refine ⟨⟨fun b v h => ?_, fun b v h => ?_, by simp [r.len], r.nd, fun b hb => ?_, fun i v b h1 h2 => ?_, fun q hq => ?_⟩, e⟩
  · by_cases hb : b = a
    · subst hb; rw [upd_same] at h ⊢; exact h
    · rw [upd_ne hb] at h ⊢; exact r.zin b v h
  · obtain ⟨h1, h2, h3⟩ := r.fin b v h
    have hb : b ≠ a := fun z => h3 (z ▸ hm)
    exact ⟨by rw [upd_ne hb]; exact h1, by rw [upd_ne hb]; exact h2, h3⟩
  · by_cases hb' : b = a
    · subst hb'; rw [upd_same]; exact fun z => nomatch z
    · rw [upd_ne hb']; exact r.trk b hb
  · by_cases hi : n = i
    · subst hi
      have hl := (List.getElem?_eq_some_iff.mp hn).1
      rw [List.getElem?_set_self hl] at h1; cases h1
    · rw [List.getElem?_set_ne hi] at h1
      have hb : b ≠ a := fun z => hi (by subst z; exact (nd_ix r.nd h2 ha).symm)
      obtain ⟨h3, h4⟩ := r.mem i v b h1 h2
      rw [upd_ne hb, upd_ne hb]
      exact ⟨h3, h4.mono e.z e.p⟩
  · obtain ⟨t, h1, h2, h3⟩ := r.tab q hq
    have hb : q.1 ≠ a := fun z => h3 (z ▸ hm)
    exact ⟨t.to e.z (upd_ne hb), by rw [upd_ne hb]; exact h1, h2, h3⟩
theorem ps_lockP {st : Stmt} {t : TS} (h : PS X st t) : PS X st (fun D σ H => ∃ d u, H d = some u ∧ Mut (some u) ∧ ∀ od, t D σ (upd H d (.frz od u))) := by
  refine ⟨fun pins s σ H D I ⟨d, u, hd, mu, hw⟩ => ?_⟩
  obtain ⟨od, I1⟩ := I.lock hd mu
  exact h.run pins s σ _ D I1 (hw od)
def sFrzD (i : Nat) (g : SF) : SF := fun env m => match env[i]? with
  | some (some (.loc n)) => match m[n]? with
    | some (some (.dct ks ts)) => g (env.set i (some (.dct ks ts))) (m.set n none)
    | _ => .no
  | _ => .no
theorem ss_frzD (i : Nat) {st : Stmt} {g : SF} (h : SS X W st g) : SS X W st (sFrzD i g) := by
  refine ⟨ps_imp (ps_lockP h.ps) fun D σ H ⟨Φ, Z, ρ, env, m, F, p⟩ => ?_⟩
  unfold sFrzD at p
  split at p
  · rename_i n e1
    split at p
    · rename_i ks ts e2
      obtain ⟨v, h1, h2⟩ := F.env.get i _ e1
      unfold Rep at h2
      obtain ⟨a, ha, rfl⟩ := h2
      obtain ⟨hz, vs, hH, hl, rs⟩ := F.rel.mem n _ a e2 ha
      refine ⟨a, _, hH, True.intro, fun od => ?_⟩
      obtain ⟨r2, e3⟩ := F.rel.lockC e2 ha (.frz od (.dK (ks.zip vs)))
      refine ⟨Φ, _, ρ, _, _, ⟨r2, ?_⟩, p.ext e3⟩
      have E2 := F.env.ext e3
      refine ⟨by simp [E2.len], fun j u ej => ?_⟩
      by_cases hj : i = j
      · subst hj
        have hi := (List.getElem?_eq_some_iff.mp e1).1
        rw [List.getElem?_set_self hi] at ej
        have eu : T.dct ks ts = u := by simpa using ej
        subst eu
        refine ⟨.ref a, h1, ?_⟩
        unfold Rep
        exact ⟨a, vs, od, rfl, upd_same, hl, rs.ext e3⟩
      · rw [List.getElem?_set_ne hj] at ej
        exact E2.get j u ej
    · exact p.elim
  · exact p.elim
end
end Ev

/-! sorted sets and dicts, and other built-in things -/
namespace Ev
def insI (x : Int) : List Int → List Int
  | [] => [x]
  | y :: ys => if x ≤ y then x :: y :: ys else y :: insI x ys
def sortI : List Int → List Int
  | [] => []
  | x :: xs => insI x (sortI xs)
theorem insI_perm (x : Int) : ∀ ys : List Int, (insI x ys).Perm (x :: ys)
  | [] => List.Perm.refl _
  | y :: ys => by
    unfold insI
    split
    · exact List.Perm.refl _
    · exact ((insI_perm x ys).cons y).trans (.swap _ _ _)
theorem sortI_perm : ∀ xs : List Int, (sortI xs).Perm xs
  | [] => List.Perm.refl _
  | x :: xs => (insI_perm x _).trans ((sortI_perm xs).cons x)
theorem insI_pw (x : Int) : ∀ ys : List Int, ys.Pairwise (· ≤ ·) → (insI x ys).Pairwise (· ≤ ·)
  | [], _ => by unfold insI; simp
  | y :: ys, h => by
    unfold insI
    obtain ⟨h1, h2⟩ := List.pairwise_cons.mp h
    split
    · rename_i hx
      refine List.pairwise_cons.mpr ⟨fun b hb => ?_, h⟩
      rcases List.mem_cons.mp hb with e | e
      · rw [e]; exact hx
      · exact Int.le_trans hx (h1 b e)
    · rename_i hx
      refine List.pairwise_cons.mpr ⟨fun b hb => ?_, insI_pw x ys h2⟩
      rcases List.mem_cons.mp ((insI_perm x ys).mem_iff.mp hb) with e | e
      · rw [e]; omega
      · exact h1 b e
theorem sortI_pw : ∀ xs : List Int, (sortI xs).Pairwise (· ≤ ·)
  | [] => List.Pairwise.nil
  | x :: xs => insI_pw x _ (sortI_pw xs)
end Ev
namespace EvM
open PySem PySem.Spec PyProof.Rows L2
def strV : Value → Str
  | .str x _ => x
  | _ => Str.empty
def intV : Value → Int
  | .int x _ => x
  | _ => 0
def unS : Key → Str
  | .inr x => x
  | .inl _ => Str.empty
def unI : Key → Int
  | .inl x => x
  | .inr _ => 0
theorem strs_are : ∀ {vs : List Value}, (∀ v ∈ vs, ∃ x t, v = Value.str x t) → StrsAre vs (vs.map strV)
  | [], _ => .nil
  | v :: vs, h => by
    obtain ⟨x, t, rfl⟩ := h v List.mem_cons_self
    exact .cons x t (strs_are fun u hu => h u (List.mem_cons_of_mem _ hu))
theorem ints_are : ∀ {vs : List Value}, (∀ v ∈ vs, ∃ x t, v = Value.int x t) → IntsAre vs (vs.map intV)
  | [], _ => .nil
  | v :: vs, h => by
    obtain ⟨x, t, rfl⟩ := h v List.mem_cons_self
    exact .cons x t (ints_are fun u hu => h u (List.mem_cons_of_mem _ hu))
section
variable [Ev.Wrl] {P : Program} {w : World} {A : Around} {E : Value → Shared → Prop} {s : Shared} {a : Addr}
/-- the members of a set, as a list is made of them -/
theorem collect_members {ks : List Key} {Q : List Value → Shared → Prop} (S : Ev.SetM P w s.heap a ks) (hh : A.handled = none)
    (fin : ∀ z vs, (∀ b o, s.heap.get? b = some o → z.heap.get? b = some o) → s.heap.objs.size ≤ z.heap.objs.size → z.gens = s.gens → z.os = s.os → (∃ js : List Key, js.Perm ks ∧ Vals (js.map kV) vs) → Q vs z) : wpAny (model P w) A (collect (.ref a)) Q E s := by
  obtain ⟨ob, es, ep, t, h0, hx, hd, good, pm, nd, few, fit, ris, led⟩ := S
  have sz : es.size = ks.length := by rw [← Array.length_toList, ← List.length_map (f := Ev.keyM), pm.length_eq]
  refine collect_set hh ⟨ob, h0, hx.1, hd⟩ fit (by rw [sz]; exact Nat.lt_trans few (by decide)) ris led fun z vs k1 hz g o pv => fin z vs k1 hz g o ?_
  have all : ∀ l : List (Int × Value), (∀ e ∈ l, Ev.GoodM P w e) → Vals ((l.map Ev.keyM).map kV) (l.map (·.2)) := by
    intro l
    induction l with
    | nil => intro _; exact .nil
    | cons e l ih =>
      intro h
      obtain ⟨k, r, _⟩ := h e List.mem_cons_self
      rw [List.map_cons, List.map_cons, List.map_cons]
      refine .cons ?_ (ih fun f hf => h f (List.mem_cons_of_mem _ hf))
      rw [good_key (P := P) (w := w) r]; exact r
  -- the values come in another order
  have ord : ∀ {l m : List Value}, l.Perm m → ∀ js : List Key, Vals (js.map kV) l → ∃ is : List Key, is.Perm js ∧ Vals (is.map kV) m := by
    intro l m p
    induction p with
    | nil => intro js h; exact ⟨js, List.Perm.refl _, h⟩
    | cons x p ih =>
      intro js h
      cases js with
      | nil => rw [List.map_nil] at h; cases h
      | cons j js =>
        rw [List.map_cons] at h
        cases h with
        | cons r t =>
          obtain ⟨is, h1, h2⟩ := ih js t
          exact ⟨j :: is, h1.cons j, .cons r h2⟩
    | swap x y l =>
      intro js h
      match js, h with
      | [], h => rw [List.map_nil] at h; cases h
      | [_], h => rw [List.map_cons, List.map_nil] at h; cases h with | cons _ t => cases t
      | i :: j :: js, h =>
        rw [List.map_cons, List.map_cons] at h
        cases h with
        | cons r t => cases t with
          | cons r2 t2 => exact ⟨j :: i :: js, .swap _ _ _, .cons r2 (.cons r t2)⟩
    | trans p q ihp ihq =>
      intro js h
      obtain ⟨is, h1, h2⟩ := ihp js h
      obtain ⟨hs, h3, h4⟩ := ihq is h2
      exact ⟨hs, h3.trans h1, h4⟩
  obtain ⟨is, h1, h2⟩ := ord pv.symm _ (all _ good)
  exact ⟨is, h1.trans pm, h2⟩
theorem vals_strV : ∀ {xs : List Str} {vs : List Value}, Vals ((xs.map Sum.inr : List Key).map kV) vs → StrsAre vs xs
  | [], vs, h => by rw [List.map_nil, List.map_nil] at h; cases h; exact .nil
  | x :: xs, vs, h => by
    rw [List.map_cons, List.map_cons] at h
    cases h with
    | cons r t =>
      obtain ⟨tk, rfl⟩ := (show ∃ t, _ = Value.str x t from r)
      exact .cons x tk (vals_strV t)
theorem vals_intV : ∀ {xs : List Int} {vs : List Value}, Vals ((xs.map Sum.inl : List Key).map kV) vs → IntsAre vs xs
  | [], vs, h => by rw [List.map_nil, List.map_nil] at h; cases h; exact .nil
  | x :: xs, vs, h => by
    rw [List.map_cons, List.map_cons] at h
    cases h with
    | cons r t =>
      obtain ⟨tk, rfl⟩ := (show ∃ t, _ = Value.int x t from r)
      exact .cons x tk (vals_intV t)
theorem perm_inr {js : List Key} {xs : List Str} (h : js.Perm (xs.map Sum.inr)) : ∃ ys : List Str, js = ys.map Sum.inr ∧ ys.Perm xs := by
  refine ⟨js.map unS, ?_, ?_⟩
  · rw [List.map_map]
    refine (List.map_id js).symm.trans (List.map_congr_left fun j hj => ?_)
    obtain ⟨x, _, rfl⟩ := List.mem_map.mp (h.mem_iff.mp hj)
    rfl
  · have := h.map unS
    rw [List.map_map] at this
    have e : unS ∘ (Sum.inr : Str → Key) = id := rfl
    rw [e, List.map_id] at this
    exact this
theorem perm_inl {js : List Key} {xs : List Int} (h : js.Perm (xs.map Sum.inl)) : ∃ ys : List Int, js = ys.map Sum.inl ∧ ys.Perm xs := by
  refine ⟨js.map unI, ?_, ?_⟩
  · rw [List.map_map]
    refine (List.map_id js).symm.trans (List.map_congr_left fun j hj => ?_)
    obtain ⟨x, _, rfl⟩ := List.mem_map.mp (h.mem_iff.mp hj)
    rfl
  · have := h.map unI
    rw [List.map_map] at this
    have e : unI ∘ (Sum.inl : Int → Key) = id := rfl
    rw [e, List.map_id] at this
    exact this
/-- sorted(a set of texts) -/
theorem sorted_setS {xs : List Str} {Q : Value → Shared → Prop} (S : Ev.SetM P w s.heap a (xs.map Sum.inr)) (hh : A.handled = none)
    (fin : ∀ z p (out : Array Value) (c : Nat), (∀ b o, s.heap.get? b = some o → z.heap.get? b = some o) → z.gens = s.gens → z.os = s.os → s.heap.objs.size ≤ p → z.heap.get? p = some (seqObj "list" out c) → StrsAre out.toList (Ev.sortS xs) → Q (.ref p) z) :
    wpAny (model P w) A (call (.builtin "sorted") [.ref a]) Q E s := by
  have few : xs.length < 4090 := let ⟨_, _, _, _, _, _, _, _, _, _, f, _⟩ := S; by rw [List.length_map] at f; exact f
  refine Calls.call_function_entry kind_sorted plain_sorted entry_sorted (args_sorted1 _) ?_
  unfold Builtin.«sorted»
  refine wpAny_bind (m := checkCount "sorted" 1 1 _) (wpAny_pure (wpAny_bind (collect_members S hh fun z vs k1 hz g o ⟨js, pj, vj⟩ => ?_)))
  obtain ⟨ys, rfl, py⟩ := perm_inr pj
  have sv := vals_strV vj
  have hL : vs.length ≤ sizeLine := by rw [← vj.length, List.length_map, List.length_map, py.length_eq, sizeLine_eq]; omega
  refine wpAny_bind (wpAny_newList ?_ hL)
  have z2 : (z.heap.push (seqObj "list" vs.toArray 0)).get? z.heap.objs.size = some (seqObj "list" vs.toArray 0) := Heap.get?_push_size _ rfl
  have z3 : ∀ v₁ v₂ rest, vs = v₁ :: v₂ :: rest → keyKind' (v₁ :: v₂ :: rest).toArray = pure oneType' := fun v₁ v₂ rest e => keyKind_strs (by rw [← e]; exact sv)
  refine wpAny_bind (wpAny_holding (wpAny_call_entry slot_list_sort ⟨_, z2, rfl⟩ entry_list_sort (list_sort_treeKAny strKind_oneLt z2 sv.keysOf z3 hL fun st' a1 a2 => ⟨_, rfl, wpAny_pure ⟨_, rfl, ?_⟩⟩) (args_list_sort _)))
  obtain ⟨ss', h1, h2, h3⟩ := sorted_out_str sv a1 a2
  have e := Ev.sorted_eq (h2.trans py) h3
  subst e
  obtain ⟨c, hc⟩ := sortedHeap_at (vs := vs) (out := (arrOf st').map (·.2)) z2
  refine fin _ z.heap.objs.size _ c (fun b u e => ?_) g o hz hc h1
  have q := k1 b u e
  have lt := Heap.lt_size q
  show (sortedHeap (z.heap.push (seqObj "list" vs.toArray 0)) z.heap.objs.size vs _).get? b = some u
  rw [sortedHeap_old (Nat.ne_of_lt lt) (by rw [size_push']; exact Nat.lt_succ_of_lt lt)]
  exact Heap.get?_push_of_some _ q
theorem sortI_eq {ys xs : List Int} (hp : ys.Perm xs) (h : ys.Pairwise (· ≤ ·)) : ys = Ev.sortI xs :=
  List.Perm.eq_of_pairwise (fun a b _ _ h1 h2 => Int.le_antisymm h1 h2) h (Ev.sortI_pw xs) (hp.trans (Ev.sortI_perm xs).symm)
theorem sorted_setI {xs : List Int} {Q : Value → Shared → Prop} (S : Ev.SetM P w s.heap a (xs.map Sum.inl)) (hh : A.handled = none)
    (fin : ∀ z p (out : Array Value) (c : Nat), (∀ b o, s.heap.get? b = some o → z.heap.get? b = some o) → z.gens = s.gens → z.os = s.os → s.heap.objs.size ≤ p → z.heap.get? p = some (seqObj "list" out c) → IntsAre out.toList (Ev.sortI xs) → Q (.ref p) z) :
    wpAny (model P w) A (call (.builtin "sorted") [.ref a]) Q E s := by
  have few : xs.length < 4090 := let ⟨_, _, _, _, _, _, _, _, _, _, f, _⟩ := S; by rw [List.length_map] at f; exact f
  refine Calls.call_function_entry kind_sorted plain_sorted entry_sorted (args_sorted1 _) ?_
  unfold Builtin.«sorted»
  refine wpAny_bind (m := checkCount "sorted" 1 1 _) (wpAny_pure (wpAny_bind (collect_members S hh fun z vs k1 hz g o ⟨js, pj, vj⟩ => ?_)))
  obtain ⟨ys, rfl, py⟩ := perm_inl pj
  have sv := vals_intV vj
  have hL : vs.length ≤ sizeLine := by rw [← vj.length, List.length_map, List.length_map, py.length_eq, sizeLine_eq]; omega
  refine wpAny_bind (wpAny_newList ?_ hL)
  have z2 : (z.heap.push (seqObj "list" vs.toArray 0)).get? z.heap.objs.size = some (seqObj "list" vs.toArray 0) := Heap.get?_push_size _ rfl
  refine wpAny_bind (wpAny_holding (wpAny_call_entry slot_list_sort ⟨_, z2, rfl⟩ entry_list_sort (list_sort_treeAny z2 sv hL fun out ns' h1 h2 h3 => ⟨_, rfl, wpAny_pure ⟨_, rfl, ?_⟩⟩) (args_list_sort _)))
  have e := sortI_eq (h2.trans py) h3
  subst e
  obtain ⟨c, hc⟩ := sortedHeap_at (vs := vs) (out := out) z2
  refine fin _ z.heap.objs.size _ c (fun b u e => ?_) g o hz hc h1
  have q := k1 b u e
  have lt := Heap.lt_size q
  show (sortedHeap (z.heap.push (seqObj "list" vs.toArray 0)) z.heap.objs.size vs _).get? b = some u
  rw [sortedHeap_old (Nat.ne_of_lt lt) (by rw [size_push']; exact Nat.lt_succ_of_lt lt)]
  exact Heap.get?_push_of_some _ q
end
end EvM

/-! what further constructs mean on values -/
namespace Ev
open PySem L2
/-! ### dicts whose keys are tuples -/
mutual
def kEq : T → T → Bool
  | .non, .non => true
  | .int i, .int j => decide (i = j)
  | .str x, .str y => eqS x y
  | .tup a, .tup b => kEqs a b
  | _, _ => false
def kEqs : List T → List T → Bool
  | [], [] => true
  | a :: as, b :: bs => kEq a b && kEqs as bs
  | _, _ => false
end
def memN (k : T) (ks : List T) : Bool := ks.any fun j => kEq j k
def getN (k : T) : List T → List T → Option T
  | j :: ks, t :: ts => if kEq j k then some t else getN k ks ts
  | _, _ => none
def addN (k : T) (ks : List T) : List T := if memN k ks then ks else ks ++ [k]
def putN2 (k v : T) (ks ts : List T) : List T := if memN k ks then (ks.zip ts).map fun p => if kEq p.1 k then v else p.2 else ts ++ [v]
def asN (m : Mem) : T → Option (List T × List T)
  | .dcn ks ts => some (ks, ts)
  | .loc n => match m[n]? with
    | some (some (.dcn ks ts)) => some (ks, ts)
    | _ => none
  | _ => none
def isTup : T → Bool
  | .tup _ => true
  | _ => false
def mkN (mu : Bool) (ks ts : List T) (m : Mem) : Out T := if mu then .ok (.loc m.length) (m ++ [some (.dcn ks ts)]) else .ok (.dcn ks ts) m
def eDictN (mu : Bool) : EF := fun _ m => mkN mu [] [] m
/-- d[k], the key a tuple -/
def gIxN (x y : T) (m : Mem) : Out T := match asN m x with
  | some (ks, ts) => if isTup y && (toNK y).isSome then match getN y ks ts with
    | some t => .ok t m
    | none => .no else .no
  | none => .no
def okKey (k : T) : Bool := match toNK k with
  | some n => isTup k && decide (n.depth ≤ 8)
  | none => false
def gInN (neg : Bool) (x y : T) (m : Mem) : Out T := match asN m y with
  | some (ks, _) => if okKey x then .ok (.bl (if neg then !memN x ks else memN x ks)) m else .no
  | none => .no
def gSetN (o i v : T) (m : Mem) : Option Mem := match o with
  | .loc n => match m[n]? with
    | some (some (.dcn ks ts)) => if okKey i && decide (ks.length < lim) then some (m.set n (some (.dcn (addN i ks) (putN2 i v ks ts)))) else none
    | _ => none
  | _ => none
def sSetN (fe fo fi : EF) : SF := sOf fe fun v env m1 => match fo env m1 with
  | .ok o m2 => match fi env m2 with
    | .ok i m3 => match gSetN o i v m3 with
      | some m4 => .nx env m4
      | none => .no
    | _ => .no
  | _ => .no
def sFrzN (i : Nat) (g : SF) : SF := fun env m => match env[i]? with
  | some (some (.loc n)) => match m[n]? with
    | some (some (.dcn ks ts)) => g (env.set i (some (.dcn ks ts))) (m.set n none)
    | _ => .no
  | _ => .no
/-! ### built-ins over more -/
def keysS : List Key → Option (List Str)
  | [] => some []
  | .inr x :: ks => (keysS ks).map (x :: ·)
  | .inl _ :: _ => none
def keysI : List Key → Option (List Int)
  | [] => some []
  | .inl x :: ks => (keysI ks).map (x :: ·)
  | .inr _ :: _ => none
/-- sorted of texts, of a set, of a dict -/
def gSortedA (mu : Bool) : List T → Mem → Out T := fun xs m => match xs with
  | [.set ks] => match keysS ks with
    | some ys => mk mu ((sortS ys).map T.str) m
    | none => match keysI ks with
      | some ns => mk mu ((sortI ns).map T.int) m
      | none => .no
  | [y] => match asD m y with
    | some (ks, _) => match keysS ks with
      | some ys => if ys.length < 64 then mk mu ((sortS ys).map T.str) m else .no
      | none => .no
    | none => gSorted mu [y] m
  | _ => .no
def gListA (mu : Bool) : List T → Mem → Out T := fun xs m => match xs with
  | [y] => match asD m y with
    | some (ks, _) => mk mu (ks.map kT) m
    | none => gList mu [y] m
  | _ => .no
def intsT : List T → Option (List Int)
  | [] => some []
  | .int x :: ts => (intsT ts).map (x :: ·)
  | _ :: _ => none
def gSum : List T → Mem → Out T := fun xs m => match xs with
  | [y] => match asL m y with
    | some ts => match intsT ts with
      | some ns => .ok (.int ns.sum) m
      | none => .no
    | none => .no
  | _ => .no
def maxI : Int → List Int → Int
  | a, [] => a
  | a, b :: bs => maxI (if a < b then b else a) bs
def minI : Int → List Int → Int
  | a, [] => a
  | a, b :: bs => minI (if b < a then b else a) bs
def gMax : List T → Mem → Out T := fun xs m => match xs with
  | [y] => match asL m y with
    | some ts => match intsT ts with
      | some (n :: ns) => .ok (.int (maxI n ns)) m
      | _ => .no
    | none => .no
  | _ => .no
def gMin : List T → Mem → Out T := fun xs m => match xs with
  | [y] => match asL m y with
    | some ts => match intsT ts with
      | some (n :: ns) => .ok (.int (minI n ns)) m
      | _ => .no
    | none => .no
  | _ => .no
/-- min(rows, key=lambda row: row[0]) -/
def firstI : T → Option Int
  | .tup (.int i :: _) => some i
  | _ => none
def min0 : T → Int → List T → Option T
  | t, _, [] => some t
  | t, a, u :: us => match firstI u with
    | some b => if b < a then min0 u b us else min0 t a us
    | none => none
def gMin0 : List T → Mem → Out T := fun xs m => match xs with
  | [y] => match asL m y with
    | some (t :: ts) => match firstI t with
      | some a => match min0 t a ts with
        | some u => .ok u m
        | none => .no
      | none => .no
    | _ => .no
  | _ => .no
def gTupleA : List T → Mem → Out T := fun xs m => match xs with
  | [.str x] => gTupleS [.str x] m
  | ys => gTuple ys m
def gIntA : List T → Mem → Out T := fun xs m => match xs with
  | [.bl b] => .ok (.int (if b then 1 else 0)) m
  | ys => gInt ys m
def gExtendA : T → List T → Mem → Out T := fun x xs m => match xs with
  | [.tup us] => match cellL m x with
    | some (n, ts) => if ts.length + us.length ≤ lim then .ok .non (m.set n (some (.lst (ts ++ us)))) else .no
    | none => .no
  | ys => gExtend x ys m
def gMulU : T → T → Mem → Out T := fun x y m => match x, y with
  | .tup xs, .int 1 => .ok (.tup xs) m
  | x, y => gMulT x y m
def gClear : T → List T → Mem → Out T := fun x xs m => match cellL m x, xs with
  | some (n, _), [] => .ok .non (m.set n (some (.lst [])))
  | _, _ => .no
/-- a starred part of a display, of arguments -/
def lStar (f : EF) (fs : LF) : LF := fun env m => (f env m).bind fun x m1 => match asSeq m1 x with
  | some ts => (fs env m1).bind fun ys m2 => .ok (ts ++ ys) m2
  | none => .no
/-- {k: v, ..} -/
def dispT : List T → List Key → List T → Option (List Key × List T)
  | [], ks, ts => some (ks, ts)
  | k :: v :: r, ks, ts => match keyT k with
    | some j => dispT r (addK ks j) (putT j v ks ts)
    | none => none
  | [_], _, _ => none
def eDisp (mu : Bool) (fs : LF) : EF := fun env m => (fs env m).bind fun xs m1 => if xs.length ≤ 30 then match dispT xs [] [] with
  | some (ks, ts) => mkD mu ks ts m1
  | none => .no else .no
/-- isinstance(e, an own class) -/
def eIsiC (c : Str) (ys : List Str) (f : EF) : EF := fun env m => (f env m).bind fun x m1 => match asIns m1 x with
  | some (d, _, _) => if ys.any (eqS d) then .ok (.bl (eqS d c)) m1 else .no
  | none => match tyOf m1 x with
    | some _ => .ok (.bl false) m1
    | none => .no
/-- zip -/
def zipI (m : Mem) (x : T) : Option (List T) := match x with
  | .str z => if z.length ≤ lim then some (letters z) else none
  | y => match asT y with
    | some ts => some ts
    | none => match y with
      | .lst ts => some ts
      | .rls ts => some ts
      | _ => none
def iZipA (fs : LF) : LF := fun env m => (fs env m).bind fun xs m1 => match xs with
  | [x, y] => match zipI m1 x, zipI m1 y with
    | some ts, some us => .ok ((ts.zip us).map fun p => .tup [p.1, p.2]) m1
    | _, _ => .no
  | _ => .no
/-- first, *rest = e -/
def sStar (i j : Nat) (mu : Bool) (f : EF) : SF := sOf f fun t env m => match asSeq m t with
  | some (x :: xs) => match mk mu xs m with
    | .ok u m1 => .nx ((env.set i (some x)).set j (some u)) m1
    | _ => .no
  | _ => .no
/-- while, with so much fuel -/
def wLoop (t : BF) (b : SF) : Nat → Env → Mem → SOut
  | 0, _, _ => .no
  | n + 1, env, m => match t env m with
    | .ok true m1 => match b env m1 with
      | .nx env2 m2 => wLoop t b n env2 m2
      | .ct env2 m2 => wLoop t b n env2 m2
      | .bk env2 m2 => .nx env2 m2
      | r => r
    | .ok false m1 => .nx env m1
    | .ex C ns vs m1 => .ex C ns vs env m1
    | .no => .no
def sWhile (fuel : Nat) (t : BF) (b : SF) : SF := wLoop t b fuel
end Ev

/-! built-ins over more values -/
namespace Ev
open PySem PySem.Spec Builtin L2 PyProof PyProof.Rows
variable [Wrl]
section
variable {K : PySem.W.Frag} {W : WX} {Φ Z : Hp} {ρ : List Addr} {σ : L2.St} {H : Hp} {m : Mem} {X : Cx}
/-! ### tuple -/
theorem call_tupA (hc : X.calm = true) : CallR X (.type "tuple") (fun xs H Q => (∃ p ys, xs = [.ref p] ∧ ((SqL X.K H p ys ∧ ∀ l, H l = none → Q (.ref l) (upd H l (.tup ys))) ∨ (SqT X.K H p ys ∧ Q (.ref p) H))) ∨ rTupS xs H Q) := call_tuple_of.or (call_tupS hc)
theorem sem_tupleA : SemL K gTupleA (fun xs H Q => (∃ p ys, xs = [.ref p] ∧ ((SqL K H p ys ∧ ∀ l, H l = none → Q (.ref l) (upd H l (.tup ys))) ∨ (SqT K H p ys ∧ Q (.ref p) H))) ∨ rTupS xs H Q) := by
  intro W Φ Z ρ σ H m Q xs vs r rs p
  unfold gTupleA at p
  split at p
  · exact .inr (sem_tupS W Φ Z ρ σ H m Q _ vs r rs p)
  · exact .inl (sem_tuple W Φ Z ρ σ H m Q _ vs r rs p)
/-! ### int -/
theorem sem_intA : SemL K gIntA (fun xs H Q => (∃ i, xs = [.int i] ∧ Q (.int i) H) ∨ ∃ k, xs = [.bl k] ∧ Q (.int (if k then 1 else 0)) H) := by
  intro W Φ Z ρ σ H m Q xs vs r rs p
  unfold gIntA at p
  split at p
  · rename_i b
    obtain ⟨v, rfl, rv⟩ := reps1 rs
    unfold Rep at rv
    subst rv
    exact .inr ⟨b, rfl, post_ok r rep_int p⟩
  · exact sem_int W Φ Z ρ σ H m Q _ vs r rs p
/-! ### list -/
def rListA (K : PySem.W.Frag) : List V → Hp → VK → Prop := fun xs H Q => (∃ p ys, xs = [.ref p] ∧ (SqL K H p ys ∨ SqT K H p ys) ∧ ∀ l, H l = none → Q (.ref l) (upd H l (.lst ys))) ∨
  ∃ (a : Addr) (kvs : List (Key × V)), xs = [.ref a] ∧ Rd H a (.dK kvs) ∧ ∀ p, H p = none → Q (.ref p) (upd H p (.lst (kvs.map fun kv => kV kv.1)))
theorem call_listA (hc : X.calm = true) : CallR X (.type "list") (rListA X.K) := call_list_of.or (call_listD hc)
theorem reps_kT : ∀ {ks : List Key} {vs : List V}, ks.length = vs.length → Reps K Z ρ (ks.map kT) ((ks.zip vs).map fun kv => kV kv.1)
  | [], _, _ => .nil
  | k :: ks, [], h => by simp at h
  | k :: ks, v :: vs, h => .cons (by cases k <;> (unfold kT Rep; rfl)) (reps_kT (by simpa using h))
theorem sem_listA {mu : Bool} : SemL K (gListA mu) (rListA K) := by
  intro W Φ Z ρ σ H m Q xs vs r rs p
  unfold gListA at p
  split at p
  · rename_i y
    split at p
    · rename_i ks ts ht
      obtain ⟨v, rfl, rv⟩ := reps1 rs
      obtain ⟨a, us, rfl, q, hl, ru⟩ := asD_rep r rv ht
      exact .inr ⟨a, _, rfl, q, fun l hp => post_mk r (reps_kT hl) p hp⟩
    · exact .inl (sem_list W Φ Z ρ σ H m Q _ vs r rs p)
  · exact p.elim
/-! ### sums, the greatest, the least -/
theorem ints_eq : ∀ {ts : List T} {xs : List Int}, intsT ts = some xs → ts = xs.map T.int
  | [], xs, h => by unfold intsT at h; cases h; rfl
  | .int i :: ts, xs, h => by
    unfold intsT at h
    cases e : intsT ts with
    | none => rw [e] at h; cases h
    | some ys => rw [e] at h; cases h; rw [ints_eq e]; rfl
  | .non :: _, _, h | .bl _ :: _, _, h | .str _ :: _, _, h | .ty _ :: _, _, h | .tup _ :: _, _, h | .lst _ :: _, _, h | .rls _ :: _, _, h | .dct _ _ :: _, _, h | .ins _ _ _ :: _, _, h | .dcn _ _ :: _, _, h | .exc _ _ _ :: _, _, h | .set _ :: _, _, h | .loc _ :: _, _, h => by simp [intsT] at h
theorem reps_ints : ∀ {xs : List Int} {vs : List V}, Reps K Z ρ (xs.map T.int) vs → vs = xs.map V.int
  | [], _, h => by unfold Reps at h; exact h
  | x :: xs, _, h => by
    rw [List.map_cons] at h
    unfold Reps at h
    obtain ⟨v, us, rfl, r, rs⟩ := h
    unfold Rep at r
    rw [r, reps_ints rs]; rfl
theorem reps_ints_mk : ∀ {xs : List Int}, Reps K Z ρ (xs.map T.int) (xs.map V.int)
  | [] => .nil
  | x :: xs => .cons rep_int reps_ints_mk
theorem asL_ints (r : Rel K Φ Z ρ H m) {y : T} {v : V} {ts : List T} {ns : List Int} (rv : Rep K Z ρ y v) (ht : asL m y = some ts) (hn : intsT ts = some ns) : ∃ a, v = .ref a ∧ SqL K H a (ns.map V.int) := by
  obtain ⟨a, us, rfl, q, ru⟩ := asL_rep r rv ht
  rw [ints_eq hn] at ru
  rw [reps_ints ru] at q
  exact ⟨a, rfl, q⟩
theorem sem_sum : SemL K gSum (rSum K) := by
  intro W Φ Z ρ σ H m Q xs vs r rs p
  unfold gSum at p
  split at p
  · rename_i y
    obtain ⟨v, rfl, rv⟩ := reps1 rs
    split at p
    · rename_i ts ht
      split at p
      · rename_i ns hn
        obtain ⟨a, rfl, q⟩ := asL_ints r rv ht hn
        exact ⟨a, ns, rfl, q, post_ok r rep_int p⟩
      · exact p.elim
    · exact p.elim
  · exact p.elim
theorem maxI_is : ∀ (a : Int) (bs : List Int), maxI a bs ∈ a :: bs ∧ ∀ y ∈ a :: bs, y ≤ maxI a bs
  | a, [] => by simp [maxI]
  | a, b :: bs => by
    unfold maxI
    obtain ⟨h1, h2⟩ := maxI_is (if a < b then b else a) bs
    by_cases h : a < b
    · rw [if_pos h] at h1 h2 ⊢
      refine ⟨List.mem_cons_of_mem _ h1, fun y hy => ?_⟩
      rcases List.mem_cons.mp hy with rfl | hy
      · exact Int.le_trans (Int.le_of_lt h) (h2 b List.mem_cons_self)
      · exact h2 y hy
    · rw [if_neg h] at h1 h2 ⊢
      refine ⟨?_, fun y hy => ?_⟩
      · rcases List.mem_cons.mp h1 with h1 | h1
        · rw [h1]; exact List.mem_cons_self
        · exact List.mem_cons_of_mem _ (List.mem_cons_of_mem _ h1)
      · rcases List.mem_cons.mp hy with rfl | hy
        · exact h2 y List.mem_cons_self
        · rcases List.mem_cons.mp hy with rfl | hy
          · exact Int.le_trans (by omega) (h2 a List.mem_cons_self)
          · exact h2 y (List.mem_cons_of_mem _ hy)
theorem minI_is : ∀ (a : Int) (bs : List Int), minI a bs ∈ a :: bs ∧ ∀ y ∈ a :: bs, minI a bs ≤ y
  | a, [] => by simp [minI]
  | a, b :: bs => by
    unfold minI
    obtain ⟨h1, h2⟩ := minI_is (if b < a then b else a) bs
    by_cases h : b < a
    · rw [if_pos h] at h1 h2 ⊢
      refine ⟨List.mem_cons_of_mem _ h1, fun y hy => ?_⟩
      rcases List.mem_cons.mp hy with rfl | hy
      · exact Int.le_trans (h2 b List.mem_cons_self) (Int.le_of_lt h)
      · exact h2 y hy
    · rw [if_neg h] at h1 h2 ⊢
      refine ⟨?_, fun y hy => ?_⟩
      · rcases List.mem_cons.mp h1 with h1 | h1
        · rw [h1]; exact List.mem_cons_self
        · exact List.mem_cons_of_mem _ (List.mem_cons_of_mem _ h1)
      · rcases List.mem_cons.mp hy with rfl | hy
        · exact h2 y List.mem_cons_self
        · rcases List.mem_cons.mp hy with rfl | hy
          · exact Int.le_trans (h2 a List.mem_cons_self) (by omega)
          · exact h2 y (List.mem_cons_of_mem _ hy)
theorem sem_max : SemL K gMax (rMax K) := by
  intro W Φ Z ρ σ H m Q xs vs r rs p
  unfold gMax at p
  split at p
  · rename_i y
    obtain ⟨v, rfl, rv⟩ := reps1 rs
    split at p
    · rename_i ts ht
      split at p
      · rename_i n ns hn
        obtain ⟨a, rfl, q⟩ := asL_ints r rv ht hn
        refine ⟨a, n :: ns, rfl, q, Nat.succ_pos _, fun k hk hb => ?_⟩
        obtain ⟨h1, h2⟩ := maxI_is n ns
        rw [Int.le_antisymm (h2 k hk) (hb _ h1)]
        exact post_ok r rep_int p
      · exact p.elim
    · exact p.elim
  · exact p.elim
theorem sem_min : SemL K gMin (rMin K) := by
  intro W Φ Z ρ σ H m Q xs vs r rs p
  unfold gMin at p
  split at p
  · rename_i y
    obtain ⟨v, rfl, rv⟩ := reps1 rs
    split at p
    · rename_i ts ht
      split at p
      · rename_i n ns hn
        obtain ⟨a, rfl, q⟩ := asL_ints r rv ht hn
        refine ⟨a, n :: ns, rfl, q, Nat.succ_pos _, fun k hk hb => ?_⟩
        obtain ⟨h1, h2⟩ := minI_is n ns
        rw [Int.le_antisymm (hb _ h1) (h2 k hk)]
        exact post_ok r rep_int p
      · exact p.elim
    · exact p.elim
  · exact p.elim
/-! ### sorted -/
def rSortB (K : PySem.W.Frag) : List V → Hp → VK → Prop := fun vs H Q => (rSortA K vs H Q ∨
  (∃ (a : Addr) (kvs : List (Key × V)) (ks : List Str), vs = [.ref a] ∧ Rd H a (.dK kvs) ∧ kvs.map (·.1) = ks.map Sum.inr ∧ ks.length < 64 ∧ ∀ ys p, ys.Perm ks → PyProof.Rows.sortedS ys = true → H p = none → Q (.ref p) (upd H p (.lst (ys.map V.str))))) ∨
  ((∃ (a : Addr) (xs : List Str), vs = [.ref a] ∧ H a = some (setO a (xs.map Sum.inr)) ∧ ∀ p, H p = none → Q (.ref p) (upd H p (.lst ((sortS xs).map V.str)))) ∨
   ∃ (a : Addr) (xs : List Int), vs = [.ref a] ∧ H a = some (setO a (xs.map Sum.inl)) ∧ ∀ p, H p = none → Q (.ref p) (upd H p (.lst ((sortI xs).map V.int))))
theorem sort_done {pins : List (Addr × Obj)} {σ : L2.St} {H : Hp} {s z : Shared} {p : Addr} {out : Array Value} {c : Nat} {vs : List V} {Q : VK} (I : Inv X pins σ H s) (k1 : ∀ b o, s.heap.get? b = some o → z.heap.get? b = some o) (g : z.gens = s.gens) (o : z.os = s.os)
    (hz : s.heap.objs.size ≤ p) (hp : z.heap.get? p = some (seqObj "list" out c)) (rv : Vals vs out.toList) (hl : vs.length ≤ sizeLine) (q : ∀ p, H p = none → Q (.ref p) (upd H p (.lst vs))) : EP X pins σ Q (.ref p) z := by
  have hn : H p = none := I.hok.fresh hz
  have J : Inv X pins σ (upd H p (.lst vs)) { s with heap := z.heap, gens := z.gens, drawn := z.drawn, toks := z.toks } :=
    I.call (ch := []) (Un.laid k1 hz hn) (I.hok.laid k1 hz ⟨hl, out.toList, c, rv, hp⟩) (by rw [g]; exact I.bare) (fun _ z => nomatch z)
  have e : z = { s with heap := z.heap, gens := z.gens, drawn := z.drawn, toks := z.toks } := by
    cases z
    cases s
    cases o
    rfl
  rw [e]
  exact ⟨.ref p, _, J, rfl, q p hn⟩
theorem vals_of_ints : ∀ {us : List Value} {xs : List Int}, IntsAre us xs → Vals (xs.map V.int) us
  | _, _, .nil => by rw [List.map_nil]; exact Paired.nil
  | _, _, .cons x t h => by rw [List.map_cons]; exact Paired.cons (show RelV (V.int x) (Value.int x t) from ⟨t, rfl⟩) (vals_of_ints h)
theorem set_few {P : Program} {w : World} {h : Heap} {a : Addr} {ks : List Key} (S : SetM P w h a ks) : ks.length ≤ sizeLine := let ⟨_, _, _, _, _, _, _, _, _, _, f, _⟩ := S; Nat.le_trans (Nat.le_of_lt f) (by rw [sizeLine_eq]; omega)
theorem cr_sortB (hr : Here X) (hc : X.calm = true) : CallR X (.builtin "sorted") (rSortB X.K) := by
  refine (cr_sortA.or (call_sortedD hc)).or (CallR.or ?_ ?_)
  · intro pins s σ H vs us Q I r h
    obtain ⟨a, xs, rfl, ha, q⟩ := h
    rw [Vals.ref1 r]
    have S := EvN.set_at hr I.hok ha
    refine EvM.sorted_setS S (I.ok.hd hc) fun z p out c k1 g o hz hp hs => ?_
    have e : (sortS xs).length ≤ sizeLine := by have := set_few S; rw [List.length_map] at this; rw [(sortS_perm xs).length_eq]; exact this
    exact sort_done I k1 g o hz hp (vals_of_strs hs) (by rw [List.length_map]; exact e) q
  · intro pins s σ H vs us Q I r h
    obtain ⟨a, xs, rfl, ha, q⟩ := h
    rw [Vals.ref1 r]
    have S := EvN.set_at hr I.hok ha
    refine EvM.sorted_setI S (I.ok.hd hc) fun z p out c k1 g o hz hp hs => ?_
    have e : (sortI xs).length ≤ sizeLine := by have := set_few S; rw [List.length_map] at this; rw [(sortI_perm xs).length_eq]; exact this
    exact sort_done I k1 g o hz hp (vals_of_ints hs) (by rw [List.length_map]; exact e) q
theorem keysS_eq : ∀ {ks : List Key} {xs : List Str}, keysS ks = some xs → ks = xs.map Sum.inr
  | [], xs, h => by unfold keysS at h; cases h; rfl
  | .inr x :: ks, xs, h => by
    unfold keysS at h
    cases e : keysS ks with
    | none => rw [e] at h; cases h
    | some ys => rw [e] at h; cases h; rw [keysS_eq e]; rfl
  | .inl _ :: _, _, h => by unfold keysS at h; cases h
theorem keysI_eq : ∀ {ks : List Key} {xs : List Int}, keysI ks = some xs → ks = xs.map Sum.inl
  | [], xs, h => by unfold keysI at h; cases h; rfl
  | .inl x :: ks, xs, h => by
    unfold keysI at h
    cases e : keysI ks with
    | none => rw [e] at h; cases h
    | some ys => rw [e] at h; cases h; rw [keysI_eq e]; rfl
  | .inr _ :: _, _, h => by unfold keysI at h; cases h
theorem sem_sortedA {mu : Bool} : SemL K (gSortedA mu) (rSortB K) := by
  intro W Φ Z ρ σ H m Q xs vs r rs p
  unfold gSortedA at p
  split at p
  · rename_i ks
    obtain ⟨v, rfl, rv⟩ := reps1 rs
    unfold Rep at rv
    obtain ⟨a, rfl, q⟩ := rv
    split at p
    · rename_i ys hy
      rw [keysS_eq hy] at q
      exact .inr (.inl ⟨a, ys, rfl, r.zin _ _ q, fun l hl => post_mk r reps_strs_mk p hl⟩)
    · split at p
      · rename_i ns hn
        rw [keysI_eq hn] at q
        exact .inr (.inr ⟨a, ns, rfl, r.zin _ _ q, fun l hl => post_mk r reps_ints_mk p hl⟩)
      · exact p.elim
  · rename_i y _
    split at p
    · rename_i ks ts ht
      obtain ⟨v, rfl, rv⟩ := reps1 rs
      obtain ⟨a, us, rfl, q, hl, ru⟩ := asD_rep r rv ht
      split at p
      · rename_i ys hy
        split at p
        · rename_i h64
          refine .inl (.inr ⟨a, _, ys, rfl, q, ?_, h64, fun zs l hp hs hn => ?_⟩)
          · rw [List.map_fst_zip (Nat.le_of_eq hl)]; exact keysS_eq hy
          · rw [sorted_eq hp hs]
            exact post_mk r reps_strs_mk p hn
        · exact p.elim
      · exact p.elim
    · exact .inl (.inl (sem_sorted W Φ Z ρ σ H m Q _ vs r rs p))
  · exact p.elim
end
end Ev

/-! stars, while, recursion, methods -/
namespace EvV
open PySem PySem.Spec PyProof PyProof.Rows L2
theorem list_extend_tupW (l : Addr) (items : Array Value) (n : Nat) (b : Addr) (items2 : Array Value) (n2 : Nat) (dd : Option Addr) (sl : Array (Option Value)) (hs0 : ¬(!items.isEmpty && Builtin.List.listTooLong (items.size + items2.size)) = true) (hs1 : items.size ≤ sizeLine) (hs2 : items.size + items2.size ≤ sizeLine + 1) :
    Meets (Builtin.«list.extend» ⟨[.ref l, .ref b], []⟩) (fun _ R s => s.heap.get? l = some { cls := .type "list", dict := none, data := .seq items n, slots := #[] } ∧ s.heap.get? b = some { cls := .type "tuple", dict := dd, data := .seq items2 n2, slots := sl } ∧ R (.ok (.ret Value.none)) { s with heap := s.heap.update l (Obj.mapSeq fun x => x ++ items2), toks := s.toks }) :=
  .of_wp fun prog w A R s h => by
    obtain ⟨hp, g, d, tk, os⟩ := s; obtain ⟨hl, hb, h⟩ := h; have f1 := AutoSeq1.idx_int; have f2 := AutoSeq1.sub_tuple_tuple; have f3 := AutoSeq1.sub_list_list; have f4 := AutoSeq1.sub_tuple_list; have f5 := AutoSeq1.sub_list_tuple;
    have hz' : (items ++ items2).size ≤ sizeLine + 1 := by rw [Array.size_append]; exact hs2
    wp_walk using (wpAny_updateSeq hl rfl (hz := hs1) (_hz' := hz')), wpAny_loadPart' hl, wpAny_loadPart' hb; exact ⟨_, rfl, h⟩
variable {X : Cx}
def rExtendT (K : PySem.W.Frag) : V → List V → Hp → VK → Prop := fun x vs H Q => ∃ l b xs zs, x = .ref l ∧ vs = [.ref b] ∧ H l = some (.lst xs) ∧ SqT K H b zs ∧ xs.length + zs.length ≤ sizeLine ∧ Q .non (upd H l (.lst (xs ++ zs)))
theorem mt_extendT : MtR X "list.extend" (rExtendT X.K) := by
  intro pins s σ H x vs v us Q I rx rv h
  obtain ⟨l, b, xs, zs, rfl, rfl, hH, hB, hz, q⟩ := h
  cases rx
  obtain ⟨u, rfl, ru⟩ := rv.one
  cases ru
  obtain ⟨z, its, n, r, hl, e⟩ := I.lstM hH
  obtain ⟨its2, r2, ⟨⟨cls, dd, data, sl⟩, e2, hc, n2, hd⟩, hs⟩ := I.tuple hB
  simp only at hc hd
  subst hc hd
  have hl2 := r2.length
  have hsz : its.toArray.size + its2.toArray.size ≤ sizeLine := by rw [List.size_toArray, List.size_toArray]; omega
  have hlong : ¬ (!its.toArray.isEmpty && Builtin.List.listTooLong (its.toArray.size + its2.toArray.size)) = true := by
    rw [notLongL hsz, Bool.and_false]
    exact Bool.false_ne_true
  refine call_meets F.slot_list_extend ⟨_, e, rfl⟩ F.entry_list_extend (F.args_list_extend_2 _ _)
    (list_extend_tupW l its.toArray n b its2.toArray n2 dd sl hlong (by rw [List.size_toArray]; omega) (by omega)) ⟨e, e2, ?_⟩
  refine ⟨.non, _, I.lset (its' := its ++ its2) hH e (by simp) (r.append r2) ?_, rfl, q⟩
  rw [List.length_append]
  omega
/-! ### tuple * 1 -/
theorem tuple_mul1 (l : Addr) (items : Array Value) (n : Nat) (dd : Option Addr) (sl : Array (Option Value)) (u : Tok) :
    Meets (Builtin.«tuple.__mul__» ⟨[.ref l, .int 1 u], []⟩) (fun _ R s => s.heap.get? l = some { cls := .type "tuple", dict := dd, data := .seq items n, slots := sl } ∧ R (.ok (.ret (Value.ref l))) s) :=
  .of_wp fun prog w A R s h => by
    obtain ⟨hp, g, d, tk, os⟩ := s
    obtain ⟨hl, h⟩ := h
    have f1 := AutoSeq1.idx_int
    have c1 : (items.isEmpty || (1 : Int) == 1) = true := by simp
    wp_walk using wpAny_loadPart' hl
    repeat (first
      | (refine wpAny_ite_false (decide_eq_false (by decide)) ?_; wp_walk using wpAny_loadPart' hl)
      | (refine wpAny_ite_true (decide_eq_true (by rw [c1])) ?_; wp_walk using wpAny_loadPart' hl))
    all_goals (first | exact ⟨_, rfl, h⟩ | skip)
def rRep1 (K : PySem.W.Frag) : R2 := fun x y H Q => ∃ l xs, x = .ref l ∧ y = .int 1 ∧ SqT K H l xs ∧ Q (.ref l) H
theorem op_rep1 : OpR X (binaryOp .Mult) (rRep1 X.K) := by
  intro pins s σ H x y v u Q I rx ry h
  obtain ⟨l, xs, rfl, rfl, hT, q⟩ := h
  cases rx
  obtain ⟨t, rfl⟩ := ry
  obtain ⟨its, r, ⟨⟨cls, dd, data, sl⟩, ho, hc, n, hd⟩, hs⟩ := I.tuple hT
  simp only at hc hd
  subst hc hd
  refine wpAny_binaryOp_repeat_ref (T := "tuple") (U := "int") (by decide) ⟨_, ho, rfl⟩ (fun s' => typeIs_int s' 1 t) noFill_tuple_mul F.fills_int_mul F.slot_int_rmul repeat_tuple F.slot_int_index.lookup
    (call_meets F.slot_int_rmul (typeIs_int s 1 t) F.entry_int_rmul (F.args_int_rmul_2 _ _) (int_rmul_tuple 1 t l its.toArray n dd sl)
      ⟨ho, rfl, ⟨_, ho, rfl⟩, call_meets F.slot_tuple_mul ⟨_, ho, rfl⟩ F.entry_tuple_mul (F.args_tuple_mul_2 _ _) (tuple_mul1 l its.toArray n dd sl t) ⟨ho, ?_⟩⟩)
  exact ⟨.ref l, H, I, rfl, q⟩
end EvV
namespace Ev
open PySem PySem.Spec PyProof PyProof.Rows L2
variable [Wrl]
section
variable {K : PySem.W.Frag} {W : WX} {Φ Z : Hp} {ρ : List Addr} {σ : L2.St} {H : Hp} {m : Mem} {X : Cx}
theorem op_repU : OpR X (binaryOp .Mult) (fun x y H Q => EvV.rRep1 X.K x y H Q ∨ rRepT X.K x y H Q) := EvV.op_rep1.or op_repT
theorem sem_mulU : Sem2 K gMulU (fun x y H Q => EvV.rRep1 K x y H Q ∨ rRepT K x y H Q) := by
  intro W Φ Z ρ σ H m Q x y vx vy r rx ry p
  unfold gMulU at p
  split at p
  · rename_i xs
    obtain ⟨a, vs, rfl, qa, ra⟩ := asT_rep r rx (ts := xs) rfl
    unfold Rep at ry; subst ry
    exact .inl ⟨a, vs, rfl, rfl, qa, post_ok r rx p⟩
  · exact .inr (sem_mulT W Φ Z ρ σ H m Q _ _ vx vy r rx ry p)
theorem mt_extendA : MtR X "list.extend" (fun x xs H Q => EvV.rExtendT X.K x xs H Q ∨ rExtend x xs H Q) := EvV.mt_extendT.or (mt_extend)
theorem sem_extendA : SemM K gExtendA (fun x xs H Q => EvV.rExtendT K x xs H Q ∨ rExtend x xs H Q) := by
  intro W Φ Z ρ σ H m Q x xs vx vs r rx rs p
  unfold gExtendA at p
  split at p
  · rename_i us
    split at p
    · rename_i n ts hc
      split at p
      · rename_i hl
        obtain ⟨a, ws, rfl, hn, ha, hH, ru⟩ := cellL_ok r rx hc
        obtain ⟨v, rfl, rv⟩ := reps1 rs
        obtain ⟨b, zs, rfl, hB, rz⟩ := asT_rep r rv (ts := us) rfl
        exact .inl ⟨a, b, ws, zs, rfl, rfl, hH, hB, by rw [← ru.length, ← rz.length]; exact lim_le hl, post_write r hn ha (ru.append rz) rep_non p⟩
      · exact p.elim
    · exact p.elim
  · exact .inr (sem_extend W Φ Z ρ σ H m Q _ _ vx vs r rx rs p)
theorem sem_clear : SemM K gClear rClear := by
  intro W Φ Z ρ σ H m Q x xs vx vs r rx rs p
  unfold gClear at p
  split at p
  · rename_i n ts hc
    obtain ⟨a, ws, rfl, hn, ha, hH, ru⟩ := cellL_ok r rx hc
    unfold Reps at rs
    exact ⟨a, ws, rfl, rs, hH, post_write r hn ha .nil rep_non p⟩
  · exact p.elim
theorem sa_star {e : Expr} {es : List Expr} {p : Pos} {f : EF} {fs : LF} (he : SE X W e f) (hr : SA X W es fs) (hs : starEach (.Starred e p :: es) X.env = (true, eval e X.env) :: starEach es X.env := by rfl) : SA X W (.Starred e p :: es) (lStar f fs) := by
  refine ⟨pa_imp (StX.pa_star he.pe hr.pa hs) fun σ H Q ⟨Φ, Z, ρ, env, m, F, p⟩ => ?_⟩
  refine tr_bind (P := PostL X.K W Φ Z ρ σ Q) F (fun x m1 Z1 ρ1 H1 vx _ e1 F1 rx p1 => ?_) (fun _ _ _ _ h => h) (fun h => h) p
  split at p1
  · rename_i ts ht
    obtain ⟨a, vs, rfl, hq, rv⟩ := asSeq_rep F1.rel rx ht
    refine ⟨a, vs, rfl, hq.symm, ?_⟩
    refine trL_bind (P := PostL X.K W Φ Z1 ρ1 σ Q) F1 (fun xs m2 Z2 ρ2 H2 us _ e2 F2 rs p2 => ?_) (fun _ _ _ _ h => h) (fun h => h) (p1.ext e1)
    exact (p2.ext e2) Z2 ρ2 H2 _ Ext.refl F2.rel ((rv.ext e2).append rs)
  · exact p1.elim
theorem no_ok {P : Program} {w : World} {mg : Str → Option Value} {base : Heap} {x qual : Str} {st : Stmt} {f : Addr} {fd : FuncData} {ps : List Str} (Fn : Fun K x qual st f fd) (hm : mg x = some (.ref f)) (hb : Binds K fd ps []) {n : Nat} (hn : ps.length = n := by rfl) :
    DefOk P w K mg base n 0 x (fun _ _ => .no) :=
  ⟨f, fd, ps, hn, ⟨fun vs H Q E ⟨_, _, _, _, _, _, _, hl, _⟩ => hl.trans hn.symm, fun _ _ _ _ _ _ _ _ _ _ _ _ _ ⟨_, _, _, _, _, _, _, _, p⟩ => p.elim⟩, hm, Fn.kp, hb⟩
theorem ss_while {k : Nat} (fuel : Nat) {e : Expr} {body : List Stmt} {pos : Pos} {t : BF} {b : SF} (c : Cok X W k) (ht : SB X W e t) (hb : SSs X W body b) : SS X W (.While e body [] pos) (sWhile fuel t b) := by
  refine ⟨ps_imp (ps_while c.pass ht.pt hb.ps) fun D σ H ⟨Φ, Z, ρ, env, m, F, p⟩ => ?_⟩
  refine ⟨fun n σ1 H1 => ∃ Φ Z ρ env m, Fits X.K Φ Z ρ σ1 H1 env m ∧ σ1.length = σ.length ∧ PostS X.K W Φ Z ρ σ.length D (wLoop t b n env m), ⟨fuel, Φ, Z, ρ, env, m, F, rfl, p⟩, ?_⟩
  rintro n σ1 H1 ⟨Φ, Z, ρ, env, m, F, hl, p⟩
  refine ⟨Φ, Z, ρ, env, m, F, ?_⟩
  cases n with
  | zero => exact p.elim
  | succ n =>
    unfold wLoop at p
    cases et : t env m with
    | ok v m1 =>
      rw [et] at p
      cases v with
      | false => exact fun Z' ρ' H' e1 r => p Z' ρ' H' σ1 e1 ⟨r, F.env.ext e1⟩ hl
      | true =>
        refine fun Z' ρ' H' e1 r => ⟨fun σ2 H2 => ∃ Φ Z ρ env m, Fits X.K Φ Z ρ σ2 H2 env m ∧ σ2.length = σ.length ∧ PostS X.K W Φ Z ρ σ.length D (wLoop t b n env m), fun σ2 H2 q => ⟨n, Nat.lt_succ_self _, q⟩, Φ, Z', ρ', env, m1, ⟨r, F.env.ext e1⟩, ?_⟩
        rw [hl]
        cases eb : b env m1 with
        | nx env2 m2 =>
          simp only [eb] at p
          exact fun Z2 ρ2 H2 σ2 e2 F2 hl2 => ⟨Φ, Z2, ρ2, env2, m2, F2, hl2, PostS.ext (o := wLoop t b n env2 m2) p (e1.trans e2)⟩
        | ct env2 m2 =>
          simp only [eb] at p
          exact fun Z2 ρ2 H2 σ2 e2 F2 hl2 => ⟨Φ, Z2, ρ2, env2, m2, F2, hl2, PostS.ext (o := wLoop t b n env2 m2) p (e1.trans e2)⟩
        | bk env2 m2 =>
          simp only [eb] at p
          exact fun Z2 ρ2 H2 σ2 e2 F2 hl2 => p Z2 ρ2 H2 σ2 (e1.trans e2) F2 hl2
        | rt u m2 =>
          simp only [eb] at p
          exact fun Z2 ρ2 H2 v e2 r2 rv => p Z2 ρ2 H2 v (e1.trans e2) r2 rv
        | ex C ns vs env2 m2 =>
          simp only [eb] at p
          exact fun Z2 ρ2 H2 σ2 d us e2 F2 rs h1 h2 => p Z2 ρ2 H2 σ2 d us (e1.trans e2) F2 rs h1 h2
        | no =>
          simp only [eb] at p
          exact p
    | ex C ns vs m1 =>
      rw [et] at p
      exact fun Z' ρ' H' d us e1 r rs h1 h2 => p Z' ρ' H' σ1 d us e1 ⟨r, F.env.ext e1⟩ rs h1 h2
    | no => rw [et] at p; exact p
end
section
variable {elt tg iter tg1 iter1 : Expr} {ifs ifs1 : List Expr} {scope : Scope} {own own1 : List (Str × Nat)} {pos : Pos} {fi fi1 : LF} {g g1 : GF} {tt tt1 : BF} {fe : EF} {k : Nat} {wg wg1 : TG} {X : Cx} {W : WX}
theorem ss_setComp2 (mu : Bool) (i : Nat) {y : Str} {py spos : Pos} (c : Cok X W k) (hi : SI X W tg iter fi) (ok : BlkOk X.N X.env.scope scope own) (hc : CompOk X scope own tg ifs elt g tt fe wg) (h1 : Clause2 X scope own1 tg1 iter1 ifs1 fi1 g1 tt1 wg1) (hv : (own1.map (·.2)).all (fun i => decide (i ∈ own.map (·.2))) = true := by decide)
    (hy : X.N[i]? = some y := by rfl) (hyl : X.env.scope.names.lookup y = some .local := by rfl) (hsw : swapsWith (.ListComp elt [⟨tg, iter, ifs, 0⟩, ⟨tg1, iter1, ifs1, 0⟩] scope pos) (some (.Name y py)) spos.line X.env = pure true := by exact sw_true rfl rfl rfl (by decide +kernel))
    (hs : ∀ x, foldedSetIterable iter X.env x = pure x := by intro _; rfl) (hs1 : ∀ env x, foldedSetIterable iter1 env x = pure x := by intro _ _; rfl) :
    SS X W (.Assign [.Name y py] (.ListComp elt [⟨tg, iter, ifs, 0⟩, ⟨tg1, iter1, ifs1, 0⟩] scope pos) spos) (sOf (eComp2 mu (own.map (·.2)) (own1.map (·.2)) fi g tt fi1 g1 tt1 fe) fun t env m => .nx (env.set i (some t)) m) :=
  ⟨ps_imp (ps_setLc2 (vs1 := own1.map (·.2)) c.calm c.nd hy hyl hsw hi.pi ok (fun i h => of_decide_eq_true (List.all_eq_true.mp hv i h)) (fun s H C cl fp => (hc.sg s H C cl fp).pg) (fun s H C cl fp => (hc.st s H C cl fp).pts) (fun s H C cl fp => (h1.si s H C cl fp).pi) (fun s H C cl fp => (h1.sg s H C cl fp).pg) (fun s H C cl fp => (h1.st s H C cl fp).pts) (fun s H C cl fp => (hc.se s H C cl fp).pe) hs hs1)
    fun D σ H h => tr_c2 accL hc.kg h1.kg (El := fun D Nx σ H => tr X.K W0 fe σ H fun y H4 => ∃ acc, H4 D = some (.lst acc) ∧ acc.length < sizeLine ∧ Nx (upd H4 D (.lst (acc ++ [y]))))
      (fun D Nx σ H h => by
        obtain ⟨Φ, Z, ρ, env, m, F, p⟩ := trL_one h
        refine ⟨Φ, Z, ρ, env, m, F, ?_⟩
        cases e : fe env m with
        | ok t m1 =>
          rw [e] at p
          intro Z' ρ' H' v e1 r rep
          obtain ⟨y, acc, e2, q⟩ := p Z' ρ' H' v e1 r rep
          cases e2
          exact ⟨acc, q⟩
        | ex _ _ _ _ => rw [e] at p; exact p
        | no => rw [e] at p; exact p) (finL (mu := mu)) (trS_bind (k := fun t env m => .nx (env.set i (some t)) m) (fun Φ Z1 ρ1 H1 env m1 t v F r p => p _ _ _ _ Ext.refl ⟨F.rel, F.env.set i r⟩ (by simp)) h)⟩
end
end Ev

/-! zip over lists, tuples and texts in any mix -/
namespace EvZ
open PySem PySem.Spec PyProof PyProof.Rows L2
theorem vals_back : ∀ {xs : List V} {us : List Value} {j : Nat} {u : Value}, Vals xs us → us[j]? = some u → ∃ v, xs[j]? = some v ∧ RelV v u
  | [], _, _, _, r, e => by cases r; simp at e
  | x :: xs, _, 0, _, r, e => by
    cases r with
    | cons r t => exact ⟨x, rfl, by simp at e; exact e ▸ r⟩
  | x :: xs, _, j + 1, _, r, e => by
    cases r with
    | cons r t =>
      obtain ⟨v, h1, h2⟩ := vals_back (j := j) t (by simpa using e)
      exact ⟨v, by simpa using h1, h2⟩
/-- what is walked -/
inductive Src where
  | lst (a : Addr) | tup (a : Addr) | txt (z : Str) (t : Tok)
namespace Src
def val : Src → Value
  | lst a => .ref a
  | tup a => .ref a
  | txt z t => .str z t
def it : Src → Addr → Nat → Heap → Prop
  | lst a => fun I i h => h.IsListIter I a i
  | tup a => fun I i h => h.IsTupleIter I a i
  | txt z t => fun I i h => h.IsStrIter I (strIterType z) z t i
def has (K : PySem.W.Frag) : Src → Hp → List V → Prop
  | lst a => fun H xs => SqL K H a xs
  | tup a => fun H xs => SqT K H a xs
  | txt z _ => fun _ xs => xs = z.cps.toList.map fun c => V.str ⟨#[c]⟩
def ap : Src → Addr → Prop
  | lst a => fun c => a ≠ c
  | tup a => fun c => a ≠ c
  | txt _ _ => fun _ => True
theorem it_at {k : Src} {I : Addr} {i : Nat} {h h' : Heap} (st : k.it I i h) (hk : ∀ o, h.get? I = some o → h'.get? I = some o) : k.it I i h' := by
  cases k with
  | lst a => exact Heap.IsListIter.at st hk
  | tup a => exact Heap.IsTupleIter.at st hk
  | txt z t => obtain ⟨o, ho, r⟩ := st; exact ⟨o, hk o ho, r⟩
theorem it_get {k : Src} {I : Addr} {i : Nat} {h : Heap} (st : k.it I i h) : ∃ o, h.get? I = some o ∧ ∀ v, o.data ≠ .cell v := by
  cases k with
  | lst a => obtain ⟨o, e, _, d⟩ := st; exact ⟨o, e, fun v q => by rw [d] at q; cases q⟩
  | tup a => obtain ⟨o, e, _, d⟩ := st; exact ⟨o, e, fun v q => by rw [d] at q; cases q⟩
  | txt z t => obtain ⟨o, e, _, d⟩ := st; exact ⟨o, e, fun v q => by rw [d] at q; cases q⟩
section
variable {X : Cx} {pins : List (Addr × Obj)} {σ : L2.St} {H : Hp} {s : Shared}
theorem inj {k : Src} {xs ys : List V} (I : Inv X pins σ H s) (h : k.has X.K H xs) (h' : k.has X.K H ys) : xs = ys := by
  cases k with
  | lst a => exact I.list_inj h h'
  | tup a => exact I.tuple_inj h h'
  | txt z t => exact Eq.trans h (Eq.symm h')
theorem draws {k : Src} {xs : List V} {it : Addr} {i : Nat} (I : Inv X pins σ H s) (hh : X.A.handled = none) (hs : k.has X.K H xs) (hit : k.it it i s.heap) (hap : k.ap it) :
    ∃ fp P St, Draws X.prog X.w X.A.in1 it fp xs.length P St ∧ it ∈ fp ∧ (∀ c ∈ fp, c = it ∨ ¬ k.ap c) ∧ St i s.heap ∧ (∀ j h, St j h → k.it it j h) ∧ ∀ j x, P j x → ∃ v, xs[j]? = some v ∧ RelV v x := by
  cases k with
  | lst a =>
    obtain ⟨its, rv, p, _⟩ := I.list hs
    have D := Draws.list (prog := X.prog) (w := X.w) (A := X.A.in1) hh it a hap its.toArray
    rw [List.size_toArray, ← rv.length] at D
    refine ⟨_, _, _, D, by simp, fun c hc => ?_, ⟨hit, p.isList⟩, fun j h st => st.1, fun j x hx => ?_⟩
    · rcases List.mem_cons.mp hc with e | e
      · exact .inl e
      · exact .inr fun q => q (List.mem_singleton.mp e).symm
    · obtain ⟨v, h1, h2⟩ := vals_back rv (by simpa using hx)
      exact ⟨v, h1, h2⟩
  | tup a =>
    obtain ⟨its, rv, p, _⟩ := I.tuple hs
    have D := Draws.tuple (prog := X.prog) (w := X.w) (A := X.A.in1) hh it a hap its.toArray
    rw [List.size_toArray, ← rv.length] at D
    refine ⟨_, _, _, D, by simp, fun c hc => ?_, ⟨hit, p⟩, fun j h st => st.1, fun j x hx => ?_⟩
    · rcases List.mem_cons.mp hc with e | e
      · exact .inl e
      · exact .inr fun q => q (List.mem_singleton.mp e).symm
    · obtain ⟨v, h1, h2⟩ := vals_back rv (by simpa using hx)
      exact ⟨v, h1, h2⟩
  | txt z t =>
    have D := Draws.text (prog := X.prog) (w := X.w) (A := X.A.in1) hh it z t
    have e : xs = z.cps.toList.map fun c => V.str ⟨#[c]⟩ := hs
    have el : xs.length = z.cps.size := by rw [e, List.length_map, Array.length_toList]
    rw [← el] at D
    refine ⟨_, _, _, D, by simp, fun c hc => .inl (List.mem_singleton.mp hc), hit, fun j h st => st, fun j x hx => ?_⟩
    obtain ⟨c, u, h1, h2⟩ := hx
    refine ⟨V.str ⟨#[c]⟩, ?_, u, h2⟩
    rw [e, List.getElem?_map, Array.getElem?_toList, h1]; rfl
end
end Src
/-- the turns of a zip -/
def Itm (K : PySem.W.Frag) (k1 k2 : Src) : It :=
  ⟨fun i H => ∃ (xs ys : List V) (x y : V), k1.has K H xs ∧ k2.has K H ys ∧ xs[i]? = some x ∧ ys[i]? = some y,
    fun i H v H' => ∃ T x y, v = .ref T ∧ H T = none ∧ H' = upd H T (.tup [x, y]) ∧ (∀ xs, k1.has K H xs → xs[i]? = some x) ∧ ∀ ys, k2.has K H ys → ys[i]? = some y,
    fun i H => ∃ xs ys : List V, k1.has K H xs ∧ k2.has K H ys ∧ i ≤ xs.length ∧ i ≤ ys.length ∧ (i = xs.length ∨ i = ys.length)⟩
structure Sep (z TI TO i1 i2 : Addr) (k1 k2 : Src) : Prop where
  nd : [z, TI, TO, i1, i2].Nodup
  a1 : ∀ c ∈ [z, TI, TO, i1, i2], k1.ap c
  a2 : ∀ c ∈ [z, TI, TO, i1, i2], k2.ap c
theorem Sep.two {z TI TO i1 i2 : Addr} {k1 k2 : Src} (S : Sep z TI TO i1 i2 k1 k2) {fp1 fp2 : List Addr} (m1 : i1 ∈ fp1) (m2 : i2 ∈ fp2) (f1 : ∀ c ∈ fp1, c = i1 ∨ ¬ k1.ap c) (f2 : ∀ c ∈ fp2, c = i2 ∨ ¬ k2.ap c) : ZipSep2 z TI TO i1 i2 fp1 fp2 := by
  have nd := S.nd
  simp only [List.nodup_cons, List.mem_cons, List.not_mem_nil, or_false, not_or, List.nodup_nil, and_true, not_false_eq_true] at nd
  obtain ⟨⟨n1, n2, n3, n4⟩, ⟨n5, n6, n7⟩, ⟨n8, n9⟩, n10⟩ := nd
  have q1 : ∀ c ∈ [z, TI, TO, i1, i2], c ≠ i1 → c ∉ fp1 := fun c hc hn hm => (f1 c hm).elim hn fun q => q (S.a1 c hc)
  have q2 : ∀ c ∈ [z, TI, TO, i1, i2], c ≠ i2 → c ∉ fp2 := fun c hc hn hm => (f2 c hm).elim hn fun q => q (S.a2 c hc)
  exact ⟨Ne.symm n1, Ne.symm n2, n5, n6, m1, q1 z (by simp) n3, q1 TO (by simp) n8, n7, m2, q2 z (by simp) n4, q2 TO (by simp) n9, q2 i1 (by simp) n10, q1 i2 (by simp) (Ne.symm n10)⟩
theorem turn {P : Program} {w : World} {K : PySem.W.Frag} {elts : List Expr} {kk : Nat} {tpos : Pos} {z TI TO i1 i2 : Addr} {k1 k2 : Src} (S : Sep z TI TO i1 i2 k1 k2) :
    Turn P w K (.Tuple elts kk tpos) (Itm K k1 k2) [z, TI, TO, i1, i2] z (fun i h => IsZip h z TI TO .none ∧ IsPair h TI (.ref i1) (.ref i2) ∧ (∃ x y, IsPair h TO x y) ∧ k1.it i1 i h ∧ k2.it i2 i h) where
  mem := by simp
  obj := fun i h st c hc => by
    obtain ⟨hz, hTI, ⟨x, y, hTO⟩, h1, h2⟩ := st
    have e' : c = z ∨ c = TI ∨ c = TO ∨ c = i1 ∨ c = i2 := by simpa using hc
    rcases e' with q | q | q | q | q
    · rw [q]; exact ⟨_, hz, fun v q => nomatch q⟩
    · rw [q]; exact ⟨_, hTI, fun v q => nomatch q⟩
    · rw [q]; exact ⟨_, hTO, fun v q => nomatch q⟩
    · rw [q]; exact Src.it_get h1
    · rw [q]; exact Src.it_get h2
  keep := fun i h h' st k => by
    obtain ⟨hz, hTI, ⟨x, y, hTO⟩, h1, h2⟩ := st
    exact ⟨k z (by simp) _ hz, k TI (by simp) _ hTI, ⟨x, y, k TO (by simp) _ hTO⟩, Src.it_at h1 fun o q => k i1 (by simp) o q, Src.it_at h2 fun o q => k i2 (by simp) o q⟩
  item := by
    intro X hP hw hK hc i pins s σ H E I hf st hg
    subst hP hw hK
    obtain ⟨hz, hTI, ⟨x0, y0, hTO⟩, h1, h2⟩ := st
    obtain ⟨xs, ys, x, y, hqx, hqy, hx, hy⟩ := hg
    obtain ⟨fp1, P1, St1, D1, m1, f1, s1, u1, r1⟩ := Src.draws I (I.ok.hd hc) hqx h1 (S.a1 _ (by simp))
    obtain ⟨fp2, P2, St2, D2, m2, f2, s2, u2, r2⟩ := Src.draws I (I.ok.hd hc) hqy h2 (S.a2 _ (by simp))
    have Z := S.two m1 m2 f1 f2
    have hzl : z < s.heap.objs.size := Heap.lt_size hz
    refine wpAny_pyNext_zipD2_item Z D1 D2 hz hTI hTO s1 s2 (List.getElem?_eq_some_iff.mp hx).1 (List.getElem?_eq_some_iff.mp hy).1 fun x1 x2 h' tk p1 p2 z' TO' d1 d2 hT hsz hk => ?_
    obtain ⟨x', e1, rx⟩ := r1 _ _ p1
    obtain ⟨y', e2, ry⟩ := r2 _ _ p2
    rw [hx] at e1; cases e1
    rw [hy] at e2; cases e2
    refine ⟨_, rfl, wpAny_letOwnedTupleGo_zip (s := { s with heap := h', toks := tk }) z' fun h'' z'' sb => ?_⟩
    have hT2 : h''.get? s.heap.objs.size = some { cls := .type "tuple", data := .seq #[x1, x2] } := (sb.2 _ (Nat.ne_of_gt hzl)).trans hT
    have new : ObjOk X.prog X.w (upd H s.heap.objs.size (.tup [x, y])) h'' s.heap.objs.size (.tup [x, y]) :=
      ⟨by show 2 ≤ sizeLine; decide, [x1, x2], .cons rx (.cons ry .nil), ⟨_, hT2, rfl, _, rfl⟩⟩
    have I1 : Inv X pins σ (upd H s.heap.objs.size (.tup [x, y])) { s with heap := h'', toks := tk } :=
      I.turnedNew (t' := tk) (ch := [z, TI, TO, i1, i2]) (fun c o hb q => (sb.2 c (fun q' => hb (by simp [q']))).trans (hk c o (fun q' => hb (by simp [q'])) (fun q' => hb (by simp [q'])) (fun q' => hb (by simp [q'])) (fun q' => hb (by simp [q'])) q)) hf (Nat.le_refl _) new
    refine ⟨.ref s.heap.objs.size, _, I1, rfl, ⟨_, x, y, rfl, I.hok.fresh (Nat.le_refl _), rfl, fun l hl => by rw [Src.inj I hl hqx]; exact hx, fun l hl => by rw [Src.inj I hl hqy]; exact hy⟩, ⟨z'', ?_, ⟨x1, x2, ?_⟩, ?_, ?_⟩, fun c hcm => ?_⟩
    · exact (sb.2 _ Z.TIz).trans (hk _ _ Z.TIz Z.TITO Z.TIi1 Z.TIi2 hTI)
    · exact (sb.2 _ Z.TOz).trans TO'
    · exact Src.it_at (u1 _ _ d1) fun o q => (sb.2 _ (Ne.symm Z.zi1)).trans q
    · exact Src.it_at (u2 _ _ d2) fun o q => (sb.2 _ (Ne.symm Z.zi2)).trans q
    · have hlt : c < s.heap.objs.size := by
        have e' : c = z ∨ c = TI ∨ c = TO ∨ c = i1 ∨ c = i2 := by simpa using hcm
        rcases e' with q | q | q | q | q
        · rw [q]; exact hzl
        · rw [q]; exact Heap.lt_size hTI
        · rw [q]; exact Heap.lt_size hTO
        · rw [q]; obtain ⟨_, e1, _⟩ := Src.it_get h1; exact Heap.lt_size e1
        · rw [q]; obtain ⟨_, e2, _⟩ := Src.it_get h2; exact Heap.lt_size e2
      rw [upd_ne (Nat.ne_of_lt hlt)]
      exact (hf c hcm).1
  done := by
    intro X hP hw hK hc i pins s σ H E I hf st hg
    subst hP hw hK
    obtain ⟨hz, hTI, ⟨x0, y0, hTO⟩, h1, h2⟩ := st
    obtain ⟨xs, ys, hqx, hqy, le1, le2, hend⟩ := hg
    obtain ⟨fp1, P1, St1, D1, m1, f1, s1, u1, r1⟩ := Src.draws I (I.ok.hd hc) hqx h1 (S.a1 _ (by simp))
    obtain ⟨fp2, P2, St2, D2, m2, f2, s2, u2, r2⟩ := Src.draws I (I.ok.hd hc) hqy h2 (S.a2 _ (by simp))
    exact wpAny_pyNext_zipD2_end (S.two m1 m2 f1 f2) D1 D2 hz hTI hTO s1 s2 le1 le2 hend fun h' tk hk => ⟨rfl, I.turnedL (t' := tk) (ch := [z, TI, TO, i1, i2]) (fun c o hb q =>
      hk c o (fun q' => hb (by simp [q'])) (fun q' => hb (by simp [q'])) (fun q' => hb (by simp [q'])) (fun q' => hb (by simp [q'])) q) hf⟩
  self := fun A i s Q E st h => wpAny_pyIter_zip st.1 h
section
variable {X : Cx} {pins : List (Addr × Obj)} {σ : L2.St} {H : Hp} {s : Shared}
theorem Src.begins {k : Src} {xs : List V} (I : Inv X pins σ H s) (hs : k.has X.K H xs) : ∃ o φ, Begins k.val o φ ∧ φ s.heap ∧ (∀ (h : Heap) (J : Addr), h.get? J = some o → k.it J 0 h) ∧ ∀ c, s.heap.objs.size ≤ c → k.ap c := by
  cases k with
  | lst a =>
    obtain ⟨its, rv, p, _⟩ := I.list hs
    exact ⟨_, _, begins_list a its.toArray, p.isList, fun h J e => ⟨_, e, rfl, rfl⟩, fun c hc => Nat.ne_of_lt (Nat.lt_of_lt_of_le p.lt hc)⟩
  | tup a =>
    obtain ⟨its, rv, p, _⟩ := I.tuple hs
    obtain ⟨o, ho, _⟩ := id p
    exact ⟨_, _, begins_tuple a its.toArray, p, fun h J e => ⟨_, e, rfl, rfl⟩, fun c hc => Nat.ne_of_lt (Nat.lt_of_lt_of_le (Heap.lt_size ho) hc)⟩
  | txt z t => exact ⟨_, _, begins_text z t, trivial, fun h J e => ⟨_, e, rfl, rfl⟩, fun _ _ => trivial⟩
def Src.of : Src → V
  | .lst a => .ref a
  | .tup a => .ref a
  | .txt z _ => .str z
theorem Src.real {K : PySem.W.Frag} {k : Src} {v : Value} (r : RelV k.of v) : ∃ k' : Src, k'.val = v ∧ k'.has K = k.has K := by
  cases k with
  | lst a => cases r; exact ⟨.lst a, rfl, rfl⟩
  | tup a => cases r; exact ⟨.tup a, rfl, rfl⟩
  | txt z t => obtain ⟨u, rfl⟩ := r; exact ⟨.txt z u, rfl, rfl⟩
theorem itm_eq {K : PySem.W.Frag} {k1 k2 j1 j2 : Src} (e1 : j1.has K = k1.has K) (e2 : j2.has K = k2.has K) : Itm K j1 j2 = Itm K k1 k2 := by
  unfold Itm; rw [e1, e2]
def iZipM (K : PySem.W.Frag) (ta : TA) : TI := fun σ H R => ta σ H fun vs H1 => ∃ (k1 k2 : Src) (xs ys : List V), vs = [k1.of, k2.of] ∧ k1.has K H1 xs ∧ k2.has K H1 ys ∧ R (Itm K k1 k2) H1
theorem pi_zipM {e e2 : Expr} {ta : TA} {p pos tpos : Pos} {elts : List Expr} {kk : Nat} (hg : Gl X "zip") (hm : X.mg "zip" = none) (ha : PA X [e, e2] ta)
    (hs : starEach [e, e2] X.env = (false, eval e X.env) :: starEach [e2] X.env := by rfl) (hpl : (backTo pos (starEach [e2] X.env)).any (·.1) = false := by rfl) :
    PI X (.Tuple elts kk tpos) (.Call (.Name "zip" p) [e, e2] [] pos) (iZipM X.K ta) := by
  refine ⟨fun pins s σ H R I h => ?_⟩
  refine Call_ (ld_blt I hg hm PyProof.Rows.boot_zip (PyProof.Rows.callWith_type1 (thn (ha.run pos pins s σ H _ I h) fun us s1 ⟨vs, H1, I1, r1, q1⟩ => ?_) hs hpl))
  obtain ⟨k1, k2, xs, ys, ex, hx, hy, q⟩ := q1
  subst ex
  cases r1 with
  | cons r rr =>
    cases rr with
    | cons r' rr =>
      cases rr
      obtain ⟨j1, rfl, e1⟩ := Src.real (K := X.K) r
      obtain ⟨j2, rfl, e2⟩ := Src.real (K := X.K) r'
      rw [← e1] at hx
      rw [← e2] at hy
      obtain ⟨o1, φ1, B1, b1, i1, a1⟩ := Src.begins I1 hx
      obtain ⟨o2, φ2, B2, b2, i2, a2⟩ := Src.begins I1 hy
      have ge : ∀ c, c ∈ [s1.heap.objs.size + 4, s1.heap.objs.size + 2, s1.heap.objs.size + 3, s1.heap.objs.size, s1.heap.objs.size + 1] → s1.heap.objs.size ≤ c := fun c hcm => by
        have e' : c = s1.heap.objs.size + 4 ∨ c = s1.heap.objs.size + 2 ∨ c = s1.heap.objs.size + 3 ∨ c = s1.heap.objs.size ∨ c = s1.heap.objs.size + 1 := by simpa using hcm
        omega
      refine zip_begins2 B1 B2 b1 b2 fun h' hz hTI hTO h1 h2 hsz hk => wpAny_pyIter_zip hz ?_
      have I2 : Inv X pins σ H1 { s1 with heap := h' } := I1.kept (t' := s1.toks) hk
      rw [← itm_eq e1 e2] at q
      refine ⟨s1.heap.objs.size + 4, [s1.heap.objs.size + 4, s1.heap.objs.size + 2, s1.heap.objs.size + 3, s1.heap.objs.size, s1.heap.objs.size + 1], _, _, H1, rfl, I2,
        turn ⟨by simp, fun c hc => a1 c (ge c hc), fun c hc => a2 c (ge c hc)⟩, ⟨hz, hTI, ⟨_, _, hTO⟩, i1 _ _ h1, i2 _ _ h2⟩, fun c hcm => ?_, q⟩
      exact I1.fpOk (ge c hcm) (I1.hok.fresh (ge c hcm))
end
end EvZ
namespace Ev
open PySem PySem.Spec PyProof PyProof.Rows L2
variable [Wrl]
section
variable {K : PySem.W.Frag} {W : WX} {Φ Z Z' : Hp} {ρ : List Addr} {σ : L2.St} {H : Hp} {m : Mem} {X : Cx}
theorem src_mono {k : EvZ.Src} {xs : List V} (e : Same Z Z') (h : k.has K Z xs) : k.has K Z' xs := by
  cases k with
  | lst a => exact e.seq h
  | tup a => exact Same.sqt e h
  | txt z t => exact h
theorem src_of {x : T} {v : V} {ts : List T} (rv : Rep K Z ρ x v) (h : zipI m x = some ts) : ∃ (k : EvZ.Src) (vs : List V), v = k.of ∧ k.has K Z vs ∧ Reps K Z ρ ts vs := by
  cases x with
  | str z =>
    have h : (if z.length ≤ lim then some (letters z) else none) = some ts := h
    split at h
    · cases h
      unfold Rep at rv
      subst rv
      exact ⟨.txt z 0, _, rfl, rfl, reps_letters _⟩
    · cases h
  | tup us =>
    unfold Rep at rv
    obtain ⟨a, vs, rfl, q, r⟩ := rv
    cases h
    exact ⟨.tup a, vs, rfl, q, r⟩
  | lst us =>
    unfold Rep at rv
    obtain ⟨a, vs, rfl, q, r⟩ := rv
    cases h
    exact ⟨.lst a, vs, rfl, .of q, r⟩
  | rls us =>
    unfold Rep at rv
    obtain ⟨a, vs, rfl, q, r⟩ := rv
    cases h
    exact ⟨.lst a, vs, rfl, q, r⟩
  | _ => cases h
theorem wk_zip {k1 k2 : EvZ.Src} {xs ys : List V} {ts us : List T} (h1 : k1.has K Z xs) (h2 : k2.has K Z ys) (r1 : Reps K Z ρ ts xs) (r2 : Reps K Z ρ us ys) : Wk K Z ρ (EvZ.Itm K k1 k2) ((ts.zip us).map fun p => .tup [p.1, p.2]) := fun Φ Z1 ρ1 H m i e r => by
  have q1 : k1.has K H xs := src_mono r.zin (src_mono e.z h1)
  have q2 : k2.has K H ys := src_mono r.zin (src_mono e.z h2)
  have l1 := r1.length
  have l2 := r2.length
  refine ⟨fun hi => ⟨xs, ys, q1, q2, ?_⟩, fun t ht => ?_⟩
  · rw [List.length_map, List.length_zip] at hi
    omega
  · rw [List.getElem?_map] at ht
    obtain ⟨⟨t1, t2⟩, h7, rfl⟩ := Option.map_eq_some_iff.mp ht
    rw [List.getElem?_zip_eq_some] at h7
    obtain ⟨v1, g1, p1⟩ := r1.get h7.1
    obtain ⟨v2, g2, p2⟩ := r2.get h7.2
    refine ⟨⟨xs, ys, v1, v2, q1, q2, g1, g2⟩, fun x H' ⟨p, x', y', ex, hp, eH, f1, f2⟩ => ?_⟩
    subst ex; subst eH
    have e1 := f1 xs q1
    have e2 := f2 ys q2
    rw [g1] at e1; cases e1
    rw [g2] at e2; cases e2
    obtain ⟨r', e'⟩ := r.allocZ hp (.tup [v1, v2])
    refine ⟨_, e', r', ?_⟩
    unfold Rep
    exact ⟨p, _, rfl, .of upd_same, .cons (p1.ext (e.trans e')) (.cons (p2.ext (e.trans e')) .nil)⟩
theorem si_zip {e e2 : Expr} {fs : LF} {p pos tpos : Pos} {elts : List Expr} {kk n : Nat} (c : Cok X W n) (ha : SA X W [e, e2] fs) (hm : X.mg "zip" = none) (hg : Gl X "zip" := by rfl) (hs : starEach [e, e2] X.env = (false, eval e X.env) :: starEach [e2] X.env := by rfl)
    (hpl : (backTo pos (starEach [e2] X.env)).any (·.1) = false := by rfl) : SI X W (.Tuple elts kk tpos) (.Call (.Name "zip" p) [e, e2] [] pos) (iZipA fs) := by
  refine ⟨_, EvZ.pi_zipM hg hm ha.pa hs hpl, fun Φ Z ρ σ H env m R F p => ?_⟩
  refine trL_bind (P := PostI X.K W Φ Z ρ σ R) F (fun ts m1 Z1 ρ1 H1 vs e0 e1 F1 r p1 => ?_) (fun _ _ _ _ h => h) (fun h => h) p
  split at p1
  · rename_i x y
    unfold Reps at r
    obtain ⟨v, vs', rfl, rx, r⟩ := r
    obtain ⟨u, rfl, ry⟩ := reps1 r
    split at p1
    · rename_i ts us hx hy
      obtain ⟨k1, xs, rfl, q1, s1⟩ := src_of rx hx
      obtain ⟨k2, ys, rfl, q2, s2⟩ := src_of ry hy
      exact ⟨k1, k2, xs, ys, rfl, src_mono F1.rel.zin q1, src_mono F1.rel.zin q2, p1 _ _ _ _ e1 F1.rel (wk_zip q1 q2 s1 s2)⟩
    · exact p1.elim
  · exact p1.elim
end
end Ev

/-! first, *rest = a list or tuple -/
namespace EvB
open PySem PySem.Spec PySem.W PySem.Calls PyProof PyProof.Rows L2
section
variable {prog : Program} {w : World} {A : Around} {E : Value → Shared → Prop} {s : Shared}
/-- behind the first item -/
theorem rest_of {it l : Addr} {items : Array Value} {x : Value} {rest : List Value} {T : String} {St : Nat → Heap → Prop} {Q : List Value → Shared → Prop} {h1 : Heap}
    (hTm : T = "str_ascii_iterator" ∨ T = "str_iterator" ∨ T = "list_iterator" ∨ T = "tuple_iterator") (W : Walks prog w A.in1 it [it, l] [it] items.size (fun i v => items[i]? = some v) St)
    (hT : ∀ i (u : Shared), St i u.heap → u.TypeIs (.ref it) T) (e : items.toList = x :: rest) (hz : items.size ≤ sizeLine) (st : St 1 h1) (b1 : it < h1.objs.size) (b2 : l < h1.objs.size) (hit : s.heap.objs.size ≤ it) (k1 : ∀ b o, s.heap.get? b = some o → h1.get? b = some o)
    (fin : ∀ (h' : Heap) (tk : Nat), (∀ b o, s.heap.get? b = some o → h'.get? b = some o) → Q [x, .ref h'.objs.size] { s with heap := h'.push (seqObj "list" rest.toArray 0), toks := tk }) :
    wpAny (model prog w) A (do
      let first := (items.toList.drop 0).take 1
      if first.length < 1 then
        rule "unpack.star.too-few-before"
        raiseError "ValueError" s!"not enough values to unpack (expected at least {2 - 1}, got {first.length})"
      let rest ← holding first (collect (.ref it))
      let after := 2 - 1 - 1
      if rest.length < after then
        rule "unpack.star.too-few"
        raiseError "ValueError" s!"not enough values to unpack (expected at least {2 - 1}, got {1 + rest.length})"
      let mid := rest.length - after
      return first ++ [← newList (rest.take mid)] ++ rest.drop mid) Q E { s with heap := h1 } := by
  have e1 : (items.toList.drop 0).take 1 = [x] := by rw [e]; rfl
  have e2 : items.toList.drop 1 = rest := by rw [e]; rfl
  have e3 : items.size = rest.length + 1 := by rw [← Array.length_toList, e]; rfl
  rw [e1]
  show wpAny _ _ (holding [x] (collect (.ref it)) >>= _) _ _ _
  refine wpAny_bind (wpAny_holding (kun_collect (s := { s with heap := h1 }) hTm W hT (k := 1) (by omega) st b1 b2 (fun h2 tk hk => ?_) hz))
  rw [e2]
  show wpAny _ _ (newList (rest.take (rest.length - 0)) >>= fun d => pure ([x] ++ [d] ++ rest.drop (rest.length - 0))) _ _ _
  rw [Nat.sub_zero, List.take_length, List.drop_length]
  have k2 : ∀ b o, s.heap.get? b = some o → h2.get? b = some o := fun b o q => hk b o (Nat.ne_of_lt (Nat.lt_of_lt_of_le (Heap.lt_size q) hit)) (k1 b o q)
  exact wpAny_bind (wpAny_newList (s := { s with heap := h2, toks := tk }) (wpAny_pure (fin h2 tk k2)) (by rw [sizeLine_eq] at hz ⊢; omega))
theorem unpack_list {l : Addr} {items : Array Value} {x : Value} {rest : List Value} {Q : List Value → Shared → Prop} (hl : s.heap.IsList l items) (hh : A.handled = none) (e : items.toList = x :: rest) (hz : items.size ≤ sizeLine)
    (fin : ∀ (h' : Heap) (tk : Nat), (∀ b o, s.heap.get? b = some o → h'.get? b = some o) → Q [x, .ref h'.objs.size] { s with heap := h'.push (seqObj "list" rest.toArray 0), toks := tk }) :
    wpAny (model prog w) A (unpackItems (.ref l) 2 (some 1)) Q E s := by
  have hll : l < s.heap.objs.size := by obtain ⟨o, ho, _⟩ := hl; exact Heap.lt_size ho
  have hlt : l ≠ s.heap.objs.size := Nat.ne_of_lt hll
  have e3 : items.size = rest.length + 1 := by rw [← Array.length_toList, e]; rfl
  unfold unpackItems
  refine wpAny_bind ?_
  unfold notIterableAtAll
  refine wpAny_bind (wpAny_specialOf hl.typeIs F.slot_list_iter.lookup ?_)
  refine wpAny_pure ?_
  simp only [Bool.false_eq_true, if_false]
  refine wpAny_bind (wpAny_holding (wpAny_pyIter_list hl ?_))
  refine wpAny_bind (wpAny_holding (kun_draw hlt 1 0 _ _ ⟨_, Heap.get?_push_size _ rfl, rfl, rfl⟩ (hl.push _) (by omega) fun h₁ hit₁ hs₁ => ?_))
  have hl₁ : h₁.IsList l items := (hl.push _).extBut hs₁.extBut hlt
  obtain ⟨oi, hoi, _⟩ := id hit₁
  obtain ⟨ol, hol, _⟩ := id hl₁
  exact rest_of (s := s) (.inr (.inr (.inl rfl))) (Walks.list (A := A.in1) hh s.heap.objs.size l hlt items) (fun j u st => st.1.typeIs) e hz ⟨hit₁, hl₁⟩ (Heap.lt_size hoi) (Heap.lt_size hol) (Nat.le_refl _)
    (fun b o q => hs₁.extBut b o (Nat.ne_of_lt (Heap.lt_size q)) (Heap.get?_push_of_some _ q)) fin
theorem unpack_tup {l : Addr} {items : Array Value} {x : Value} {rest : List Value} {Q : List Value → Shared → Prop} (hl : IsTup s.heap l items) (hh : A.handled = none) (e : items.toList = x :: rest) (hz : items.size ≤ sizeLine)
    (fin : ∀ (h' : Heap) (tk : Nat), (∀ b o, s.heap.get? b = some o → h'.get? b = some o) → Q [x, .ref h'.objs.size] { s with heap := h'.push (seqObj "list" rest.toArray 0), toks := tk }) :
    wpAny (model prog w) A (unpackItems (.ref l) 2 (some 1)) Q E s := by
  have hll : l < s.heap.objs.size := by obtain ⟨o, ho, _⟩ := hl; exact Heap.lt_size ho
  have hlt : l ≠ s.heap.objs.size := Nat.ne_of_lt hll
  have e3 : items.size = rest.length + 1 := by rw [← Array.length_toList, e]; rfl
  unfold unpackItems
  refine wpAny_bind ?_
  unfold notIterableAtAll
  refine wpAny_bind (wpAny_specialOf hl.typeIs F.slot_tuple_iter.lookup ?_)
  refine wpAny_pure ?_
  simp only [Bool.false_eq_true, if_false]
  refine wpAny_bind (wpAny_holding (iter_tuple hl ?_))
  refine wpAny_bind (wpAny_holding (draw_tuple hlt 1 0 _ _ ⟨_, Heap.get?_push_size _ rfl, rfl, rfl⟩ (hl.push _) (by omega) fun h₁ hit₁ hs₁ => ?_))
  have hl₁ : IsTup h₁ l items := (hl.push _).extBut hs₁.extBut hlt
  obtain ⟨oi, hoi, _⟩ := id hit₁
  obtain ⟨ol, hol, _⟩ := id hl₁
  exact rest_of (s := s) (.inr (.inr (.inr rfl))) (Walks.tuple (A := A.in1) hh s.heap.objs.size l hlt items) (fun j u st => st.1.typeIs) e hz ⟨hit₁, hl₁⟩ (Heap.lt_size hoi) (Heap.lt_size hol) (Nat.le_refl _)
    (fun b o q => hs₁.extBut b o (Nat.ne_of_lt (Heap.lt_size q)) (Heap.get?_push_of_some _ q)) fin
end
section
variable {X : Cx}
def gStar (K : PySem.W.Frag) (i j : Nat) : TG := fun v σ H Q => ∃ a x xs, v = .ref a ∧ (SqL K H a (x :: xs) ∨ SqT K H a (x :: xs)) ∧ ∀ D, H D = none → Q ((σ.set i (some x)).set j (some (.ref D))) (upd H D (.lst xs))
theorem pg_star {a b : Str} {i j k : Nat} {p p1 p2 pos : Pos} (hc : X.calm = true) (hN : X.N.Nodup) (hi : X.N[i]? = some a) (hj : X.N[j]? = some b) (ha : Loc X.env.scope a) (hb : Loc X.env.scope b)
    (fa : X.fn a = true ∨ X.env.scope.names.lookup a = some .local) (fb : X.fn b = true ∨ X.env.scope.names.lookup b = some .local) :
    PG X (.Tuple [.Name a p, .Starred (.Name b p1) p2] k pos) (gStar X.K i j) := by
  refine ⟨fun pins s σ H v u Q I r h => ?_⟩
  obtain ⟨l, x, xs, rfl, hq, q⟩ := h
  cases r
  rw [assign_Tuple]
  refine wpAny_bind (wpAny_standAt ?_)
  unfold unpack
  have done : ∀ (its : List Value), Vals (x :: xs) its → its.length ≤ sizeLine → ∃ y ys, its = y :: ys ∧ ∀ (h' : Heap) (tk : Nat), (∀ b o, s.heap.get? b = some o → h'.get? b = some o) →
      wpAny (model X.prog X.w) X.A (assignInOrder ((assignEach [.Name a p, .Starred (.Name b p1) p2] X.env).map (·.2)) [y, .ref h'.objs.size]) (fun _ s' => ∃ σ' H', Inv X pins σ' H' s' ∧ Q σ' H') X.xe { s with heap := h'.push (seqObj "list" ys.toArray 0), toks := tk } := by
    intro its rv hz
    cases rv with
    | @cons _ y _ ys ry rv =>
      refine ⟨y, ys, rfl, fun h' tk hk => ?_⟩
      have I1 : Inv X pins σ H { s with heap := h', toks := tk } := I.kept (t' := tk) hk
      have fr := I1.hok.fresh (Nat.le_refl _)
      have I2 : Inv X pins σ (upd H h'.objs.size (.lst xs)) { s with heap := h'.push (seqObj "list" ys.toArray 0), toks := tk } :=
        I1.laid (t' := tk) (fun b o e => Heap.get?_push_of_some _ e) (Nat.le_refl _) (show ObjOk X.prog X.w _ _ _ (.lst xs) from ⟨by rw [rv.length]; rw [List.length_cons] at hz; omega, ys, 0, rv, Heap.get?_push_size _ rfl⟩)
      have g : PGs X [.Name a p, .Name b p1] (gCons (gName i) (gCons (gName j) gNil)) := pgs_cons (pg_name hN hi ha fa) (pgs_cons (pg_name hN hj hb fb) pgs_nil)
      exact g.run pins _ σ _ [x, .ref h'.objs.size] _ Q I2 (.cons ry (.cons rfl .nil)) ⟨_, _, rfl, _, _, rfl, rfl, q _ fr⟩
  rcases hq with hq | hq
  · obtain ⟨its, rv, p, hz⟩ := I.list hq
    obtain ⟨y, ys, e, fin⟩ := done its rv (by rw [← rv.length]; exact hz)
    exact wpAny_bind (wpAny_holding (unpack_list p.isList (I.ok.hd hc) (by simpa using e) (by rw [List.size_toArray, ← rv.length]; exact hz) fin))
  · obtain ⟨its, rv, p, hz⟩ := I.tuple hq
    obtain ⟨y, ys, e, fin⟩ := done its rv (by rw [← rv.length]; exact hz)
    exact wpAny_bind (wpAny_holding (unpack_tup p (I.ok.hd hc) (by simpa using e) (by rw [List.size_toArray, ← rv.length]; exact hz) fin))
end
end EvB
namespace Ev
open PySem PySem.Spec PyProof PyProof.Rows L2
variable [Wrl]
section
variable {K : PySem.W.Frag} {W : WX} {X : Cx}
theorem ss_star {n : Nat} (i j : Nat) (mu : Bool) {a b : Str} {e : Expr} {f : EF} {kk : Nat} {p p1 p2 pos' pos : Pos} (c : Cok X W n) (he : SE X W e f) (hi : X.N[i]? = some a := by rfl) (hj : X.N[j]? = some b := by rfl)
    (ha : Loc X.env.scope a := by first | exact Or.inl rfl | exact Or.inr rfl) (hb : Loc X.env.scope b := by first | exact Or.inl rfl | exact Or.inr rfl)
    (fa : X.fn a = true ∨ X.env.scope.names.lookup a = some .local := by first | exact .inl rfl | exact .inr rfl) (fb : X.fn b = true ∨ X.env.scope.names.lookup b = some .local := by first | exact .inl rfl | exact .inr rfl)
    (hs : swapsWithSole [.Tuple [.Name a p, .Starred (.Name b p1) p2] kk pos'] e pos.line X.env = pure false := by rfl) (hw : swappedStores [.Tuple [.Name a p, .Starred (.Name b p1) p2] kk pos'] e X.env = pure none := by rfl)
    (h1 : (assignEach [.Tuple [.Name a p, .Starred (.Name b p1) p2] kk pos'] X.env).map (·.2) = [assign (.Tuple [.Name a p, .Starred (.Name b p1) p2] kk pos') X.env] := by rfl) :
    SS X W (.Assign [.Tuple [.Name a p, .Starred (.Name b p1) p2] kk pos'] e pos) (sStar i j mu f) := by
  refine ⟨ps_imp (ps_asg he.pe (EvB.pg_star c.calm c.nd hi hj ha hb fa fb) hs hw h1) fun D σ H h => trS_bind (k := fun t env m => match asSeq m t with
    | some (x :: xs) => match mk mu xs m with
      | .ok u m1 => .nx ((env.set i (some x)).set j (some u)) m1
      | _ => .no
    | _ => .no) (fun Φ Z1 ρ1 H1 env m1 t v F r p => ?_) h⟩
  split at p
  · rename_i x xs ht
    obtain ⟨l, vs, rfl, hq, rs⟩ := asSeq_rep F.rel r ht
    unfold Reps at rs
    obtain ⟨y, ys, rfl, ry, rs⟩ := rs
    refine ⟨l, y, ys, rfl, hq, fun d hd => ?_⟩
    refine post_mk (mu := mu) (W := W) (σ := σ) (Q := fun v H => D.nx ((σ.set i (some y)).set j (some v)) H) F.rel rs ?_ hd
    cases hm : mk mu xs m1 with
    | ok u m2 =>
      rw [hm] at p
      exact fun Z' ρ' H' v e1 r1 rv => p Z' ρ' H' _ e1 ⟨r1, ((F.env.ext e1).set i (ry.ext e1)).set j rv⟩ (by simp)
    | ex _ _ _ _ => unfold mk at hm; cases mu <;> cases hm
    | no => unfold mk at hm; cases mu <;> cases hm
  · exact p.elim
end
end Ev

/-! {k: v, ..} -/
namespace Ev
open PySem L2
variable [Wrl]
section
variable {K : PySem.W.Frag} {W : WX} {Φ Φ' Z : Hp} {ρ : List Addr} {σ : L2.St} {H : Hp} {m : Mem} {X : Cx}
theorem Rel.less (r : Rel K Φ' Z ρ H m) (h : ∀ a o, Φ a = some o → Φ' a = some o) : Rel K Φ Z ρ H m := ⟨r.zin, fun a o e => r.fin a o (h a o e), r.len, r.nd, r.trk, r.mem, fun q hq => by
  obtain ⟨t, h1, h2, h3⟩ := r.tab q hq
  refine ⟨t, h1, ?_, h3⟩
  cases e : Φ q.1 with
  | none => rfl
  | some u => have := h _ _ e; rw [h2] at this; cases this⟩
structure SPs (X : Cx) (W : WX) (pos : Pos) (keys : List (Option Expr)) (values : List Expr) (fs : LF) : Prop where
  ex : ∃ trs, PPs X pos keys values trs ∧ ∀ (σ : L2.St) (H : Hp) (R : List V → Hp → Prop) (R' : List (V × V) → Hp → Prop), (∀ ps H', R (ps.flatMap fun p => [p.1, p.2]) H' → R' ps H') → trL X.K W fs σ H R → tPairs trs σ H R'
theorem spp_nil {pos : Pos} : SPs X W pos [] [] lNil := ⟨[], pps_nil, fun σ H R R' hR ⟨Φ, Z, ρ, env, m, F, p⟩ => hR [] H (p Z ρ H [] Ext.refl F.rel .nil)⟩
theorem trL_cons {f : EF} {fs : LF} {R : List V → Hp → Prop} (h : trL K W (lCons f fs) σ H R) : tr K W f σ H fun x H1 => trL K W fs σ H1 fun ys H2 => R (x :: ys) H2 := by
  obtain ⟨Φ, Z, ρ, env, m, F, p⟩ := h
  refine tr_bind (P := PostL K W Φ Z ρ σ R) F (fun x m1 Z1 ρ1 H1 vx _ e1 F1 rx p1 => ?_) (fun _ _ _ _ h => h) (fun h => h) p
  refine trL_bind (P := PostL K W Φ Z1 ρ1 σ R) F1 (fun xs m2 Z2 ρ2 H2 vs _ e2 F2 rs p2 => ?_) (fun _ _ _ _ h => h) (fun h => h) (p1.ext e1)
  exact (p2.ext e2) Z2 ρ2 H2 _ Ext.refl F2.rel (.cons (rx.ext e2) rs)
theorem tr_mono {f : EF} {Q Q' : VK} (h : tr K W f σ H Q) (hq : ∀ x H1, Q x H1 → Q' x H1) : tr K W f σ H Q' := by
  obtain ⟨Φ, Z, ρ, env, m, F, p⟩ := h
  refine ⟨Φ, Z, ρ, env, m, F, ?_⟩
  cases e : f env m with
  | ok t m1 => rw [e] at p; exact fun Z' ρ' H' v e1 r rv => hq _ _ (p Z' ρ' H' v e1 r rv)
  | ex C ns vs m1 => rw [e] at p; exact p
  | no => rw [e] at p; exact p
theorem spp_cons {pos : Pos} {k v : Expr} {ks : List (Option Expr)} {vs : List Expr} {fk fv : EF} {fs : LF} (hk : SE X W k fk) (hv : SE X W v fv) (hr : SPs X W pos ks vs fs) : SPs X W pos (some k :: ks) (v :: vs) (lCons fk (lCons fv fs)) := by
  obtain ⟨trs, h1, h2⟩ := hr.ex
  refine ⟨_, pps_cons hk.pe hv.pe h1, fun σ H R R' hR h => ?_⟩
  exact tr_mono (trL_cons h) fun x H1 q => tr_mono (trL_cons q) fun y H2 q => h2 σ H2 (fun ys H3 => R (x :: y :: ys) H3) _ (fun ps H' q => hR ((x, y) :: ps) H' q) q
theorem disp_ok : ∀ (ps : List (V × V)) {xs : List T} {ks0 ks : List Key} {ts0 ts : List T} {ws0 : List V}, dispT xs ks0 ts0 = some (ks, ts) → Reps K Z ρ xs (ps.flatMap fun p => [p.1, p.2]) → ks0.length = ws0.length → Reps K Z ρ ts0 ws0 →
    ∃ (kvs : List (Key × V)) (ws : List V), ps = kvs.map (fun kv => (kV kv.1, kv.2)) ∧ mergeK (ks0.zip ws0) kvs = ks.zip ws ∧ ks.length = ws.length ∧ Reps K Z ρ ts ws ∧ 2 * kvs.length = xs.length
  | [], xs, ks0, ks, ts0, ts, ws0, h, r, hl, r0 => by
    have hx := r.length
    have : xs = [] := List.eq_nil_of_length_eq_zero hx
    subst this
    unfold dispT at h
    cases h
    exact ⟨[], ws0, rfl, rfl, hl, r0, rfl⟩
  | (v, u) :: ps, xs, ks0, ks, ts0, ts, ws0, h, r, hl, r0 => by
    rw [List.flatMap_cons] at r
    match xs, r with
    | [], r => unfold Reps at r; cases r
    | [_], r => unfold Reps at r; obtain ⟨_, _, e, _, r⟩ := r; cases e; unfold Reps at r; cases r
    | x :: y :: xs, r =>
      unfold Reps at r
      obtain ⟨_, _, e, rx, r⟩ := r
      cases e
      unfold Reps at r
      obtain ⟨_, _, e, ry, r⟩ := r
      cases e
      unfold dispT at h
      split at h
      · rename_i k hk
        obtain ⟨ws1, q1, q2, q3⟩ := putT_ok (k := k) ry hl r0
        obtain ⟨kvs, ws, e1, e2, e3, e4, e5⟩ := disp_ok ps h r q2 q3
        refine ⟨(k, u) :: kvs, ws, ?_, ?_, e3, e4, ?_⟩
        · rw [List.map_cons, e1]; exact congrArg (· :: _) (Prod.ext (keyT_rep rx hk) rfl)
        · rw [← e2, ← q1]; rfl
        · rw [List.length_cons, List.length_cons, List.length_cons, ← e5]; omega
      · cases h
theorem disp_run {fs : LF} {trs : List (TE × TE)} {mu : Bool} {env : Env} {Q : VK} (h2 : ∀ (σ : L2.St) (H : Hp) (R : List V → Hp → Prop) (R' : List (V × V) → Hp → Prop), (∀ ps H', R (ps.flatMap fun p => [p.1, p.2]) H' → R' ps H') → trL K W fs σ H R → tPairs trs σ H R') (F : Fits K Φ Z ρ σ H env m) (p : Post K W Φ Z ρ σ Q (eDisp mu fs env m)) :
    tDisp trs σ H fun v H1 => if mu then Q v H1 else ∃ a u, v = .ref a ∧ H1 a = some u ∧ Mut (some u) ∧ ∀ od, Q v (upd H1 a (.frz od u)) := by
  intro D hD
  have hΦ : Φ D = none := by
    cases e : Φ D with
    | none => rfl
    | some o => have := (F.rel.fin D o e).1; rw [hD] at this; cases this
  have hΨ : ∀ c u, Φ c = some u → (upd Φ D (.dK [])) c = some u ∧ c ≠ D := fun c u e => by
    have hc : c ≠ D := fun z => by subst z; rw [hΦ] at e; cases e
    exact ⟨by rw [upd_ne hc]; exact e, hc⟩
  refine h2 σ (upd H D (.dK [])) (fun xs H2 => H2 D = some (.dK []) ∧ ∀ ps : List (V × V), xs = ps.flatMap (fun p => [p.1, p.2]) → ∃ kvs : List (Key × V), ps = kvs.map (fun kv => (kV kv.1, kv.2)) ∧ kvs.length ≤ 15 ∧
      (if mu then Q (.ref D) (upd H2 D (.dK (mergeK [] kvs))) else ∃ a u, V.ref D = .ref a ∧ (upd H2 D (.dK (mergeK [] kvs))) a = some u ∧ Mut (some u) ∧ ∀ od, Q (.ref D) (upd (upd H2 D (.dK (mergeK [] kvs))) a (.frz od u)))) _ (fun ps H' q => ?_) ?_
  · obtain ⟨e, q⟩ := q
    obtain ⟨kvs, a, b, c⟩ := q ps rfl
    exact ⟨e, kvs, a, b, c⟩
  · have F1 : Fits K (upd Φ D (.dK [])) Z ρ σ (upd H D (.dK [])) env m := ⟨F.rel.aside hD _, F.env⟩
    refine ⟨_, Z, ρ, env, m, F1, ?_⟩
    unfold eDisp at p
    cases e : fs env m with
    | no => rw [e] at p; exact p
    | ex C ns vs m1 =>
      rw [e] at p
      exact fun Z' ρ' H' d us e1 r rs l1 l2 => p Z' ρ' H' d us e1 (r.less fun a o q => (hΨ a o q).1) rs l1 l2
    | ok xs m1 =>
      rw [e] at p
      have p : Post K W Φ Z ρ σ Q (if xs.length ≤ 30 then match dispT xs [] [] with | some (ks, ts) => mkD mu ks ts m1 | none => .no else .no) := p
      intro Z' ρ' H' vs e1 r rs
      refine ⟨(r.fin D _ upd_same).1, fun ps eps => ?_⟩
      subst eps
      split at p
      · rename_i h30
        split at p
        · rename_i ks ts hd
          obtain ⟨kvs, ws, q1, q2, q3, q4, q5⟩ := disp_ok ps (ws0 := []) hd rs rfl .nil
          refine ⟨kvs, q1, by omega, ?_⟩
          have q2 : mergeK [] kvs = ks.zip ws := q2
          rw [q2]
          have r2 := r.aside_set (u := .dK (ks.zip ws)) (p := D) upd_same
          rw [upd_upd] at r2
          exact finD (mu := mu) Φ Z' ρ' _ m1 D (ks, ts) _ r2 (fun c u e => ⟨by rw [upd_ne (hΨ c u e).2]; exact e, (hΨ c u e).2⟩) ⟨ws, rfl, q3, q4⟩ (p.ext e1)
        · exact p.elim
      · exact p.elim
theorem se_disp {n : Nat} {pos : Pos} {keys : List (Option Expr)} {values : List Expr} {fs : LF} (mu : Bool) (c : Cok X W n) (h : SPs X W pos keys values fs) (hall : keys.all (·.isSome) = true := by rfl) (hl : keys.length = values.length := by rfl) (h0 : keys ≠ [] := by exact List.cons_ne_nil _ _)
    (h15 : keys.length ≤ 15 := by decide) : SE X W (.Dict keys values pos) (eDisp mu fs) := by
  obtain ⟨trs, h1, h2⟩ := h.ex
  have pe := pe_disp h1 hall hl h0 h15
  cases mu with
  | true => exact ⟨pe_imp pe fun σ H Q ⟨Φ, Z, ρ, env, m, F, p⟩ => disp_run (mu := true) h2 F p⟩
  | false => exact ⟨pe_imp (pe_locked pe) fun σ H Q ⟨Φ, Z, ρ, env, m, F, p⟩ => disp_run (mu := false) h2 F p⟩
end
end Ev

/-! isinstance(x, an own class) -/
namespace Ev
open PySem L2
variable [Wrl]
section
variable {K : PySem.W.Frag} {W : WX} {Φ Z : Hp} {ρ : List Addr} {σ : L2.St} {H : Hp} {m : Mem} {X : Cx} {mg : Str → Option Value}
inductive IsCs (K : PySem.W.Frag) (c : Str) (C : Addr) : List Str → List Addr → Prop
  | nil : IsCs K c C [] []
  | cons {y : Str} {D : Addr} {ys : List Str} {Ds : List Addr} (h : CAt K y D ∧ Cls K D ∧ PySem.W.findIn K (.ref D) "__class__" = some (some (.builtin "object.__class__")) ∧ PySem.W.mroIn K D (.type "object") = some true ∧ PySem.W.kitOne K (.ref D) (.ref C) = some (eqS y c))
      (t : IsCs K c C ys Ds) : IsCs K c C (y :: ys) (D :: Ds)
def IsC (K : PySem.W.Frag) (mg : Str → Option Value) (c : Str) (ys : List Str) : Prop := ∃ C, CAt K c C ∧ mg c = some (.ref C) ∧ ∃ Ds,
  (PySem.W.kitOne K (.type "NoneType") (.ref C) = some false ∧ PySem.W.kitOne K (.type "bool") (.ref C) = some false ∧ PySem.W.kitOne K (.type "int") (.ref C) = some false ∧ PySem.W.kitOne K (.type "str") (.ref C) = some false ∧
   PySem.W.kitOne K (.type "tuple") (.ref C) = some false ∧ PySem.W.kitOne K (.type "list") (.ref C) = some false ∧ PySem.W.kitOne K (.type "dict") (.ref C) = some false) ∧ IsCs K c C ys Ds ∧
  PySem.W.specialIn K (.builtin "object.__class__") "__get__" = some (some (.builtin "getset_descriptor.__get__")) ∧ PySem.W.takesIn K (.builtin "object.__class__") = some true
theorem IsCs.at {c : Str} {C : Addr} : ∀ {ys : List Str} {Ds : List Addr} {d : Str}, IsCs K c C ys Ds → ys.any (eqS d) = true → ∃ D, CAt K d D ∧ Cls K D ∧ PySem.W.findIn K (.ref D) "__class__" = some (some (.builtin "object.__class__")) ∧ PySem.W.mroIn K D (.type "object") = some true ∧ PySem.W.kitOne K (.ref D) (.ref C) = some (eqS d c)
  | _, _, _, .nil, h => by cases h
  | y :: ys, D :: Ds, d, .cons h t, e => by
    rw [List.any_cons, Bool.or_eq_true] at e
    rcases e with e | e
    · rw [eqS_iff.mp e]; exact ⟨D, h⟩
    · exact t.at e
theorem tyOf_names {t : T} {n : String} (e : tyOf m t = some n) : n = "NoneType" ∨ n = "bool" ∨ n = "int" ∨ n = "str" ∨ n = "tuple" ∨ n = "list" ∨ n = "dict" := by
  unfold tyOf at e
  split at e <;> first
    | (cases e; simp; done)
    | (cases e; done)
    | (split at e <;> first | (cases e; simp; done) | (cases e; done))
theorem se_isiC {c : Str} {ys : List Str} {e : Expr} {f : EF} {p p2 pos : Pos} (he : SE X W e f) (I : IsC X.K X.mg c ys) (hm : X.mg "isinstance" = none) (hg : Gl X "isinstance" := by rfl) (hgc : Gl X c := by rfl) (hd : (c == ("__debug__" : Str)) = false := by decide)
    (h1 : starEach [e, .Name c p2] X.env = (false, eval e X.env) :: starEach [.Name c p2] X.env := by rfl) (h2 : starEach [.Name c p2] X.env = (false, eval (.Name c p2) X.env) :: starEach [] X.env := by rfl) (hpl : (backTo pos (starEach [.Name c p2] X.env)).any (·.1) = false := by rfl) :
    SE X W (.Call (.Name "isinstance" p) [e, .Name c p2] [] pos) (eIsiC c ys f) := by
  obtain ⟨C, hC, hmg, Ds, ⟨k1, k2, k3, k4, k5, k6, k7⟩, cs, i3, i4⟩ := I
  have pc : PE X (.Name c p2) (tC (.ref C)) := C8.pe_gc hgc ⟨_, hmg, rfl⟩ hd
  refine ⟨pe_imp (pe_callB call_isi hg hm (by decide +kernel) (pa_cons he.pe (pa_cons pc pa_nil h2) h1) (by decide) (by decide) h1 hpl) fun σ H Q ⟨Φ, Z, ρ, env, m, F, p⟩ => ?_⟩
  refine tr_bind (P := Post X.K W Φ Z ρ σ Q) F (fun x m1 Z1 ρ1 H1 vx _ e1 F1 rx p1 => ?_) (fun _ _ _ _ h => h) (fun h => h) p
  split at p1
  · rename_i d ns ts ha
    split at p1
    · rename_i hy
      obtain ⟨a, C', dx, vs, rfl, hC', hH, _, _⟩ := asIns_ok F1.rel rx ha
      obtain ⟨D, hD, cl, f1, f2, f3⟩ := cs.at hy
      have := hC'.inj hD
      subst this
      exact ⟨.ref a, .ref C, .ref C', .ref C, eqS d c, rfl, .own C, .base (.ins hH cl f1 i3 i4 f2), f3, p1 _ _ _ _ e1 F1.rel rep_bl⟩
    · exact p1.elim
  · split at p1
    · rename_i n hn
      have hk : PySem.W.kitOne X.K (.type n) (.ref C) = some false := by
        rcases tyOf_names hn with z | z | z | z | z | z | z <;> rw [z] <;> assumption
      exact ⟨vx, .ref C, .type n, .ref C, false, rfl, .own C, tyOf_ok F1.rel rx hn, hk, p1 _ _ _ _ e1 F1.rel rep_bl⟩
    · exact p1.elim
end
end Ev

/-! dicts whose keys are tuples -/
namespace Ev
open PySem PySem.Spec PyProof PyProof.Rows L2
mutual
/-- v is that key -/
def NIs (K : PySem.W.Frag) (H : Hp) : NestedKey → V → Prop
  | .none, v => v = .non
  | .num i, v => v = .int i
  | .text x, v => v = .str x
  | .tup ns, v => ∃ a vs, v = .ref a ∧ SqT K H a vs ∧ NIss K H ns vs
def NIss (K : PySem.W.Frag) (H : Hp) : List NestedKey → List V → Prop
  | [], vs => vs = []
  | n :: ns, vs => ∃ v us, vs = v :: us ∧ NIs K H n v ∧ NIss K H ns us
end
mutual
theorem NIs.mono {K : PySem.W.Frag} {H H' : Hp} (e : Same H H') : ∀ {n : NestedKey} {v : V}, NIs K H n v → NIs K H' n v
  | .none, _, h => by unfold NIs at h ⊢; exact h
  | .num _, _, h => by unfold NIs at h ⊢; exact h
  | .text _, _, h => by unfold NIs at h ⊢; exact h
  | .tup ns, _, h => by
    unfold NIs at h ⊢
    obtain ⟨a, vs, e1, q, r⟩ := h
    exact ⟨a, vs, e1, Same.sqt e q, NIss.mono e r⟩
theorem NIss.mono {K : PySem.W.Frag} {H H' : Hp} (e : Same H H') : ∀ {ns : List NestedKey} {vs : List V}, NIss K H ns vs → NIss K H' ns vs
  | [], _, h => by unfold NIss at h ⊢; exact h
  | n :: ns, _, h => by
    unfold NIss at h ⊢
    obtain ⟨v, us, e1, q, r⟩ := h
    exact ⟨v, us, e1, NIs.mono e q, NIss.mono e r⟩
end
section
variable {X : Cx} {pins : List (Addr × Obj)} {σ : L2.St} {H : Hp} {s : Shared}
mutual
theorem nis_heap (I : Inv X pins σ H s) : ∀ (n : NestedKey) (v : V) (u : Value), NIs X.K H n v → RelV v u → NestedIs s.heap n u
  | .none, _, u, h, r => by unfold NIs at h; subst h; cases (show u = Value.none from r); exact .none
  | .num i, _, u, h, r => by unfold NIs at h; subst h; obtain ⟨t, rfl⟩ := (show ∃ t, u = Value.int i t from r); exact .int i t
  | .text x, _, u, h, r => by unfold NIs at h; subst h; obtain ⟨t, rfl⟩ := (show ∃ t, u = Value.str x t from r); exact .text x t
  | .tup ns, _, u, h, r => by
    unfold NIs at h
    obtain ⟨a, vs, rfl, q, rs⟩ := h
    cases (show u = Value.ref a from r)
    obtain ⟨its, rv, ⟨o, ho, hc, k, hd⟩, _⟩ := I.tuple q
    exact .tup ho hc hd (niss_heap I ns vs its rs rv)
theorem niss_heap (I : Inv X pins σ H s) : ∀ (ns : List NestedKey) (vs : List V) (us : List Value), NIss X.K H ns vs → Vals vs us → NestedAll s.heap ns us
  | [], _, us, h, r => by unfold NIss at h; subst h; cases r; exact .nil
  | n :: ns, _, us, h, r => by
    unfold NIss at h
    obtain ⟨v, ws, rfl, q, rs⟩ := h
    cases r with
    | cons r t => exact .cons (nis_heap I n v _ q r) (niss_heap I ns ws _ rs t)
end
end
section
variable [Wrl]
section
variable {K : PySem.W.Frag} {Z : Hp} {ρ : List Addr}
mutual
theorem rep_nis : ∀ {t : T} {n : NestedKey} {v : V}, toNK t = some n → Rep K Z ρ t v → NIs K Z n v
  | .non, n, v, h, r => by unfold toNK at h; cases h; unfold Rep at r; unfold NIs; exact r
  | .int i, n, v, h, r => by unfold toNK at h; cases h; unfold Rep at r; unfold NIs; exact r
  | .str x, n, v, h, r => by unfold toNK at h; cases h; unfold Rep at r; unfold NIs; exact r
  | .tup ts, n, v, h, r => by
    unfold toNK at h
    cases e : toNKs ts with
    | none => rw [e] at h; cases h
    | some ns =>
      rw [e] at h
      cases h
      unfold Rep at r
      obtain ⟨a, vs, rfl, q, rs⟩ := r
      unfold NIs
      exact ⟨a, vs, rfl, q, reps_nis e rs⟩
  | .bl _, _, _, h, _ | .ty _, _, _, h, _ | .lst _, _, _, h, _ | .rls _, _, _, h, _ | .dct _ _, _, _, h, _ | .ins _ _ _, _, _, h, _ | .dcn _ _, _, _, h, _ | .exc _ _ _, _, _, h, _ | .set _, _, _, h, _ | .loc _, _, _, h, _ => by simp [toNK] at h
theorem reps_nis : ∀ {ts : List T} {ns : List NestedKey} {vs : List V}, toNKs ts = some ns → Reps K Z ρ ts vs → NIss K Z ns vs
  | [], ns, vs, h, r => by unfold toNKs at h; cases h; unfold Reps at r; unfold NIss; exact r
  | t :: ts, ns, vs, h, r => by
    unfold toNKs at h
    cases e1 : toNK t with
    | none => rw [e1] at h; cases h
    | some k =>
      cases e2 : toNKs ts with
      | none => rw [e1, e2] at h; cases h
      | some ks =>
        rw [e1, e2] at h
        cases h
        unfold Reps at r
        obtain ⟨v, us, rfl, r, rs⟩ := r
        unfold NIss
        exact ⟨v, us, rfl, rep_nis e1 r, reps_nis e2 rs⟩
end
end
mutual
theorem kEq_iff : ∀ {a b : T} {m n : NestedKey}, toNK a = some m → toNK b = some n → (kEq a b = true ↔ m = n)
  | .non, b, m, n, h, h' => by
    unfold toNK at h; cases h
    cases b <;> simp [toNK] at h' <;> try (subst h'; simp [kEq])
    obtain ⟨_, _, rfl⟩ := h'; simp [kEq]
  | .int i, b, m, n, h, h' => by
    unfold toNK at h; cases h
    cases b <;> simp [toNK] at h' <;> try (subst h'; simp [kEq])
    obtain ⟨_, _, rfl⟩ := h'; simp [kEq]
  | .str x, b, m, n, h, h' => by
    unfold toNK at h; cases h
    cases b <;> simp [toNK] at h' <;> try (subst h'; simp [kEq, eqS_iff])
    obtain ⟨_, _, rfl⟩ := h'; simp [kEq]
  | .tup ts, b, m, n, h, h' => by
    unfold toNK at h
    cases e : toNKs ts with
    | none => rw [e] at h; cases h
    | some ns =>
      rw [e] at h
      cases h
      cases b with
      | tup us =>
        unfold toNK at h'
        cases e' : toNKs us with
        | none => rw [e'] at h'; cases h'
        | some ks =>
          rw [e'] at h'
          cases h'
          unfold kEq
          rw [kEqs_iff e e']
          exact ⟨fun z => by rw [z], fun z => by cases z; rfl⟩
      | _ => simp [toNK] at h' <;> (subst h'; simp [kEq])
  | .bl _, _, _, _, h, _ | .ty _, _, _, _, h, _ | .lst _, _, _, _, h, _ | .rls _, _, _, _, h, _ | .dct _ _, _, _, _, h, _ | .ins _ _ _, _, _, _, h, _ | .dcn _ _, _, _, _, h, _ | .exc _ _ _, _, _, _, h, _ | .set _, _, _, _, h, _ | .loc _, _, _, _, h, _ => by simp [toNK] at h
theorem kEqs_iff : ∀ {as bs : List T} {ms ns : List NestedKey}, toNKs as = some ms → toNKs bs = some ns → (kEqs as bs = true ↔ ms = ns)
  | [], [], ms, ns, h, h' => by unfold toNKs at h h'; cases h; cases h'; simp [kEqs]
  | [], b :: bs, ms, ns, h, h' => by
    unfold toNKs at h h'; cases h
    cases e1 : toNK b <;> cases e2 : toNKs bs <;> rw [e1, e2] at h' <;> cases h' <;> simp [kEqs]
  | a :: as, [], ms, ns, h, h' => by
    unfold toNKs at h h'; cases h'
    cases e1 : toNK a <;> cases e2 : toNKs as <;> rw [e1, e2] at h <;> cases h <;> simp [kEqs]
  | a :: as, b :: bs, ms, ns, h, h' => by
    unfold toNKs at h h'
    cases e1 : toNK a with
    | none => rw [e1] at h; cases h
    | some m =>
      cases e2 : toNKs as with
      | none => rw [e1, e2] at h; cases h
      | some ms =>
        cases e3 : toNK b with
        | none => rw [e3] at h'; cases h'
        | some n =>
          cases e4 : toNKs bs with
          | none => rw [e3, e4] at h'; cases h'
          | some ns =>
            rw [e1, e2] at h
            rw [e3, e4] at h'
            cases h
            cases h'
            unfold kEqs
            rw [Bool.and_eq_true, kEq_iff e1 e3, kEqs_iff e2 e4]
            exact ⟨fun ⟨x, y⟩ => by rw [x, y], fun z => by cases z; exact ⟨rfl, rfl⟩⟩
end
/-! ### what stands under a key -/
abbrev EnP : EnN → NestedKey × Addr × Value → Prop := fun e x => e.1 = x.1 ∧ e.2.1 = x.2.1 ∧ RelV e.2.2 x.2.2
def atN (es : List EnN) (k : NestedKey) : Option V := (es.find? fun e => decide (e.1 = k)).map (·.2.2)
def putE (k : NestedKey) (v : V) (e : EnN) : EnN := if e.1 = k then (e.1, e.2.1, v) else e
def storedE (es : List EnN) (k : NestedKey) (a : Addr) (v : V) : List EnN := if (atN es k).isSome then es.map (putE k v) else es ++ [(k, a, v)]
theorem at_rel {k : NestedKey} : ∀ {es : List EnN} {xs : List (NestedKey × Addr × Value)}, Paired EnP es xs → (atN es k).isSome = (atKey xs k).isSome ∧ ∀ v, atN es k = some v → ∃ p, atKey xs k = some p ∧ RelV v p.2
  | _, _, .nil => ⟨rfl, fun v h => by cases h⟩
  | _, _, .cons (a := e) (b := x) r t => by
    obtain ⟨h1, h2⟩ := at_rel (k := k) t
    obtain ⟨e1, e2, e3⟩ := r
    unfold atN atKey at h1 h2 ⊢
    by_cases hk : x.1 = k
    · have he : e.1 = k := e1.trans hk
      simp only [List.find?_cons, he, hk, decide_true, Option.map_some]
      exact ⟨rfl, fun v z => by cases z; exact ⟨_, rfl, e3⟩⟩
    · have he : ¬ e.1 = k := fun z => hk (e1.symm.trans z)
      simp only [List.find?_cons, decide_eq_false he, decide_eq_false hk]
      exact ⟨h1, h2⟩
theorem stored_map {k : NestedKey} {v : V} {u : Value} (r : RelV v u) : ∀ {es : List EnN} {xs : List (NestedKey × Addr × Value)}, Paired EnP es xs → Paired EnP (es.map (putE k v)) (xs.map (putAt k u))
  | _, _, .nil => .nil
  | _, _, .cons (a := e) (b := x) h t => by
    rw [List.map_cons, List.map_cons]
    refine .cons ?_ (stored_map r t)
    obtain ⟨e1, e2, e3⟩ := h
    unfold putE putAt
    by_cases hk : x.1 = k
    · rw [if_pos hk, if_pos (e1.trans hk)]; exact ⟨e1, e2, r⟩
    · rw [if_neg hk, if_neg (fun z => hk (e1.symm.trans z))]; exact ⟨e1, e2, e3⟩
theorem paired_append {α β : Type} {F : α → β → Prop} : ∀ {l₁ l₂ : List α} {m₁ m₂ : List β}, Paired F l₁ m₁ → Paired F l₂ m₂ → Paired F (l₁ ++ l₂) (m₁ ++ m₂)
  | _, _, _, _, .nil, h => h
  | _, _, _, _, .cons r t, h => .cons r (paired_append t h)
theorem stored_rel {k : NestedKey} {a : Addr} {v : V} {u : Value} (r : RelV v u) {es : List EnN} {xs : List (NestedKey × Addr × Value)} (h : Paired EnP es xs) : Paired EnP (storedE es k a v) (storedH xs k a u) := by
  unfold storedE storedH
  rw [(at_rel (k := k) h).1]
  split
  · exact stored_map r h
  · exact paired_append h (.cons ⟨rfl, rfl, r⟩ .nil)
theorem paired_keys : ∀ {es : List EnN} {xs : List (NestedKey × Addr × Value)}, Paired EnP es xs → es.map (·.1) = xs.map (·.1)
  | _, _, .nil => rfl
  | _, _, .cons r t => by rw [List.map_cons, List.map_cons, paired_keys t, r.1]
theorem paired_mem : ∀ {es : List EnN} {xs : List (NestedKey × Addr × Value)} {x : NestedKey × Addr × Value}, Paired EnP es xs → x ∈ xs → ∃ e ∈ es, EnP e x
  | _, _, _, .nil, h => by cases h
  | _, _, _, .cons r t, h => by
    rcases List.mem_cons.mp h with rfl | h
    · exact ⟨_, List.mem_cons_self, r⟩
    · obtain ⟨e, h1, h2⟩ := paired_mem t h
      exact ⟨e, List.mem_cons_of_mem _ h1, h2⟩
def rawP (a : Addr) (es : List EnN) (h : Heap) : Prop := (a == sysModules) = false ∧ es.length ≤ sizeLine ∧ (es.map (·.1)).Nodup ∧ (∀ e ∈ es, e.1.depth ≤ 8) ∧
  ∃ xs : List (NestedKey × Addr × Value), Paired EnP es xs ∧ ∃ o ds ep, h.get? a = some o ∧ o.ExactDict ∧ o.data = .dict ds ep ∧ ds.toList = xs.map (entryOfKey (nestedKind Wrl.P Wrl.w))
theorem rawN_eq (a : Addr) (es : List EnN) : rawN a es = .ext (rawP a es) := rfl
section
variable {X : Cx} {pins : List (Addr × Obj)} {σ : L2.St} {H : Hp} {s : Shared}
theorem Cok.huN {W : WX} {k : Nat} (c : Cok X W k) : X.A.units + 20 < cLine := by have := c.room.units; omega
theorem raw_at {d : Addr} {es : List EnN} (hr : Here X) (I : Inv X pins σ H s) (h : Rd H d (rawN d es)) (hk : ∀ e ∈ es, NIs X.K H e.1 (.ref e.2.1)) :
    (d == sysModules) = false ∧ es.length ≤ sizeLine ∧ (∀ e ∈ es, e.1.depth ≤ 8) ∧ ∃ xs, Paired EnP es xs ∧ s.heap.DictOfH (nestedKind X.prog X.w) d xs := by
  have q : ObjOk X.prog X.w H s.heap d (.ext (rawP d es)) := Rd.ok h I.hok
  obtain ⟨hd, hl, nd, dp, xs, pr, o, ds, ep, ho, hx, hdat, hds⟩ := q.1
  rw [hr.p, hr.w] at hds
  refine ⟨hd, hl, dp, xs, pr, o, ds, ep, ho, hx, hdat, hds, fun x hm => ?_, by rw [← paired_keys pr]; exact nd⟩
  obtain ⟨e, he, e1, e2, _⟩ := paired_mem pr hm
  refine ⟨?_, by rw [← e1]; exact dp e he⟩
  rw [← e1, ← e2]
  exact nis_heap I _ _ _ (hk e he) rfl
theorem raw_ok {d : Addr} {es : List EnN} {xs : List (NestedKey × Addr × Value)} {h : Heap} (hr : Here X) (hd : (d == sysModules) = false) (hl : es.length ≤ sizeLine) (pr : Paired EnP es xs) (D : h.DictOfH (nestedKind X.prog X.w) d xs) : ObjOk X.prog X.w H h d (rawN d es) := by
  obtain ⟨o, ds, ep, ho, hx, hdat, hds, hi, nd⟩ := D
  have hds' : ds.toList = xs.map (entryOfKey (nestedKind Wrl.P Wrl.w)) := by rw [hr.p, hr.w]; exact hds
  refine ⟨⟨hd, hl, by rw [paired_keys pr]; exact nd, fun e he => ?_, xs, pr, o, ds, ep, ho, hx, hdat, hds'⟩, ⟨o, ho⟩, fun h1 h2 q k => ?_⟩
  · have : e.1 ∈ xs.map (·.1) := by rw [← paired_keys pr]; exact List.mem_map.mpr ⟨e, he, rfl⟩
    obtain ⟨x, hm, e2⟩ := List.mem_map.mp this
    rw [← e2]; exact (hi x hm).2
  · obtain ⟨a1, a2, a3, a4, ys, a5, o2, ds2, ep2, b1, b2⟩ := q
    exact ⟨a1, a2, a3, a4, ys, a5, o2, ds2, ep2, k _ b1, b2⟩
def HasN (K : PySem.W.Frag) (H : Hp) (d : Addr) (es : List EnN) : Prop := Rd H d (rawN d es) ∧ ∀ e ∈ es, NIs K H e.1 (.ref e.2.1)
theorem nroom (hu : X.A.units + 20 < cLine) : (nestedKind X.prog X.w).room X.A.in1 := by
  show X.A.units + 1 + 8 < cLine
  omega
theorem nkey {I : Inv X pins σ H s} {k : NestedKey} {a : Addr} (hy : NIs X.K H k (.ref a)) (h8 : k.depth ≤ 8) : (nestedKind X.prog X.w).is s.heap k a := ⟨nis_heap I _ _ _ hy rfl, h8⟩
/-- d[k] -/
def rIxN (K : PySem.W.Frag) : R2 := fun x y H Q => ∃ d es a k v, x = .ref d ∧ y = .ref a ∧ HasN K H d es ∧ NIs K H k (.ref a) ∧ atN es k = some v ∧ Q v H
theorem at_mem {es : List EnN} {k : NestedKey} (h : (atN es k).isSome = true) : ∃ e ∈ es, e.1 = k := by
  unfold atN at h
  rw [Option.isSome_map] at h
  obtain ⟨e, he⟩ := Option.isSome_iff_exists.mp h
  exact ⟨e, List.mem_of_find?_eq_some he, of_decide_eq_true (List.find?_some (p := fun e : EnN => decide (e.1 = k)) he)⟩
theorem ix_dcn (hr : Here X) (hu : X.A.units + 20 < cLine) : IxR X (rIxN X.K) := by
  intro value slice pins s σ H x y v u Q I rx ry h hs
  obtain ⟨d, es, a, k, w, rfl, rfl, ⟨hd, hk⟩, hy, e, q⟩ := h
  obtain rfl : v = Value.ref d := rx
  obtain rfl : u = Value.ref a := ry
  obtain ⟨h1, h2, h3, xs, pr, D⟩ := raw_at hr I hd hk
  obtain ⟨p, e1, e2⟩ := (at_rel (k := k) pr).2 w e
  obtain ⟨en, m1, m2⟩ := at_mem (by rw [e]; rfl)
  refine PyProof.Rows.tail_any D.typeIs PySem.F.slot_dict_getitem.lookup (wpAny_getItem_heap (nroom hu) (nkey (I := I) hy (by rw [← m2]; exact h3 en m1)) D e1 ?_) hs
  exact ⟨w, H, I.tok _, e2, q⟩
/-- k in d -/
def rInN (K : PySem.W.Frag) (neg : Bool) : R2 := fun x y H Q => ∃ d es a k, y = .ref d ∧ x = .ref a ∧ HasN K H d es ∧ NIs K H k (.ref a) ∧ k.depth ≤ 8 ∧ Q (.bl (if neg then !(atN es k).isSome else (atN es k).isSome)) H
theorem op_inN (hr : Here X) (hu : X.A.units + 20 < cLine) : OpR X (compareOp .In) (rInN X.K false) := by
  intro pins s σ H x y v u Q I rx ry h
  obtain ⟨d, es, a, k, rfl, rfl, ⟨hd, hk⟩, hy, h8, q⟩ := h
  obtain rfl : v = Value.ref a := rx
  obtain rfl : u = Value.ref d := ry
  obtain ⟨h1, h2, h3, xs, pr, D⟩ := raw_at hr I hd hk
  refine wpAny_in_heap (nroom hu) (nkey (I := I) hy h8) h1 D ?_
  rw [← (at_rel (k := k) pr).1]
  exact ⟨.bl (atN es k).isSome, H, I.tok _, rfl, q⟩
theorem op_notInN (hr : Here X) (hu : X.A.units + 20 < cLine) : OpR X (compareOp .NotIn) (rInN X.K true) := by
  intro pins s σ H x y v u Q I rx ry h
  obtain ⟨d, es, a, k, rfl, rfl, ⟨hd, hk⟩, hy, h8, q⟩ := h
  obtain rfl : v = Value.ref a := rx
  obtain rfl : u = Value.ref d := ry
  obtain ⟨h1, h2, h3, xs, pr, D⟩ := raw_at hr I hd hk
  refine wpAny_notIn_heap (nroom hu) (nkey (I := I) hy h8) h1 D ?_
  rw [← (at_rel (k := k) pr).1]
  exact ⟨.bl (!(atN es k).isSome), H, I.tok _, rfl, q⟩
/-- d[k] = v -/
def setTN (K : PySem.W.Frag) : TSet := fun o i v H Q => ∃ d es a k, o = .ref d ∧ i = .ref a ∧ H d = some (rawN d es) ∧ (∀ e ∈ es, NIs K H e.1 (.ref e.2.1)) ∧ NIs K H k (.ref a) ∧ k.depth ≤ 8 ∧ es.length < sizeLine ∧ Q (upd H d (rawN d (storedE es k a v)))
theorem set_dcn (hr : Here X) (hu : X.A.units + 20 < cLine) : PSet X (setTN X.K) := by
  intro pins s σ H o i v ov iv u Q I ro ri rv h
  obtain ⟨d, es, a, k, rfl, rfl, hd, hk, hy, h8, hz, q⟩ := h
  obtain rfl : ov = Value.ref d := ro
  obtain rfl : iv = Value.ref a := ri
  obtain ⟨h1, h2, h3, xs, pr, D⟩ := raw_at hr I (.inl hd) hk
  have pl : es.length = xs.length := by rw [← List.length_map (f := (·.1)), paired_keys pr, List.length_map]
  refine wpAny_setItem_heap (nroom hu) (nkey (I := I) hy h8) D (fun h' D' sb => ⟨_, ?_, q⟩) (by omega)
  have pr' := stored_rel (k := k) (a := a) rv pr
  have hl : (storedE es k a v).length ≤ sizeLine := by
    unfold storedE
    split
    · rw [List.length_map]; omega
    · rw [List.length_append]; simp; omega
  refine I.write (t' := _) (by rw [hd]; exact True.intro) (.inl rfl) (fun c u hb q => (sb.2 c hb).trans q) ?_ (raw_ok hr h1 hl pr' D')
  obtain ⟨o, _, _, e, _⟩ := D'
  exact ⟨o, e⟩
end
/-! ### on trees -/
section
variable {K : PySem.W.Frag} {W : WX} {Φ Z : Hp} {ρ : List Addr} {σ : L2.St} {H : Hp} {m : Mem} {X : Cx}
theorem niss_all : ∀ {es : List EnN}, NIss K H (es.map (·.1)) (es.map fun e => .ref e.2.1) → ∀ e ∈ es, NIs K H e.1 (.ref e.2.1)
  | [], _, _, h => by cases h
  | d :: es, h, e, he => by
    rw [List.map_cons, List.map_cons] at h
    unfold NIss at h
    obtain ⟨v, us, e1, q, r⟩ := h
    cases e1
    rcases List.mem_cons.mp he with rfl | he
    · exact q
    · exact niss_all r e he
theorem asN_rep (r : Rel K Φ Z ρ H m) {t : T} {ks ts : List T} {v : V} (hv : Rep K Z ρ t v) (h : asN m t = some (ks, ts)) : ∃ a es, v = .ref a ∧ HasN K H a es ∧ toNKs ks = some (es.map (·.1)) ∧ Reps K Z ρ ks (es.map fun e => .ref e.2.1) ∧ Reps K Z ρ ts (es.map (·.2.2)) := by
  cases t with
  | dcn js us =>
    cases h
    unfold Rep at hv
    obtain ⟨a, es, o, rfl, hn, q, r1, r2⟩ := hv
    exact ⟨a, es, rfl, ⟨.inr ⟨o, r.zin _ _ q⟩, fun e he => (niss_all (reps_nis hn r1) e he).mono r.zin⟩, hn, r1, r2⟩
  | loc n =>
    unfold asN at h
    simp only at h
    split at h
    · rename_i js us em
      cases h
      unfold Rep at hv
      obtain ⟨a, ha, rfl⟩ := hv
      obtain ⟨_, es, e1, hn, r1, r2⟩ := r.mem n _ a em ha
      exact ⟨a, es, rfl, ⟨.inl e1, fun e he => (niss_all (reps_nis hn r1) e he).mono r.zin⟩, hn, r1, r2⟩
    · cases h
  | _ => cases h
theorem nks_cons {j : T} {ks : List T} {n : NestedKey} {ns : List NestedKey} (h : toNKs (j :: ks) = some (n :: ns)) : toNK j = some n ∧ toNKs ks = some ns := by
  unfold toNKs at h
  cases e1 : toNK j with
  | none => rw [e1] at h; cases h
  | some k =>
    cases e2 : toNKs ks with
    | none => rw [e1, e2] at h; cases h
    | some ms => rw [e1, e2] at h; cases h; exact ⟨rfl, rfl⟩
theorem nks_nil {ks : List T} (h : toNKs ks = some []) : ks = [] := by
  cases ks with
  | nil => rfl
  | cons j ks =>
    unfold toNKs at h
    cases e1 : toNK j <;> cases e2 : toNKs ks <;> rw [e1, e2] at h <;> cases h
theorem atN_cons {e : EnN} {es : List EnN} {k : NestedKey} : atN (e :: es) k = if e.1 = k then some e.2.2 else atN es k := by
  unfold atN
  by_cases h : e.1 = k
  · simp [h]
  · simp [h]
theorem get_at {y : T} {n : NestedKey} (hy : toNK y = some n) : ∀ {es : List EnN} {ks ts : List T} {t : T}, toNKs ks = some (es.map (·.1)) → Reps K Z ρ ts (es.map (·.2.2)) → getN y ks ts = some t → ∃ v, atN es n = some v ∧ Rep K Z ρ t v
  | [], ks, ts, t, hk, hr, h => by
    rw [nks_nil hk] at h
    unfold getN at h
    cases ts <;> cases h
  | e :: es, [], ts, t, hk, hr, h => by unfold toNKs at hk; cases hk
  | e :: es, j :: ks, ts, t, hk, hr, h => by
    obtain ⟨h1, h2⟩ := nks_cons hk
    match ts, hr with
    | [], hr => unfold Reps at hr; cases hr
    | u :: us, hr =>
      unfold Reps at hr
      obtain ⟨v, vs, e1, r, rs⟩ := hr
      cases e1
      unfold getN at h
      rw [atN_cons]
      by_cases hj : kEq j y = true
      · rw [if_pos hj] at h
        cases h
        rw [if_pos ((kEq_iff h1 hy).mp hj)]
        exact ⟨_, rfl, r⟩
      · rw [if_neg hj] at h
        rw [if_neg fun z => hj ((kEq_iff h1 hy).mpr z)]
        exact get_at hy h2 rs h
theorem mem_at {y : T} {n : NestedKey} (hy : toNK y = some n) : ∀ {es : List EnN} {ks : List T}, toNKs ks = some (es.map (·.1)) → memN y ks = (atN es n).isSome
  | [], ks, hk => by rw [nks_nil hk]; rfl
  | e :: es, [], hk => by unfold toNKs at hk; cases hk
  | e :: es, j :: ks, hk => by
    obtain ⟨h1, h2⟩ := nks_cons hk
    have ih := mem_at hy h2
    unfold memN at ih ⊢
    rw [List.any_cons, ih, atN_cons]
    by_cases hj : kEq j y = true
    · rw [if_pos ((kEq_iff h1 hy).mp hj), hj]; rfl
    · rw [if_neg fun z => hj ((kEq_iff h1 hy).mpr z), Bool.eq_false_iff.mpr hj, Bool.false_or]
theorem tup_ref {y : T} {v : V} (h : isTup y = true) (r : Rep K Z ρ y v) : ∃ a, v = .ref a := by
  cases y with
  | tup us => unfold Rep at r; obtain ⟨a, _, e, _⟩ := r; exact ⟨a, e⟩
  | _ => cases h
theorem sem_ixN : Sem2 K gIxN (rIxN K) := by
  intro W Φ Z ρ σ H m Q x y vx vy r rx ry p
  unfold gIxN at p
  split at p
  · rename_i ks ts hx
    split at p
    · rename_i hy
      rw [Bool.and_eq_true] at hy
      split at p
      · rename_i t ht
        obtain ⟨d, es, rfl, hd, hk, _, rs⟩ := asN_rep r rx hx
        obtain ⟨n, hn⟩ := Option.isSome_iff_exists.mp hy.2
        obtain ⟨a, rfl⟩ := tup_ref hy.1 ry
        obtain ⟨v, h1, h2⟩ := get_at hn hk rs ht
        exact ⟨d, es, a, n, v, rfl, rfl, hd, (rep_nis hn ry).mono r.zin, h1, post_ok r h2 p⟩
      · exact p.elim
    · exact p.elim
  · exact p.elim
theorem okKey_is {x : T} (h : okKey x = true) : ∃ n, toNK x = some n ∧ isTup x = true ∧ n.depth ≤ 8 := by
  unfold okKey at h
  cases e : toNK x with
  | none => rw [e] at h; cases h
  | some n =>
    rw [e] at h
    have h : (isTup x && decide (n.depth ≤ 8)) = true := h
    rw [Bool.and_eq_true] at h
    exact ⟨n, rfl, h.1, of_decide_eq_true h.2⟩
theorem sem_inN {neg : Bool} : Sem2 K (gInN neg) (rInN K neg) := by
  intro W Φ Z ρ σ H m Q x y vx vy r rx ry p
  unfold gInN at p
  split at p
  · rename_i ks ts hy
    split at p
    · rename_i hx
      obtain ⟨n, hn, ht, h8⟩ := okKey_is hx
      obtain ⟨d, es, rfl, hd, hk, _, rs⟩ := asN_rep r ry hy
      obtain ⟨a, rfl⟩ := tup_ref ht rx
      refine ⟨d, es, a, n, rfl, rfl, hd, (rep_nis hn rx).mono r.zin, h8, ?_⟩
      rw [← mem_at hn hk]
      exact post_ok r rep_bl p
    · exact p.elim
  · exact p.elim
/-! ### {} -/
theorem pe_dictN {pos : Pos} (hr : Here X) : PE X (.Dict [] [] pos) (fun σ H Q => ∀ p, H p = none → Q (.ref p) (upd H p (rawN p []))) := by
  refine ⟨fun pins s σ H Q I h => ?_⟩
  refine wpAny_Dict_empty ⟨.ref s.heap.objs.size, _, I.laid (a := s.heap.objs.size) (o := rawN s.heap.objs.size []) (t' := s.toks) (fun _ _ q => Heap.get?_push_of_some _ q) (Nat.le_refl _) ?_, rfl, h _ (I.hok.fresh (Nat.le_refl _))⟩
  have hm : (s.heap.objs.size == sysModules) = false := beq_eq_false_iff_ne.mpr (Nat.ne_of_gt I.big)
  exact raw_ok hr hm (Nat.zero_le _) .nil (Heap.DictOfH.new s.heap)
theorem se_dictN {pos : Pos} (hr : Here X) (mu : Bool) : SE X W (.Dict [] [] pos) (eDictN mu) := by
  cases mu with
  | true =>
    refine ⟨pe_imp (pe_dictN hr) fun σ H Q ⟨Φ, Z, ρ, env, m, F, p⟩ q hq => ?_⟩
    obtain ⟨r2, e2⟩ := F.rel.allocC hq (o := rawN q []) (u := .dcn [] []) ⟨[], rfl, rfl, .nil, .nil⟩
    refine p _ _ _ _ e2 r2 ?_
    unfold Rep
    exact ⟨q, by rw [← F.rel.len]; simp, rfl⟩
  | false =>
    refine ⟨pe_imp (pe_locked (pe_dictN hr)) fun σ H Q ⟨Φ, Z, ρ, env, m, F, p⟩ q hq => ⟨q, _, rfl, upd_same, True.intro, fun od => ?_⟩⟩
    rw [upd_upd]
    obtain ⟨r2, e2⟩ := F.rel.allocZ hq (.frz od (rawN q []))
    refine p _ _ _ _ e2 r2 ?_
    unfold Rep
    exact ⟨q, [], od, rfl, rfl, upd_same, .nil, .nil⟩
/-! ### d[k] = v -/
theorem nks_snoc {i : T} {n : NestedKey} (hn : toNK i = some n) : ∀ {ks : List T} {ns : List NestedKey}, toNKs ks = some ns → toNKs (ks ++ [i]) = some (ns ++ [n])
  | [], ns, h => by
    unfold toNKs at h
    cases h
    show toNKs [i] = some [n]
    unfold toNKs
    rw [hn]; rfl
  | j :: ks, ns, h => by
    unfold toNKs at h
    cases e1 : toNK j with
    | none => rw [e1] at h; cases h
    | some k =>
      cases e2 : toNKs ks with
      | none => rw [e1, e2] at h; cases h
      | some ms =>
        rw [e1, e2] at h
        cases h
        rw [List.cons_append]
        unfold toNKs
        rw [e1, nks_snoc hn e2]; rfl
theorem put_keys {n : NestedKey} {v : V} (es : List EnN) : (es.map (putE n v)).map (·.1) = es.map (·.1) ∧ (es.map (putE n v)).map (fun e => V.ref e.2.1) = es.map (fun e => V.ref e.2.1) := by
  constructor <;> rw [List.map_map] <;> refine List.map_congr_left fun e _ => ?_ <;> show _ = _ <;> simp only [Function.comp] <;> unfold putE <;> split <;> rfl
theorem put_vals {i : T} {n : NestedKey} {t : T} {v : V} (hn : toNK i = some n) (rt : Rep K Z ρ t v) : ∀ {es : List EnN} {ks ts : List T}, toNKs ks = some (es.map (·.1)) → Reps K Z ρ ts (es.map (·.2.2)) → Reps K Z ρ ((ks.zip ts).map fun p => if kEq p.1 i then t else p.2) ((es.map (putE n v)).map (·.2.2))
  | [], ks, ts, hk, hr => by
    rw [nks_nil hk]
    exact .nil
  | e :: es, [], ts, hk, hr => by unfold toNKs at hk; cases hk
  | e :: es, j :: ks, ts, hk, hr => by
    obtain ⟨h1, h2⟩ := nks_cons hk
    match ts, hr with
    | [], hr => unfold Reps at hr; cases hr
    | u :: us, hr =>
      unfold Reps at hr
      obtain ⟨w, vs, e1, r, rs⟩ := hr
      cases e1
      rw [List.zip_cons_cons, List.map_cons, List.map_cons, List.map_cons]
      refine .cons ?_ (put_vals hn rt h2 rs)
      unfold putE
      by_cases hj : kEq j i = true
      · rw [if_pos hj, if_pos ((kEq_iff h1 hn).mp hj)]; exact rt
      · rw [if_neg hj, if_neg fun z => hj ((kEq_iff h1 hn).mpr z)]; exact r
theorem addN_ok {i : T} {n : NestedKey} {a : Addr} {t : T} {v : V} (hn : toNK i = some n) (ri : Rep K Z ρ i (.ref a)) (rt : Rep K Z ρ t v) {es : List EnN} {ks ts : List T} (hk : toNKs ks = some (es.map (·.1))) (rk : Reps K Z ρ ks (es.map fun e => .ref e.2.1)) (rs : Reps K Z ρ ts (es.map (·.2.2))) :
    toNKs (addN i ks) = some ((storedE es n a v).map (·.1)) ∧ Reps K Z ρ (addN i ks) ((storedE es n a v).map fun e => .ref e.2.1) ∧ Reps K Z ρ (putN2 i t ks ts) ((storedE es n a v).map (·.2.2)) := by
  unfold addN putN2 storedE
  rw [mem_at hn hk]
  by_cases h : (atN es n).isSome = true
  · rw [if_pos h, if_pos h, if_pos h]
    obtain ⟨p1, p2⟩ := put_keys (n := n) (v := v) es
    rw [p1, p2]
    exact ⟨hk, rk, put_vals hn rt hk rs⟩
  · rw [if_neg h, if_neg h, if_neg h, List.map_append, List.map_append, List.map_append]
    exact ⟨nks_snoc hn hk, rk.append (.cons ri .nil), rs.append (.cons rt .nil)⟩
theorem ss_setN {k : Nat} {o i e : Expr} {pos pos' : Pos} {fe fo fi : EF} (c : Cok X W k) (he : SE X W e fe) (ho : SE X W o fo) (hi : SE X W i fi)
    (ha : ∀ v, assign (.Subscript o i pos') X.env v = (do
      let ov ← holding [v] (eval o X.env)
      let iv ← holding [v, ov] (eval i X.env)
      standAt pos'
      holding [v, ov, iv] (setItem ov iv v)
      release [v, ov, iv] []) := by intro _; rfl)
    (hs : swapsWithSole [.Subscript o i pos'] e pos.line X.env = pure false := by rfl) (hw : swappedStores [.Subscript o i pos'] e X.env = pure none := by rfl)
    (h1 : (assignEach [.Subscript o i pos'] X.env).map (·.2) = [assign (.Subscript o i pos') X.env] := by rfl) : SS X W (.Assign [.Subscript o i pos'] e pos) (sSetN fe fo fi) := by
  refine ⟨ps_imp (ps_asg he.pe (pg_sub ho.pe hi.pe (set_dcn c.here c.huN) ha) hs hw h1) fun D σ H h => trS_bind (fun Φ Z1 ρ1 H1 env m1 t v F r p => ?_) h⟩
  show tr X.K W fo σ H1 fun ov H2 => tr X.K W fi σ H2 fun iv H3 => setTN X.K ov iv v H3 fun H4 => D.nx σ H4
  cases eo : fo env m1 with
  | no => simp only [eo] at p; exact p.elim
  | ex _ _ _ _ => simp only [eo] at p; exact p.elim
  | ok to m2 =>
    simp only [eo] at p
    cases ei : fi env m2 with
    | no => simp only [ei] at p; exact p.elim
    | ex _ _ _ _ => simp only [ei] at p; exact p.elim
    | ok ti m3 =>
      simp only [ei] at p
      refine ⟨Φ, Z1, ρ1, env, m1, F, ?_⟩
      rw [eo]
      intro Z2 ρ2 H2 vo e2 r2 ro
      refine ⟨Φ, Z2, ρ2, env, m2, ⟨r2, F.env.ext e2⟩, ?_⟩
      rw [ei]
      intro Z3 ρ3 H3 vi e3 r3 ri
      cases eg : gSetN to ti t m3 with
      | none => simp only [eg] at p; exact p.elim
      | some m4 =>
        simp only [eg] at p
        cases to with
        | loc n0 =>
          unfold gSetN at eg
          simp only at eg
          split at eg
          · rename_i js us em
            split at eg
            · rename_i hc
              rw [Bool.and_eq_true] at hc
              cases eg
              have ro' := ro.ext e3
              unfold Rep at ro'
              obtain ⟨a, ha', rfl⟩ := ro'
              obtain ⟨hz, es, hH, hk, rk, rs⟩ := r3.mem n0 _ a em ha'
              obtain ⟨n, hn, ht, h8⟩ := okKey_is hc.1
              obtain ⟨b, rfl⟩ := tup_ref ht ri
              obtain ⟨q1, q2, q3⟩ := addN_ok (a := b) hn ri (r.ext (e2.trans e3)) hk rk rs
              have hl : es.length < sizeLine := by
                have e9 : js.length = es.length := by rw [rk.length, List.length_map]
                rw [← e9]
                exact lim_lt (Nat.le_of_lt (of_decide_eq_true hc.2))
              exact ⟨a, es, b, n, rfl, rfl, hH, fun e he => (niss_all (reps_nis hk rk) e he).mono r3.zin, (rep_nis hn ri).mono r3.zin, h8, hl,
                p _ _ _ _ (e2.trans e3) ⟨r3.write em ha' (u := .dcn _ _) ⟨storedE es n b v, rfl, q1, q2, q3⟩, F.env.ext (e2.trans e3)⟩ rfl⟩
            · cases eg
          · cases eg
        | _ => cases eg
theorem ss_frzN (i : Nat) {st : Stmt} {g : SF} (h : SS X W st g) : SS X W st (sFrzN i g) := by
  refine ⟨ps_imp (ps_lockP h.ps) fun D σ H ⟨Φ, Z, ρ, env, m, F, p⟩ => ?_⟩
  unfold sFrzN at p
  split at p
  · rename_i n e1
    split at p
    · rename_i ks ts e2
      obtain ⟨v, h1, h2⟩ := F.env.get i _ e1
      unfold Rep at h2
      obtain ⟨a, ha, rfl⟩ := h2
      obtain ⟨hz, es, hH, hk, rk, rs⟩ := F.rel.mem n _ a e2 ha
      refine ⟨a, _, hH, True.intro, fun od => ?_⟩
      obtain ⟨r2, e3⟩ := F.rel.lockC e2 ha (.frz od (rawN a es))
      refine ⟨Φ, _, ρ, _, _, ⟨r2, ?_⟩, p.ext e3⟩
      have E2 := F.env.ext e3
      refine ⟨by simp [E2.len], fun j u ej => ?_⟩
      by_cases hj : i = j
      · subst hj
        have hi := (List.getElem?_eq_some_iff.mp e1).1
        rw [List.getElem?_set_self hi] at ej
        have eu : T.dcn ks ts = u := by simpa using ej
        subst eu
        refine ⟨.ref a, h1, ?_⟩
        unfold Rep
        exact ⟨a, es, od, rfl, hk, upd_same, rk.ext e3, rs.ext e3⟩
      · rw [List.getElem?_set_ne hj] at ej
        exact E2.get j u ej
    · exact p.elim
  · exact p.elim
end
end
end Ev

/-! xs[::-1] -/
namespace EvF
open PySem PySem.Spec PyProof PyProof.Rows L2
theorem rev_pick (xs : Array Value) : ((List.range xs.size).filterMap fun (k : Nat) => xs[(((xs.size : Int) - 1) + (k : Int) * (-1)).toNat]?).toArray = xs.toList.reverse.toArray := by
  have e : (fun (k : Nat) => xs[(((xs.size : Int) - 1) + (k : Int) * (-1)).toNat]?) = (fun j => xs[j]?) ∘ fun k => xs.size - 1 - k := by
    funext k
    have : (((xs.size : Int) - 1) + (k : Int) * (-1)).toNat = xs.size - 1 - k := by omega
    show xs[_]? = xs[_]?
    rw [this]
  rw [e, ← List.filterMap_map, PySem.W.krv_range, List.filterMap_reverse, PySem.W.krv_all]
section
variable {prog : Program} {w : World} {A : Around} {E : Value → Shared → Prop} {s : Shared}
theorem sliceApplied_rev {sl : Addr} {vl vu vs : Value} {n : Nat} {Q : Int × Int × Nat → Shared → Prop} (hs : s.heap.IsSliceOf sl vl vu vs) (pl : IsPart vl none) (pu : IsPart vu none) (ps : IsPart vs (some (-1)))
    (h : Q ((n : Int) - 1, -1, n) s) : wpAny (model prog w) A (Builtin.Slice.sliceApplied (.ref sl) (pure (n : Int))) Q E s := by
  obtain ⟨os, hos, hcs, hds⟩ := id hs
  unfold Builtin.Slice.sliceApplied Builtin.Slice.sliceFields
  refine wpAny_bind (wpAny_bind (wpAny_field hos hds (x := vl) rfl (wpAny_bind (wpAny_field hos hds (x := vu) rfl (wpAny_bind (wpAny_field hos hds (x := vs) rfl (wpAny_pure ?_)))))))
  refine wpAny_bind (HT.slicePart_ ps ?_)
  show wpAny _ _ (if ((-1 : Int) == 0) = true then _ else _) _ _ s
  rw [if_neg (by decide)]
  refine wpAny_bind (HT.slicePart_ pl (wpAny_bind (HT.slicePart_ pu (wpAny_bind (wpAny_pure ?_)))))
  have e : Builtin.Slice.sliceAdjust none none (-1) (n : Int) = ((n : Int) - 1, -1) := by
    unfold Builtin.Slice.sliceAdjust
    simp
  have e2 : Builtin.Slice.slicePlaces ((n : Int) - 1) (-1) (-1) = n := by
    unfold Builtin.Slice.slicePlaces
    simp only [show ¬ ((-1 : Int) > 0) by omega, if_false, Int.neg_neg, Int.ediv_one]
    split <;> omega
  show wpAny _ _ (match Builtin.Slice.sliceAdjust none none (-1) (n : Int) with | (lo, hi) => pure (lo, (-1 : Int), Builtin.Slice.slicePlaces lo hi (-1))) _ _ s
  rw [e]
  show wpAny _ _ (pure ((n : Int) - 1, (-1 : Int), Builtin.Slice.slicePlaces ((n : Int) - 1) (-1) (-1))) _ _ s
  rw [e2]
  exact wpAny_pure h
theorem getItem_tuple_rev {t sl : Addr} {items : Array Value} {vl vu vs : Value} {Q : Value → Shared → Prop} (ht : IsTup s.heap t items) (hs : s.heap.IsSliceOf sl vl vu vs) (pl : IsPart vl none) (pu : IsPart vu none) (ps : IsPart vs (some (-1)))
    (h : Q (.ref s.heap.objs.size) { s with heap := s.heap.push { cls := .type "tuple", data := .seq items.toList.reverse.toArray } })
    (hsz : items.size ≤ sizeLine) : wpAny (model prog w) A (getItem (.ref t) (.ref sl)) Q E s := by
  have htake : sizeOk (.seq items.toList.reverse.toArray) := by
    show items.toList.reverse.toArray.size ≤ sizeLine
    rw [List.size_toArray, List.length_reverse, Array.length_toList]
    exact hsz
  obtain ⟨os, hos, hcs, hds⟩ := id hs
  have hTs : s.TypeIs (.ref sl) "slice" := ⟨os, hos, hcs⟩
  unfold getItem
  try with_reducible refine wpAny_holding ?_
  first | refine wpAny_bind (wpAny_pure ?_) | skip
  refine wpAny_bind (wpAny_sequenceKey ht.typeIs (by decide) ?_)
  refine wpAny_bind (wpAny_callSpecial?_slot (name := Str.ofString "__getitem__") ht.typeIs PyProof.Rows.slot_tuple_getitem
    (wpAny_call_entry PyProof.Rows.slot_tuple_getitem ht.typeIs entry_tuple_getitem ?_ (args_tuple_getitem _ _)))
  show wpAny _ _ (Builtin.Tuple.tupleItemsOf (.ref t) >>= _) _ _ s
  refine wpAny_bind (PyProof.Rows.tupleItemsOf_ ht ?_)
  refine wpAny_bind (wpAny_typeOf hTs ?_)
  rw [if_pos (by decide)]
  refine wpAny_bind (sliceApplied_rev hs pl pu ps ?_)
  have hno : ¬ ((((items.size : Int) - 1) == 0 && (-1 : Int) == 1 && items.size == items.size) = true) := by
    rw [show ((-1 : Int) == 1) = false from rfl, Bool.and_false, Bool.false_and]
    exact Bool.false_ne_true
  show wpAny _ _ (if (((items.size : Int) - 1) == 0 && (-1 : Int) == 1 && items.size == items.size) = true then _ else _) _ _ s
  rw [if_neg hno, rev_pick]
  first
    | exact wpAny_bind (m := Builtin.Tuple.tupleExact _) (wpAny_newObj_type (wpAny_pure ⟨_, rfl, wpAny_pure h⟩) htake)
    | exact wpAny_bind (m := Builtin.Tuple.tupleExact _) (wpAny_newObj_type (wpAny_bind (wpAny_pure (wpAny_pure ⟨_, rfl, wpAny_pure h⟩))) htake)
    | exact wpAny_bind (wpAny_bind (m := Builtin.Tuple.tupleExact _) (wpAny_newObj_type (wpAny_pure (wpAny_pure ⟨_, rfl, wpAny_pure h⟩)) htake))
    | exact wpAny_bind (wpAny_bind (m := Builtin.Tuple.tupleExact _) (wpAny_newObj_type (wpAny_pure ⟨_, rfl, wpAny_pure h⟩) htake))
end
section
variable {X : Cx}
def tRevT (K : PySem.W.Frag) (te : TE) : TE := fun σ H Q => te σ H fun x H1 => ∃ a xs, x = .ref a ∧ SqT K H1 a xs ∧ ∀ p, H1 p = none → Q (.ref p) (upd H1 p (.tup xs.reverse))
theorem pe_revT {e : Expr} {te : TE} {k : Nat} {p1 p2 p3 pos : Pos} (he : PE X e te) : PE X (.Subscript e (.Slice none none (some (.UnaryOp .USub (.Constant (.int 1) k p1) p2)) p3) pos) (tRevT X.K te) := by
  refine ⟨fun pins s σ H Q I h => ?_⟩
  refine Subscript_ (thn (he.run pins s σ H _ I h) fun v s1 ⟨x, H1, I1, r1, q1⟩ => ?_)
  obtain ⟨a, xs, ex, hx, q⟩ := q1
  subst ex
  cases r1
  have hst : PO X (some (.UnaryOp .USub (.Constant (.int 1) k p1) p2)) (tPart (tUn (rU fun i => .int (-i)) (tC (.int 1)))) := po_some (pe_un un_neg pe_int)
  refine wpAny_Slice (thn (po_none.run pins s1 σ H1 (fun o H2 => o = none ∧ H2 = H1) I1 ⟨rfl, rfl⟩) fun vl s2 ⟨l, H2, I2, pl, el, e2⟩ => ?_)
  subst el e2
  refine thn (po_none.run pins s2 σ H2 (fun o H3 => o = none ∧ H3 = H2) I2 ⟨rfl, rfl⟩) fun vu s3 ⟨u, H3, I3, pu, eu, e3⟩ => ?_
  subst eu e3
  refine thn (hst.run pins s3 σ H3 (fun o H4 => o = some (-1) ∧ H4 = H3) I3 ⟨1, rfl, -1, rfl, rfl, rfl⟩) fun vs s4 ⟨o, H4, I4, ps, eo, e4⟩ => ?_
  subst eo e4
  have I5 : Inv X pins σ H4 { s4 with heap := s4.heap.push { cls := .type "slice", data := .fields #[vl, vu, vs] } } := I4.kept (t' := s4.toks) fun b ob q => Heap.get?_push_of_some _ q
  obtain ⟨its, r, ht, hz⟩ := I5.tuple hx
  have hlen := r.length
  show wpAny (model X.prog X.w) X.A (subscriptTail e (.Slice none none (some (.UnaryOp .USub (.Constant (.int 1) k p1) p2)) p3) (.ref a) (.ref s4.heap.objs.size)) (EP X pins σ Q) X.xe { s4 with heap := s4.heap.push { cls := .type "slice", data := .fields #[vl, vu, vs] } }
  refine tail_any (ops := [.ref a, .ref s4.heap.objs.size]) ht.typeIs (PyProof.Rows.slot_tuple_getitem.lookup) ?_ (by with_unfolding_all rfl)
  refine getItem_tuple_rev ht (Heap.IsSliceOf.new _ vl vu vs) pl pu ps ?_ (by rw [List.size_toArray]; omega)
  refine ⟨.ref _, _, I5.laid (t' := s4.toks) (o := .tup xs.reverse) (fun b ob q => Heap.get?_push_of_some _ q) (Nat.le_refl _) ?_, rfl, q _ (I5.hok.fresh (Nat.le_refl _))⟩
  exact ⟨by rw [List.length_reverse]; exact hz, _, r.reverse, IsTup.new _ _⟩
end
end EvF
namespace Ev
open PySem L2
variable [Wrl]
section
variable {K : PySem.W.Frag} {W : WX} {Φ Z : Hp} {ρ : List Addr} {σ : L2.St} {H : Hp} {m : Mem} {X : Cx}
theorem pe_or {e : Expr} {t u : TE} (h : PE X e t) (h' : PE X e u) : PE X e (fun σ H Q => t σ H Q ∨ u σ H Q) := ⟨fun pins s σ H Q I q => q.elim (h.run pins s σ H Q I) (h'.run pins s σ H Q I)⟩
theorem Reps.reverse : ∀ {ts : List T} {vs : List V}, Reps K Z ρ ts vs → Reps K Z ρ ts.reverse vs.reverse
  | [], _, h => by unfold Reps at h; subst h; exact .nil
  | t :: ts, _, h => by
    unfold Reps at h
    obtain ⟨v, vs, rfl, r, rs⟩ := h
    rw [List.reverse_cons, List.reverse_cons]
    exact (Reps.reverse rs).append (.cons r .nil)
def gRev (mu : Bool) : T → Mem → Out T := fun x m => match asT x with
  | some ts => .ok (.tup ts.reverse) m
  | none => match asL m x with
    | some ts => mk mu ts.reverse m
    | none => .no
theorem se_rev (mu : Bool) {e : Expr} {f : EF} {k : Nat} {p1 p2 p3 pos : Pos} (he : SE X W e f) : SE X W (.Subscript e (.Slice none none (some (.UnaryOp .USub (.Constant (.int 1) k p1) p2)) p3) pos) (e1 (gRev mu) f) := by
  refine ⟨pe_imp (pe_or (L2.pe_revL he.pe) (EvF.pe_revT he.pe)) fun σ H Q ⟨Φ, Z, ρ, env, m, F, p⟩ => ?_⟩
  have key : ∀ R : V → Hp → Prop, (∀ t m1 Z1 ρ1 H1 v, f env m = .ok t m1 → Ext Z Z1 ρ ρ1 → Fits X.K Φ Z1 ρ1 σ H1 env m1 → Rep X.K Z1 ρ1 t v → Post X.K W Φ Z1 ρ1 σ Q (gRev mu t m1) → R v H1) → tr X.K W f σ H R := fun R hk =>
    tr_bind (P := Post X.K W Φ Z ρ σ Q) F (fun t m1 Z1 ρ1 H1 v e0 e1 F1 r p1 => hk t m1 Z1 ρ1 H1 v e0 e1 F1 r (p1.ext e1)) (fun _ _ _ _ h => h) (fun h => h) p
  cases e0 : f env m with
  | no => unfold e1 at p; rw [e0] at p; exact p.elim
  | ex C ns vs m1 => exact .inl (key _ fun t m2 Z1 ρ1 H1 v e2 => by rw [e0] at e2; cases e2)
  | ok t m1 =>
    cases ht : asT t with
    | some ts =>
      refine .inr (key _ fun t' m2 Z1 ρ1 H1 v e2 e3 F1 r p1 => ?_)
      rw [e0] at e2; cases e2
      obtain ⟨a, vs, rfl, q, rs⟩ := asT_rep F1.rel r ht
      unfold gRev at p1
      rw [ht] at p1
      exact ⟨a, vs, rfl, q, fun l hl => post_tup F1.rel rs.reverse p1 hl⟩
    | none =>
      refine .inl (key _ fun t' m2 Z1 ρ1 H1 v e2 e3 F1 r p1 => ?_)
      rw [e0] at e2; cases e2
      unfold gRev at p1
      rw [ht] at p1
      have p1 : Post X.K W Φ Z1 ρ1 σ Q (match asL m1 t with | some ts => mk mu ts.reverse m1 | none => .no) := p1
      split at p1
      · rename_i ts hl
        obtain ⟨a, vs, rfl, q, rs⟩ := asL_rep F1.rel r hl
        exact ⟨a, vs, rfl, q, fun l hl => post_mk F1.rel rs.reverse p1 hl⟩
      · exact p1.elim
end
end Ev

/-! xs.index(y); x or y, x and y, not x by truth -/
namespace Ev
open PySem L2 PyProof.Rows
variable [Wrl]
section
variable {K : PySem.W.Frag} {W : WX} {Φ Z : Hp} {ρ : List Addr} {σ : L2.St} {H : Hp} {m : Mem} {X : Cx}
def idxD (d : PyData) : List PyData → Option Nat
  | [] => none
  | e :: es => if PyData.eqv e d then some 0 else (idxD d es).map (· + 1)
theorem idxD_ok {d : PyData} : ∀ {es : List PyData} {j : Nat}, idxD d es = some j → (∃ z, es[j]? = some z ∧ PyData.eqv z d = true) ∧ ∀ (k : Nat) (z : PyData), k < j → es[k]? = some z → PyData.eqv z d = false
  | [], _, h => by cases h
  | e :: es, j, h => by
    unfold idxD at h
    split at h
    · rename_i he
      cases h
      exact ⟨⟨e, rfl, he⟩, fun k z hk => absurd hk (by omega)⟩
    · rename_i he
      obtain ⟨i, hi, rfl⟩ := Option.map_eq_some_iff.mp h
      obtain ⟨⟨z, h1, h2⟩, h3⟩ := idxD_ok hi
      refine ⟨⟨z, by simpa using h1, h2⟩, fun k z hk hz => ?_⟩
      cases k with
      | zero => simp only [List.getElem?_cons_zero, Option.some.injEq] at hz; subst hz; simpa using he
      | succ k => exact h3 k z (by omega) (by simpa using hz)
def gIndex : T → List T → Mem → Out T := fun x xs m => match toDT m x, xs with
  | some (.list ds), [y] => match toDT m y with
    | some d => if SeqAt.shaped (.list ds) && SeqAt.shaped d then match idxD d ds with
      | some j => .ok (.int (j : Nat)) m
      | none => .no
      else .no
    | none => .no
  | _, _ => .no
theorem sem_index : SemM K gIndex (rIndexD K) := by
  intro W Φ Z ρ σ H m Q x xs vx vs r rx rs p
  unfold gIndex at p
  split at p
  · rename_i ds y hx
    split at p
    · rename_i d hy
      split at p
      · rename_i hsh
        rw [Bool.and_eq_true] at hsh
        split at p
        · rename_i j hj
          obtain ⟨v, rfl, rv⟩ := reps1 rs
          have hl := toDT_ok r rx hx
          have hd := toDT_ok r rv hy
          obtain ⟨⟨z, h1, h2⟩, h3⟩ := idxD_ok hj
          have hl0 := hl
          cases hl with
          | lst hq ha => exact ⟨_, v, d, ds, j, z, rfl, rfl, hl0, hd, hsh.1, hsh.2, h1, h2, h3, post_ok r rep_int p⟩
        · exact p.elim
      · exact p.elim
    · exact p.elim
  · exact p.elim
/-- a value's truth -/
def truT (m : Mem) : T → Option Bool
  | .non => some false
  | .bl b => some b
  | .int i => some (i != 0)
  | .str x => if x.length ≤ lim then some ((x.length : Int) != 0) else none
  | .ty _ => none
  | t => match asSeq m t with
    | some ts => some !ts.isEmpty
    | none => none
theorem truT_ok (r : Rel K Φ Z ρ H m) {t : T} {v : V} {b : Bool} (h : Rep K Z ρ t v) (e : truT m t = some b) : TruV K v H b := by
  unfold truT at e
  split at e
  · cases e; unfold Rep at h; subst h; rfl
  · cases e; unfold Rep at h; subst h; rfl
  · cases e; unfold Rep at h; subst h; rfl
  · split at e
    · rename_i hl
      cases e; unfold Rep at h; subst h; exact ⟨lim_le hl, rfl⟩
    · cases e
  · cases e
  · split at e
    · rename_i ts hs
      cases e
      obtain ⟨a, vs, rfl, hq, rs⟩ := asSeq_rep r h hs
      have he : ts.isEmpty = vs.isEmpty := by
        have := rs.length
        cases ts <;> cases vs <;> simp_all
      rcases hq with hq | hq
      · exact .inl ⟨vs, hq, by rw [he]⟩
      · exact .inr (.inl ⟨vs, hq, by rw [he]⟩)
    · cases e
def eAndT (f g : EF) : EF := fun env m => (f env m).bind fun t m1 => match truT m1 t with
  | some true => g env m1
  | some false => .ok t m1
  | none => .no
def eOrT (f g : EF) : EF := fun env m => (f env m).bind fun t m1 => match truT m1 t with
  | some true => .ok t m1
  | some false => g env m1
  | none => .no
def eNotT (f : EF) : EF := fun env m => (f env m).bind fun t m1 => match truT m1 t with
  | some b => .ok (.bl (!b)) m1
  | none => .no
def bT (f : EF) : BF := fun env m => (f env m).bind fun t m1 => match truT m1 t with
  | some b => .ok b m1
  | none => .no
theorem se_andT {a b : Expr} {rest : List Expr} {f g : EF} {pos : Pos} (ha : SE X W a f) (hb : SE X W (.BoolOp .And (b :: rest) pos) g) : SE X W (.BoolOp .And (a :: b :: rest) pos) (eAndT f g) :=
  ⟨pe_imp (pe_andT ha.pe hb.pe) fun σ H Q ⟨Φ, Z, ρ, env, m, F, p⟩ =>
    tr_bind (P := Post X.K W Φ Z ρ σ Q) F (fun t m1 Z1 ρ1 H1 v _ e1 F1 r p1 => by
      split at p1
      · rename_i h; exact ⟨true, truT_ok F1.rel r h, Φ, Z1, ρ1, env, m1, F1, p1.ext e1⟩
      · rename_i h; exact ⟨false, truT_ok F1.rel r h, p1 _ _ _ _ e1 F1.rel r⟩
      · exact p1.elim) (fun _ _ _ _ h => h) (fun h => h) p⟩
theorem se_orT {a b : Expr} {rest : List Expr} {f g : EF} {pos : Pos} (ha : SE X W a f) (hb : SE X W (.BoolOp .Or (b :: rest) pos) g) : SE X W (.BoolOp .Or (a :: b :: rest) pos) (eOrT f g) :=
  ⟨pe_imp (pe_orT ha.pe hb.pe) fun σ H Q ⟨Φ, Z, ρ, env, m, F, p⟩ =>
    tr_bind (P := Post X.K W Φ Z ρ σ Q) F (fun t m1 Z1 ρ1 H1 v _ e1 F1 r p1 => by
      split at p1
      · rename_i h; exact ⟨true, truT_ok F1.rel r h, p1 _ _ _ _ e1 F1.rel r⟩
      · rename_i h; exact ⟨false, truT_ok F1.rel r h, Φ, Z1, ρ1, env, m1, F1, p1.ext e1⟩
      · exact p1.elim) (fun _ _ _ _ h => h) (fun h => h) p⟩
theorem se_notT {a : Expr} {f : EF} {pos : Pos} (ha : SE X W a f) : SE X W (.UnaryOp .Not a pos) (eNotT f) :=
  ⟨pe_imp (pe_notT ha.pe) fun σ H Q ⟨Φ, Z, ρ, env, m, F, p⟩ =>
    tr_bind (P := Post X.K W Φ Z ρ σ Q) F (fun t m1 Z1 ρ1 H1 v _ e1 F1 r p1 => by
      split at p1
      · rename_i h; exact ⟨_, truT_ok F1.rel r h, p1 _ _ _ _ e1 F1.rel rep_bl⟩
      · exact p1.elim) (fun _ _ _ _ h => h) (fun h => h) p⟩
theorem Cok.hu65 {X : Cx} {W : WX} {k : Nat} (c : Cok X W k) : X.A.units + 65 < cLine := by have := c.room.un; omega
theorem Cok.hu66 {X : Cx} {W : WX} {k : Nat} (c : Cok X W k) : X.A.units + 66 < cLine := by have := c.room.un; omega
/-! ### sorted(xs), the items data of one shape -/
def rSortDat (K : PySem.W.Frag) : List V → Hp → VK → Prop := fun vs H Q => ∃ (a : Addr) (us : List V) (ds : List PyData), vs = [.ref a] ∧ SqL K H a us ∧ DpAll K H us ds ∧ PySem.W.AllAlike ds ∧ PySem.W.Sortable ds ∧ (∀ d ∈ ds, d.depth ≤ 64) ∧ us.length ≤ sizeLine ∧
  ∀ p, H p = none → Q (.ref p) (upd H p (.lst (((us.zip ds).mergeSort (PySem.W.dataLe false fun b : V × PyData => b.2)).map (·.1))))
theorem each_zip {s : Shared} : ∀ {us : List V} {ds : List PyData} {its : List Value} {as : List Addr}, Vals us its → ReadsAll s.heap its ds as → PySem.W.EachIs (fun (v : Value) (b : V × PyData) => RelV b.1 v) its (us.zip ds) ∧ PySem.W.EachIs (fun (v : Value) (b : V × PyData) => ∃ as, Reads s.heap v b.2 as) its (us.zip ds) ∧ (us.zip ds).map (·.2) = ds
  | _, _, _, _, .nil, r => by
    cases r
    exact ⟨.nil, .nil, rfl⟩
  | _, _, _, _, .cons h t, r => by
    cases r with
    | cons r1 r2 =>
      obtain ⟨a, b, c⟩ := each_zip t r2
      exact ⟨.cons h a, .cons ⟨_, r1⟩ b, by rw [List.zip_cons_cons, List.map_cons, c]⟩
theorem each_vals : ∀ {out : List Value} {bs : List (V × PyData)}, PySem.W.EachIs (fun (v : Value) (b : V × PyData) => RelV b.1 v) out bs → Vals (bs.map (·.1)) out
  | _, _, .nil => .nil
  | _, _, .cons h t => .cons h (each_vals t)
theorem cr_sortDat (hu : X.A.units + 66 < cLine) : CallR X (.builtin "sorted") (rSortDat X.K) := by
  intro pins s σ H vs us0 Q I r h
  obtain ⟨a, us, ds, rfl, hs, hd, ha, hk, hdp, hz, q⟩ := h
  rw [Vals.ref1 r]
  obtain ⟨its, rv, hl, _⟩ := I.list hs
  obtain ⟨as, h4⟩ := Dp.readsAll I ds us its hd rv
  obtain ⟨e1, e2, e3⟩ := each_zip rv h4
  have hlen : (us.zip ds).length ≤ sizeLine := by rw [List.length_zip]; omega
  refine PySem.W.sorted_data hl.isList e1 e2 (by rw [e3]; exact ha) (by rw [e3]; exact hk) hlen (fun b hb => ?_) fun out ho eo => ?_
  · have hm : b.2 ∈ ds := by rw [← e3]; exact List.mem_map.mpr ⟨b, hb, rfl⟩
    have := hdp _ hm
    omega
  · obtain ⟨ep, he'⟩ := sortedAll_at s.heap its out.toArray
    have hr := each_vals eo
    refine ⟨.ref _, upd H (s.heap.objs.size + 1) (.lst _), I.laid (t' := s.toks) (fun _ _ => sortedAll_old) (Nat.le_succ _) ⟨?_, out, ep, hr, he'⟩, rfl, q _ (I.hok.fresh (Nat.le_succ _))⟩
    rw [List.length_map, List.length_mergeSort]; exact hlen
def shapeD (ds : List PyData) : Bool := (ds.all fun d => ds.all fun d' => PySem.W.alike d d') && (ds.all (fun d => match d with | .tuple (_ :: _) => true | _ => false) || ds.all (fun d => match d with | .none => false | .tuple _ => false | _ => true)) && ds.all fun d => decide (d.depth ≤ 64)
theorem shapeD_ok {ds : List PyData} (h : shapeD ds = true) : PySem.W.AllAlike ds ∧ PySem.W.Sortable ds ∧ ∀ d ∈ ds, d.depth ≤ 64 := by
  unfold shapeD at h
  rw [Bool.and_eq_true, Bool.and_eq_true, Bool.or_eq_true, List.all_eq_true, List.all_eq_true, List.all_eq_true, List.all_eq_true] at h
  obtain ⟨⟨h1, h2⟩, h3⟩ := h
  refine ⟨fun d hd d' hd' => List.all_eq_true.mp (h1 d hd) d' hd', h2.imp (fun h d hd => ?_) (fun h d hd => ?_), fun d hd => of_decide_eq_true (h3 d hd)⟩
  · have := h d hd
    split at this
    · exact ⟨_, _, rfl⟩
    · cases this
  · have := h d hd
    split at this
    · cases this
    · cases this
    · rename_i a b
      exact ⟨fun e => a e, fun xs e => b xs e⟩
def gSortedX (mu : Bool) : List T → Mem → Out T := fun xs m => match xs with
  | [y] => match asL m y with
    | some ts => match txts ts with
      | some _ => gSortedA mu xs m
      | none => match toDs m ts with
        | some ds => if shapeD ds && decide (ts.length ≤ lim) then mk mu (((ts.zip ds).mergeSort (PySem.W.dataLe false fun b : T × PyData => b.2)).map (·.1)) m else .no
        | none => .no
    | none => gSortedA mu xs m
  | _ => .no
theorem reps_of : ∀ {L : List (T × V)}, (∀ x ∈ L, Rep K Z ρ x.1 x.2) → Reps K Z ρ (L.map (·.1)) (L.map (·.2))
  | [], _ => .nil
  | x :: L, h => .cons (h x (by simp)) (reps_of fun y hy => h y (by simp [hy]))
theorem reps_zip : ∀ {ts : List T} {vs : List V}, Reps K Z ρ ts vs → ∀ x ∈ ts.zip vs, Rep K Z ρ x.1 x.2
  | [], _, h => by unfold Reps at h; subst h; simp
  | t :: ts, _, h => by
    unfold Reps at h
    obtain ⟨v, vs, rfl, r, rs⟩ := h
    intro x hx
    rw [List.zip_cons_cons, List.mem_cons] at hx
    rcases hx with rfl | hx
    · exact r
    · exact reps_zip rs x hx
theorem zip_fst {α β : Type} : ∀ {xs : List α} {ys : List β}, xs.length = ys.length → (xs.zip ys).map (·.1) = xs
  | [], [], _ => rfl
  | x :: xs, y :: ys, h => by rw [List.zip_cons_cons, List.map_cons, zip_fst (by simpa using h)]
  | [], _ :: _, h => by simp at h
  | _ :: _, [], h => by simp at h
theorem zip3 : ∀ {ts : List T} {us : List V} {ds : List PyData}, ts.length = us.length → us.length = ds.length → ((ts.zip us).zip ds).map (fun x => (x.1.1, x.2)) = ts.zip ds ∧ ((ts.zip us).zip ds).map (fun x => (x.1.2, x.2)) = us.zip ds
  | [], [], [], _, _ => ⟨rfl, rfl⟩
  | t :: ts, u :: us, d :: ds, h, h' => by
    obtain ⟨a, b⟩ := zip3 (ts := ts) (us := us) (ds := ds) (by simpa using h) (by simpa using h')
    simp only [List.zip_cons_cons, List.map_cons, a, b, and_self]
  | [], _ :: _, _, h, _ => by simp at h
  | _ :: _, [], _, h, _ => by simp at h
  | _, [], _ :: _, _, h => by simp at h
  | _, _ :: _, [], _, h => by simp at h
theorem reps_sort {ts : List T} {us : List V} {ds : List PyData} (rs : Reps K Z ρ ts us) (hl : us.length = ds.length) :
    Reps K Z ρ (((ts.zip ds).mergeSort (PySem.W.dataLe false fun b : T × PyData => b.2)).map (·.1)) (((us.zip ds).mergeSort (PySem.W.dataLe false fun b : V × PyData => b.2)).map (·.1)) := by
  obtain ⟨e1, e2⟩ := zip3 rs.length hl
  rw [← e1, ← e2]
  have k1 := PySem.W.sort_maps (r := PySem.W.dataLe false fun b : (T × V) × PyData => b.2) (s := PySem.W.dataLe false fun b : T × PyData => b.2) (fun x : (T × V) × PyData => (x.1.1, x.2)) (l := (ts.zip us).zip ds) (fun _ _ _ _ => rfl)
  have k2 := PySem.W.sort_maps (r := PySem.W.dataLe false fun b : (T × V) × PyData => b.2) (s := PySem.W.dataLe false fun b : V × PyData => b.2) (fun x : (T × V) × PyData => (x.1.2, x.2)) (l := (ts.zip us).zip ds) (fun _ _ _ _ => rfl)
  rw [← k1, ← k2, List.map_map, List.map_map]
  have := reps_of (K := K) (Z := Z) (ρ := ρ) (L := (((ts.zip us).zip ds).mergeSort (PySem.W.dataLe false fun b : (T × V) × PyData => b.2)).map (·.1)) fun x hx => by
    obtain ⟨y, hy, rfl⟩ := List.mem_map.mp hx
    exact reps_zip rs _ (List.of_mem_zip ((List.mem_mergeSort).mp hy)).1
  rw [List.map_map, List.map_map] at this
  exact this
theorem toDs_len {m : Mem} : ∀ {ts : List T} {ds : List PyData}, toDs m ts = some ds → ts.length = ds.length
  | [], ds, h => by unfold toDs at h; cases h; rfl
  | t :: ts, ds, h => by
    unfold toDs at h
    split at h
    · rename_i d es _ e
      cases h
      rw [List.length_cons, List.length_cons, toDs_len e]
    · cases h
theorem sem_sortedX {mu : Bool} : SemL K (gSortedX mu) (fun vs H Q => rSortB K vs H Q ∨ rSortDat K vs H Q) := by
  intro W Φ Z ρ σ H m Q xs vs r rs p
  have old : Post K W Φ Z ρ σ Q (gSortedA mu xs m) → rSortB K vs H Q ∨ rSortDat K vs H Q := fun p => .inl (sem_sortedA W Φ Z ρ σ H m Q xs vs r rs p)
  unfold gSortedX at p
  split at p
  · rename_i y
    split at p
    · rename_i ts hy
      split at p
      · exact old p
      · split at p
        · rename_i ds hd
          split at p
          · rename_i hc
            rw [Bool.and_eq_true] at hc
            obtain ⟨v, rfl, rv⟩ := reps1 rs
            obtain ⟨a, us, rfl, q, ru⟩ := asL_rep r rv hy
            obtain ⟨h1, h2, h3⟩ := shapeD_ok hc.1
            have hl : us.length = ds.length := by rw [← ru.length]; exact toDs_len hd
            refine .inr ⟨a, us, ds, rfl, q, toDs_ok r ru hd, h1, h2, h3, ?_, fun l hn => post_mk r (reps_sort ru hl) p hn⟩
            rw [← ru.length]; exact lim_le (of_decide_eq_true hc.2)
          · exact p.elim
        · exact p.elim
    · exact old p
  · exact p.elim
end
end Ev

/-! the def of the law alone, called where no guard stands: repr of data -/
namespace EvG
open PySem PySem.Spec PyProof PyProof.Rows L2
/-- what a def promises when it is called at A -/
structure FnAt (P : Program) (w : World) (K : PySem.W.Frag) (mg : Str → Option Value) (base : Heap) (C : CXT)
    (A : Around) (f : Addr) (fd : FuncData) (ps : List Str) (sp : Sp) : Prop where
  go : ∀ (outer : List PySem.Env) (s : Shared) (H : Hp) (args : Args) (us : List Value) (vs : List V)
    (Q : VK) (E : XK), Env0 P w K mg base A outer s H → BindsTo s fd args (ps.zip us) →
    Vals vs us → sp vs H Q E →
    codeAny (model P w) A (.call (.ref f) args) (CR C outer P w H s Q E) s
theorem FnAt.imp {P : Program} {w : World} {K : PySem.W.Frag} {mg : Str → Option Value} {base : Heap} {C : CXT}
    {A : Around} {f : Addr} {fd : FuncData} {ps : List Str} {sp sp' : Sp} (h : FnAt P w K mg base C A f fd ps sp)
    (i : ∀ vs H Q E, sp' vs H Q E → sp vs H Q E) : FnAt P w K mg base C A f fd ps sp' :=
  ⟨fun o s H a us vs Q E x1 x2 x3 x4 => h.go o s H a us vs Q E x1 x2 x3 (i _ _ _ _ x4)⟩
/-- a def at A, by its body -/
theorem at_of {P : Program} {w : World} {K : PySem.W.Frag} {mg : Str → Option Value} {base : Heap}
    {x qual : Str} {st : Stmt} {f : Addr} {fd : FuncData} {N ps : List Str} {k : Nat} {sp : Sp} {A : Around}
    (room : Room (k + 1) A) (F : Fun K x qual st f fd) (S : FnScope N ps (defScope st))
    (len : ∀ vs H Q E, sp vs H Q E → vs.length = ps.length)
    (bd : ∀ (cdv : Value) (outer : List PySem.Env) (s : Shared) (H : Hp) (vs : List V) (Q : VK) (E : XK),
      Room k (A.deeper (envOfC qual (defScope st) s.heap.objs.size f cdv)) → sp vs H Q E →
      ∃ t, PSs (cxOf (L2.CX P w) P w K mg base N qual (defScope st) f cdv A outer s H E) (defBody st) t ∧
        t { nx := fun _ H' => Q .non H', rt := Q } (start N vs) H) :
    FnAt P w K mg base (L2.CX P w) A f fd ps sp := by
  obtain ⟨o1, o2, kw, dc, pm, an, cdv, ct, sl, rfl, at1, code⟩ := F.ex
  constructor
  intro outer s H args us vs Q E e0 hb r hsp
  have frag : K.In s.heap :=
    e0.mod.kin.keeps fun b o h => (e0.bs b o h).1
  have nolim : s.heap.NoLimit :=
    e0.mod.nolimit.keeps fun b o h => (e0.bs b o h).1
  have slots : ∀ y ∈ ps.zip us, (defScope st).names.lookup y.1 = some .local ∨
      ((defScope st).names.lookup y.1 = some .cell ∧
        ((cellsFrom (s.heap.objs.size + 1) (defScope st).names []).lookup y.1).isSome = true) := by
    rintro ⟨n, v⟩ hy
    cases S.par n (List.of_mem_zip hy).1 with
    | inl q => exact Or.inl q
    | inr q => exact Or.inr ⟨q, PySem.W.cellsFrom_some _ _ _ (Or.inl q)⟩
  have hlen := len _ _ _ _ hsp
  refine codeAny_call_function room.depth (frag _ _ at1) rfl S.co S.gen rfl
    (PySem.W.codeRec_of frag code) (hb _ _ _ _ ?_)
  refine wpAny_newFunctionEnv_cells S.kind slots ?_
  rintro env he s1 q
  subst he
  refine ⟨nolim.keeps q.toInCall.keep, codeAny_func ?_⟩
  obtain ⟨t, ht, hq⟩ := bd cdv outer s H vs Q E (room.deeper _) hsp
  have I0 : Inv (cxOf (L2.CX P w) P w K mg base N qual (defScope st) f cdv A outer s H E) []
      (start N vs) H s1 := inv_start S room.hd e0 hlen r q
  have out : ∀ {σ' : L2.St} {H' : Hp} {v : V} {u : Value} {z : Shared},
      Inv (cxOf (L2.CX P w) P w K mg base N qual (defScope st) f cdv A outer s H E) [] σ' H' z →
      RelV v u → Q v H' → CE outer P w H s Q u z := by
    intro σ' H' v u z J rv qq
    exact ⟨v, H', J.os, J.bare, J.base, J.hok, rv, qq⟩
  refine wpAny_mono (ht.run [] s1 (start N vs) H _ I0 hq) ?_ fun e z hz => hz
  intro fl z hz
  cases fl with
  | next =>
    obtain ⟨_, _, J, qq⟩ := hz
    exact out (v := .non) (u := .none) J rfl qq
  | ret u =>
    obtain ⟨v, _, _, J, rv, qq⟩ := hz
    exact out J rv qq
  | brk => obtain ⟨_, _, _, qq⟩ := hz; cases qq
  | cont => obtain ⟨_, _, _, qq⟩ := hz; cases qq
/-- the list of the script, as it lies -/
abbrev scr (vs : List Value) : Obj :=
  { cls := .type "list", data := .seq vs.toArray }
/-- nothing is tracked but, perhaps, the script -/
structure AtStart (K : PySem.W.Frag) (P : Program) (w : World) (z : Shared) (a : Addr) (vs : List Value) (ns : List Int) (H : Hp) : Prop where
  only : Only H
  sees : SqL K H a (ns.map V.int)
  fine : HOk P w H z.heap
  no : ∀ b, b ≠ a → H b = none
  own : K.lookup a ≠ none → H a = none
theorem start_is {K : PySem.W.Frag} {P : Program} {w : World} {z : Shared} {a : Addr} {vs : List Value} {ns : List Int}
    (kin : K.In z.heap) (lies : z.heap.get? a = some (scr vs)) (hi : IntsAre vs ns) (short : ns.length ≤ sizeLine) : ∃ H, AtStart K P w z a vs ns H := by
  have rv := vals_ints hi
  have len2 := hi.length
  by_cases hk : K.lookup a = none
  · let o : HO := .frz (scr vs) (.lst (ns.map V.int))
    refine ⟨fun b => if b = a then some o else none, ?_, ?_, ?_, ?_, fun q => absurd hk q⟩
    · intro b
      by_cases e : b = a
      · exact Or.inr ⟨scr vs, _, if_pos e⟩
      · exact Or.inl (if_neg e)
    · exact Or.inl (Or.inr ⟨scr vs, if_pos rfl⟩)
    · intro b u q
      have q : (if b = a then some o else none) = some u := q
      by_cases e : b = a
      · rw [if_pos e] at q
        obtain rfl := Option.some.inj q
        subst e
        exact ⟨lies, by rw [List.length_map]; exact short, vs, _, rv, lies⟩
      · rw [if_neg e] at q; cases q
    · intro b e
      exact if_neg e
  · obtain ⟨o, ho⟩ := Option.ne_none_iff_exists'.mp hk
    have same := kin a o ho
    rw [lies] at same
    cases same
    refine ⟨fun _ => none, fun _ => Or.inl rfl, ?_, ?_, fun _ _ => rfl, fun _ => rfl⟩
    · refine Or.inr ⟨_, vs.toArray, _, ho, rfl, rfl, rfl, ?_, ?_⟩
      · rw [List.size_toArray, len2]; exact short
      · simpa using rv
    · intro b u q
      cases (show (none : Option HO) = some u from q)
/-- the law's call, from what its def promises at the caller's place -/
theorem law_at {P : Program} {w : World} {K : PySem.W.Frag} {mg mb : Str → Option Value} {C : CXT} {fa a : Addr}
    {fd : FuncData} {x : Str} {sp : Sp} {z : Shared} {vs : List Value} {ns : List Int} (kin : K.In z.heap)
    (top : z.heap.Ns mainGlobals mg) (blt : z.heap.Ns builtinsNs mb)
    (boot : ∀ y : Str, y ≠ "__name__" → mb y = bootBuiltins y) (nolim : z.heap.NoLimit) (nogen : z.gens = #[])
    (lies : z.heap.get? a = some (scr vs)) (hi : IntsAre vs ns) (short : ns.length ≤ sizeLine)
    (F : ∀ base : Heap, K.In base → base.Ns mainGlobals mg → FnAt P w K mg base C callerA fa fd [x] sp)
    (binds : ∀ (s : Shared) (u : Value), BindsTo s fd ⟨[u], []⟩ [(x, u)])
    (prom : ∀ H : Hp, Only H → SqL K H a (ns.map V.int) →
      sp [.ref a] H (fun v _ => v = .bl true) fun _ _ _ => False)
    (noexc : ∀ H e s', C [] H z (fun _ _ _ => False) e s' → False) :
    codeAny (model P w) callerA (.call (.ref fa) ⟨[.ref a], []⟩)
      (fun r s' => r = .ok (.ret (.bool true)) ∧ OldK z.heap s'.heap ∧ s'.os = z.os ∧ AllBare s'.gens) z := by
  obtain ⟨H, st⟩ := start_is (P := P) (w := w) kin lies hi short
  have free : ∀ {b : Addr} {o : Obj}, z.heap.get? b = some o → H b = none → (hidT z.heap H).get? b = some o :=
    fun h n => hidT_get h n
  have dicts : ∀ {b : Addr} {o : Obj} {es : Array DictEntry} {ep : Nat}, z.heap.get? b = some o →
      o.data = .dict es ep → H b = none := by
    intro b o es ep h d
    refine Classical.byContradiction fun q => ?_
    have same : b = a := Classical.byContradiction fun n => q (st.no b n)
    subst same
    rw [lies] at h
    cases h
    cases (show Data.seq vs.toArray _ = Data.dict es ep from d)
  have names : ∀ {b : Addr} {m : Str → Option Value}, z.heap.Ns b m → (hidT z.heap H).Ns b m := by
    rintro b m ⟨o, es, ep, h, d, r⟩
    exact ⟨o, es, ep, free h (dicts h d), d, r⟩
  have kin2 : K.In (hidT z.heap H) := by
    intro b o h
    refine free (kin b o h) ?_
    by_cases same : b = a
    · subst same
      exact st.own (by rw [h]; exact fun q => nomatch q)
    · exact st.no b same
  have lim2 : (hidT z.heap H).NoLimit := by
    obtain ⟨mc, h1, h2⟩ := nolim
    exact ⟨mc, names h1, h2⟩
  have e0 : Env0 P w K mg (hidT z.heap H) callerA [] z H := by
    refine ⟨rfl, ⟨kin2, names top, ⟨mb, names blt, boot⟩, lim2⟩, fun b o h => of_hidT h, Nat.le_of_eq (hidT_size _ _), trivial, ?_, st.fine, .of_eq nogen⟩
    intro b hb
    cases (show b ∈ ([] : List Addr) from hb)
  have ran := (F _ kin2 (names top)).go [] z H ⟨[.ref a], []⟩ [.ref a] [.ref a] _ _ e0 (binds z (.ref a)) (.cons rfl .nil) (prom H st.only st.sees)
  refine codeAny_mono ran ?_
  intro r s' h
  match r, h with
  | .error e, h => exact (noexc H e s' h).elim
  | .ok .next, h => exact h.elim
  | .ok .brk, h => exact h.elim
  | .ok .cont, h => exact h.elim
  | .ok (.ret u), h =>
    obtain ⟨v, H', os, bare, un, fine, rel, q⟩ := h
    have isT : v = .bl true := q
    subst isT
    obtain rfl : u = Value.bool true := rel
    refine ⟨rfl, OldK.of_keep ?_, os, bare⟩
    intro b o h
    cases seen : H b with
    | none => exact un.keep b o h seen (by intro k; cases (show b ∈ ([] : List Addr) from k)) (by simp)
    | some u =>
      rcases st.only b with k | ⟨ob, xs, k⟩
      · rw [seen] at k; cases k
      · have k2 := un.frzs b ob _ k
        obtain ⟨g1, _⟩ := st.fine b _ k
        obtain ⟨g2, _⟩ := fine b _ k2
        rw [h] at g1
        cases g1
        exact g2
/-- the row, from what the law's def promises at the caller's place -/
theorem walk_at {l : PySem.W.OpenLaw} {n : Nat} {q : Program} {loose : List Str} {XP : (Str → Option Value) → Heap → Prop}
    {YP : World → Heap → Prop} {d : DefRec} {K : Params → PySem.W.Frag} {C : World → CXT} {sp : World → Sp} {x : Str}
    (hn : l.most = some n) (hs : n ≤ sizeLine) (hdf : d.params.defaults = [])
    (kin : ∀ (w : World) (h : Heap), YP w h → (K w.params).In h)
    (F : ∀ (w : World) (mg : Str → Option Value) (fa : Addr) (h : Heap), (K w.params).In h →
      h.Ns mainGlobals mg → mg d.name = some (.ref fa) →
      ∃ fd : FuncData, (∀ (s : Shared) (u : Value), BindsTo s fd ⟨[u], []⟩ [(x, u)]) ∧
        ∀ base : Heap, (K w.params).In base → base.Ns mainGlobals mg →
          FnAt l.prog w (K w.params) mg base (C w) callerA fa fd [x] (sp w))
    (prom : ∀ (w : World) (H : Hp) (a : Addr) (ns : List Int), ns.length ≤ n → Only H →
      SqL (K w.params) H a (ns.map V.int) → sp w [.ref a] H (fun v _ => v = .bl true) fun _ _ _ => False)
    (noexc : ∀ (w : World) (H : Hp) (s : Shared) (e : Value) (s' : Shared), C w [] H s (fun _ _ _ => False) e s' → False) :
    PySem.W.WalkO q loose XP YP l.row.toRowW d [] (fun f vs => PySem.call f vs) := by
  refine Att.attach_call hn hdf ?_
  intro w s₀ z mg mb fa o pm cd doc a vs ns G Y ho hd hcd hmg hobj hints hlen hg
  have inh := kin w _ Y
  obtain ⟨fd, bnd, hF⟩ := F w mg fa _ inh G.T.g hmg
  exact law_at inh G.T.g G.T.b G.T.builtins G.T.nolimit hg hobj hints (Nat.le_trans hlen hs) hF bnd
    (fun H h1 h2 => prom w H a ns hlen h1 h2) fun H e s' => noexc w H z e s'
end EvG
namespace Ev
open PySem L2 PyProof.Rows
variable [Wrl]
/-- the reading of the law's body, at the caller's place -/
theorem fn_atE {P : Program} {w : World} {K : PySem.W.Frag} {mg : Str → Option Value} {base : Heap} {x qual : Str}
    {st : Stmt} {f : Addr} {fd : FuncData} {N ps : List Str} {k : Nat} {g : SF} (room : Room (k + 1) callerA) (hw : HereP P w)
    (Fn : Fun K x qual st f fd) (S : FnScope N ps (defScope st))
    (bd : ∀ (cdv : Value) (A : Around) (outer : List PySem.Env) (s : Shared) (H : Hp) (E : XK),
      Cok (cxOf (L2.CX P w) P w K mg base N qual (defScope st) f cdv A outer s H E) (fun cls d _ H => E cls d H) k →
      (cxOf (L2.CX P w) P w K mg base N qual (defScope st) f cdv A outer s H E).A.guards = some [] →
      SSs (cxOf (L2.CX P w) P w K mg base N qual (defScope st) f cdv A outer s H E) (fun cls d _ H => E cls d H) (defBody st) g) :
    EvG.FnAt P w K mg base (L2.CX P w) callerA f fd ps (spF K ps.length (fnOf N.length g)) := by
  refine EvG.at_of room Fn S (fun vs H Q E ⟨Φ, Z, ρ, m, ts, _, _, hl, _⟩ => hl) ?_
  rintro cdv outer s H vs Q E hr ⟨Φ, Z, ρ, m, ts, r, rs, hl, p⟩
  have ck : Cok (cxOf (L2.CX P w) P w K mg base N qual (defScope st) f cdv callerA outer s H E) (fun cls d _ H => E cls d H) k :=
    ⟨takes_of rfl rfl rfl rfl, passes_of rfl, rfl, S.nd, hr, ⟨hw.p, hw.w⟩⟩
  refine ⟨_, (bd cdv callerA outer s H E ck rfl).ps, Φ, Z, ρ, _, m, ⟨r, envs_start N rs⟩, ?_⟩
  unfold fnOf at p
  cases e : g (ts.map some ++ List.replicate (N.length - ts.length) none) m with
  | no => rw [e] at p; exact p
  | rt t m1 => rw [e] at p; exact p
  | bk _ _ => rw [e] at p; exact (show False from p).elim
  | ct _ _ => rw [e] at p; exact (show False from p).elim
  | nx env1 m1 =>
    rw [e] at p
    exact fun Z1 ρ1 H1 σ1 e1 F1 _ => p Z1 ρ1 H1 .non e1 F1.rel rep_non
  | ex C ns us env1 m1 =>
    rw [e] at p
    exact fun Z1 ρ1 H1 σ1 d us e1 F1 rs hl hd => p Z1 ρ1 H1 d us e1 F1.rel rs hl hd
end Ev
namespace EvG
open PySem PySem.Spec PyProof PyProof.Rows L2
variable {X : Cx}
def rRepr (K : PySem.W.Frag) : List V → Hp → VK → Prop := fun xs H Q => ∃ (y : V) (d : PyData), xs = [y] ∧ Dp K H y d ∧ d.showable = true ∧
  d.hasDict = false ∧ d.depth ≤ 64 ∧ d.shown.length ≤ sizeLine ∧ Q (.str d.shown) H
theorem cr_repr (hg : X.A.guards = some []) (hu : X.A.units + 66 < cLine) : CallR X (.builtin "repr") (rRepr X.K) := by
  intro pins s σ H xs us Q I rx h
  obtain ⟨y, d, rfl, hd, hs, hn, hdp, hz, q⟩ := h
  obtain ⟨u, rfl, ru⟩ := vals1 rx
  have big : ∀ as, Reads s.heap u d as → (∃ a, u = .ref a) → wpAny (model X.prog X.w) X.A (call (.builtin "repr") [u]) (EP X pins σ Q) X.xe s := by
    rintro as r ⟨a, rfl⟩
    refine repr_of_reads' r hs (fun e => by rw [hn] at e; cases e) hg (by omega) (fun _ _ e => e) ?_ hz
    intro h' u tk hk
    exact ⟨.str d.shown, H, I.kept (t' := tk) hk, ⟨u, rfl⟩, q⟩
  have any : ∃ as, Reads s.heap u d as := Dp.reads I d y u hd ru
  cases hd with
  | non =>
    cases ru
    simp only [PyData.shown] at q
    exact PySem.P.repr_of_none ⟨.str _, H, I.tok _, ⟨_, rfl⟩, q⟩
  | bl b =>
    cases ru
    simp only [PyData.shown] at q
    exact PySem.P.repr_of_bool ⟨.str _, H, I.tok _, ⟨_, rfl⟩, q⟩
  | int i =>
    obtain ⟨t, rfl⟩ := ru
    simp only [PyData.shown] at q
    exact PySem.P.repr_of_int (by simpa [PyData.showable] using hs) ⟨.str _, H, I.tok _, ⟨_, rfl⟩, q⟩
  | str x =>
    obtain ⟨t, rfl⟩ := ru
    simp only [PyData.shown] at q hz
    exact PySem.P.repr_of_str ⟨.str _, H, I.tok _, ⟨_, rfl⟩, q⟩ hz
  | lst h1 h2 => obtain ⟨as, r⟩ := any; cases ru; exact big as r ⟨_, rfl⟩
  | tup h1 h2 => obtain ⟨as, r⟩ := any; cases ru; exact big as r ⟨_, rfl⟩
end EvG
namespace Ev
open PySem L2
variable [Wrl]
section
variable {K : PySem.W.Frag} {W : WX} {Φ Z : Hp} {ρ : List Addr} {σ : L2.St} {H : Hp} {m : Mem} {X : Cx}
def gRepr : List T → Mem → Out T := fun xs m => match xs with
  | [y] => match toDT m y with
    | some d => if d.showable && !d.hasDict && decide (d.depth ≤ 64) && decide (d.shown.length ≤ lim) then .ok (.str d.shown) m else .no
    | none => .no
  | _ => .no
theorem sem_repr : SemL K gRepr (EvG.rRepr K) := by
  intro W Φ Z ρ σ H m Q xs vs r rs p
  unfold gRepr at p
  split at p
  · split at p
    · rename_i y d hd
      split at p
      · rename_i hc
        simp only [Bool.and_eq_true, Bool.not_eq_true', decide_eq_true_eq] at hc
        obtain ⟨v, rfl, rv⟩ := reps1 rs
        exact ⟨v, d, rfl, toDT_ok r rv hd, hc.1.1.1, hc.1.1.2, hc.1.2, lim_le hc.2, post_ok r rep_str p⟩
      · exact p.elim
    · exact p.elim
  · exact p.elim
end
end Ev

/-! own exceptions as values: made by place and by name, their field, isinstance -/
namespace PySem.HandSPX
open PySem Builtin Builtin.ObjectAttr
section
variable {M : Model} {A : Around} {E : Value → Shared → Prop} {h : Heap} {g : Array GenState} {d : Drawn} {t : Nat} {os : OsState}
variable {nm q : Str} {C N : Addr} {bs bm bmB : List Value} {hdct : Bool} {sn : List Str} {sub : List Value} {ab : Bool} {col : Option Bool} {dd : Option Addr} {k0 k1 k2 k3 k5 : Option Value} {B newId initId : String}
theorem wpAny_check_type_call_subK {M : Model} {rest : List Value} {kw : List (Str × Value)} {Q : Unit → Shared → Prop} (hC : h.get? C = some (excClassObj nm q C N bs bm hdct sn sub ab col dd k0 k1 k2 k3 k5 newId))
    (hq : Q () ⟨h, g, d, t, os⟩) : wpAny M A (checkBuiltinCall "type.__call__" ⟨.ref C :: rest, kw⟩) Q E ⟨h, g, d, t, os⟩ := by
  have f3 := tc_sub
  have hT : (⟨h, g, d, t, os⟩ : Shared).TypeIs (.ref C) "type" := ⟨_, hC, rfl⟩
  simp only [checkBuiltinCall, tc_kind, tc_split]
  repeat (any_goals (first | assumption | with_reducible refine wpAny_loadPart_at hC ?_ | with_reducible refine wpAny_onRaise ?_ | with_reducible refine wpAny_map ?_ | wp_step))
theorem check_new_ownK (F : ExcBaseFacts B newId initId bmB) (hT : ∀ X : String, bm.contains (.type X) = bmB.contains (.type X)) {rest : List Value} {kw : List (Str × Value)} {Q : Unit → Shared → Prop}
    (hC : h.get? C = some (excClassObj nm q C N bs bm hdct sn sub ab col dd k0 k1 k2 k3 k5 newId)) (hq : Q () ⟨h, g, d, t, os⟩) : wpAny M A (checkBuiltinCall newId ⟨.ref C :: rest, kw⟩) Q E ⟨h, g, d, t, os⟩ := by
  have hcont : (Value.ref C :: bm).contains (.type B) = true := by rw [List.contains_cons, hT, F.hasB, Bool.or_true]
  have hstar := F.noStar
  simp only [checkBuiltinCall, F.newKind, F.newSplit, F.newRow]
  repeat (first | refine wpAny_loadPart_at hC ?_ | (refine wpAny_isSubtype_exc hC ?_; rw [hcont]) | refine wpAny_staticBase_exc hC ?_ | refine wpAny_madeBy_exc hC ?_ | simp only [bne_self_eq_false, Bool.false_eq_true, if_false] | wp_step)
  exact hq
end
section
variable {prog : Program} {w : World} {A : Around} {E : Value → Shared → Prop} {R : Result → Shared → Prop} {h : Heap} {g : Array GenState} {d : Drawn} {t : Nat} {os : OsState}
variable {nm q : Str} {C N : Addr} {bs bm bmB : List Value} {hdct : Bool} {sn : List Str} {sub : List Value} {ab : Bool} {col : Option Bool} {dd : Option Addr} {k0 k1 k2 k3 k5 : Option Value} {B newId initId : String}
theorem new_ownK (F : ExcBaseFacts B newId initId bmB) (hT : ∀ X : String, bm.contains (.type X) = bmB.contains (.type X)) {rest : List Value} {kw : List (Str × Value)}
    (hC : h.get? C = some (excClassObj nm q C N bs bm hdct sn sub ab col dd k0 k1 k2 k3 k5 newId))
    (hq : R (.ok (.ret (.ref (h.objs.size + 1)))) ⟨(h.push { cls := .type "tuple", data := .seq rest.toArray }).push
      { cls := .ref C, data := .fields #[.ref h.objs.size, .none, .none, .none, .bool false, .none] }, g, d, t, os⟩) (hrest : rest.length ≤ sizeLine) :
    codeAny (model prog w) A (.builtin newId ⟨.ref C :: rest, kw⟩) R ⟨h, g, d, t, os⟩ := by
  have hends := F.ends
  have hcB : (Value.ref C :: bm).contains (.type B) = true := by rw [List.contains_cons, hT, F.hasB, Bool.or_true]
  have hcA : (Value.ref C :: bm).contains (.type "AttributeError") = false := by rw [List.contains_cons, hT, F.noAttr]; rfl
  have hcN : (Value.ref C :: bm).contains (.type "NameError") = false := by rw [List.contains_cons, hT, F.noName]; rfl
  refine codeAny_builtinAt F.entry ?_
  unfold Builtin.«BaseException.__new__»
  refine wpAt_bind ?_
  show wpAt _ _ _ (stack >>= _) _ _ _
  refine wpAt_bind (wpAt_stack fun p below => wpAt_of_wpAny ?_)
  wp_walk
  refine wpAt_of_wpAny ?_
  rw [F.owner]
  repeat (first | with_reducible refine wpAny_madeHere_exc F.canon hC ?_ | with_reducible refine wpAny_loadPart_at hC ?_ | (with_reducible refine wpAny_isSubtype_exc hC ?_; first | rw [hcB] | rw [hcA] | rw [hcN]) | wp_step)
  show R _ _
  rw [Heap.size_push]
  exact hq
theorem type_call_ownK (F : ExcBaseFacts B newId initId bmB) (hT : ∀ X : String, bm.contains (.type X) = bmB.contains (.type X)) {rest : List Value} {kw : List (Str × Value)} {fI : Addr} {Q : Fin → Shared → Prop}
    (hC : h.get? C = some (excClassObj nm q C N bs bm hdct sn sub ab col dd k0 k1 k2 k3 k5 newId))
    (hi : W.Looks (model prog w) h (typeLookup (.ref C) "__init__") (some (.ref fI))) (hb : ∀ self, W.Looks (model prog w) h (bindSpecial (.ref fI) self) (.ref fI, [self])) (hrest : rest.length ≤ sizeLine)
    (hq : codeAny (model prog w) A (.call (.ref fI) ⟨.ref (h.objs.size + 1) :: rest, kw⟩)
      (fun r s' => match r with | .ok (.ret v) => v = .none ∧ Q (.done (.ret (.ref (h.objs.size + 1)))) s' | .ok _ => False | .error e => E e s')
      ⟨(h.push (W.kdv_tup rest)).push (excO C h.objs.size), g, d, t, os⟩) :
    wpAny (model prog w) A (Builtin.«type.__call__» ⟨.ref C :: rest, kw⟩) Q E ⟨h, g, d, t, os⟩ := by
  repeat (first | with_reducible refine wpAny_loadPart_at hC ?_ | with_reducible refine wpAny_madeBy_exc hC ?_ | wp_step)
  refine codeAny_call_builtin_code (Code.quiet_builtin _ F.quiet) (check_new_ownK F hT hC ?_)
  refine new_ownK F hT hC ?_ hrest
  show wpAny _ _ _ _ _ _
  have k : ∀ b o, h.get? b = some o → ((h.push (W.kdv_tup rest)).push (excO C h.objs.size)).get? b = some o := fun b o e => Heap.get?_push_of_some _ (Heap.get?_push_of_some _ e)
  have hC₁ := k _ _ hC
  have hget : ((h.push (W.kdv_tup rest)).push (excO C h.objs.size)).get? (h.objs.size + 1) = some (excO C h.objs.size) := by heap_get
  have hcC : (Value.ref C :: bm).contains (.ref C) = true := by simp
  have i1 := hi.keeps k
  have b1 := (hb (.ref (h.objs.size + 1))).keeps k
  unfold isInstance
  repeat (first | with_reducible refine wpAny_loadPart_at hget ?_ | (with_reducible refine wpAny_isSubtype_exc hC₁ ?_; rw [hcC]) | wp_step)
  show wpAny _ _ (typeLookup (.ref C) _) _ _ _
  refine i1.at ?_
  refine wpAny_holding (wpAny_bind (b1.at ?_))
  refine wpAny_bind (wpAny_call (codeAny_mono hq fun r s' z => ?_))
  rcases r with e | (v | _ | _ | _) <;> first | exact z | exact z.elim | skip
  obtain ⟨rfl, z⟩ := z
  first
    | exact wpAny_pure (wpAny_pure z)
    | (wp_walk; exact z)
theorem call_ownK (F : ExcBaseFacts B newId initId bmB) (hT : ∀ X : String, bm.contains (.type X) = bmB.contains (.type X)) {rest : List Value} {kw : List (Str × Value)} {fI : Addr}
    (hC : h.get? C = some (excClassObj nm q C N bs bm hdct sn sub ab col dd k0 k1 k2 k3 k5 newId))
    (hi : W.Looks (model prog w) h (typeLookup (.ref C) "__init__") (some (.ref fI))) (hb : ∀ self, W.Looks (model prog w) h (bindSpecial (.ref fI) self) (.ref fI, [self])) (hrest : rest.length ≤ sizeLine)
    (hq : codeAny (model prog w) (A.under (.builtin "type.__call__" ⟨.ref C :: rest, kw⟩)) (.call (.ref fI) ⟨.ref (h.objs.size + 1) :: rest, kw⟩) (W.InitBack (h.objs.size + 1) R)
      ⟨(h.push (W.kdv_tup rest)).push (excO C h.objs.size), g, d, t, os⟩) :
    codeAny (model prog w) A (.call (.ref C) ⟨rest, kw⟩) R ⟨h, g, d, t, os⟩ := by
  have f1 := tc_lookup
  have f2 := tc_bind (.ref C)
  have hTy : (⟨h, g, d, t, os⟩ : Shared).TypeIs (.ref C) "type" := ⟨_, hC, rfl⟩
  refine codeAny_of_tree ?_
  show wpAny _ _ (callAny (.ref C) _) _ _ _
  repeat (any_goals (first | assumption | with_reducible refine wpAny_loadPart_at hC ?_ | wp_step))
  refine ⟨rfl, ?_⟩
  refine codeAny_call_builtin_at (Code.quiet_builtin _ (by decide +kernel)) entry_typeCall (wpAny_check_type_call_subK hC (type_call_ownK F hT hC hi hb hrest ?_))
  refine codeAny_mono hq fun r s' z => ?_
  rcases r with e | (v | _ | _ | _) <;> exact z
end
end PySem.HandSPX
namespace L2
open PySem PySem.Spec PyProof.Rows
section
variable {X : Cx} {CX : CXT} {k n : Nat} {f C : Addr} {fd : FuncData} {ps ks : List Str} {sp : Sp} {x : Str} {p pos p' : Pos} {e : Expr} {es : List Expr} {kws : List Keyword} {t tk : TA} {g : List Value → List Value → List Value} {gV : List V → List V → List V}
theorem run_mkV {pins : List (Addr × Obj)} {σ : St} {H : Hp} {s : Shared} {Q : VK} {us ws : List Value} {vs zs : List V} {kw : List (Str × Value)} (T : OexC X.K C) (iC : PySem.W.findIn X.K (.ref C) "__init__" = some (some (.ref f))) (tI : PySem.W.typeIn X.K (.ref f) = some (.type "function"))
    (F1 : FnOk X.prog X.w X.K X.mg X.base CX k f fd ps sp) (hr : Room (k + 1) X.A) (hx : Passes CX X (fun _ _ _ => False)) (I1 : Inv X pins σ H s)
    (hb : ∀ (s' : Shared), X.K.In s'.heap → BindsTo s' fd ⟨.ref (s.heap.objs.size + 1) :: us, kw⟩ (ps.zip (.ref (s.heap.objs.size + 1) :: ws))) (r1 : Vals vs us) (r : Vals zs ws) (hz : vs.length ≤ 1000)
    (h : ∀ a, H a = none → sp (.ref a :: zs) (upd H a (exo a C none)) (fun v H3 => v = .non ∧ Q (.ref a) H3) (fun _ _ _ => False)) :
    wpAny (model X.prog X.w) X.A (call (.ref C) us kw) (EP X pins σ Q) X.xe s := by
  obtain ⟨nm, q, N, bs, bm, sn, sub, ab, col, dd, k0, k1, k2, k3, k5, hC, hbm⟩ := T.cls
  obtain ⟨hp, g, dr, tk, os⟩ := s
  have hsz : hp.objs.size ≤ hp.objs.size + 1 := Nat.le_succ _
  have hn : H (hp.objs.size + 1) = none := I1.hok.fresh hsz
  have hq := h (hp.objs.size + 1) hn
  have kk : ∀ b o, hp.get? b = some o → ((hp.push (PySem.W.kdv_tup us)).push (PySem.HandSPX.excO C hp.objs.size)).get? b = some o := fun b o e => Heap.get?_push_of_some _ (Heap.get?_push_of_some _ e)
  have hget : ((hp.push (PySem.W.kdv_tup us)).push (PySem.HandSPX.excO C hp.objs.size)).get? (hp.objs.size + 1) = some (PySem.HandSPX.excO C hp.objs.size) := by heap_get
  have I2 : Inv X pins σ (upd H (hp.objs.size + 1) (exo (hp.objs.size + 1) C none)) ⟨(hp.push (PySem.W.kdv_tup us)).push (PySem.HandSPX.excO C hp.objs.size), g, dr, tk, os⟩ :=
    I1.laid (t' := tk) (a := hp.objs.size + 1) (o := exo (hp.objs.size + 1) C none) (h' := (hp.push (PySem.W.kdv_tup us)).push (PySem.HandSPX.excO C hp.objs.size)) kk hsz (exo_ok hget)
  have r2 : Vals (V.ref (hp.objs.size + 1) :: zs) (Value.ref (hp.objs.size + 1) :: ws) := .cons rfl r
  have hus : us.length ≤ sizeLine := by
    rw [← Paired.length r1, sizeLine_eq]
    omega
  refine wpAny_call (PySem.HandSPX.call_ownK F.excBase_ValueError (fun Y => PySem.HandSPX.refsVE_contains Y bm hbm) (I1.kIn _ _ hC) (PySem.W.looks_findIn I1.kIn iC) (fun self => PySem.W.bind_fn I1.kIn self tI) hus
    (codeAny_mono (F1.run _ X.stack _ _ ⟨Value.ref (hp.objs.size + 1) :: us, kw⟩ (Value.ref (hp.objs.size + 1) :: ws) _ _ (fun _ _ _ => False) (hr.make C us kw) (I2.env0.make C us kw) (hb _ I2.kIn) r2 hq) fun r s' hq' => ?_))
  cases r with
  | error er => exact hx pins σ _ _ er s' I2 hq'
  | ok fl =>
    cases fl with
    | ret u =>
      obtain ⟨v, H', I3, rv, ev, q3⟩ := I2.after hq'
      subst ev
      exact ⟨rv, ⟨V.ref (hp.objs.size + 1), H', I3, rfl, q3⟩⟩
    | next => exact False.elim hq'
    | brk => exact False.elim hq'
    | cont => exact False.elim hq'
/-- C(e, ..) as a value -/
def tMkV (C : Addr) (sp : Sp) (ta : TA) : TE := fun σ H Q => ta σ H fun vs H1 => vs.length ≤ 1000 ∧ ∀ a, H1 a = none → sp (.ref a :: vs) (upd H1 a (exo a C none)) (fun v H3 => v = .non ∧ Q (.ref a) H3) (fun _ _ _ => False)
theorem pe_mkV (T : OexC X.K C) (iC : PySem.W.findIn X.K (.ref C) "__init__" = some (some (.ref f))) (tI : PySem.W.typeIn X.K (.ref f) = some (.type "function"))
    (F1 : FnOk X.prog X.w X.K X.mg X.base CX k f fd ps sp) (hr : Room (k + 1) X.A) (hb : Binds X.K fd ps []) (hx : Passes CX X (fun _ _ _ => False)) (hg : Gl X x) (hm : X.mg x = some (.ref C)) (ha : PA X (e :: es) t)
    (hdb : (x == ("__debug__" : Str)) = false := by decide) (he : starEach (e :: es) X.env = (false, eval e X.env) :: starEach es X.env := by rfl) (hpl : (backTo pos (starEach es X.env)).any (·.1) = false := by rfl) :
    PE X (.Call (.Name x p) (e :: es) [] pos) (tMkV C sp t) := by
  refine ⟨fun pins s σ H Q I h => ?_⟩
  refine wpAny_Call_Name_kw (ld_glob I hg hm ?_ hdb)
  refine PySem.W.callWith_K (h₀ := X.base) I.ok.mod.kin T.kC (thn (ha.run pos pins s σ H _ I h) fun us s1 ⟨vs, H1, I1, r1, hz, q1⟩ => ⟨I1.kIn, ?_⟩) he hpl
  have hn : H1 (s1.heap.objs.size + 1) = none := I1.hok.fresh (Nat.le_succ _)
  have hl : (Value.ref (s1.heap.objs.size + 1) :: us).length = ps.length := by
    have e := (r1.cons (a := V.ref (s1.heap.objs.size + 1)) (b := Value.ref (s1.heap.objs.size + 1)) rfl).length
    rw [F1.len _ _ _ _ (q1 _ hn)] at e
    exact e.symm
  exact run_mkV T iC tI F1 hr hx I1 (fun s' K' => by have := hb s' (Value.ref (s1.heap.objs.size + 1) :: us) K' (by rw [List.append_nil]; exact hl); rwa [List.append_nil] at this) r1 r1 hz q1
/-- C(k = v) as a value -/
def tMkVK (C : Addr) (sp : Sp) (ta : TA) : TE := fun σ H Q => ta σ H fun vs H1 => (∃ v, vs = [v]) ∧ ∀ a, H1 a = none → sp (.ref a :: vs) (upd H1 a (exo a C none)) (fun v H3 => v = .non ∧ Q (.ref a) H3) (fun _ _ _ => False)
theorem pe_mkVK {fn : Str} (T : OexC X.K C) (iC : PySem.W.findIn X.K (.ref C) "__init__" = some (some (.ref f))) (tI : PySem.W.typeIn X.K (.ref f) = some (.type "function"))
    (F1 : FnOk X.prog X.w X.K X.mg X.base CX k f fd ps sp) (hr : Room (k + 1) X.A) (hb : ∀ (s : Shared) (u v : Value), X.K.In s.heap → BindsTo s fd ⟨[u], [(fn, v)]⟩ (ps.zip [u, v])) (hx : Passes CX X (fun _ _ _ => False)) (hg : Gl X x) (hm : X.mg x = some (.ref C)) (hkw : PK X [⟨some fn, e, p'⟩] t)
    (hdb : (x == ("__debug__" : Str)) = false := by decide) (hall : (backToKw pos (keywordEach [⟨some fn, e, p'⟩] X.env)).all (·.1.isSome) = true := by rfl) (hks : (backToKw pos (keywordEach [⟨some fn, e, p'⟩] X.env)).filterMap (·.1) = [fn] := by rfl) :
    PE X (.Call (.Name x p) [] [⟨some fn, e, p'⟩] pos) (tMkVK C sp t) := by
  refine ⟨fun pins s σ H Q I h => ?_⟩
  refine wpAny_Call_Name_kw (ld_glob I hg hm ?_ hdb)
  refine PySem.W.callWith_KW0 (h₀ := X.base) I.ok.mod.kin T.kC hall (thn (hkw.run pos pins s σ H _ I h) fun us s1 ⟨vs, H1, I1, r1, ⟨v, ev⟩, q1⟩ => ⟨I1.kIn, ?_⟩)
  subst ev
  rw [hks]
  cases r1 with
  | @cons _ u0 _ ur ra rw' =>
    cases rw'
    exact run_mkV T iC tI F1 hr hx I1 (fun s' K' => hb s' _ u0 K') .nil (.cons ra .nil) (Nat.zero_le _) q1
end
end L2
namespace L2
open PySem PySem.Spec PyProof.Rows
section
variable {X : Cx}
theorem excC_cls {K : PySem.W.Frag} {C : Addr} (T : OexC K C) : (PySem.W.clsIn K C).isSome = true := by
  obtain ⟨nm, q, N, bs, bm, sn, sub, ab, col, dd, k0, k1, k2, k3, k5, hC, hbm⟩ := T.cls
  unfold PySem.W.clsIn
  rw [hC] <;> rfl
/-- an exception as a value, seen by its class -/
theorem exo_inst {H : Hp} {s : Shared} {pins : List (Addr × Obj)} {σ : St} {a C : Addr} {d : Option Addr} (I : Inv X pins σ H s) (ha : H a = some (exo a C d)) (hd : d = none ∨ ∃ dx fs, d = some dx ∧ H dx = some (exd dx fs)) :
    ∃ ox od, PySem.W.InstAt s.heap a ox C od := by
  obtain ⟨t1, ho⟩ := exo_at I.hok ha
  rcases hd with rfl | ⟨dx, fs, rfl, hx⟩
  · exact ⟨_, none, ho, rfl, rfl, True.intro⟩
  · obtain ⟨mA, hns, _⟩ := exd_at I.hok hx
    obtain ⟨od, hod, _⟩ := lookIn_ns hns
    exact ⟨_, some od, ho, rfl, rfl, hod⟩
/-- e.f, e an exception as a value -/
def tExf (K : PySem.W.Frag) (f : Str) (te : TE) : TE := fun σ H Q => te σ H fun x H1 => ∃ (a C dx : Addr) (fs : List (Str × V)) (v : V), x = .ref a ∧ XfC K C ∧ PySem.W.findIn K (.ref C) f = some none ∧ H1 a = some (exo a C (some dx)) ∧ H1 dx = some (exd dx fs) ∧ fs.lookup f = some v ∧ Q v H1
theorem pe_exf {e : Expr} {te : TE} {pos : Pos} {n : Str} (he : PE X e te) (hb : attributeBase e n X.env (eval e X.env) = eval e X.env := by rfl) : PE X (.Attribute e n pos) (tExf X.K n te) := by
  refine ⟨fun pins s σ H Q I h => ?_⟩
  refine attr_of hb (thn (he.run pins s σ H _ I h) fun u s1 hh => ?_)
  obtain ⟨x, H1, I1, rx, a, C, dx, fs, v, ex, T, hno, ea, ed, l, q⟩ := hh
  subst ex
  obtain rfl : u = Value.ref a := rx
  obtain ⟨t1, ho⟩ := exo_at I1.hok ea
  obtain ⟨mA, hns, hr⟩ := exd_at I1.hok ed
  obtain ⟨od, hod, hl⟩ := lookIn_ns hns
  obtain ⟨u, hu, ru⟩ := RelO.some_of (v := v) (o := mA n) (by rw [← l]; exact hr n)
  have J : PySem.W.InstAt s1.heap a _ C (some od) := ⟨ho, rfl, rfl, hod⟩
  exact HandSPX.exc_get I1.kIn J T.ga T.gg T.exC (PySem.W.findObj_own T.hdC hno rfl (by rw [hl, hu])) (handed_of ru) ⟨v, H1, I1.tok _, ru, q⟩
/-- isinstance(e, c), e an exception as a value -/
def rIsO (K : PySem.W.Frag) : List V → Hp → VK → Prop := fun xs H Q => ∃ (a C : Addr) (d : Option Addr) (c : V) (cv : Value) (b : Bool), xs = [.ref a, c] ∧ ClsV c cv ∧ H a = some (exo a C d) ∧ (d = none ∨ ∃ dx fs, d = some dx ∧ H dx = some (exd dx fs)) ∧ OexC K C ∧ ExcC K C ∧ PySem.W.kitOne K (.ref C) cv = some b ∧ Q (.bl b) H
theorem call_isO : CallR X (.builtin "isinstance") (rIsO X.K) := by
  intro pins s σ H xs us Q I r h
  obtain ⟨a, C, d, c, cv, b, rfl, k, ha, hd, T, E, e, q⟩ := h
  obtain ⟨u1, u2, rfl, r1, r2⟩ := vals2 r
  have e2 := k.eq r2
  subst e2
  obtain rfl : u1 = Value.ref a := r1
  obtain ⟨ox, od, J⟩ := exo_inst I ha hd
  exact PySem.W.kia_one (PySem.W.kitx_exc (excC_cls T) E.hg E.hk E.hs E.ha E.hn E.ht E.hm) I.kIn J e (fun z => nomatch z) fun tk => ⟨.bl b, H, I.tok tk, rfl, q⟩
/-- C(), C without an __init__ of its own -/
def tMk0 (C : Addr) : TE := fun σ H Q => ∀ a, H a = none → Q (.ref a) (upd H a (exo a C none))
theorem pe_mk0 {C : Addr} {x : Str} {p pos : Pos} (T : OexC X.K C) (iC : PySem.W.findIn X.K (.ref C) "__init__" = some (some (.builtin "ValueError.__init__"))) (hg : Gl X x) (hm : X.mg x = some (.ref C)) (hdb : (x == ("__debug__" : Str)) = false := by decide) :
    PE X (.Call (.Name x p) [] [] pos) (tMk0 C) := by
  refine ⟨fun pins s σ H Q I h => ?_⟩
  refine wpAny_Call_Name_kw (ld_glob I hg hm ?_ hdb)
  refine PySem.W.callWith_K0 I.kIn T.kC ?_
  obtain ⟨nm, q, N, bs, bm, sn, sub, ab, col, dd, k0, k1, k2, k3, k5, hC, hbm⟩ := T.cls
  obtain ⟨hp, g, dr, tk, os⟩ := s
  refine PySem.W.call_B F.excBase_ValueError (fun Y => PySem.HandSPX.refsVE_contains Y bm hbm) (I.kIn _ _ hC) (PySem.W.looks_findIn I.kIn iC) (by decide) fun h' k he ht => ?_
  have hn : H (hp.objs.size + 1) = none := I.hok.fresh (Nat.le_succ _)
  exact ⟨V.ref (hp.objs.size + 1), _, I.laid (t' := tk) (a := hp.objs.size + 1) (o := exo (hp.objs.size + 1) C none) (h' := h') k (Nat.le_succ _) (exo_ok he), rfl, h _ hn⟩
end
end L2

/-! own exceptions as values: made by place and by name, their field, isinstance -/
namespace Ev
open PySem L2
variable [Wrl]
structure XvOk (P : Program) (w : World) (K : PySem.W.Frag) (mg : Str → Option Value) (base : Heap) (k : Nat) (c f : Str) : Prop where
  ok : ∃ (C fI : Addr) (fd : FuncData) (ps : List Str), CAt K c C ∧ mg c = some (.ref C) ∧ OexC K C ∧ PySem.W.findIn K (.ref C) f = some none ∧ PySem.W.findIn K (.ref C) "__init__" = some (some (.ref fI)) ∧ PySem.W.typeIn K (.ref fI) = some (.type "function") ∧
    FnOk P w K mg base (L2.CX P w) k fI fd ps (spX K f) ∧ Binds K fd ps [] ∧ (∀ (s : Shared) (u v : Value), K.In s.heap → BindsTo s fd ⟨[u], [(f, v)]⟩ (ps.zip [u, v])) ∧ XfC K C
structure X0Ok (K : PySem.W.Frag) (mg : Str → Option Value) (c : Str) : Prop where
  ok : ∃ C : Addr, CAt K c C ∧ mg c = some (.ref C) ∧ OexC K C ∧ PySem.W.findIn K (.ref C) "__init__" = some (some (.builtin "ValueError.__init__"))
theorem fun_kw {K : PySem.W.Frag} {x qual f : Str} {st : Stmt} {fa : Addr} {fd : FuncData} {ps : List Str} (Fn : Fun K x qual st fa fd)
    (h : ∀ (kV doc pm : Value) (an : Option Addr) (cdv ct u v : Value), bindArgs (PySem.W.fnOf x qual (defArgs st) (defBody st) (defScope st) .none kV doc pm an cdv ct) ⟨[u], [(f, v)]⟩ = pure (ps.zip [u, v])) :
    ∀ (s : Shared) (u v : Value), K.In s.heap → BindsTo s fd ⟨[u], [(f, v)]⟩ (ps.zip [u, v]) := by
  obtain ⟨oc, od, kV, doc, pm, an, cdv, ct, osl, rfl, lk, hcd⟩ := Fn.ex
  exact fun s u v _ => .of_eq (h kV doc pm an cdv ct u v)
section
variable {K : PySem.W.Frag} {W : WX} {Φ Z : Hp} {ρ : List Addr} {σ : L2.St} {H : Hp} {m : Mem} {X : Cx} {mg : Str → Option Value}
def eMkX (c f : Str) (fe : EF) : EF := fun env m => (fe env m).bind fun t m1 => .ok (.exc c [f] [t]) m1
theorem spX_new {c f : Str} {C : Addr} {t : T} {v : V} {Q : VK} {E : XK} (hC : CAt K c C) (T : OexC K C) (hno : PySem.W.findIn K (.ref C) f = some none) (r : Rel K Φ Z ρ H m) (rt : Rep K Z ρ t v)
    (q : ∀ Z' ρ' H' v, Ext Z Z' ρ ρ' → Rel K Φ Z' ρ' H' m → Rep K Z' ρ' (.exc c [f] [t]) v → Q v H') :
    ∀ a, H a = none → spX K f [.ref a, v] (upd H a (exo a C none)) (fun u H3 => u = .non ∧ Q (.ref a) H3) E := by
  intro a na
  refine ⟨a, C, v, rfl, T, hno, upd_same, fun dx hdx hne => ⟨rfl, ?_⟩⟩
  have hdx' : H dx = none := by rw [upd_ne hne] at hdx; exact hdx
  have eH : upd (upd (upd H a (exo a C none)) dx (exd dx [(f, v)])) a (exo a C (some dx)) = upd (upd H dx (exd dx [(f, v)])) a (exo a C (some dx)) := by
    funext b
    by_cases hba : b = a
    · subst hba; rw [upd_same, upd_same]
    · rw [upd_ne hba, upd_ne hba]
      by_cases hbd : b = dx
      · subst hbd; rw [upd_same, upd_same]
      · rw [upd_ne hbd, upd_ne hbd, upd_ne hba]
  rw [eH]
  obtain ⟨r2, e2⟩ := r.allocZ hdx' (exd dx [(f, v)])
  have na' : upd H dx (exd dx [(f, v)]) a = none := by rw [upd_ne (Ne.symm hne)]; exact na
  obtain ⟨r3, e3⟩ := r2.allocZ na' (exo a C (some dx))
  refine q _ _ _ _ (e2.trans e3) r3 ?_
  unfold Rep
  refine ⟨a, C, some dx, [v], rfl, hC, upd_same, .inr ⟨dx, rfl, ?_⟩, rfl, .cons (rt.ext (e2.trans e3)) .nil⟩
  rw [upd_ne hne, upd_same]
  rfl
theorem se_mkX {k j : Nat} {c f : Str} {e : Expr} {fe : EF} {p pos : Pos} (ck : Cok X W k) (D : XvOk X.prog X.w X.K X.mg X.base j c f) (ha : SE X W e fe) (hj : j + 1 ≤ k := by decide)
    (hg : Gl X c := by rfl) (hdb : (c == ("__debug__" : Str)) = false := by decide) (he : starEach [e] X.env = (false, eval e X.env) :: starEach [] X.env := by rfl) (hpl : (backTo pos (starEach [] X.env)).any (·.1) = false := by rfl) :
    SE X W (.Call (.Name c p) [e] [] pos) (eMkX c f fe) := by
  obtain ⟨C, fI, fd, ps, hC, hm, T, hno, iC, tI, hF, hb, _, _⟩ := D.ok
  have pk := pe_mkV (e := e) (es := []) (p := p) (pos := pos) T iC tI hF (ck.room.mono hj) hb passL hg hm (sa_cons ha sa_nil he).pa hdb he hpl
  refine ⟨pe_imp pk fun σ H Q ⟨Φ, Z, ρ, env, m, F, q⟩ => ?_⟩
  refine ⟨Φ, Z, ρ, env, m, F, ?_⟩
  unfold eMkX at q
  unfold lCons lNil
  cases ef : fe env m with
  | no => rw [ef] at q; exact q.elim
  | ex C ns vs m1 => rw [ef] at q; exact q
  | ok t m1 =>
    rw [ef] at q
    intro Z1 ρ1 H1 vs e1 r1 rs
    unfold Reps at rs
    obtain ⟨v, us, rfl, rv, rn⟩ := rs
    unfold Reps at rn
    subst rn
    exact ⟨Nat.le_of_ble_eq_true rfl, spX_new hC T hno r1 rv fun Z' ρ' H' u e2 r2 ru => q Z' ρ' H' u (e1.trans e2) r2 ru⟩
theorem se_mkXK {k j : Nat} {c f : Str} {e : Expr} {fe : EF} {p p' pos : Pos} (ck : Cok X W k) (D : XvOk X.prog X.w X.K X.mg X.base j c f) (ha : SE X W e fe) (hj : j + 1 ≤ k := by decide)
    (hg : Gl X c := by rfl) (hdb : (c == ("__debug__" : Str)) = false := by decide) (hall : (backToKw pos (keywordEach [⟨some f, e, p'⟩] X.env)).all (·.1.isSome) = true := by rfl) (hks : (backToKw pos (keywordEach [⟨some f, e, p'⟩] X.env)).filterMap (·.1) = [f] := by rfl) :
    SE X W (.Call (.Name c p) [] [⟨some f, e, p'⟩] pos) (eMkX c f fe) := by
  obtain ⟨C, fI, fd, ps, hC, hm, T, hno, iC, tI, hF, _, hb, _⟩ := D.ok
  have pk := pe_mkVK (e := e) (p := p) (p' := p') (pos := pos) T iC tI hF (ck.room.mono hj) hb passL hg hm (pk_cons ha.pe pk_nil) hdb hall hks
  refine ⟨pe_imp pk fun σ H Q ⟨Φ, Z, ρ, env, m, F, q⟩ => ?_⟩
  refine ⟨Φ, Z, ρ, env, m, F, ?_⟩
  unfold eMkX at q
  cases ef : fe env m with
  | no => rw [ef] at q; exact q.elim
  | ex C ns vs m1 => rw [ef] at q; exact q
  | ok t m1 =>
    rw [ef] at q
    intro Z1 ρ1 H1 v e1 r1 rv
    exact ⟨⟨v, rfl⟩, spX_new hC T hno r1 rv fun Z' ρ' H' u e2 r2 ru => q Z' ρ' H' u (e1.trans e2) r2 ru⟩
def eMk0 (c : Str) : EF := fun _ m => .ok (.exc c [] []) m
theorem se_mk0 {c : Str} {p pos : Pos} (D : X0Ok X.K X.mg c) (hg : Gl X c := by rfl) (hdb : (c == ("__debug__" : Str)) = false := by decide) : SE X W (.Call (.Name c p) [] [] pos) (eMk0 c) := by
  obtain ⟨C, hC, hm, T, iC⟩ := D.ok
  refine ⟨pe_imp (pe_mk0 T iC hg hm hdb) fun σ H Q ⟨Φ, Z, ρ, env, m, F, q⟩ => fun a na => ?_⟩
  obtain ⟨r3, e3⟩ := F.rel.allocZ na (exo a C none)
  refine q _ _ _ _ e3 r3 ?_
  unfold Rep
  exact ⟨a, C, none, [], rfl, hC, upd_same, .inl ⟨rfl, rfl⟩, rfl, .nil⟩
/-- e.f, e an exception as a value -/
def eXf (c f : Str) (fe : EF) : EF := fun env m => (fe env m).bind fun t m1 => match t with
  | .exc d ns ts => if eqS d c then match fld f ns ts with
      | some u => .ok u m1
      | none => .no
    else .no
  | _ => .no
theorem se_xf {j : Nat} {c f : Str} {o : Expr} {fo : EF} {pos : Pos} (D : XvOk X.prog X.w X.K X.mg X.base j c f) (ho : SE X W o fo) (hab : attributeBase o f X.env (eval o X.env) = eval o X.env := by rfl) : SE X W (.Attribute o f pos) (eXf c f fo) := by
  obtain ⟨C, fI, fd, ps, hC, hm, T, hno, iC, tI, hF, _, hb, xf⟩ := D.ok
  refine ⟨pe_imp (pe_exf ho.pe hab) fun σ H Q ⟨Φ, Z, ρ, env, m, F, p⟩ => ?_⟩
  refine tr_bind (P := Post X.K W Φ Z ρ σ Q) F (fun x m1 Z1 ρ1 H1 vx _ e1 F1 rx p1 => ?_) (fun _ _ _ _ h => h) (fun h => h) p
  cases x with
  | exc d ns ts =>
    simp only at p1
    split at p1
    · rename_i hd
      have hd := eqS_iff.mp hd
      subst hd
      split at p1
      · rename_i u hu
        unfold Rep at rx
        obtain ⟨a, C', dd, vs, rfl, k', ha, hx, hl, rs⟩ := rx
        have := k'.inj hC
        subst this
        obtain ⟨v, h1, h2⟩ := fld_ok rs hu
        rcases hx with ⟨_, rfl⟩ | ⟨dx, rfl, hx⟩
        · simp [fld] at hu
        · exact ⟨a, C', dx, _, v, rfl, xf, hno, F1.rel.zin _ _ ha, F1.rel.zin _ _ hx, h1, p1 _ _ _ _ e1 F1.rel h2⟩
      · exact p1.elim
    · exact p1.elim
  | _ => exact p1.elim
/-! isinstance -/
inductive IsEs (K : PySem.W.Frag) (q : Str → Bool) (cv : Value) : List Str → List Addr → Prop
  | nil : IsEs K q cv [] []
  | cons {y : Str} {D : Addr} {ys : List Str} {Ds : List Addr} (h : CAt K y D ∧ OexC K D ∧ ExcC K D ∧ PySem.W.kitOne K (.ref D) cv = some (q y)) (t : IsEs K q cv ys Ds) : IsEs K q cv (y :: ys) (D :: Ds)
theorem IsEs.at {q : Str → Bool} {cv : Value} : ∀ {ys : List Str} {Ds : List Addr} {d : Str}, IsEs K q cv ys Ds → ys.any (eqS d) = true → ∃ D, CAt K d D ∧ OexC K D ∧ ExcC K D ∧ PySem.W.kitOne K (.ref D) cv = some (q d)
  | _, _, _, .nil, h => by cases h
  | y :: ys, D :: Ds, d, .cons h t, e => by
    rw [List.any_cons, Bool.or_eq_true] at e
    rcases e with e | e
    · rw [eqS_iff.mp e]; exact ⟨D, h⟩
    · exact t.at e
def IsE (K : PySem.W.Frag) (mg : Str → Option Value) (c : Str) (q : Str → Bool) (ys : List Str) : Prop := ∃ C, mg c = some (.ref C) ∧ ∃ Ds, IsEs K q (.ref C) ys Ds
def IsV (K : PySem.W.Frag) (n : String) (q : Str → Bool) (ys : List Str) : Prop := ∃ Ds, IsEs K q (.type n) ys Ds
def eIsE (q : Str → Bool) (ys : List Str) (fe : EF) : EF := fun env m => (fe env m).bind fun t m1 => match t with
  | .exc d _ _ => if ys.any (eqS d) then .ok (.bl (q d)) m1 else .no
  | _ => .no
theorem se_isG {q : Str → Bool} {ys : List Str} {Ds : List Addr} {cv : Value} {c : V} {cn : Str} {e : Expr} {f : EF} {p p2 pos : Pos} (he : SE X W e f) (cs : IsEs X.K q cv ys Ds) (kc : ClsV c cv) (pc : PE X (.Name cn p2) (tC c)) (hm : X.mg "isinstance" = none) (hg : Gl X "isinstance")
    (h1 : starEach [e, .Name cn p2] X.env = (false, eval e X.env) :: starEach [.Name cn p2] X.env) (h2 : starEach [.Name cn p2] X.env = (false, eval (.Name cn p2) X.env) :: starEach [] X.env) (hpl : (backTo pos (starEach [.Name cn p2] X.env)).any (·.1) = false) :
    SE X W (.Call (.Name "isinstance" p) [e, .Name cn p2] [] pos) (eIsE q ys f) := by
  refine ⟨pe_imp (pe_callB call_isO hg hm (by decide +kernel) (pa_cons he.pe (pa_cons pc pa_nil h2) h1) (by decide) (by decide) h1 hpl) fun σ H Q ⟨Φ, Z, ρ, env, m, F, p⟩ => ?_⟩
  refine tr_bind (P := Post X.K W Φ Z ρ σ Q) F (fun x m1 Z1 ρ1 H1 vx _ e1 F1 rx p1 => ?_) (fun _ _ _ _ h => h) (fun h => h) p
  cases x with
  | exc d ns ts =>
    simp only at p1
    split at p1
    · rename_i hy
      unfold Rep at rx
      obtain ⟨a, C', dd, vs, rfl, k', ha, hx, hl, rs⟩ := rx
      obtain ⟨D, hD, f0, f1, f2⟩ := cs.at hy
      have := k'.inj hD
      subst this
      refine ⟨a, C', dd, c, cv, q d, rfl, kc, F1.rel.zin _ _ ha, ?_, f0, f1, f2, p1 _ _ _ _ e1 F1.rel rep_bl⟩
      rcases hx with ⟨rfl, _⟩ | ⟨dx, rfl, hx⟩
      · exact .inl rfl
      · exact .inr ⟨dx, _, rfl, F1.rel.zin _ _ hx⟩
    · exact p1.elim
  | _ => exact p1.elim
theorem se_isE {c : Str} {q : Str → Bool} {ys : List Str} {e : Expr} {f : EF} {p p2 pos : Pos} (he : SE X W e f) (I : IsE X.K X.mg c q ys) (hm : X.mg "isinstance" = none) (hg : Gl X "isinstance" := by rfl) (hgc : Gl X c := by rfl) (hd : (c == ("__debug__" : Str)) = false := by decide)
    (h1 : starEach [e, .Name c p2] X.env = (false, eval e X.env) :: starEach [.Name c p2] X.env := by rfl) (h2 : starEach [.Name c p2] X.env = (false, eval (.Name c p2) X.env) :: starEach [] X.env := by rfl) (hpl : (backTo pos (starEach [.Name c p2] X.env)).any (·.1) = false := by rfl) :
    SE X W (.Call (.Name "isinstance" p) [e, .Name c p2] [] pos) (eIsE q ys f) := by
  obtain ⟨C, hmg, Ds, cs⟩ := I
  exact se_isG he cs (.own C) (C8.pe_gc hgc ⟨_, hmg, rfl⟩ hd) hm hg h1 h2 hpl
theorem se_isV {c : Str} {n : String} {q : Str → Bool} {ys : List Str} {e : Expr} {f : EF} {p p2 pos : Pos} (he : SE X W e f) (I : IsV X.K n q ys) (hv : X.mg c = none) (hbv : bootBuiltins c = some (.type n)) (hm : X.mg "isinstance" = none) (hg : Gl X "isinstance" := by rfl) (hgc : Gl X c := by rfl) (hn : c ≠ "__name__" := by decide) (hd : (c == ("__debug__" : Str)) = false := by decide)
    (h1 : starEach [e, .Name c p2] X.env = (false, eval e X.env) :: starEach [.Name c p2] X.env := by rfl) (h2 : starEach [.Name c p2] X.env = (false, eval (.Name c p2) X.env) :: starEach [] X.env := by rfl) (hpl : (backTo pos (starEach [.Name c p2] X.env)).any (·.1) = false := by rfl) :
    SE X W (.Call (.Name "isinstance" p) [e, .Name c p2] [] pos) (eIsE q ys f) := by
  obtain ⟨Ds, cs⟩ := I
  exact se_isG he cs (.ty n) (pe_bltn (v := .ty n) hgc hv hbv rfl hn hd) hm hg h1 h2 hpl
end
end Ev

/-! The text of the program by places, and what each def of it means on values. -/
namespace G
open PySem L2 Ev
def ksl : List Str := []
def xsl : List Str := ["BadBook", "BadBranch", "BadKind", "BadName", "BadPart", "BadState", "BadText", "Below", "HasParts", "LastPart", "NoDeed", "NoMark", "NoParts", "NoTask", "Taken", "TopTask", "UnknownKind"]
def q_BadBook (d : Str) : Bool := (["BadBook"] : List Str).any (eqS d)
def q_BadBranch (d : Str) : Bool := (["BadBranch"] : List Str).any (eqS d)
def q_BadKind (d : Str) : Bool := (["BadKind"] : List Str).any (eqS d)
def q_BadName (d : Str) : Bool := (["BadName"] : List Str).any (eqS d)
def q_BadPart (d : Str) : Bool := (["BadPart"] : List Str).any (eqS d)
def q_BadState (d : Str) : Bool := (["BadState"] : List Str).any (eqS d)
def q_BadText (d : Str) : Bool := (["BadText"] : List Str).any (eqS d)
def q_Below (d : Str) : Bool := (["Below"] : List Str).any (eqS d)
def q_HasParts (d : Str) : Bool := (["HasParts"] : List Str).any (eqS d)
def q_LastPart (d : Str) : Bool := (["LastPart"] : List Str).any (eqS d)
def q_NoDeed (d : Str) : Bool := (["NoDeed"] : List Str).any (eqS d)
def q_NoMark (d : Str) : Bool := (["NoMark"] : List Str).any (eqS d)
def q_NoParts (d : Str) : Bool := (["NoParts"] : List Str).any (eqS d)
def q_NoTask (d : Str) : Bool := (["NoTask"] : List Str).any (eqS d)
def q_PartsError (d : Str) : Bool := (["BadBook", "BadBranch", "BadKind", "BadName", "BadPart", "BadState", "BadText", "Below", "HasParts", "LastPart", "NoDeed", "NoMark", "NoParts", "NoTask", "Taken", "TopTask", "UnknownKind"] : List Str).any (eqS d)
def q_Taken (d : Str) : Bool := (["Taken"] : List Str).any (eqS d)
def q_TopTask (d : Str) : Bool := (["TopTask"] : List Str).any (eqS d)
def q_UnknownKind (d : Str) : Bool := (["UnknownKind"] : List Str).any (eqS d)
def q_ValueError (d : Str) : Bool := (["BadBook", "BadBranch", "BadKind", "BadName", "BadPart", "BadState", "BadText", "Below", "HasParts", "LastPart", "NoDeed", "NoMark", "NoParts", "NoTask", "Taken", "TopTask", "UnknownKind"] : List Str).any (eqS d)
def top (i : Nat) : Stmt := PySem.Challenge.pw_partstold_k19_errors_made.main.body.getD i (.Pass ⟨0, 0, 0, 0⟩)
abbrev s__law_draw : Stmt := top 21
abbrev s__law_kinds : Stmt := top 23
abbrev s_BadBook___init__ : Stmt := inClass (top 3) 0
abbrev s_BadBranch___init__ : Stmt := inClass (top 6) 0
abbrev s_BadKind___init__ : Stmt := inClass (top 2) 0
abbrev s_BadName___init__ : Stmt := inClass (top 8) 0
abbrev s_BadPart___init__ : Stmt := inClass (top 11) 0
abbrev s_BadState___init__ : Stmt := inClass (top 7) 0
abbrev s_BadText___init__ : Stmt := inClass (top 4) 0
abbrev s_Below___init__ : Stmt := inClass (top 17) 0
abbrev s_HasParts___init__ : Stmt := inClass (top 12) 0
abbrev s_LastPart___init__ : Stmt := inClass (top 16) 0
abbrev s_NoMark___init__ : Stmt := inClass (top 14) 0
abbrev s_NoParts___init__ : Stmt := inClass (top 13) 0
abbrev s_NoTask___init__ : Stmt := inClass (top 10) 0
abbrev s_Taken___init__ : Stmt := inClass (top 9) 0
abbrev s_TopTask___init__ : Stmt := inClass (top 15) 0
abbrev s_UnknownKind___init__ : Stmt := inClass (top 5) 0
abbrev s__law_made : Stmt := top 24
abbrev s__law_pick : Stmt := top 22
abbrev s__law_source : Stmt := top 20
abbrev s_law : Stmt := top 25
def B__law_draw : SF := (sSeq (sSetIx (e2 (gAdd false) (e2 gIx (eVar 0) (eC (.int 2))) (eC (.int 1))) (eVar 0) (eC (.int 2)))
    (sSeq (sIf (bV (e2 gGt (e2 gIx (eVar 0) (eC (.int 0))) (eC (.int 1)))) (sSeq (sOf (e2 gMod (eOfL gIntA (lCons (e2 gIx (eVar 0) (eC (.int 0))) lNil)) (eVar 1)) fun t env m => .nx (env.set 2 (some t)) m)
    (sSeq (sSetIx (e2 gDiv (e2 gIx (eVar 0) (eC (.int 0))) (eVar 1)) (eVar 0) (eC (.int 0)))
    (sOf (eVar 2) fun t _ m => .rt t m))) sNil)
    (sSeq (sOf (e2 gMod (e2 gPow (e2 (gAdd false) (e2 gIx (eVar 0) (eC (.int 1))) (e2 (gMul false) (eC (.int 7919)) (e2 gIx (eVar 0) (eC (.int 2))))) (eC (.int 5))) (eC (.int 2147483629))) fun t env m => .nx (env.set 3 (some t)) m)
    (sOf (e2 gMod (e2 gMod (e2 gPow (e2 (gAdd false) (e2 (gAdd false) (e2 (gMul false) (eVar 3) (eC (.int 48271))) (e2 (gMul false) (e2 (gMul false) (eC (.int 16807)) (e2 gIx (eVar 0) (eC (.int 2)))) (e2 gIx (eVar 0) (eC (.int 2))))) (eC (.int 11))) (eC (.int 3))) (eC (.int 1000000007))) (eVar 1)) fun t _ m => .rt t m))))
def F__law_draw : FS := fnOf 4 B__law_draw
def B__law_kinds : SF := (sSeq (sOf (eOfL (gLstL false) (lCons (eIsE q_BadKind xsl (eVar 0)) (lCons (eIsE q_BadBook xsl (eVar 0)) (lCons (eIsE q_BadText xsl (eVar 0)) (lCons (eIsE q_UnknownKind xsl (eVar 0)) lNil))))) fun t env m => .nx (env.set 1 (some t)) m)
    (sSeq (sOf (e2 (gAdd false) (eVar 1) (eOfL (gLstL false) (lCons (eIsE q_BadBranch xsl (eVar 0)) (lCons (eIsE q_BadState xsl (eVar 0)) (lCons (eIsE q_BadName xsl (eVar 0)) (lCons (eIsE q_Taken xsl (eVar 0)) lNil)))))) fun t env m => .nx (env.set 1 (some t)) m)
    (sSeq (sOf (e2 (gAdd false) (eVar 1) (eOfL (gLstL false) (lCons (eIsE q_NoTask xsl (eVar 0)) (lCons (eIsE q_BadPart xsl (eVar 0)) (lCons (eIsE q_HasParts xsl (eVar 0)) (lCons (eIsE q_NoParts xsl (eVar 0)) lNil)))))) fun t env m => .nx (env.set 1 (some t)) m)
    (sSeq (sOf (e2 (gAdd false) (eVar 1) (eOfL (gLstL false) (lCons (eIsE q_NoMark xsl (eVar 0)) (lCons (eIsE q_TopTask xsl (eVar 0)) (lCons (eIsE q_LastPart xsl (eVar 0)) (lCons (eIsE q_Below xsl (eVar 0)) lNil)))))) fun t env m => .nx (env.set 1 (some t)) m)
    (sOf (e2 (gAdd false) (eVar 1) (eOfL (gLstL false) (lCons (eIsE q_NoDeed xsl (eVar 0)) lNil))) fun t _ m => .rt t m)))))
def F__law_kinds : FS := fnOf 2 B__law_kinds
def B__law_made : SF := (sSeq (sOf (eOfL (gLstL true) (lCons (eOfL gTupL (lCons (eMkX "BadKind" "place" (eVar 0)) (lCons (eMkX "BadKind" "place" (eVar 0)) (lCons (eXf "BadKind" "place" (eMkX "BadKind" "place" (eVar 0))) (lCons (eXf "BadKind" "place" (eMkX "BadKind" "place" (eVar 0))) lNil))))) lNil)) fun t env m => .nx (env.set 1 (some t)) m)
    (sSeq (sOf (eMeth "list" gAppend (eVar 1) (lCons (eOfL gTupL (lCons (eMkX "BadBook" "place" (eVar 0)) (lCons (eMkX "BadBook" "place" (eVar 0)) (lCons (eXf "BadBook" "place" (eMkX "BadBook" "place" (eVar 0))) (lCons (eXf "BadBook" "place" (eMkX "BadBook" "place" (eVar 0))) lNil))))) lNil)) fun _ env m => .nx env m)
    (sSeq (sOf (eMeth "list" gAppend (eVar 1) (lCons (eOfL gTupL (lCons (eMkX "BadText" "line" (eVar 0)) (lCons (eMkX "BadText" "line" (eVar 0)) (lCons (eXf "BadText" "line" (eMkX "BadText" "line" (eVar 0))) (lCons (eXf "BadText" "line" (eMkX "BadText" "line" (eVar 0))) lNil))))) lNil)) fun _ env m => .nx env m)
    (sSeq (sOf (eMeth "list" gAppend (eVar 1) (lCons (eOfL gTupL (lCons (eMkX "UnknownKind" "kind" (eVar 0)) (lCons (eMkX "UnknownKind" "kind" (eVar 0)) (lCons (eXf "UnknownKind" "kind" (eMkX "UnknownKind" "kind" (eVar 0))) (lCons (eXf "UnknownKind" "kind" (eMkX "UnknownKind" "kind" (eVar 0))) lNil))))) lNil)) fun _ env m => .nx env m)
    (sSeq (sOf (eMeth "list" gAppend (eVar 1) (lCons (eOfL gTupL (lCons (eMkX "BadBranch" "path" (eVar 0)) (lCons (eMkX "BadBranch" "path" (eVar 0)) (lCons (eXf "BadBranch" "path" (eMkX "BadBranch" "path" (eVar 0))) (lCons (eXf "BadBranch" "path" (eMkX "BadBranch" "path" (eVar 0))) lNil))))) lNil)) fun _ env m => .nx env m)
    (sSeq (sOf (eMeth "list" gAppend (eVar 1) (lCons (eOfL gTupL (lCons (eMkX "BadState" "state" (eVar 0)) (lCons (eMkX "BadState" "state" (eVar 0)) (lCons (eXf "BadState" "state" (eMkX "BadState" "state" (eVar 0))) (lCons (eXf "BadState" "state" (eMkX "BadState" "state" (eVar 0))) lNil))))) lNil)) fun _ env m => .nx env m)
    (sSeq (sOf (eMeth "list" gAppend (eVar 1) (lCons (eOfL gTupL (lCons (eMkX "BadName" "name" (eVar 0)) (lCons (eMkX "BadName" "name" (eVar 0)) (lCons (eXf "BadName" "name" (eMkX "BadName" "name" (eVar 0))) (lCons (eXf "BadName" "name" (eMkX "BadName" "name" (eVar 0))) lNil))))) lNil)) fun _ env m => .nx env m)
    (sSeq (sOf (eMeth "list" gAppend (eVar 1) (lCons (eOfL gTupL (lCons (eMkX "Taken" "name" (eVar 0)) (lCons (eMkX "Taken" "name" (eVar 0)) (lCons (eXf "Taken" "name" (eMkX "Taken" "name" (eVar 0))) (lCons (eXf "Taken" "name" (eMkX "Taken" "name" (eVar 0))) lNil))))) lNil)) fun _ env m => .nx env m)
    (sSeq (sOf (eMeth "list" gAppend (eVar 1) (lCons (eOfL gTupL (lCons (eMkX "NoTask" "name" (eVar 0)) (lCons (eMkX "NoTask" "name" (eVar 0)) (lCons (eXf "NoTask" "name" (eMkX "NoTask" "name" (eVar 0))) (lCons (eXf "NoTask" "name" (eMkX "NoTask" "name" (eVar 0))) lNil))))) lNil)) fun _ env m => .nx env m)
    (sSeq (sOf (eMeth "list" gAppend (eVar 1) (lCons (eOfL gTupL (lCons (eMkX "BadPart" "kind" (eVar 0)) (lCons (eMkX "BadPart" "kind" (eVar 0)) (lCons (eXf "BadPart" "kind" (eMkX "BadPart" "kind" (eVar 0))) (lCons (eXf "BadPart" "kind" (eMkX "BadPart" "kind" (eVar 0))) lNil))))) lNil)) fun _ env m => .nx env m)
    (sSeq (sOf (eMeth "list" gAppend (eVar 1) (lCons (eOfL gTupL (lCons (eMkX "HasParts" "name" (eVar 0)) (lCons (eMkX "HasParts" "name" (eVar 0)) (lCons (eXf "HasParts" "name" (eMkX "HasParts" "name" (eVar 0))) (lCons (eXf "HasParts" "name" (eMkX "HasParts" "name" (eVar 0))) lNil))))) lNil)) fun _ env m => .nx env m)
    (sSeq (sOf (eMeth "list" gAppend (eVar 1) (lCons (eOfL gTupL (lCons (eMkX "NoParts" "name" (eVar 0)) (lCons (eMkX "NoParts" "name" (eVar 0)) (lCons (eXf "NoParts" "name" (eMkX "NoParts" "name" (eVar 0))) (lCons (eXf "NoParts" "name" (eMkX "NoParts" "name" (eVar 0))) lNil))))) lNil)) fun _ env m => .nx env m)
    (sSeq (sOf (eMeth "list" gAppend (eVar 1) (lCons (eOfL gTupL (lCons (eMkX "NoMark" "name" (eVar 0)) (lCons (eMkX "NoMark" "name" (eVar 0)) (lCons (eXf "NoMark" "name" (eMkX "NoMark" "name" (eVar 0))) (lCons (eXf "NoMark" "name" (eMkX "NoMark" "name" (eVar 0))) lNil))))) lNil)) fun _ env m => .nx env m)
    (sSeq (sOf (eMeth "list" gAppend (eVar 1) (lCons (eOfL gTupL (lCons (eMkX "TopTask" "name" (eVar 0)) (lCons (eMkX "TopTask" "name" (eVar 0)) (lCons (eXf "TopTask" "name" (eMkX "TopTask" "name" (eVar 0))) (lCons (eXf "TopTask" "name" (eMkX "TopTask" "name" (eVar 0))) lNil))))) lNil)) fun _ env m => .nx env m)
    (sSeq (sOf (eMeth "list" gAppend (eVar 1) (lCons (eOfL gTupL (lCons (eMkX "LastPart" "name" (eVar 0)) (lCons (eMkX "LastPart" "name" (eVar 0)) (lCons (eXf "LastPart" "name" (eMkX "LastPart" "name" (eVar 0))) (lCons (eXf "LastPart" "name" (eMkX "LastPart" "name" (eVar 0))) lNil))))) lNil)) fun _ env m => .nx env m)
    (sSeq (sOf (eMeth "list" gAppend (eVar 1) (lCons (eOfL gTupL (lCons (eMkX "Below" "name" (eVar 0)) (lCons (eMkX "Below" "name" (eVar 0)) (lCons (eXf "Below" "name" (eMkX "Below" "name" (eVar 0))) (lCons (eXf "Below" "name" (eMkX "Below" "name" (eVar 0))) lNil))))) lNil)) fun _ env m => .nx env m)
    (sFrz 1 (sOf (eVar 1) fun t _ m => .rt t m))))))))))))))))))
def F__law_made : FS := fnOf 2 B__law_made
def B__law_pick : SF := (sOf (e2 gIx (eVar 1) (eCall 2 F__law_draw (lCons (eVar 0) (lCons (eOfL gLen (lCons (eVar 1) lNil)) lNil)))) fun t _ m => .rt t m)
def F__law_pick : FS := fnOf 2 B__law_pick
def B__law_source : SF := (sSeq (sAsg (eOfL gTupL (lCons (eC (.int 0)) (lCons (eC (.int 17)) lNil))) (gT 2 (gsCons (gN 1) (gsCons (gN 2) gsNil))))
    (sSeq (sFor (iVal (eVar 0)) (gN 3) (sSeq (sIf (bAnd (bV (e2 gEq (eVar 1) (eC (.int 0)))) (bV (e2 gGe (eVar 3) (e2 gPow (eC (.int 10)) (eC (.int 18)))))) (sOf (eVar 3) fun t env m => .nx (env.set 1 (some t)) m) sNil)
    (sOf (e2 gMod (eOfL gIntA (lCons (e2 (gAdd false) (e2 (gAdd false) (e2 (gMul false) (eVar 2) (eC (.int 31))) (eVar 3)) (eC (.int 7))) lNil)) (eC (.int 2147483647))) fun t env m => .nx (env.set 2 (some t)) m)))
    (sOf (eOfL (gLstL true) (lCons (eVar 1) (lCons (eVar 2) (lCons (eC (.int 0)) lNil)))) fun t _ m => .rt t m)))
def F__law_source : FS := fnOf 4 B__law_source
def B_law : SF := (sSeq (sOf (eCall 1 F__law_source (lCons (eVar 0) lNil)) fun t env m => .nx (env.set 1 (some t)) m)
    (sSeq (sOf (eCall 2 F__law_pick (lCons (eVar 1) (lCons (eOfL (gLstL false) (lCons (e2 gSub (eCall 2 F__law_draw (lCons (eVar 1) (lCons (eC (.int 100)) lNil))) (eC (.int 50))) (lCons (eC (.str "a b")) (lCons (eC (.str "")) (lCons (eOfL gTupL (lCons (eC (.int 1)) (lCons (eC (.int 2)) lNil))) (lCons (eC .non) (lCons (eC (.bl true)) (lCons (e2 gPow (eC (.int 10)) (eC (.int 40))) (lCons (eOfL gTupL lNil) lNil))))))))) lNil))) fun t env m => .nx (env.set 2 (some t)) m)
    (sSeq (sFor (iEnumA (lCons (eCall 1 F__law_made (lCons (eVar 2) lNil)) lNil)) (gT 2 (gsCons (gN 3) (gsCons (gT 4 (gsCons (gN 4) (gsCons (gN 5) (gsCons (gN 6) (gsCons (gN 7) gsNil))))) gsNil))) (sSeq (sIf (bOr (bV (e2 gNe (eVar 6) (eVar 2))) (bOr (bV (e2 gNe (eVar 7) (eVar 2))) (bV (e2 gNe (eOfL gIsi (lCons (eVar 6) (lCons (eC (.ty "bool")) lNil))) (eOfL gIsi (lCons (eVar 2) (lCons (eC (.ty "bool")) lNil))))))) (sOf (eC (.bl false)) fun t _ m => .rt t m) sNil)
    (sFor (iVal (eOfL gTupL (lCons (eVar 4) (lCons (eVar 5) lNil)))) (gN 8) (sSeq (sIf (bOr (bV (e2 gNe (eCall 1 F__law_kinds (lCons (eVar 8) lNil)) (eComp false [9] (iRange (lCons (eC (.int 17)) lNil)) (gN 9) bYes (e2 gEq (eVar 9) (eVar 3))))) (bNot (bV (eIsE q_PartsError xsl (eVar 8))))) (sOf (eC (.bl false)) fun t _ m => .rt t m) sNil)
    (sIf (bNot (bV (eIsE q_ValueError xsl (eVar 8)))) (sOf (eC (.bl false)) fun t _ m => .rt t m) sNil)))))
    (sSeq (sOf (eMk0 "NoDeed") fun t env m => .nx (env.set 8 (some t)) m)
    (sOf (eAnd (e2 gEq (eCall 1 F__law_kinds (lCons (eVar 8) lNil)) (e2 (gAdd false) (e2 (gMul false) (eOfL (gLstL false) (lCons (eC (.bl false)) lNil)) (eC (.int 16))) (eOfL (gLstL false) (lCons (eC (.bl true)) lNil)))) (eAnd (eIsE q_PartsError xsl (eVar 8)) (eIsE q_ValueError xsl (eVar 8)))) fun t _ m => .rt t m)))))
def F_law : FS := fnOf 10 B_law
structure Txt (K : PySem.W.Frag) (mg : Str → Option Value) : Prop where
  n_ValueError : mg "ValueError" = none
  n_bool : mg "bool" = none
  n_enumerate : mg "enumerate" = none
  n_int : mg "int" = none
  n_isinstance : mg "isinstance" = none
  n_len : mg "len" = none
  n_range : mg "range" = none
  x0_NoDeed : X0Ok K mg "NoDeed"
  xt_BadBook : IsE K mg "BadBook" q_BadBook xsl
  xt_BadBranch : IsE K mg "BadBranch" q_BadBranch xsl
  xt_BadKind : IsE K mg "BadKind" q_BadKind xsl
  xt_BadName : IsE K mg "BadName" q_BadName xsl
  xt_BadPart : IsE K mg "BadPart" q_BadPart xsl
  xt_BadState : IsE K mg "BadState" q_BadState xsl
  xt_BadText : IsE K mg "BadText" q_BadText xsl
  xt_Below : IsE K mg "Below" q_Below xsl
  xt_HasParts : IsE K mg "HasParts" q_HasParts xsl
  xt_LastPart : IsE K mg "LastPart" q_LastPart xsl
  xt_NoDeed : IsE K mg "NoDeed" q_NoDeed xsl
  xt_NoMark : IsE K mg "NoMark" q_NoMark xsl
  xt_NoParts : IsE K mg "NoParts" q_NoParts xsl
  xt_NoTask : IsE K mg "NoTask" q_NoTask xsl
  xt_PartsError : IsE K mg "PartsError" q_PartsError xsl
  xt_Taken : IsE K mg "Taken" q_Taken xsl
  xt_TopTask : IsE K mg "TopTask" q_TopTask xsl
  xt_UnknownKind : IsE K mg "UnknownKind" q_UnknownKind xsl
  xb_ValueError : IsV K "ValueError" q_ValueError xsl
section
variable [Wrl]
variable {P : Program} {w : World} {K : PySem.W.Frag} {mg : Str → Option Value} {base : Heap}
abbrev N__law_draw : List Str := ["_law_source_here", "_law_many", "_law_digit", "_law_mixed"]
theorem sc__law_draw : FnScope N__law_draw ["_law_source_here", "_law_many"] (defScope s__law_draw) := ⟨rfl, rfl, rfl, by decide +kernel, rfl, by decide +kernel, by decide +kernel⟩
theorem fn__law_draw {f : Addr} {fd : FuncData} (hw : HereP P w) (Fn : Fun K "_law_draw" "_law_draw" s__law_draw f fd) (T : Txt K mg)  : FnOk P w K mg base (L2.CX P w) 1 f fd ["_law_source_here", "_law_many"] (spF K 2 F__law_draw) :=
  fn_okE hw Fn sc__law_draw (fun cdv A outer s H E c => (show SSs _ _ _ B__law_draw from (sss_cons (ss_setIx (se_op op_addA sem_add (se_ix (ix_all c.hu) sem_ix (se_var 0) se_int) se_int) (se_var 0) se_int)
    (sss_cons (ss_if (sb_cmp op_gtA sem_ord (se_ix (ix_all c.hu) sem_ix (se_var 0) se_int) se_int) (sss_cons (ss_set 2 c (se_op op_mod sem_mod (se_callTy call_int1 sem_intA T.n_int (sa_cons (se_ix (ix_all c.hu) sem_ix (se_var 0) se_int) sa_nil)) (se_var 1)))
    (sss_cons (ss_setIx (se_op op_fdiv sem_div (se_ix (ix_all c.hu) sem_ix (se_var 0) se_int) (se_var 1)) (se_var 0) se_int)
    (sss_one (ss_ret (se_var 2))))) sss_nil)
    (sss_cons (ss_set 3 c (se_op op_mod sem_mod (se_op op_pow sem_pow (se_op op_addA sem_add (se_ix (ix_all c.hu) sem_ix (se_var 0) se_int) (se_op op_mulA sem_mul se_int (se_ix (ix_all c.hu) sem_ix (se_var 0) se_int))) se_int) se_int))
    (sss_one (ss_ret (se_op op_mod sem_mod (se_op op_mod sem_mod (se_op op_pow sem_pow (se_op op_addA sem_add (se_op op_addA sem_add (se_op op_mulA sem_mul (se_var 3) se_int) (se_op op_mulA sem_mul (se_op op_mulA sem_mul se_int (se_ix (ix_all c.hu) sem_ix (se_var 0) se_int)) (se_ix (ix_all c.hu) sem_ix (se_var 0) se_int))) se_int) se_int) se_int) (se_var 1)))))))))
theorem bd__law_draw {f : Addr} {fd : FuncData} (Fn : Fun K "_law_draw" "_law_draw" s__law_draw f fd) : Binds K fd ["_law_source_here", "_law_many"] [] := Fn.binds fun _ _ _ _ _ _ us hl => match us, hl with | [_, _], _ => rfl
abbrev N__law_kinds : List Str := ["_law_e", "_law_found"]
theorem sc__law_kinds : FnScope N__law_kinds ["_law_e"] (defScope s__law_kinds) := ⟨rfl, rfl, rfl, by decide +kernel, rfl, by decide +kernel, by decide +kernel⟩
theorem fn__law_kinds {f : Addr} {fd : FuncData} (hw : HereP P w) (Fn : Fun K "_law_kinds" "_law_kinds" s__law_kinds f fd) (T : Txt K mg)  : FnOk P w K mg base (L2.CX P w) 1 f fd ["_law_e"] (spF K 1 F__law_kinds) :=
  fn_okE hw Fn sc__law_kinds (fun cdv A outer s H E c => (show SSs _ _ _ B__law_kinds from (sss_cons (ss_set 1 c (se_lst false (sa_cons (se_isE (se_var 0) T.xt_BadKind T.n_isinstance) (sa_cons (se_isE (se_var 0) T.xt_BadBook T.n_isinstance) (sa_cons (se_isE (se_var 0) T.xt_BadText T.n_isinstance) (sa_cons (se_isE (se_var 0) T.xt_UnknownKind T.n_isinstance) sa_nil))))))
    (sss_cons (ss_set 1 c (se_op op_addA sem_add (se_var 1) (se_lst false (sa_cons (se_isE (se_var 0) T.xt_BadBranch T.n_isinstance) (sa_cons (se_isE (se_var 0) T.xt_BadState T.n_isinstance) (sa_cons (se_isE (se_var 0) T.xt_BadName T.n_isinstance) (sa_cons (se_isE (se_var 0) T.xt_Taken T.n_isinstance) sa_nil)))))))
    (sss_cons (ss_set 1 c (se_op op_addA sem_add (se_var 1) (se_lst false (sa_cons (se_isE (se_var 0) T.xt_NoTask T.n_isinstance) (sa_cons (se_isE (se_var 0) T.xt_BadPart T.n_isinstance) (sa_cons (se_isE (se_var 0) T.xt_HasParts T.n_isinstance) (sa_cons (se_isE (se_var 0) T.xt_NoParts T.n_isinstance) sa_nil)))))))
    (sss_cons (ss_set 1 c (se_op op_addA sem_add (se_var 1) (se_lst false (sa_cons (se_isE (se_var 0) T.xt_NoMark T.n_isinstance) (sa_cons (se_isE (se_var 0) T.xt_TopTask T.n_isinstance) (sa_cons (se_isE (se_var 0) T.xt_LastPart T.n_isinstance) (sa_cons (se_isE (se_var 0) T.xt_Below T.n_isinstance) sa_nil)))))))
    (sss_one (ss_ret (se_op op_addA sem_add (se_var 1) (se_lst false (sa_cons (se_isE (se_var 0) T.xt_NoDeed T.n_isinstance) sa_nil)))))))))))
theorem bd__law_kinds {f : Addr} {fd : FuncData} (Fn : Fun K "_law_kinds" "_law_kinds" s__law_kinds f fd) : Binds K fd ["_law_e"] [] := Fn.binds fun _ _ _ _ _ _ us hl => match us, hl with | [_], _ => rfl
abbrev N_BadBook___init__ : List Str := ["self", "place"]
theorem sc_BadBook___init__ : FnScope N_BadBook___init__ ["self", "place"] (defScope s_BadBook___init__) := ⟨rfl, rfl, rfl, by decide +kernel, rfl, by decide +kernel, by decide +kernel⟩
theorem fn_BadBook___init__ {f : Addr} {fd : FuncData} (Fn : Fun K "__init__" "BadBook.__init__" s_BadBook___init__ f fd) : FnOk P w K mg base (L2.CX P w) 1 f fd ["self", "place"] (spX K "place") :=
  fn_okX Fn sc_BadBook___init__ rfl rfl (fun cdv A outer s H E => pss_one (ps_ost (pe_var rfl (.inl rfl)) (pe_var rfl (.inl rfl))))
theorem bd_BadBook___init__ {f : Addr} {fd : FuncData} (Fn : Fun K "__init__" "BadBook.__init__" s_BadBook___init__ f fd) : Binds K fd ["self", "place"] [] := Fn.binds fun _ _ _ _ _ _ us hl => match us, hl with | [_, _], _ => rfl
theorem kw_BadBook___init__ {f : Addr} {fd : FuncData} (Fn : Fun K "__init__" "BadBook.__init__" s_BadBook___init__ f fd) : ∀ (s : Shared) (u v : Value), K.In s.heap → BindsTo s fd ⟨[u], [("place", v)]⟩ ((["self", "place"] : List Str).zip [u, v]) := fun_kw Fn fun _ _ _ _ _ _ _ _ => rfl
abbrev N_BadBranch___init__ : List Str := ["self", "path"]
theorem sc_BadBranch___init__ : FnScope N_BadBranch___init__ ["self", "path"] (defScope s_BadBranch___init__) := ⟨rfl, rfl, rfl, by decide +kernel, rfl, by decide +kernel, by decide +kernel⟩
theorem fn_BadBranch___init__ {f : Addr} {fd : FuncData} (Fn : Fun K "__init__" "BadBranch.__init__" s_BadBranch___init__ f fd) : FnOk P w K mg base (L2.CX P w) 1 f fd ["self", "path"] (spX K "path") :=
  fn_okX Fn sc_BadBranch___init__ rfl rfl (fun cdv A outer s H E => pss_one (ps_ost (pe_var rfl (.inl rfl)) (pe_var rfl (.inl rfl))))
theorem bd_BadBranch___init__ {f : Addr} {fd : FuncData} (Fn : Fun K "__init__" "BadBranch.__init__" s_BadBranch___init__ f fd) : Binds K fd ["self", "path"] [] := Fn.binds fun _ _ _ _ _ _ us hl => match us, hl with | [_, _], _ => rfl
theorem kw_BadBranch___init__ {f : Addr} {fd : FuncData} (Fn : Fun K "__init__" "BadBranch.__init__" s_BadBranch___init__ f fd) : ∀ (s : Shared) (u v : Value), K.In s.heap → BindsTo s fd ⟨[u], [("path", v)]⟩ ((["self", "path"] : List Str).zip [u, v]) := fun_kw Fn fun _ _ _ _ _ _ _ _ => rfl
abbrev N_BadKind___init__ : List Str := ["self", "place"]
theorem sc_BadKind___init__ : FnScope N_BadKind___init__ ["self", "place"] (defScope s_BadKind___init__) := ⟨rfl, rfl, rfl, by decide +kernel, rfl, by decide +kernel, by decide +kernel⟩
theorem fn_BadKind___init__ {f : Addr} {fd : FuncData} (Fn : Fun K "__init__" "BadKind.__init__" s_BadKind___init__ f fd) : FnOk P w K mg base (L2.CX P w) 1 f fd ["self", "place"] (spX K "place") :=
  fn_okX Fn sc_BadKind___init__ rfl rfl (fun cdv A outer s H E => pss_one (ps_ost (pe_var rfl (.inl rfl)) (pe_var rfl (.inl rfl))))
theorem bd_BadKind___init__ {f : Addr} {fd : FuncData} (Fn : Fun K "__init__" "BadKind.__init__" s_BadKind___init__ f fd) : Binds K fd ["self", "place"] [] := Fn.binds fun _ _ _ _ _ _ us hl => match us, hl with | [_, _], _ => rfl
theorem kw_BadKind___init__ {f : Addr} {fd : FuncData} (Fn : Fun K "__init__" "BadKind.__init__" s_BadKind___init__ f fd) : ∀ (s : Shared) (u v : Value), K.In s.heap → BindsTo s fd ⟨[u], [("place", v)]⟩ ((["self", "place"] : List Str).zip [u, v]) := fun_kw Fn fun _ _ _ _ _ _ _ _ => rfl
abbrev N_BadName___init__ : List Str := ["self", "name"]
theorem sc_BadName___init__ : FnScope N_BadName___init__ ["self", "name"] (defScope s_BadName___init__) := ⟨rfl, rfl, rfl, by decide +kernel, rfl, by decide +kernel, by decide +kernel⟩
theorem fn_BadName___init__ {f : Addr} {fd : FuncData} (Fn : Fun K "__init__" "BadName.__init__" s_BadName___init__ f fd) : FnOk P w K mg base (L2.CX P w) 1 f fd ["self", "name"] (spX K "name") :=
  fn_okX Fn sc_BadName___init__ rfl rfl (fun cdv A outer s H E => pss_one (ps_ost (pe_var rfl (.inl rfl)) (pe_var rfl (.inl rfl))))
theorem bd_BadName___init__ {f : Addr} {fd : FuncData} (Fn : Fun K "__init__" "BadName.__init__" s_BadName___init__ f fd) : Binds K fd ["self", "name"] [] := Fn.binds fun _ _ _ _ _ _ us hl => match us, hl with | [_, _], _ => rfl
theorem kw_BadName___init__ {f : Addr} {fd : FuncData} (Fn : Fun K "__init__" "BadName.__init__" s_BadName___init__ f fd) : ∀ (s : Shared) (u v : Value), K.In s.heap → BindsTo s fd ⟨[u], [("name", v)]⟩ ((["self", "name"] : List Str).zip [u, v]) := fun_kw Fn fun _ _ _ _ _ _ _ _ => rfl
abbrev N_BadPart___init__ : List Str := ["self", "kind"]
theorem sc_BadPart___init__ : FnScope N_BadPart___init__ ["self", "kind"] (defScope s_BadPart___init__) := ⟨rfl, rfl, rfl, by decide +kernel, rfl, by decide +kernel, by decide +kernel⟩
theorem fn_BadPart___init__ {f : Addr} {fd : FuncData} (Fn : Fun K "__init__" "BadPart.__init__" s_BadPart___init__ f fd) : FnOk P w K mg base (L2.CX P w) 1 f fd ["self", "kind"] (spX K "kind") :=
  fn_okX Fn sc_BadPart___init__ rfl rfl (fun cdv A outer s H E => pss_one (ps_ost (pe_var rfl (.inl rfl)) (pe_var rfl (.inl rfl))))
theorem bd_BadPart___init__ {f : Addr} {fd : FuncData} (Fn : Fun K "__init__" "BadPart.__init__" s_BadPart___init__ f fd) : Binds K fd ["self", "kind"] [] := Fn.binds fun _ _ _ _ _ _ us hl => match us, hl with | [_, _], _ => rfl
theorem kw_BadPart___init__ {f : Addr} {fd : FuncData} (Fn : Fun K "__init__" "BadPart.__init__" s_BadPart___init__ f fd) : ∀ (s : Shared) (u v : Value), K.In s.heap → BindsTo s fd ⟨[u], [("kind", v)]⟩ ((["self", "kind"] : List Str).zip [u, v]) := fun_kw Fn fun _ _ _ _ _ _ _ _ => rfl
abbrev N_BadState___init__ : List Str := ["self", "state"]
theorem sc_BadState___init__ : FnScope N_BadState___init__ ["self", "state"] (defScope s_BadState___init__) := ⟨rfl, rfl, rfl, by decide +kernel, rfl, by decide +kernel, by decide +kernel⟩
theorem fn_BadState___init__ {f : Addr} {fd : FuncData} (Fn : Fun K "__init__" "BadState.__init__" s_BadState___init__ f fd) : FnOk P w K mg base (L2.CX P w) 1 f fd ["self", "state"] (spX K "state") :=
  fn_okX Fn sc_BadState___init__ rfl rfl (fun cdv A outer s H E => pss_one (ps_ost (pe_var rfl (.inl rfl)) (pe_var rfl (.inl rfl))))
theorem bd_BadState___init__ {f : Addr} {fd : FuncData} (Fn : Fun K "__init__" "BadState.__init__" s_BadState___init__ f fd) : Binds K fd ["self", "state"] [] := Fn.binds fun _ _ _ _ _ _ us hl => match us, hl with | [_, _], _ => rfl
theorem kw_BadState___init__ {f : Addr} {fd : FuncData} (Fn : Fun K "__init__" "BadState.__init__" s_BadState___init__ f fd) : ∀ (s : Shared) (u v : Value), K.In s.heap → BindsTo s fd ⟨[u], [("state", v)]⟩ ((["self", "state"] : List Str).zip [u, v]) := fun_kw Fn fun _ _ _ _ _ _ _ _ => rfl
abbrev N_BadText___init__ : List Str := ["self", "line"]
theorem sc_BadText___init__ : FnScope N_BadText___init__ ["self", "line"] (defScope s_BadText___init__) := ⟨rfl, rfl, rfl, by decide +kernel, rfl, by decide +kernel, by decide +kernel⟩
theorem fn_BadText___init__ {f : Addr} {fd : FuncData} (Fn : Fun K "__init__" "BadText.__init__" s_BadText___init__ f fd) : FnOk P w K mg base (L2.CX P w) 1 f fd ["self", "line"] (spX K "line") :=
  fn_okX Fn sc_BadText___init__ rfl rfl (fun cdv A outer s H E => pss_one (ps_ost (pe_var rfl (.inl rfl)) (pe_var rfl (.inl rfl))))
theorem bd_BadText___init__ {f : Addr} {fd : FuncData} (Fn : Fun K "__init__" "BadText.__init__" s_BadText___init__ f fd) : Binds K fd ["self", "line"] [] := Fn.binds fun _ _ _ _ _ _ us hl => match us, hl with | [_, _], _ => rfl
theorem kw_BadText___init__ {f : Addr} {fd : FuncData} (Fn : Fun K "__init__" "BadText.__init__" s_BadText___init__ f fd) : ∀ (s : Shared) (u v : Value), K.In s.heap → BindsTo s fd ⟨[u], [("line", v)]⟩ ((["self", "line"] : List Str).zip [u, v]) := fun_kw Fn fun _ _ _ _ _ _ _ _ => rfl
abbrev N_Below___init__ : List Str := ["self", "name"]
theorem sc_Below___init__ : FnScope N_Below___init__ ["self", "name"] (defScope s_Below___init__) := ⟨rfl, rfl, rfl, by decide +kernel, rfl, by decide +kernel, by decide +kernel⟩
theorem fn_Below___init__ {f : Addr} {fd : FuncData} (Fn : Fun K "__init__" "Below.__init__" s_Below___init__ f fd) : FnOk P w K mg base (L2.CX P w) 1 f fd ["self", "name"] (spX K "name") :=
  fn_okX Fn sc_Below___init__ rfl rfl (fun cdv A outer s H E => pss_one (ps_ost (pe_var rfl (.inl rfl)) (pe_var rfl (.inl rfl))))
theorem bd_Below___init__ {f : Addr} {fd : FuncData} (Fn : Fun K "__init__" "Below.__init__" s_Below___init__ f fd) : Binds K fd ["self", "name"] [] := Fn.binds fun _ _ _ _ _ _ us hl => match us, hl with | [_, _], _ => rfl
theorem kw_Below___init__ {f : Addr} {fd : FuncData} (Fn : Fun K "__init__" "Below.__init__" s_Below___init__ f fd) : ∀ (s : Shared) (u v : Value), K.In s.heap → BindsTo s fd ⟨[u], [("name", v)]⟩ ((["self", "name"] : List Str).zip [u, v]) := fun_kw Fn fun _ _ _ _ _ _ _ _ => rfl
abbrev N_HasParts___init__ : List Str := ["self", "name"]
theorem sc_HasParts___init__ : FnScope N_HasParts___init__ ["self", "name"] (defScope s_HasParts___init__) := ⟨rfl, rfl, rfl, by decide +kernel, rfl, by decide +kernel, by decide +kernel⟩
theorem fn_HasParts___init__ {f : Addr} {fd : FuncData} (Fn : Fun K "__init__" "HasParts.__init__" s_HasParts___init__ f fd) : FnOk P w K mg base (L2.CX P w) 1 f fd ["self", "name"] (spX K "name") :=
  fn_okX Fn sc_HasParts___init__ rfl rfl (fun cdv A outer s H E => pss_one (ps_ost (pe_var rfl (.inl rfl)) (pe_var rfl (.inl rfl))))
theorem bd_HasParts___init__ {f : Addr} {fd : FuncData} (Fn : Fun K "__init__" "HasParts.__init__" s_HasParts___init__ f fd) : Binds K fd ["self", "name"] [] := Fn.binds fun _ _ _ _ _ _ us hl => match us, hl with | [_, _], _ => rfl
theorem kw_HasParts___init__ {f : Addr} {fd : FuncData} (Fn : Fun K "__init__" "HasParts.__init__" s_HasParts___init__ f fd) : ∀ (s : Shared) (u v : Value), K.In s.heap → BindsTo s fd ⟨[u], [("name", v)]⟩ ((["self", "name"] : List Str).zip [u, v]) := fun_kw Fn fun _ _ _ _ _ _ _ _ => rfl
abbrev N_LastPart___init__ : List Str := ["self", "name"]
theorem sc_LastPart___init__ : FnScope N_LastPart___init__ ["self", "name"] (defScope s_LastPart___init__) := ⟨rfl, rfl, rfl, by decide +kernel, rfl, by decide +kernel, by decide +kernel⟩
theorem fn_LastPart___init__ {f : Addr} {fd : FuncData} (Fn : Fun K "__init__" "LastPart.__init__" s_LastPart___init__ f fd) : FnOk P w K mg base (L2.CX P w) 1 f fd ["self", "name"] (spX K "name") :=
  fn_okX Fn sc_LastPart___init__ rfl rfl (fun cdv A outer s H E => pss_one (ps_ost (pe_var rfl (.inl rfl)) (pe_var rfl (.inl rfl))))
theorem bd_LastPart___init__ {f : Addr} {fd : FuncData} (Fn : Fun K "__init__" "LastPart.__init__" s_LastPart___init__ f fd) : Binds K fd ["self", "name"] [] := Fn.binds fun _ _ _ _ _ _ us hl => match us, hl with | [_, _], _ => rfl
theorem kw_LastPart___init__ {f : Addr} {fd : FuncData} (Fn : Fun K "__init__" "LastPart.__init__" s_LastPart___init__ f fd) : ∀ (s : Shared) (u v : Value), K.In s.heap → BindsTo s fd ⟨[u], [("name", v)]⟩ ((["self", "name"] : List Str).zip [u, v]) := fun_kw Fn fun _ _ _ _ _ _ _ _ => rfl
abbrev N_NoMark___init__ : List Str := ["self", "name"]
theorem sc_NoMark___init__ : FnScope N_NoMark___init__ ["self", "name"] (defScope s_NoMark___init__) := ⟨rfl, rfl, rfl, by decide +kernel, rfl, by decide +kernel, by decide +kernel⟩
theorem fn_NoMark___init__ {f : Addr} {fd : FuncData} (Fn : Fun K "__init__" "NoMark.__init__" s_NoMark___init__ f fd) : FnOk P w K mg base (L2.CX P w) 1 f fd ["self", "name"] (spX K "name") :=
  fn_okX Fn sc_NoMark___init__ rfl rfl (fun cdv A outer s H E => pss_one (ps_ost (pe_var rfl (.inl rfl)) (pe_var rfl (.inl rfl))))
theorem bd_NoMark___init__ {f : Addr} {fd : FuncData} (Fn : Fun K "__init__" "NoMark.__init__" s_NoMark___init__ f fd) : Binds K fd ["self", "name"] [] := Fn.binds fun _ _ _ _ _ _ us hl => match us, hl with | [_, _], _ => rfl
theorem kw_NoMark___init__ {f : Addr} {fd : FuncData} (Fn : Fun K "__init__" "NoMark.__init__" s_NoMark___init__ f fd) : ∀ (s : Shared) (u v : Value), K.In s.heap → BindsTo s fd ⟨[u], [("name", v)]⟩ ((["self", "name"] : List Str).zip [u, v]) := fun_kw Fn fun _ _ _ _ _ _ _ _ => rfl
abbrev N_NoParts___init__ : List Str := ["self", "name"]
theorem sc_NoParts___init__ : FnScope N_NoParts___init__ ["self", "name"] (defScope s_NoParts___init__) := ⟨rfl, rfl, rfl, by decide +kernel, rfl, by decide +kernel, by decide +kernel⟩
theorem fn_NoParts___init__ {f : Addr} {fd : FuncData} (Fn : Fun K "__init__" "NoParts.__init__" s_NoParts___init__ f fd) : FnOk P w K mg base (L2.CX P w) 1 f fd ["self", "name"] (spX K "name") :=
  fn_okX Fn sc_NoParts___init__ rfl rfl (fun cdv A outer s H E => pss_one (ps_ost (pe_var rfl (.inl rfl)) (pe_var rfl (.inl rfl))))
theorem bd_NoParts___init__ {f : Addr} {fd : FuncData} (Fn : Fun K "__init__" "NoParts.__init__" s_NoParts___init__ f fd) : Binds K fd ["self", "name"] [] := Fn.binds fun _ _ _ _ _ _ us hl => match us, hl with | [_, _], _ => rfl
theorem kw_NoParts___init__ {f : Addr} {fd : FuncData} (Fn : Fun K "__init__" "NoParts.__init__" s_NoParts___init__ f fd) : ∀ (s : Shared) (u v : Value), K.In s.heap → BindsTo s fd ⟨[u], [("name", v)]⟩ ((["self", "name"] : List Str).zip [u, v]) := fun_kw Fn fun _ _ _ _ _ _ _ _ => rfl
abbrev N_NoTask___init__ : List Str := ["self", "name"]
theorem sc_NoTask___init__ : FnScope N_NoTask___init__ ["self", "name"] (defScope s_NoTask___init__) := ⟨rfl, rfl, rfl, by decide +kernel, rfl, by decide +kernel, by decide +kernel⟩
theorem fn_NoTask___init__ {f : Addr} {fd : FuncData} (Fn : Fun K "__init__" "NoTask.__init__" s_NoTask___init__ f fd) : FnOk P w K mg base (L2.CX P w) 1 f fd ["self", "name"] (spX K "name") :=
  fn_okX Fn sc_NoTask___init__ rfl rfl (fun cdv A outer s H E => pss_one (ps_ost (pe_var rfl (.inl rfl)) (pe_var rfl (.inl rfl))))
theorem bd_NoTask___init__ {f : Addr} {fd : FuncData} (Fn : Fun K "__init__" "NoTask.__init__" s_NoTask___init__ f fd) : Binds K fd ["self", "name"] [] := Fn.binds fun _ _ _ _ _ _ us hl => match us, hl with | [_, _], _ => rfl
theorem kw_NoTask___init__ {f : Addr} {fd : FuncData} (Fn : Fun K "__init__" "NoTask.__init__" s_NoTask___init__ f fd) : ∀ (s : Shared) (u v : Value), K.In s.heap → BindsTo s fd ⟨[u], [("name", v)]⟩ ((["self", "name"] : List Str).zip [u, v]) := fun_kw Fn fun _ _ _ _ _ _ _ _ => rfl
abbrev N_Taken___init__ : List Str := ["self", "name"]
theorem sc_Taken___init__ : FnScope N_Taken___init__ ["self", "name"] (defScope s_Taken___init__) := ⟨rfl, rfl, rfl, by decide +kernel, rfl, by decide +kernel, by decide +kernel⟩
theorem fn_Taken___init__ {f : Addr} {fd : FuncData} (Fn : Fun K "__init__" "Taken.__init__" s_Taken___init__ f fd) : FnOk P w K mg base (L2.CX P w) 1 f fd ["self", "name"] (spX K "name") :=
  fn_okX Fn sc_Taken___init__ rfl rfl (fun cdv A outer s H E => pss_one (ps_ost (pe_var rfl (.inl rfl)) (pe_var rfl (.inl rfl))))
theorem bd_Taken___init__ {f : Addr} {fd : FuncData} (Fn : Fun K "__init__" "Taken.__init__" s_Taken___init__ f fd) : Binds K fd ["self", "name"] [] := Fn.binds fun _ _ _ _ _ _ us hl => match us, hl with | [_, _], _ => rfl
theorem kw_Taken___init__ {f : Addr} {fd : FuncData} (Fn : Fun K "__init__" "Taken.__init__" s_Taken___init__ f fd) : ∀ (s : Shared) (u v : Value), K.In s.heap → BindsTo s fd ⟨[u], [("name", v)]⟩ ((["self", "name"] : List Str).zip [u, v]) := fun_kw Fn fun _ _ _ _ _ _ _ _ => rfl
abbrev N_TopTask___init__ : List Str := ["self", "name"]
theorem sc_TopTask___init__ : FnScope N_TopTask___init__ ["self", "name"] (defScope s_TopTask___init__) := ⟨rfl, rfl, rfl, by decide +kernel, rfl, by decide +kernel, by decide +kernel⟩
theorem fn_TopTask___init__ {f : Addr} {fd : FuncData} (Fn : Fun K "__init__" "TopTask.__init__" s_TopTask___init__ f fd) : FnOk P w K mg base (L2.CX P w) 1 f fd ["self", "name"] (spX K "name") :=
  fn_okX Fn sc_TopTask___init__ rfl rfl (fun cdv A outer s H E => pss_one (ps_ost (pe_var rfl (.inl rfl)) (pe_var rfl (.inl rfl))))
theorem bd_TopTask___init__ {f : Addr} {fd : FuncData} (Fn : Fun K "__init__" "TopTask.__init__" s_TopTask___init__ f fd) : Binds K fd ["self", "name"] [] := Fn.binds fun _ _ _ _ _ _ us hl => match us, hl with | [_, _], _ => rfl
theorem kw_TopTask___init__ {f : Addr} {fd : FuncData} (Fn : Fun K "__init__" "TopTask.__init__" s_TopTask___init__ f fd) : ∀ (s : Shared) (u v : Value), K.In s.heap → BindsTo s fd ⟨[u], [("name", v)]⟩ ((["self", "name"] : List Str).zip [u, v]) := fun_kw Fn fun _ _ _ _ _ _ _ _ => rfl
abbrev N_UnknownKind___init__ : List Str := ["self", "kind"]
theorem sc_UnknownKind___init__ : FnScope N_UnknownKind___init__ ["self", "kind"] (defScope s_UnknownKind___init__) := ⟨rfl, rfl, rfl, by decide +kernel, rfl, by decide +kernel, by decide +kernel⟩
theorem fn_UnknownKind___init__ {f : Addr} {fd : FuncData} (Fn : Fun K "__init__" "UnknownKind.__init__" s_UnknownKind___init__ f fd) : FnOk P w K mg base (L2.CX P w) 1 f fd ["self", "kind"] (spX K "kind") :=
  fn_okX Fn sc_UnknownKind___init__ rfl rfl (fun cdv A outer s H E => pss_one (ps_ost (pe_var rfl (.inl rfl)) (pe_var rfl (.inl rfl))))
theorem bd_UnknownKind___init__ {f : Addr} {fd : FuncData} (Fn : Fun K "__init__" "UnknownKind.__init__" s_UnknownKind___init__ f fd) : Binds K fd ["self", "kind"] [] := Fn.binds fun _ _ _ _ _ _ us hl => match us, hl with | [_, _], _ => rfl
theorem kw_UnknownKind___init__ {f : Addr} {fd : FuncData} (Fn : Fun K "__init__" "UnknownKind.__init__" s_UnknownKind___init__ f fd) : ∀ (s : Shared) (u v : Value), K.In s.heap → BindsTo s fd ⟨[u], [("kind", v)]⟩ ((["self", "kind"] : List Str).zip [u, v]) := fun_kw Fn fun _ _ _ _ _ _ _ _ => rfl
abbrev N__law_made : List Str := ["_law_a", "_law_found"]
theorem sc__law_made : FnScope N__law_made ["_law_a"] (defScope s__law_made) := ⟨rfl, rfl, rfl, by decide +kernel, rfl, by decide +kernel, by decide +kernel⟩
theorem fn__law_made {f : Addr} {fd : FuncData} (hw : HereP P w) (Fn : Fun K "_law_made" "_law_made" s__law_made f fd) (T : Txt K mg) (D_BadBook___init__ : XvOk P w K mg base 1 "BadBook" "place") (D_BadBranch___init__ : XvOk P w K mg base 1 "BadBranch" "path") (D_BadKind___init__ : XvOk P w K mg base 1 "BadKind" "place") (D_BadName___init__ : XvOk P w K mg base 1 "BadName" "name") (D_BadPart___init__ : XvOk P w K mg base 1 "BadPart" "kind") (D_BadState___init__ : XvOk P w K mg base 1 "BadState" "state") (D_BadText___init__ : XvOk P w K mg base 1 "BadText" "line") (D_Below___init__ : XvOk P w K mg base 1 "Below" "name") (D_HasParts___init__ : XvOk P w K mg base 1 "HasParts" "name") (D_LastPart___init__ : XvOk P w K mg base 1 "LastPart" "name") (D_NoMark___init__ : XvOk P w K mg base 1 "NoMark" "name") (D_NoParts___init__ : XvOk P w K mg base 1 "NoParts" "name") (D_NoTask___init__ : XvOk P w K mg base 1 "NoTask" "name") (D_Taken___init__ : XvOk P w K mg base 1 "Taken" "name") (D_TopTask___init__ : XvOk P w K mg base 1 "TopTask" "name") (D_UnknownKind___init__ : XvOk P w K mg base 1 "UnknownKind" "kind") : FnOk P w K mg base (L2.CX P w) 3 f fd ["_law_a"] (spF K 1 F__law_made) :=
  fn_okE hw Fn sc__law_made (fun cdv A outer s H E c => (show SSs _ _ _ B__law_made from (sss_cons (ss_set 1 c (se_lst true (sa_cons (se_tup (sa_cons (se_mkX c D_BadKind___init__ (se_var 0)) (sa_cons (se_mkXK c D_BadKind___init__ (se_var 0)) (sa_cons (se_xf D_BadKind___init__ (se_mkX c D_BadKind___init__ (se_var 0))) (sa_cons (se_xf D_BadKind___init__ (se_mkXK c D_BadKind___init__ (se_var 0))) sa_nil))))) sa_nil)))
    (sss_cons (ss_expr (se_meth PySem.F.plainAttrs_list PySem.F.slot_list_append PySem.F.type_list_append mt_append sem_append (se_var 1) (sa_cons (se_tup (sa_cons (se_mkX c D_BadBook___init__ (se_var 0)) (sa_cons (se_mkXK c D_BadBook___init__ (se_var 0)) (sa_cons (se_xf D_BadBook___init__ (se_mkX c D_BadBook___init__ (se_var 0))) (sa_cons (se_xf D_BadBook___init__ (se_mkXK c D_BadBook___init__ (se_var 0))) sa_nil))))) sa_nil)))
    (sss_cons (ss_expr (se_meth PySem.F.plainAttrs_list PySem.F.slot_list_append PySem.F.type_list_append mt_append sem_append (se_var 1) (sa_cons (se_tup (sa_cons (se_mkX c D_BadText___init__ (se_var 0)) (sa_cons (se_mkXK c D_BadText___init__ (se_var 0)) (sa_cons (se_xf D_BadText___init__ (se_mkX c D_BadText___init__ (se_var 0))) (sa_cons (se_xf D_BadText___init__ (se_mkXK c D_BadText___init__ (se_var 0))) sa_nil))))) sa_nil)))
    (sss_cons (ss_expr (se_meth PySem.F.plainAttrs_list PySem.F.slot_list_append PySem.F.type_list_append mt_append sem_append (se_var 1) (sa_cons (se_tup (sa_cons (se_mkX c D_UnknownKind___init__ (se_var 0)) (sa_cons (se_mkXK c D_UnknownKind___init__ (se_var 0)) (sa_cons (se_xf D_UnknownKind___init__ (se_mkX c D_UnknownKind___init__ (se_var 0))) (sa_cons (se_xf D_UnknownKind___init__ (se_mkXK c D_UnknownKind___init__ (se_var 0))) sa_nil))))) sa_nil)))
    (sss_cons (ss_expr (se_meth PySem.F.plainAttrs_list PySem.F.slot_list_append PySem.F.type_list_append mt_append sem_append (se_var 1) (sa_cons (se_tup (sa_cons (se_mkX c D_BadBranch___init__ (se_var 0)) (sa_cons (se_mkXK c D_BadBranch___init__ (se_var 0)) (sa_cons (se_xf D_BadBranch___init__ (se_mkX c D_BadBranch___init__ (se_var 0))) (sa_cons (se_xf D_BadBranch___init__ (se_mkXK c D_BadBranch___init__ (se_var 0))) sa_nil))))) sa_nil)))
    (sss_cons (ss_expr (se_meth PySem.F.plainAttrs_list PySem.F.slot_list_append PySem.F.type_list_append mt_append sem_append (se_var 1) (sa_cons (se_tup (sa_cons (se_mkX c D_BadState___init__ (se_var 0)) (sa_cons (se_mkXK c D_BadState___init__ (se_var 0)) (sa_cons (se_xf D_BadState___init__ (se_mkX c D_BadState___init__ (se_var 0))) (sa_cons (se_xf D_BadState___init__ (se_mkXK c D_BadState___init__ (se_var 0))) sa_nil))))) sa_nil)))
    (sss_cons (ss_expr (se_meth PySem.F.plainAttrs_list PySem.F.slot_list_append PySem.F.type_list_append mt_append sem_append (se_var 1) (sa_cons (se_tup (sa_cons (se_mkX c D_BadName___init__ (se_var 0)) (sa_cons (se_mkXK c D_BadName___init__ (se_var 0)) (sa_cons (se_xf D_BadName___init__ (se_mkX c D_BadName___init__ (se_var 0))) (sa_cons (se_xf D_BadName___init__ (se_mkXK c D_BadName___init__ (se_var 0))) sa_nil))))) sa_nil)))
    (sss_cons (ss_expr (se_meth PySem.F.plainAttrs_list PySem.F.slot_list_append PySem.F.type_list_append mt_append sem_append (se_var 1) (sa_cons (se_tup (sa_cons (se_mkX c D_Taken___init__ (se_var 0)) (sa_cons (se_mkXK c D_Taken___init__ (se_var 0)) (sa_cons (se_xf D_Taken___init__ (se_mkX c D_Taken___init__ (se_var 0))) (sa_cons (se_xf D_Taken___init__ (se_mkXK c D_Taken___init__ (se_var 0))) sa_nil))))) sa_nil)))
    (sss_cons (ss_expr (se_meth PySem.F.plainAttrs_list PySem.F.slot_list_append PySem.F.type_list_append mt_append sem_append (se_var 1) (sa_cons (se_tup (sa_cons (se_mkX c D_NoTask___init__ (se_var 0)) (sa_cons (se_mkXK c D_NoTask___init__ (se_var 0)) (sa_cons (se_xf D_NoTask___init__ (se_mkX c D_NoTask___init__ (se_var 0))) (sa_cons (se_xf D_NoTask___init__ (se_mkXK c D_NoTask___init__ (se_var 0))) sa_nil))))) sa_nil)))
    (sss_cons (ss_expr (se_meth PySem.F.plainAttrs_list PySem.F.slot_list_append PySem.F.type_list_append mt_append sem_append (se_var 1) (sa_cons (se_tup (sa_cons (se_mkX c D_BadPart___init__ (se_var 0)) (sa_cons (se_mkXK c D_BadPart___init__ (se_var 0)) (sa_cons (se_xf D_BadPart___init__ (se_mkX c D_BadPart___init__ (se_var 0))) (sa_cons (se_xf D_BadPart___init__ (se_mkXK c D_BadPart___init__ (se_var 0))) sa_nil))))) sa_nil)))
    (sss_cons (ss_expr (se_meth PySem.F.plainAttrs_list PySem.F.slot_list_append PySem.F.type_list_append mt_append sem_append (se_var 1) (sa_cons (se_tup (sa_cons (se_mkX c D_HasParts___init__ (se_var 0)) (sa_cons (se_mkXK c D_HasParts___init__ (se_var 0)) (sa_cons (se_xf D_HasParts___init__ (se_mkX c D_HasParts___init__ (se_var 0))) (sa_cons (se_xf D_HasParts___init__ (se_mkXK c D_HasParts___init__ (se_var 0))) sa_nil))))) sa_nil)))
    (sss_cons (ss_expr (se_meth PySem.F.plainAttrs_list PySem.F.slot_list_append PySem.F.type_list_append mt_append sem_append (se_var 1) (sa_cons (se_tup (sa_cons (se_mkX c D_NoParts___init__ (se_var 0)) (sa_cons (se_mkXK c D_NoParts___init__ (se_var 0)) (sa_cons (se_xf D_NoParts___init__ (se_mkX c D_NoParts___init__ (se_var 0))) (sa_cons (se_xf D_NoParts___init__ (se_mkXK c D_NoParts___init__ (se_var 0))) sa_nil))))) sa_nil)))
    (sss_cons (ss_expr (se_meth PySem.F.plainAttrs_list PySem.F.slot_list_append PySem.F.type_list_append mt_append sem_append (se_var 1) (sa_cons (se_tup (sa_cons (se_mkX c D_NoMark___init__ (se_var 0)) (sa_cons (se_mkXK c D_NoMark___init__ (se_var 0)) (sa_cons (se_xf D_NoMark___init__ (se_mkX c D_NoMark___init__ (se_var 0))) (sa_cons (se_xf D_NoMark___init__ (se_mkXK c D_NoMark___init__ (se_var 0))) sa_nil))))) sa_nil)))
    (sss_cons (ss_expr (se_meth PySem.F.plainAttrs_list PySem.F.slot_list_append PySem.F.type_list_append mt_append sem_append (se_var 1) (sa_cons (se_tup (sa_cons (se_mkX c D_TopTask___init__ (se_var 0)) (sa_cons (se_mkXK c D_TopTask___init__ (se_var 0)) (sa_cons (se_xf D_TopTask___init__ (se_mkX c D_TopTask___init__ (se_var 0))) (sa_cons (se_xf D_TopTask___init__ (se_mkXK c D_TopTask___init__ (se_var 0))) sa_nil))))) sa_nil)))
    (sss_cons (ss_expr (se_meth PySem.F.plainAttrs_list PySem.F.slot_list_append PySem.F.type_list_append mt_append sem_append (se_var 1) (sa_cons (se_tup (sa_cons (se_mkX c D_LastPart___init__ (se_var 0)) (sa_cons (se_mkXK c D_LastPart___init__ (se_var 0)) (sa_cons (se_xf D_LastPart___init__ (se_mkX c D_LastPart___init__ (se_var 0))) (sa_cons (se_xf D_LastPart___init__ (se_mkXK c D_LastPart___init__ (se_var 0))) sa_nil))))) sa_nil)))
    (sss_cons (ss_expr (se_meth PySem.F.plainAttrs_list PySem.F.slot_list_append PySem.F.type_list_append mt_append sem_append (se_var 1) (sa_cons (se_tup (sa_cons (se_mkX c D_Below___init__ (se_var 0)) (sa_cons (se_mkXK c D_Below___init__ (se_var 0)) (sa_cons (se_xf D_Below___init__ (se_mkX c D_Below___init__ (se_var 0))) (sa_cons (se_xf D_Below___init__ (se_mkXK c D_Below___init__ (se_var 0))) sa_nil))))) sa_nil)))
    (sss_one (ss_frz 1 (ss_ret (se_var 1))))))))))))))))))))))
theorem bd__law_made {f : Addr} {fd : FuncData} (Fn : Fun K "_law_made" "_law_made" s__law_made f fd) : Binds K fd ["_law_a"] [] := Fn.binds fun _ _ _ _ _ _ us hl => match us, hl with | [_], _ => rfl
abbrev N__law_pick : List Str := ["_law_source_here", "_law_things"]
theorem sc__law_pick : FnScope N__law_pick ["_law_source_here", "_law_things"] (defScope s__law_pick) := ⟨rfl, rfl, rfl, by decide +kernel, rfl, by decide +kernel, by decide +kernel⟩
theorem fn__law_pick {f : Addr} {fd : FuncData} (hw : HereP P w) (Fn : Fun K "_law_pick" "_law_pick" s__law_pick f fd) (T : Txt K mg) (D__law_draw : DefOk P w K mg base 2 1 "_law_draw" F__law_draw) : FnOk P w K mg base (L2.CX P w) 2 f fd ["_law_source_here", "_law_things"] (spF K 2 F__law_pick) :=
  fn_okE hw Fn sc__law_pick (fun cdv A outer s H E c => (show SSs _ _ _ B__law_pick from (sss_one (ss_ret (se_ix (ix_all c.hu) sem_ix (se_var 1) (se_call c D__law_draw (sa_cons (se_var 0) (sa_cons (se_callB call_len3 sem_len T.n_len (sa_cons (se_var 1) sa_nil)) sa_nil))))))))
theorem bd__law_pick {f : Addr} {fd : FuncData} (Fn : Fun K "_law_pick" "_law_pick" s__law_pick f fd) : Binds K fd ["_law_source_here", "_law_things"] [] := Fn.binds fun _ _ _ _ _ _ us hl => match us, hl with | [_, _], _ => rfl
abbrev N__law_source : List Str := ["_law_script", "_law_great", "_law_seed", "_law_cell"]
theorem sc__law_source : FnScope N__law_source ["_law_script"] (defScope s__law_source) := ⟨rfl, rfl, rfl, by decide +kernel, rfl, by decide +kernel, by decide +kernel⟩
theorem fn__law_source {f : Addr} {fd : FuncData} (hw : HereP P w) (Fn : Fun K "_law_source" "_law_source" s__law_source f fd) (T : Txt K mg)  : FnOk P w K mg base (L2.CX P w) 1 f fd ["_law_script"] (spF K 1 F__law_source) :=
  fn_okE hw Fn sc__law_source (fun cdv A outer s H E c => (show SSs _ _ _ B__law_source from (sss_cons (ss_asg (se_tup (sa_cons se_int (sa_cons se_int sa_nil))) (sg_tup c.calm (sgs_cons (sg_name 1 c.nd) (sgs_cons (sg_name 2 c.nd) sgs_nil))))
    (sss_cons (ss_for c (si_val (se_var 0)) (sg_name 3 c.nd) (sss_cons (ss_if (SW.sb (sw_and (sb_cmp (op_eqA c.room.units) sem_eq (se_var 1) se_int) (sw_and1 (sb_cmp op_geA sem_ord (se_var 3) (se_op op_pow sem_pow se_int se_int))))) (sss_one (ss_set 1 c (se_var 3))) sss_nil)
    (sss_one (ss_set 2 c (se_op op_mod sem_mod (se_callTy call_int1 sem_intA T.n_int (sa_cons (se_op op_addA sem_add (se_op op_addA sem_add (se_op op_mulA sem_mul (se_var 2) se_int) (se_var 3)) se_int) sa_nil)) se_int)))))
    (sss_one (ss_ret (se_lst true (sa_cons (se_var 1) (sa_cons (se_var 2) (sa_cons se_int sa_nil))))))))))
theorem bd__law_source {f : Addr} {fd : FuncData} (Fn : Fun K "_law_source" "_law_source" s__law_source f fd) : Binds K fd ["_law_script"] [] := Fn.binds fun _ _ _ _ _ _ us hl => match us, hl with | [_], _ => rfl
abbrev N_law : List Str := ["_law_script", "_law_source_here", "_law_a", "_law_k", "_law_first", "_law_second", "_law_one", "_law_two", "_law_e", "_law_j"]
theorem sc_law : FnScope N_law ["_law_script"] (defScope s_law) := ⟨rfl, rfl, rfl, by decide +kernel, rfl, by decide +kernel, by decide +kernel⟩
theorem fn_law {f : Addr} {fd : FuncData} (hw : HereP P w) (Fn : Fun K "law" "law" s_law f fd) (T : Txt K mg) (D__law_draw : DefOk P w K mg base 2 1 "_law_draw" F__law_draw) (D__law_kinds : DefOk P w K mg base 1 1 "_law_kinds" F__law_kinds) (D__law_made : DefOk P w K mg base 1 3 "_law_made" F__law_made) (D__law_pick : DefOk P w K mg base 2 2 "_law_pick" F__law_pick) (D__law_source : DefOk P w K mg base 1 1 "_law_source" F__law_source) : FnOk P w K mg base (L2.CX P w) 4 f fd ["_law_script"] (spF K 1 F_law) :=
  fn_okE hw Fn sc_law (fun cdv A outer s H E c => (show SSs _ _ _ B_law from (sss_cons (ss_set 1 c (se_call c D__law_source (sa_cons (se_var 0) sa_nil)))
    (sss_cons (ss_set 2 c (se_call c D__law_pick (sa_cons (se_var 1) (sa_cons (se_lst false (sa_cons (se_op op_sub sem_sub (se_call c D__law_draw (sa_cons (se_var 1) (sa_cons se_int sa_nil))) se_int) (sa_cons se_str (sa_cons se_str (sa_cons (se_tup (sa_cons se_int (sa_cons se_int sa_nil))) (sa_cons se_non (sa_cons se_bl (sa_cons (se_op op_pow sem_pow se_int se_int) (sa_cons (se_tup sa_nil) sa_nil))))))))) sa_nil))))
    (sss_cons (ss_for c (si_enum (sa_cons (se_call c D__law_made (sa_cons (se_var 2) sa_nil)) sa_nil) T.n_enumerate) (sg_tup c.calm (sgs_cons (sg_name 3 c.nd) (sgs_cons (sg_tup c.calm (sgs_cons (sg_name 4 c.nd) (sgs_cons (sg_name 5 c.nd) (sgs_cons (sg_name 6 c.nd) (sgs_cons (sg_name 7 c.nd) sgs_nil))))) sgs_nil))) (sss_cons (ss_if (SW.sb (sw_or (sb_cmp (op_neA c.room.units) sem_ne (se_var 6) (se_var 2)) (sw_or (sb_cmp (op_neA c.room.units) sem_ne (se_var 7) (se_var 2)) (sw_or1 (sb_cmp (op_neA c.room.units) sem_ne (se_callB call_isi sem_isi T.n_isinstance (sa_cons (se_var 6) (sa_cons (se_ty T.n_bool (by decide +kernel)) sa_nil))) (se_callB call_isi sem_isi T.n_isinstance (sa_cons (se_var 2) (sa_cons (se_ty T.n_bool (by decide +kernel)) sa_nil)))))))) (sss_one (ss_ret se_bl)) sss_nil)
    (sss_one (ss_for c (si_val (se_tup (sa_cons (se_var 4) (sa_cons (se_var 5) sa_nil)))) (sg_name 8 c.nd) (sss_cons (ss_if (SW.sb (sw_or (sb_cmp (op_neA c.room.units) sem_ne (se_call c D__law_kinds (sa_cons (se_var 8) sa_nil)) (se_comp (own := [("_law_j", 9)]) false c (si_range1 (sa_cons se_int sa_nil) T.n_range) (blkOk_by (N := N_law) (sc := defScope s_law) (by decide +kernel)) ⟨fun _ _ _ _ _ => (sg_name 9 (c.blk _ _ _ _).nd), (kg_name 9), fun _ _ _ _ _ => sts_nil, fun _ _ _ _ _ => (se_cmp (op_eqA (c.blk _ _ _ _).room.units) sem_eq (se_var 9) (se_var 3))⟩)) (sw_or1 (sb_not (sb_val (se_isE (se_var 8) T.xt_PartsError T.n_isinstance)))))) (sss_one (ss_ret se_bl)) sss_nil)
    (sss_one (ss_if (sb_not (sb_val (se_isV (se_var 8) T.xb_ValueError T.n_ValueError (by decide +kernel) T.n_isinstance))) (sss_one (ss_ret se_bl)) sss_nil)))))))
    (sss_cons (ss_set 8 c (se_mk0 T.x0_NoDeed))
    (sss_one (ss_ret (se_and (se_cmp (op_eqA c.room.units) sem_eq (se_call c D__law_kinds (sa_cons (se_var 8) sa_nil)) (se_op op_addA sem_add (se_op op_mulA sem_mul (se_lst false (sa_cons se_bl sa_nil)) se_int) (se_lst false (sa_cons se_bl sa_nil)))) (se_and (se_isE (se_var 8) T.xt_PartsError T.n_isinstance) (se_one (se_isV (se_var 8) T.xb_ValueError T.n_ValueError (by decide +kernel) T.n_isinstance))))))))))))
theorem bd_law {f : Addr} {fd : FuncData} (Fn : Fun K "law" "law" s_law f fd) : Binds K fd ["_law_script"] [] := Fn.binds fun _ _ _ _ _ _ us hl => match us, hl with | [_], _ => rfl
end
end G

namespace G
open PySem L2 Ev
def spLaw (K : PySem.W.Frag) : Sp := fun vs H Q _ => ∃ (a : Addr) (ns : List Int), vs = [.ref a] ∧ SqL K H a (ns.map V.int) ∧ ns.length ≤ 63 ∧ ∀ H', Q (.bl true) H'
theorem reps_ints [Wrl] {K : PySem.W.Frag} {Z : Hp} {ρ : List Addr} : ∀ ns : List Int, Reps K Z ρ (ns.map T.int) (ns.map V.int)
  | [] => .nil
  | n :: ns => .cons rep_int (reps_ints ns)
theorem law_imp [Wrl] {K : PySem.W.Frag} (h0 : Wrl.tabs = []) (law_true : ∀ ns : List Int, ns.length ≤ 63 → ∃ m, F_law [.rls (ns.map T.int)] [] = .ok (.bl true) m) : ∀ vs H Q E, spLaw K vs H Q E → spF K 1 F_law vs H Q E := by
  rintro vs H Q E ⟨a, ns, rfl, hs, hl, hQ⟩
  obtain ⟨m, e⟩ := law_true ns hl
  refine ⟨fun _ => none, H, [], [], [.rls (ns.map T.int)], ⟨fun _ _ h => h, (fun _ _ h => nomatch h), rfl, List.nodup_nil, (fun _ h => nomatch h), (fun _ _ _ h => nomatch h), (fun _ hq => by rw [h0] at hq; cases hq)⟩, .cons ?_ .nil, rfl, ?_⟩
  · unfold Rep
    exact ⟨a, _, rfl, hs, reps_ints ns⟩
  · rw [e]
    intro Z ρ H1 v _ _ r
    unfold Rep at r
    subst r
    exact hQ _
theorem all_mk {l : PySem.W.OpenLaw} {w : World} {K : PySem.W.Frag} {h : Heap} {mg : Str → Option Value} {fa : Addr} (law_true : ∀ ns : List Int, ns.length ≤ 63 → ∃ m, F_law [.rls (ns.map T.int)] [] = .ok (.bl true) m) (X : K.In h) (G : h.Ns mainGlobals mg) (hfa : mg "law" = some (.ref fa))
    {C_BadBook C_BadBranch C_BadKind C_BadName C_BadPart C_BadState C_BadText C_Below C_HasParts C_LastPart C_NoMark C_NoParts C_NoTask C_Taken C_TopTask C_UnknownKind C_NoDeed C_PartsError f__law_draw f__law_kinds f_BadBook___init__ f_BadBranch___init__ f_BadKind___init__ f_BadName___init__ f_BadPart___init__ f_BadState___init__ f_BadText___init__ f_Below___init__ f_HasParts___init__ f_LastPart___init__ f_NoMark___init__ f_NoParts___init__ f_NoTask___init__ f_Taken___init__ f_TopTask___init__ f_UnknownKind___init__ f__law_made f__law_pick f__law_source f_law : Addr}
    {nm_BadBook q_BadBook : Str} {N_BadBook : Addr} {bs_BadBook bm_BadBook : List Value} {sn_BadBook : List Str} {sub_BadBook : List Value} {ab_BadBook : Bool} {col_BadBook : Option Bool} {dd_BadBook : Option Addr} {k0_BadBook k1_BadBook k2_BadBook k3_BadBook k5_BadBook : Option Value}
    {nm_BadBranch q_BadBranch : Str} {N_BadBranch : Addr} {bs_BadBranch bm_BadBranch : List Value} {sn_BadBranch : List Str} {sub_BadBranch : List Value} {ab_BadBranch : Bool} {col_BadBranch : Option Bool} {dd_BadBranch : Option Addr} {k0_BadBranch k1_BadBranch k2_BadBranch k3_BadBranch k5_BadBranch : Option Value}
    {nm_BadKind q_BadKind : Str} {N_BadKind : Addr} {bs_BadKind bm_BadKind : List Value} {sn_BadKind : List Str} {sub_BadKind : List Value} {ab_BadKind : Bool} {col_BadKind : Option Bool} {dd_BadKind : Option Addr} {k0_BadKind k1_BadKind k2_BadKind k3_BadKind k5_BadKind : Option Value}
    {nm_BadName q_BadName : Str} {N_BadName : Addr} {bs_BadName bm_BadName : List Value} {sn_BadName : List Str} {sub_BadName : List Value} {ab_BadName : Bool} {col_BadName : Option Bool} {dd_BadName : Option Addr} {k0_BadName k1_BadName k2_BadName k3_BadName k5_BadName : Option Value}
    {nm_BadPart q_BadPart : Str} {N_BadPart : Addr} {bs_BadPart bm_BadPart : List Value} {sn_BadPart : List Str} {sub_BadPart : List Value} {ab_BadPart : Bool} {col_BadPart : Option Bool} {dd_BadPart : Option Addr} {k0_BadPart k1_BadPart k2_BadPart k3_BadPart k5_BadPart : Option Value}
    {nm_BadState q_BadState : Str} {N_BadState : Addr} {bs_BadState bm_BadState : List Value} {sn_BadState : List Str} {sub_BadState : List Value} {ab_BadState : Bool} {col_BadState : Option Bool} {dd_BadState : Option Addr} {k0_BadState k1_BadState k2_BadState k3_BadState k5_BadState : Option Value}
    {nm_BadText q_BadText : Str} {N_BadText : Addr} {bs_BadText bm_BadText : List Value} {sn_BadText : List Str} {sub_BadText : List Value} {ab_BadText : Bool} {col_BadText : Option Bool} {dd_BadText : Option Addr} {k0_BadText k1_BadText k2_BadText k3_BadText k5_BadText : Option Value}
    {nm_Below q_Below : Str} {N_Below : Addr} {bs_Below bm_Below : List Value} {sn_Below : List Str} {sub_Below : List Value} {ab_Below : Bool} {col_Below : Option Bool} {dd_Below : Option Addr} {k0_Below k1_Below k2_Below k3_Below k5_Below : Option Value}
    {nm_HasParts q_HasParts : Str} {N_HasParts : Addr} {bs_HasParts bm_HasParts : List Value} {sn_HasParts : List Str} {sub_HasParts : List Value} {ab_HasParts : Bool} {col_HasParts : Option Bool} {dd_HasParts : Option Addr} {k0_HasParts k1_HasParts k2_HasParts k3_HasParts k5_HasParts : Option Value}
    {nm_LastPart q_LastPart : Str} {N_LastPart : Addr} {bs_LastPart bm_LastPart : List Value} {sn_LastPart : List Str} {sub_LastPart : List Value} {ab_LastPart : Bool} {col_LastPart : Option Bool} {dd_LastPart : Option Addr} {k0_LastPart k1_LastPart k2_LastPart k3_LastPart k5_LastPart : Option Value}
    {nm_NoMark q_NoMark : Str} {N_NoMark : Addr} {bs_NoMark bm_NoMark : List Value} {sn_NoMark : List Str} {sub_NoMark : List Value} {ab_NoMark : Bool} {col_NoMark : Option Bool} {dd_NoMark : Option Addr} {k0_NoMark k1_NoMark k2_NoMark k3_NoMark k5_NoMark : Option Value}
    {nm_NoParts q_NoParts : Str} {N_NoParts : Addr} {bs_NoParts bm_NoParts : List Value} {sn_NoParts : List Str} {sub_NoParts : List Value} {ab_NoParts : Bool} {col_NoParts : Option Bool} {dd_NoParts : Option Addr} {k0_NoParts k1_NoParts k2_NoParts k3_NoParts k5_NoParts : Option Value}
    {nm_NoTask q_NoTask : Str} {N_NoTask : Addr} {bs_NoTask bm_NoTask : List Value} {sn_NoTask : List Str} {sub_NoTask : List Value} {ab_NoTask : Bool} {col_NoTask : Option Bool} {dd_NoTask : Option Addr} {k0_NoTask k1_NoTask k2_NoTask k3_NoTask k5_NoTask : Option Value}
    {nm_Taken q_Taken : Str} {N_Taken : Addr} {bs_Taken bm_Taken : List Value} {sn_Taken : List Str} {sub_Taken : List Value} {ab_Taken : Bool} {col_Taken : Option Bool} {dd_Taken : Option Addr} {k0_Taken k1_Taken k2_Taken k3_Taken k5_Taken : Option Value}
    {nm_TopTask q_TopTask : Str} {N_TopTask : Addr} {bs_TopTask bm_TopTask : List Value} {sn_TopTask : List Str} {sub_TopTask : List Value} {ab_TopTask : Bool} {col_TopTask : Option Bool} {dd_TopTask : Option Addr} {k0_TopTask k1_TopTask k2_TopTask k3_TopTask k5_TopTask : Option Value}
    {nm_UnknownKind q_UnknownKind : Str} {N_UnknownKind : Addr} {bs_UnknownKind bm_UnknownKind : List Value} {sn_UnknownKind : List Str} {sub_UnknownKind : List Value} {ab_UnknownKind : Bool} {col_UnknownKind : Option Bool} {dd_UnknownKind : Option Addr} {k0_UnknownKind k1_UnknownKind k2_UnknownKind k3_UnknownKind k5_UnknownKind : Option Value}
    {nm_NoDeed q_NoDeed : Str} {N_NoDeed : Addr} {bs_NoDeed bm_NoDeed : List Value} {sn_NoDeed : List Str} {sub_NoDeed : List Value} {ab_NoDeed : Bool} {col_NoDeed : Option Bool} {dd_NoDeed : Option Addr} {k0_NoDeed k1_NoDeed k2_NoDeed k3_NoDeed k5_NoDeed : Option Value}
    {oc__law_draw kV__law_draw dc__law_draw pm__law_draw cd__law_draw ct__law_draw : Value} {od__law_draw an__law_draw : Option Addr} {sl__law_draw : Array (Option Value)}
    {oc__law_kinds kV__law_kinds dc__law_kinds pm__law_kinds cd__law_kinds ct__law_kinds : Value} {od__law_kinds an__law_kinds : Option Addr} {sl__law_kinds : Array (Option Value)}
    {oc_BadBook___init__ kV_BadBook___init__ dc_BadBook___init__ pm_BadBook___init__ cd_BadBook___init__ ct_BadBook___init__ : Value} {od_BadBook___init__ an_BadBook___init__ : Option Addr} {sl_BadBook___init__ : Array (Option Value)}
    {oc_BadBranch___init__ kV_BadBranch___init__ dc_BadBranch___init__ pm_BadBranch___init__ cd_BadBranch___init__ ct_BadBranch___init__ : Value} {od_BadBranch___init__ an_BadBranch___init__ : Option Addr} {sl_BadBranch___init__ : Array (Option Value)}
    {oc_BadKind___init__ kV_BadKind___init__ dc_BadKind___init__ pm_BadKind___init__ cd_BadKind___init__ ct_BadKind___init__ : Value} {od_BadKind___init__ an_BadKind___init__ : Option Addr} {sl_BadKind___init__ : Array (Option Value)}
    {oc_BadName___init__ kV_BadName___init__ dc_BadName___init__ pm_BadName___init__ cd_BadName___init__ ct_BadName___init__ : Value} {od_BadName___init__ an_BadName___init__ : Option Addr} {sl_BadName___init__ : Array (Option Value)}
    {oc_BadPart___init__ kV_BadPart___init__ dc_BadPart___init__ pm_BadPart___init__ cd_BadPart___init__ ct_BadPart___init__ : Value} {od_BadPart___init__ an_BadPart___init__ : Option Addr} {sl_BadPart___init__ : Array (Option Value)}
    {oc_BadState___init__ kV_BadState___init__ dc_BadState___init__ pm_BadState___init__ cd_BadState___init__ ct_BadState___init__ : Value} {od_BadState___init__ an_BadState___init__ : Option Addr} {sl_BadState___init__ : Array (Option Value)}
    {oc_BadText___init__ kV_BadText___init__ dc_BadText___init__ pm_BadText___init__ cd_BadText___init__ ct_BadText___init__ : Value} {od_BadText___init__ an_BadText___init__ : Option Addr} {sl_BadText___init__ : Array (Option Value)}
    {oc_Below___init__ kV_Below___init__ dc_Below___init__ pm_Below___init__ cd_Below___init__ ct_Below___init__ : Value} {od_Below___init__ an_Below___init__ : Option Addr} {sl_Below___init__ : Array (Option Value)}
    {oc_HasParts___init__ kV_HasParts___init__ dc_HasParts___init__ pm_HasParts___init__ cd_HasParts___init__ ct_HasParts___init__ : Value} {od_HasParts___init__ an_HasParts___init__ : Option Addr} {sl_HasParts___init__ : Array (Option Value)}
    {oc_LastPart___init__ kV_LastPart___init__ dc_LastPart___init__ pm_LastPart___init__ cd_LastPart___init__ ct_LastPart___init__ : Value} {od_LastPart___init__ an_LastPart___init__ : Option Addr} {sl_LastPart___init__ : Array (Option Value)}
    {oc_NoMark___init__ kV_NoMark___init__ dc_NoMark___init__ pm_NoMark___init__ cd_NoMark___init__ ct_NoMark___init__ : Value} {od_NoMark___init__ an_NoMark___init__ : Option Addr} {sl_NoMark___init__ : Array (Option Value)}
    {oc_NoParts___init__ kV_NoParts___init__ dc_NoParts___init__ pm_NoParts___init__ cd_NoParts___init__ ct_NoParts___init__ : Value} {od_NoParts___init__ an_NoParts___init__ : Option Addr} {sl_NoParts___init__ : Array (Option Value)}
    {oc_NoTask___init__ kV_NoTask___init__ dc_NoTask___init__ pm_NoTask___init__ cd_NoTask___init__ ct_NoTask___init__ : Value} {od_NoTask___init__ an_NoTask___init__ : Option Addr} {sl_NoTask___init__ : Array (Option Value)}
    {oc_Taken___init__ kV_Taken___init__ dc_Taken___init__ pm_Taken___init__ cd_Taken___init__ ct_Taken___init__ : Value} {od_Taken___init__ an_Taken___init__ : Option Addr} {sl_Taken___init__ : Array (Option Value)}
    {oc_TopTask___init__ kV_TopTask___init__ dc_TopTask___init__ pm_TopTask___init__ cd_TopTask___init__ ct_TopTask___init__ : Value} {od_TopTask___init__ an_TopTask___init__ : Option Addr} {sl_TopTask___init__ : Array (Option Value)}
    {oc_UnknownKind___init__ kV_UnknownKind___init__ dc_UnknownKind___init__ pm_UnknownKind___init__ cd_UnknownKind___init__ ct_UnknownKind___init__ : Value} {od_UnknownKind___init__ an_UnknownKind___init__ : Option Addr} {sl_UnknownKind___init__ : Array (Option Value)}
    {oc__law_made kV__law_made dc__law_made pm__law_made cd__law_made ct__law_made : Value} {od__law_made an__law_made : Option Addr} {sl__law_made : Array (Option Value)}
    {oc__law_pick kV__law_pick dc__law_pick pm__law_pick cd__law_pick ct__law_pick : Value} {od__law_pick an__law_pick : Option Addr} {sl__law_pick : Array (Option Value)}
    {oc__law_source kV__law_source dc__law_source pm__law_source cd__law_source ct__law_source : Value} {od__law_source an__law_source : Option Addr} {sl__law_source : Array (Option Value)}
    {oc_law kV_law dc_law pm_law cd_law ct_law : Value} {od_law an_law : Option Addr} {sl_law : Array (Option Value)}
    (aC_BadBook : PySem.W.nsIn K mainGlobals "BadBook" = some (some (.ref C_BadBook)))
    (lx_BadBook : K.lookup C_BadBook = some (excClassObj nm_BadBook q_BadBook C_BadBook N_BadBook bs_BadBook bm_BadBook true sn_BadBook sub_BadBook ab_BadBook col_BadBook dd_BadBook k0_BadBook k1_BadBook k2_BadBook k3_BadBook k5_BadBook "ValueError.__new__"))
    (rv_BadBook : PySem.HandSPX.refsVE bm_BadBook = true)
    (sa_BadBook : PySem.W.findIn K (.ref C_BadBook) "__setattr__" = some (some (.builtin "object.__setattr__")))
    (ex_BadBook : PySem.W.subIn K (.ref C_BadBook) (.type "BaseException") = some true)
    (ty_BadBook : PySem.W.typeIn K (.ref C_BadBook) = some (.type "type"))
    (kc_BadBook : PySem.W.keepIn K (.ref C_BadBook) = true)
    (no_BadBook : PySem.W.findIn K (.ref C_BadBook) "place" = some none)
    (ga_BadBook : PySem.W.findIn K (.ref C_BadBook) "__getattribute__" = some (some (.builtin "BaseException.__getattribute__")))
    (gg_BadBook : PySem.W.findIn K (.ref C_BadBook) "__getattr__" = some none)
    (hd_BadBook : PySem.W.hasDictIn K C_BadBook = true)
    (xa_BadBook : PySem.W.findIn K (.ref C_BadBook) "__class__" = some (some (.builtin "object.__class__")))
    (xm_BadBook : PySem.W.mroIn K C_BadBook (.type "object") = some true)
    (xi_BadBook_BadBook : PySem.W.kitOne K (.ref C_BadBook) (.ref C_BadBook) = some true)
    (xi_BadBranch_BadBook : PySem.W.kitOne K (.ref C_BadBook) (.ref C_BadBranch) = some false)
    (xi_BadKind_BadBook : PySem.W.kitOne K (.ref C_BadBook) (.ref C_BadKind) = some false)
    (xi_BadName_BadBook : PySem.W.kitOne K (.ref C_BadBook) (.ref C_BadName) = some false)
    (xi_BadPart_BadBook : PySem.W.kitOne K (.ref C_BadBook) (.ref C_BadPart) = some false)
    (xi_BadState_BadBook : PySem.W.kitOne K (.ref C_BadBook) (.ref C_BadState) = some false)
    (xi_BadText_BadBook : PySem.W.kitOne K (.ref C_BadBook) (.ref C_BadText) = some false)
    (xi_Below_BadBook : PySem.W.kitOne K (.ref C_BadBook) (.ref C_Below) = some false)
    (xi_HasParts_BadBook : PySem.W.kitOne K (.ref C_BadBook) (.ref C_HasParts) = some false)
    (xi_LastPart_BadBook : PySem.W.kitOne K (.ref C_BadBook) (.ref C_LastPart) = some false)
    (xi_NoDeed_BadBook : PySem.W.kitOne K (.ref C_BadBook) (.ref C_NoDeed) = some false)
    (xi_NoMark_BadBook : PySem.W.kitOne K (.ref C_BadBook) (.ref C_NoMark) = some false)
    (xi_NoParts_BadBook : PySem.W.kitOne K (.ref C_BadBook) (.ref C_NoParts) = some false)
    (xi_NoTask_BadBook : PySem.W.kitOne K (.ref C_BadBook) (.ref C_NoTask) = some false)
    (xi_PartsError_BadBook : PySem.W.kitOne K (.ref C_BadBook) (.ref C_PartsError) = some true)
    (xi_Taken_BadBook : PySem.W.kitOne K (.ref C_BadBook) (.ref C_Taken) = some false)
    (xi_TopTask_BadBook : PySem.W.kitOne K (.ref C_BadBook) (.ref C_TopTask) = some false)
    (xi_UnknownKind_BadBook : PySem.W.kitOne K (.ref C_BadBook) (.ref C_UnknownKind) = some false)
    (xi_ValueError_BadBook : PySem.W.kitOne K (.ref C_BadBook) (.type "ValueError") = some true)
    (aC_BadBranch : PySem.W.nsIn K mainGlobals "BadBranch" = some (some (.ref C_BadBranch)))
    (lx_BadBranch : K.lookup C_BadBranch = some (excClassObj nm_BadBranch q_BadBranch C_BadBranch N_BadBranch bs_BadBranch bm_BadBranch true sn_BadBranch sub_BadBranch ab_BadBranch col_BadBranch dd_BadBranch k0_BadBranch k1_BadBranch k2_BadBranch k3_BadBranch k5_BadBranch "ValueError.__new__"))
    (rv_BadBranch : PySem.HandSPX.refsVE bm_BadBranch = true)
    (sa_BadBranch : PySem.W.findIn K (.ref C_BadBranch) "__setattr__" = some (some (.builtin "object.__setattr__")))
    (ex_BadBranch : PySem.W.subIn K (.ref C_BadBranch) (.type "BaseException") = some true)
    (ty_BadBranch : PySem.W.typeIn K (.ref C_BadBranch) = some (.type "type"))
    (kc_BadBranch : PySem.W.keepIn K (.ref C_BadBranch) = true)
    (no_BadBranch : PySem.W.findIn K (.ref C_BadBranch) "path" = some none)
    (ga_BadBranch : PySem.W.findIn K (.ref C_BadBranch) "__getattribute__" = some (some (.builtin "BaseException.__getattribute__")))
    (gg_BadBranch : PySem.W.findIn K (.ref C_BadBranch) "__getattr__" = some none)
    (hd_BadBranch : PySem.W.hasDictIn K C_BadBranch = true)
    (xa_BadBranch : PySem.W.findIn K (.ref C_BadBranch) "__class__" = some (some (.builtin "object.__class__")))
    (xm_BadBranch : PySem.W.mroIn K C_BadBranch (.type "object") = some true)
    (xi_BadBook_BadBranch : PySem.W.kitOne K (.ref C_BadBranch) (.ref C_BadBook) = some false)
    (xi_BadBranch_BadBranch : PySem.W.kitOne K (.ref C_BadBranch) (.ref C_BadBranch) = some true)
    (xi_BadKind_BadBranch : PySem.W.kitOne K (.ref C_BadBranch) (.ref C_BadKind) = some false)
    (xi_BadName_BadBranch : PySem.W.kitOne K (.ref C_BadBranch) (.ref C_BadName) = some false)
    (xi_BadPart_BadBranch : PySem.W.kitOne K (.ref C_BadBranch) (.ref C_BadPart) = some false)
    (xi_BadState_BadBranch : PySem.W.kitOne K (.ref C_BadBranch) (.ref C_BadState) = some false)
    (xi_BadText_BadBranch : PySem.W.kitOne K (.ref C_BadBranch) (.ref C_BadText) = some false)
    (xi_Below_BadBranch : PySem.W.kitOne K (.ref C_BadBranch) (.ref C_Below) = some false)
    (xi_HasParts_BadBranch : PySem.W.kitOne K (.ref C_BadBranch) (.ref C_HasParts) = some false)
    (xi_LastPart_BadBranch : PySem.W.kitOne K (.ref C_BadBranch) (.ref C_LastPart) = some false)
    (xi_NoDeed_BadBranch : PySem.W.kitOne K (.ref C_BadBranch) (.ref C_NoDeed) = some false)
    (xi_NoMark_BadBranch : PySem.W.kitOne K (.ref C_BadBranch) (.ref C_NoMark) = some false)
    (xi_NoParts_BadBranch : PySem.W.kitOne K (.ref C_BadBranch) (.ref C_NoParts) = some false)
    (xi_NoTask_BadBranch : PySem.W.kitOne K (.ref C_BadBranch) (.ref C_NoTask) = some false)
    (xi_PartsError_BadBranch : PySem.W.kitOne K (.ref C_BadBranch) (.ref C_PartsError) = some true)
    (xi_Taken_BadBranch : PySem.W.kitOne K (.ref C_BadBranch) (.ref C_Taken) = some false)
    (xi_TopTask_BadBranch : PySem.W.kitOne K (.ref C_BadBranch) (.ref C_TopTask) = some false)
    (xi_UnknownKind_BadBranch : PySem.W.kitOne K (.ref C_BadBranch) (.ref C_UnknownKind) = some false)
    (xi_ValueError_BadBranch : PySem.W.kitOne K (.ref C_BadBranch) (.type "ValueError") = some true)
    (aC_BadKind : PySem.W.nsIn K mainGlobals "BadKind" = some (some (.ref C_BadKind)))
    (lx_BadKind : K.lookup C_BadKind = some (excClassObj nm_BadKind q_BadKind C_BadKind N_BadKind bs_BadKind bm_BadKind true sn_BadKind sub_BadKind ab_BadKind col_BadKind dd_BadKind k0_BadKind k1_BadKind k2_BadKind k3_BadKind k5_BadKind "ValueError.__new__"))
    (rv_BadKind : PySem.HandSPX.refsVE bm_BadKind = true)
    (sa_BadKind : PySem.W.findIn K (.ref C_BadKind) "__setattr__" = some (some (.builtin "object.__setattr__")))
    (ex_BadKind : PySem.W.subIn K (.ref C_BadKind) (.type "BaseException") = some true)
    (ty_BadKind : PySem.W.typeIn K (.ref C_BadKind) = some (.type "type"))
    (kc_BadKind : PySem.W.keepIn K (.ref C_BadKind) = true)
    (no_BadKind : PySem.W.findIn K (.ref C_BadKind) "place" = some none)
    (ga_BadKind : PySem.W.findIn K (.ref C_BadKind) "__getattribute__" = some (some (.builtin "BaseException.__getattribute__")))
    (gg_BadKind : PySem.W.findIn K (.ref C_BadKind) "__getattr__" = some none)
    (hd_BadKind : PySem.W.hasDictIn K C_BadKind = true)
    (xa_BadKind : PySem.W.findIn K (.ref C_BadKind) "__class__" = some (some (.builtin "object.__class__")))
    (xm_BadKind : PySem.W.mroIn K C_BadKind (.type "object") = some true)
    (xi_BadBook_BadKind : PySem.W.kitOne K (.ref C_BadKind) (.ref C_BadBook) = some false)
    (xi_BadBranch_BadKind : PySem.W.kitOne K (.ref C_BadKind) (.ref C_BadBranch) = some false)
    (xi_BadKind_BadKind : PySem.W.kitOne K (.ref C_BadKind) (.ref C_BadKind) = some true)
    (xi_BadName_BadKind : PySem.W.kitOne K (.ref C_BadKind) (.ref C_BadName) = some false)
    (xi_BadPart_BadKind : PySem.W.kitOne K (.ref C_BadKind) (.ref C_BadPart) = some false)
    (xi_BadState_BadKind : PySem.W.kitOne K (.ref C_BadKind) (.ref C_BadState) = some false)
    (xi_BadText_BadKind : PySem.W.kitOne K (.ref C_BadKind) (.ref C_BadText) = some false)
    (xi_Below_BadKind : PySem.W.kitOne K (.ref C_BadKind) (.ref C_Below) = some false)
    (xi_HasParts_BadKind : PySem.W.kitOne K (.ref C_BadKind) (.ref C_HasParts) = some false)
    (xi_LastPart_BadKind : PySem.W.kitOne K (.ref C_BadKind) (.ref C_LastPart) = some false)
    (xi_NoDeed_BadKind : PySem.W.kitOne K (.ref C_BadKind) (.ref C_NoDeed) = some false)
    (xi_NoMark_BadKind : PySem.W.kitOne K (.ref C_BadKind) (.ref C_NoMark) = some false)
    (xi_NoParts_BadKind : PySem.W.kitOne K (.ref C_BadKind) (.ref C_NoParts) = some false)
    (xi_NoTask_BadKind : PySem.W.kitOne K (.ref C_BadKind) (.ref C_NoTask) = some false)
    (xi_PartsError_BadKind : PySem.W.kitOne K (.ref C_BadKind) (.ref C_PartsError) = some true)
    (xi_Taken_BadKind : PySem.W.kitOne K (.ref C_BadKind) (.ref C_Taken) = some false)
    (xi_TopTask_BadKind : PySem.W.kitOne K (.ref C_BadKind) (.ref C_TopTask) = some false)
    (xi_UnknownKind_BadKind : PySem.W.kitOne K (.ref C_BadKind) (.ref C_UnknownKind) = some false)
    (xi_ValueError_BadKind : PySem.W.kitOne K (.ref C_BadKind) (.type "ValueError") = some true)
    (aC_BadName : PySem.W.nsIn K mainGlobals "BadName" = some (some (.ref C_BadName)))
    (lx_BadName : K.lookup C_BadName = some (excClassObj nm_BadName q_BadName C_BadName N_BadName bs_BadName bm_BadName true sn_BadName sub_BadName ab_BadName col_BadName dd_BadName k0_BadName k1_BadName k2_BadName k3_BadName k5_BadName "ValueError.__new__"))
    (rv_BadName : PySem.HandSPX.refsVE bm_BadName = true)
    (sa_BadName : PySem.W.findIn K (.ref C_BadName) "__setattr__" = some (some (.builtin "object.__setattr__")))
    (ex_BadName : PySem.W.subIn K (.ref C_BadName) (.type "BaseException") = some true)
    (ty_BadName : PySem.W.typeIn K (.ref C_BadName) = some (.type "type"))
    (kc_BadName : PySem.W.keepIn K (.ref C_BadName) = true)
    (no_BadName : PySem.W.findIn K (.ref C_BadName) "name" = some none)
    (ga_BadName : PySem.W.findIn K (.ref C_BadName) "__getattribute__" = some (some (.builtin "BaseException.__getattribute__")))
    (gg_BadName : PySem.W.findIn K (.ref C_BadName) "__getattr__" = some none)
    (hd_BadName : PySem.W.hasDictIn K C_BadName = true)
    (xa_BadName : PySem.W.findIn K (.ref C_BadName) "__class__" = some (some (.builtin "object.__class__")))
    (xm_BadName : PySem.W.mroIn K C_BadName (.type "object") = some true)
    (xi_BadBook_BadName : PySem.W.kitOne K (.ref C_BadName) (.ref C_BadBook) = some false)
    (xi_BadBranch_BadName : PySem.W.kitOne K (.ref C_BadName) (.ref C_BadBranch) = some false)
    (xi_BadKind_BadName : PySem.W.kitOne K (.ref C_BadName) (.ref C_BadKind) = some false)
    (xi_BadName_BadName : PySem.W.kitOne K (.ref C_BadName) (.ref C_BadName) = some true)
    (xi_BadPart_BadName : PySem.W.kitOne K (.ref C_BadName) (.ref C_BadPart) = some false)
    (xi_BadState_BadName : PySem.W.kitOne K (.ref C_BadName) (.ref C_BadState) = some false)
    (xi_BadText_BadName : PySem.W.kitOne K (.ref C_BadName) (.ref C_BadText) = some false)
    (xi_Below_BadName : PySem.W.kitOne K (.ref C_BadName) (.ref C_Below) = some false)
    (xi_HasParts_BadName : PySem.W.kitOne K (.ref C_BadName) (.ref C_HasParts) = some false)
    (xi_LastPart_BadName : PySem.W.kitOne K (.ref C_BadName) (.ref C_LastPart) = some false)
    (xi_NoDeed_BadName : PySem.W.kitOne K (.ref C_BadName) (.ref C_NoDeed) = some false)
    (xi_NoMark_BadName : PySem.W.kitOne K (.ref C_BadName) (.ref C_NoMark) = some false)
    (xi_NoParts_BadName : PySem.W.kitOne K (.ref C_BadName) (.ref C_NoParts) = some false)
    (xi_NoTask_BadName : PySem.W.kitOne K (.ref C_BadName) (.ref C_NoTask) = some false)
    (xi_PartsError_BadName : PySem.W.kitOne K (.ref C_BadName) (.ref C_PartsError) = some true)
    (xi_Taken_BadName : PySem.W.kitOne K (.ref C_BadName) (.ref C_Taken) = some false)
    (xi_TopTask_BadName : PySem.W.kitOne K (.ref C_BadName) (.ref C_TopTask) = some false)
    (xi_UnknownKind_BadName : PySem.W.kitOne K (.ref C_BadName) (.ref C_UnknownKind) = some false)
    (xi_ValueError_BadName : PySem.W.kitOne K (.ref C_BadName) (.type "ValueError") = some true)
    (aC_BadPart : PySem.W.nsIn K mainGlobals "BadPart" = some (some (.ref C_BadPart)))
    (lx_BadPart : K.lookup C_BadPart = some (excClassObj nm_BadPart q_BadPart C_BadPart N_BadPart bs_BadPart bm_BadPart true sn_BadPart sub_BadPart ab_BadPart col_BadPart dd_BadPart k0_BadPart k1_BadPart k2_BadPart k3_BadPart k5_BadPart "ValueError.__new__"))
    (rv_BadPart : PySem.HandSPX.refsVE bm_BadPart = true)
    (sa_BadPart : PySem.W.findIn K (.ref C_BadPart) "__setattr__" = some (some (.builtin "object.__setattr__")))
    (ex_BadPart : PySem.W.subIn K (.ref C_BadPart) (.type "BaseException") = some true)
    (ty_BadPart : PySem.W.typeIn K (.ref C_BadPart) = some (.type "type"))
    (kc_BadPart : PySem.W.keepIn K (.ref C_BadPart) = true)
    (no_BadPart : PySem.W.findIn K (.ref C_BadPart) "kind" = some none)
    (ga_BadPart : PySem.W.findIn K (.ref C_BadPart) "__getattribute__" = some (some (.builtin "BaseException.__getattribute__")))
    (gg_BadPart : PySem.W.findIn K (.ref C_BadPart) "__getattr__" = some none)
    (hd_BadPart : PySem.W.hasDictIn K C_BadPart = true)
    (xa_BadPart : PySem.W.findIn K (.ref C_BadPart) "__class__" = some (some (.builtin "object.__class__")))
    (xm_BadPart : PySem.W.mroIn K C_BadPart (.type "object") = some true)
    (xi_BadBook_BadPart : PySem.W.kitOne K (.ref C_BadPart) (.ref C_BadBook) = some false)
    (xi_BadBranch_BadPart : PySem.W.kitOne K (.ref C_BadPart) (.ref C_BadBranch) = some false)
    (xi_BadKind_BadPart : PySem.W.kitOne K (.ref C_BadPart) (.ref C_BadKind) = some false)
    (xi_BadName_BadPart : PySem.W.kitOne K (.ref C_BadPart) (.ref C_BadName) = some false)
    (xi_BadPart_BadPart : PySem.W.kitOne K (.ref C_BadPart) (.ref C_BadPart) = some true)
    (xi_BadState_BadPart : PySem.W.kitOne K (.ref C_BadPart) (.ref C_BadState) = some false)
    (xi_BadText_BadPart : PySem.W.kitOne K (.ref C_BadPart) (.ref C_BadText) = some false)
    (xi_Below_BadPart : PySem.W.kitOne K (.ref C_BadPart) (.ref C_Below) = some false)
    (xi_HasParts_BadPart : PySem.W.kitOne K (.ref C_BadPart) (.ref C_HasParts) = some false)
    (xi_LastPart_BadPart : PySem.W.kitOne K (.ref C_BadPart) (.ref C_LastPart) = some false)
    (xi_NoDeed_BadPart : PySem.W.kitOne K (.ref C_BadPart) (.ref C_NoDeed) = some false)
    (xi_NoMark_BadPart : PySem.W.kitOne K (.ref C_BadPart) (.ref C_NoMark) = some false)
    (xi_NoParts_BadPart : PySem.W.kitOne K (.ref C_BadPart) (.ref C_NoParts) = some false)
    (xi_NoTask_BadPart : PySem.W.kitOne K (.ref C_BadPart) (.ref C_NoTask) = some false)
    (xi_PartsError_BadPart : PySem.W.kitOne K (.ref C_BadPart) (.ref C_PartsError) = some true)
    (xi_Taken_BadPart : PySem.W.kitOne K (.ref C_BadPart) (.ref C_Taken) = some false)
    (xi_TopTask_BadPart : PySem.W.kitOne K (.ref C_BadPart) (.ref C_TopTask) = some false)
    (xi_UnknownKind_BadPart : PySem.W.kitOne K (.ref C_BadPart) (.ref C_UnknownKind) = some false)
    (xi_ValueError_BadPart : PySem.W.kitOne K (.ref C_BadPart) (.type "ValueError") = some true)
    (aC_BadState : PySem.W.nsIn K mainGlobals "BadState" = some (some (.ref C_BadState)))
    (lx_BadState : K.lookup C_BadState = some (excClassObj nm_BadState q_BadState C_BadState N_BadState bs_BadState bm_BadState true sn_BadState sub_BadState ab_BadState col_BadState dd_BadState k0_BadState k1_BadState k2_BadState k3_BadState k5_BadState "ValueError.__new__"))
    (rv_BadState : PySem.HandSPX.refsVE bm_BadState = true)
    (sa_BadState : PySem.W.findIn K (.ref C_BadState) "__setattr__" = some (some (.builtin "object.__setattr__")))
    (ex_BadState : PySem.W.subIn K (.ref C_BadState) (.type "BaseException") = some true)
    (ty_BadState : PySem.W.typeIn K (.ref C_BadState) = some (.type "type"))
    (kc_BadState : PySem.W.keepIn K (.ref C_BadState) = true)
    (no_BadState : PySem.W.findIn K (.ref C_BadState) "state" = some none)
    (ga_BadState : PySem.W.findIn K (.ref C_BadState) "__getattribute__" = some (some (.builtin "BaseException.__getattribute__")))
    (gg_BadState : PySem.W.findIn K (.ref C_BadState) "__getattr__" = some none)
    (hd_BadState : PySem.W.hasDictIn K C_BadState = true)
    (xa_BadState : PySem.W.findIn K (.ref C_BadState) "__class__" = some (some (.builtin "object.__class__")))
    (xm_BadState : PySem.W.mroIn K C_BadState (.type "object") = some true)
    (xi_BadBook_BadState : PySem.W.kitOne K (.ref C_BadState) (.ref C_BadBook) = some false)
    (xi_BadBranch_BadState : PySem.W.kitOne K (.ref C_BadState) (.ref C_BadBranch) = some false)
    (xi_BadKind_BadState : PySem.W.kitOne K (.ref C_BadState) (.ref C_BadKind) = some false)
    (xi_BadName_BadState : PySem.W.kitOne K (.ref C_BadState) (.ref C_BadName) = some false)
    (xi_BadPart_BadState : PySem.W.kitOne K (.ref C_BadState) (.ref C_BadPart) = some false)
    (xi_BadState_BadState : PySem.W.kitOne K (.ref C_BadState) (.ref C_BadState) = some true)
    (xi_BadText_BadState : PySem.W.kitOne K (.ref C_BadState) (.ref C_BadText) = some false)
    (xi_Below_BadState : PySem.W.kitOne K (.ref C_BadState) (.ref C_Below) = some false)
    (xi_HasParts_BadState : PySem.W.kitOne K (.ref C_BadState) (.ref C_HasParts) = some false)
    (xi_LastPart_BadState : PySem.W.kitOne K (.ref C_BadState) (.ref C_LastPart) = some false)
    (xi_NoDeed_BadState : PySem.W.kitOne K (.ref C_BadState) (.ref C_NoDeed) = some false)
    (xi_NoMark_BadState : PySem.W.kitOne K (.ref C_BadState) (.ref C_NoMark) = some false)
    (xi_NoParts_BadState : PySem.W.kitOne K (.ref C_BadState) (.ref C_NoParts) = some false)
    (xi_NoTask_BadState : PySem.W.kitOne K (.ref C_BadState) (.ref C_NoTask) = some false)
    (xi_PartsError_BadState : PySem.W.kitOne K (.ref C_BadState) (.ref C_PartsError) = some true)
    (xi_Taken_BadState : PySem.W.kitOne K (.ref C_BadState) (.ref C_Taken) = some false)
    (xi_TopTask_BadState : PySem.W.kitOne K (.ref C_BadState) (.ref C_TopTask) = some false)
    (xi_UnknownKind_BadState : PySem.W.kitOne K (.ref C_BadState) (.ref C_UnknownKind) = some false)
    (xi_ValueError_BadState : PySem.W.kitOne K (.ref C_BadState) (.type "ValueError") = some true)
    (aC_BadText : PySem.W.nsIn K mainGlobals "BadText" = some (some (.ref C_BadText)))
    (lx_BadText : K.lookup C_BadText = some (excClassObj nm_BadText q_BadText C_BadText N_BadText bs_BadText bm_BadText true sn_BadText sub_BadText ab_BadText col_BadText dd_BadText k0_BadText k1_BadText k2_BadText k3_BadText k5_BadText "ValueError.__new__"))
    (rv_BadText : PySem.HandSPX.refsVE bm_BadText = true)
    (sa_BadText : PySem.W.findIn K (.ref C_BadText) "__setattr__" = some (some (.builtin "object.__setattr__")))
    (ex_BadText : PySem.W.subIn K (.ref C_BadText) (.type "BaseException") = some true)
    (ty_BadText : PySem.W.typeIn K (.ref C_BadText) = some (.type "type"))
    (kc_BadText : PySem.W.keepIn K (.ref C_BadText) = true)
    (no_BadText : PySem.W.findIn K (.ref C_BadText) "line" = some none)
    (ga_BadText : PySem.W.findIn K (.ref C_BadText) "__getattribute__" = some (some (.builtin "BaseException.__getattribute__")))
    (gg_BadText : PySem.W.findIn K (.ref C_BadText) "__getattr__" = some none)
    (hd_BadText : PySem.W.hasDictIn K C_BadText = true)
    (xa_BadText : PySem.W.findIn K (.ref C_BadText) "__class__" = some (some (.builtin "object.__class__")))
    (xm_BadText : PySem.W.mroIn K C_BadText (.type "object") = some true)
    (xi_BadBook_BadText : PySem.W.kitOne K (.ref C_BadText) (.ref C_BadBook) = some false)
    (xi_BadBranch_BadText : PySem.W.kitOne K (.ref C_BadText) (.ref C_BadBranch) = some false)
    (xi_BadKind_BadText : PySem.W.kitOne K (.ref C_BadText) (.ref C_BadKind) = some false)
    (xi_BadName_BadText : PySem.W.kitOne K (.ref C_BadText) (.ref C_BadName) = some false)
    (xi_BadPart_BadText : PySem.W.kitOne K (.ref C_BadText) (.ref C_BadPart) = some false)
    (xi_BadState_BadText : PySem.W.kitOne K (.ref C_BadText) (.ref C_BadState) = some false)
    (xi_BadText_BadText : PySem.W.kitOne K (.ref C_BadText) (.ref C_BadText) = some true)
    (xi_Below_BadText : PySem.W.kitOne K (.ref C_BadText) (.ref C_Below) = some false)
    (xi_HasParts_BadText : PySem.W.kitOne K (.ref C_BadText) (.ref C_HasParts) = some false)
    (xi_LastPart_BadText : PySem.W.kitOne K (.ref C_BadText) (.ref C_LastPart) = some false)
    (xi_NoDeed_BadText : PySem.W.kitOne K (.ref C_BadText) (.ref C_NoDeed) = some false)
    (xi_NoMark_BadText : PySem.W.kitOne K (.ref C_BadText) (.ref C_NoMark) = some false)
    (xi_NoParts_BadText : PySem.W.kitOne K (.ref C_BadText) (.ref C_NoParts) = some false)
    (xi_NoTask_BadText : PySem.W.kitOne K (.ref C_BadText) (.ref C_NoTask) = some false)
    (xi_PartsError_BadText : PySem.W.kitOne K (.ref C_BadText) (.ref C_PartsError) = some true)
    (xi_Taken_BadText : PySem.W.kitOne K (.ref C_BadText) (.ref C_Taken) = some false)
    (xi_TopTask_BadText : PySem.W.kitOne K (.ref C_BadText) (.ref C_TopTask) = some false)
    (xi_UnknownKind_BadText : PySem.W.kitOne K (.ref C_BadText) (.ref C_UnknownKind) = some false)
    (xi_ValueError_BadText : PySem.W.kitOne K (.ref C_BadText) (.type "ValueError") = some true)
    (aC_Below : PySem.W.nsIn K mainGlobals "Below" = some (some (.ref C_Below)))
    (lx_Below : K.lookup C_Below = some (excClassObj nm_Below q_Below C_Below N_Below bs_Below bm_Below true sn_Below sub_Below ab_Below col_Below dd_Below k0_Below k1_Below k2_Below k3_Below k5_Below "ValueError.__new__"))
    (rv_Below : PySem.HandSPX.refsVE bm_Below = true)
    (sa_Below : PySem.W.findIn K (.ref C_Below) "__setattr__" = some (some (.builtin "object.__setattr__")))
    (ex_Below : PySem.W.subIn K (.ref C_Below) (.type "BaseException") = some true)
    (ty_Below : PySem.W.typeIn K (.ref C_Below) = some (.type "type"))
    (kc_Below : PySem.W.keepIn K (.ref C_Below) = true)
    (no_Below : PySem.W.findIn K (.ref C_Below) "name" = some none)
    (ga_Below : PySem.W.findIn K (.ref C_Below) "__getattribute__" = some (some (.builtin "BaseException.__getattribute__")))
    (gg_Below : PySem.W.findIn K (.ref C_Below) "__getattr__" = some none)
    (hd_Below : PySem.W.hasDictIn K C_Below = true)
    (xa_Below : PySem.W.findIn K (.ref C_Below) "__class__" = some (some (.builtin "object.__class__")))
    (xm_Below : PySem.W.mroIn K C_Below (.type "object") = some true)
    (xi_BadBook_Below : PySem.W.kitOne K (.ref C_Below) (.ref C_BadBook) = some false)
    (xi_BadBranch_Below : PySem.W.kitOne K (.ref C_Below) (.ref C_BadBranch) = some false)
    (xi_BadKind_Below : PySem.W.kitOne K (.ref C_Below) (.ref C_BadKind) = some false)
    (xi_BadName_Below : PySem.W.kitOne K (.ref C_Below) (.ref C_BadName) = some false)
    (xi_BadPart_Below : PySem.W.kitOne K (.ref C_Below) (.ref C_BadPart) = some false)
    (xi_BadState_Below : PySem.W.kitOne K (.ref C_Below) (.ref C_BadState) = some false)
    (xi_BadText_Below : PySem.W.kitOne K (.ref C_Below) (.ref C_BadText) = some false)
    (xi_Below_Below : PySem.W.kitOne K (.ref C_Below) (.ref C_Below) = some true)
    (xi_HasParts_Below : PySem.W.kitOne K (.ref C_Below) (.ref C_HasParts) = some false)
    (xi_LastPart_Below : PySem.W.kitOne K (.ref C_Below) (.ref C_LastPart) = some false)
    (xi_NoDeed_Below : PySem.W.kitOne K (.ref C_Below) (.ref C_NoDeed) = some false)
    (xi_NoMark_Below : PySem.W.kitOne K (.ref C_Below) (.ref C_NoMark) = some false)
    (xi_NoParts_Below : PySem.W.kitOne K (.ref C_Below) (.ref C_NoParts) = some false)
    (xi_NoTask_Below : PySem.W.kitOne K (.ref C_Below) (.ref C_NoTask) = some false)
    (xi_PartsError_Below : PySem.W.kitOne K (.ref C_Below) (.ref C_PartsError) = some true)
    (xi_Taken_Below : PySem.W.kitOne K (.ref C_Below) (.ref C_Taken) = some false)
    (xi_TopTask_Below : PySem.W.kitOne K (.ref C_Below) (.ref C_TopTask) = some false)
    (xi_UnknownKind_Below : PySem.W.kitOne K (.ref C_Below) (.ref C_UnknownKind) = some false)
    (xi_ValueError_Below : PySem.W.kitOne K (.ref C_Below) (.type "ValueError") = some true)
    (aC_HasParts : PySem.W.nsIn K mainGlobals "HasParts" = some (some (.ref C_HasParts)))
    (lx_HasParts : K.lookup C_HasParts = some (excClassObj nm_HasParts q_HasParts C_HasParts N_HasParts bs_HasParts bm_HasParts true sn_HasParts sub_HasParts ab_HasParts col_HasParts dd_HasParts k0_HasParts k1_HasParts k2_HasParts k3_HasParts k5_HasParts "ValueError.__new__"))
    (rv_HasParts : PySem.HandSPX.refsVE bm_HasParts = true)
    (sa_HasParts : PySem.W.findIn K (.ref C_HasParts) "__setattr__" = some (some (.builtin "object.__setattr__")))
    (ex_HasParts : PySem.W.subIn K (.ref C_HasParts) (.type "BaseException") = some true)
    (ty_HasParts : PySem.W.typeIn K (.ref C_HasParts) = some (.type "type"))
    (kc_HasParts : PySem.W.keepIn K (.ref C_HasParts) = true)
    (no_HasParts : PySem.W.findIn K (.ref C_HasParts) "name" = some none)
    (ga_HasParts : PySem.W.findIn K (.ref C_HasParts) "__getattribute__" = some (some (.builtin "BaseException.__getattribute__")))
    (gg_HasParts : PySem.W.findIn K (.ref C_HasParts) "__getattr__" = some none)
    (hd_HasParts : PySem.W.hasDictIn K C_HasParts = true)
    (xa_HasParts : PySem.W.findIn K (.ref C_HasParts) "__class__" = some (some (.builtin "object.__class__")))
    (xm_HasParts : PySem.W.mroIn K C_HasParts (.type "object") = some true)
    (xi_BadBook_HasParts : PySem.W.kitOne K (.ref C_HasParts) (.ref C_BadBook) = some false)
    (xi_BadBranch_HasParts : PySem.W.kitOne K (.ref C_HasParts) (.ref C_BadBranch) = some false)
    (xi_BadKind_HasParts : PySem.W.kitOne K (.ref C_HasParts) (.ref C_BadKind) = some false)
    (xi_BadName_HasParts : PySem.W.kitOne K (.ref C_HasParts) (.ref C_BadName) = some false)
    (xi_BadPart_HasParts : PySem.W.kitOne K (.ref C_HasParts) (.ref C_BadPart) = some false)
    (xi_BadState_HasParts : PySem.W.kitOne K (.ref C_HasParts) (.ref C_BadState) = some false)
    (xi_BadText_HasParts : PySem.W.kitOne K (.ref C_HasParts) (.ref C_BadText) = some false)
    (xi_Below_HasParts : PySem.W.kitOne K (.ref C_HasParts) (.ref C_Below) = some false)
    (xi_HasParts_HasParts : PySem.W.kitOne K (.ref C_HasParts) (.ref C_HasParts) = some true)
    (xi_LastPart_HasParts : PySem.W.kitOne K (.ref C_HasParts) (.ref C_LastPart) = some false)
    (xi_NoDeed_HasParts : PySem.W.kitOne K (.ref C_HasParts) (.ref C_NoDeed) = some false)
    (xi_NoMark_HasParts : PySem.W.kitOne K (.ref C_HasParts) (.ref C_NoMark) = some false)
    (xi_NoParts_HasParts : PySem.W.kitOne K (.ref C_HasParts) (.ref C_NoParts) = some false)
    (xi_NoTask_HasParts : PySem.W.kitOne K (.ref C_HasParts) (.ref C_NoTask) = some false)
    (xi_PartsError_HasParts : PySem.W.kitOne K (.ref C_HasParts) (.ref C_PartsError) = some true)
    (xi_Taken_HasParts : PySem.W.kitOne K (.ref C_HasParts) (.ref C_Taken) = some false)
    (xi_TopTask_HasParts : PySem.W.kitOne K (.ref C_HasParts) (.ref C_TopTask) = some false)
    (xi_UnknownKind_HasParts : PySem.W.kitOne K (.ref C_HasParts) (.ref C_UnknownKind) = some false)
    (xi_ValueError_HasParts : PySem.W.kitOne K (.ref C_HasParts) (.type "ValueError") = some true)
    (aC_LastPart : PySem.W.nsIn K mainGlobals "LastPart" = some (some (.ref C_LastPart)))
    (lx_LastPart : K.lookup C_LastPart = some (excClassObj nm_LastPart q_LastPart C_LastPart N_LastPart bs_LastPart bm_LastPart true sn_LastPart sub_LastPart ab_LastPart col_LastPart dd_LastPart k0_LastPart k1_LastPart k2_LastPart k3_LastPart k5_LastPart "ValueError.__new__"))
    (rv_LastPart : PySem.HandSPX.refsVE bm_LastPart = true)
    (sa_LastPart : PySem.W.findIn K (.ref C_LastPart) "__setattr__" = some (some (.builtin "object.__setattr__")))
    (ex_LastPart : PySem.W.subIn K (.ref C_LastPart) (.type "BaseException") = some true)
    (ty_LastPart : PySem.W.typeIn K (.ref C_LastPart) = some (.type "type"))
    (kc_LastPart : PySem.W.keepIn K (.ref C_LastPart) = true)
    (no_LastPart : PySem.W.findIn K (.ref C_LastPart) "name" = some none)
    (ga_LastPart : PySem.W.findIn K (.ref C_LastPart) "__getattribute__" = some (some (.builtin "BaseException.__getattribute__")))
    (gg_LastPart : PySem.W.findIn K (.ref C_LastPart) "__getattr__" = some none)
    (hd_LastPart : PySem.W.hasDictIn K C_LastPart = true)
    (xa_LastPart : PySem.W.findIn K (.ref C_LastPart) "__class__" = some (some (.builtin "object.__class__")))
    (xm_LastPart : PySem.W.mroIn K C_LastPart (.type "object") = some true)
    (xi_BadBook_LastPart : PySem.W.kitOne K (.ref C_LastPart) (.ref C_BadBook) = some false)
    (xi_BadBranch_LastPart : PySem.W.kitOne K (.ref C_LastPart) (.ref C_BadBranch) = some false)
    (xi_BadKind_LastPart : PySem.W.kitOne K (.ref C_LastPart) (.ref C_BadKind) = some false)
    (xi_BadName_LastPart : PySem.W.kitOne K (.ref C_LastPart) (.ref C_BadName) = some false)
    (xi_BadPart_LastPart : PySem.W.kitOne K (.ref C_LastPart) (.ref C_BadPart) = some false)
    (xi_BadState_LastPart : PySem.W.kitOne K (.ref C_LastPart) (.ref C_BadState) = some false)
    (xi_BadText_LastPart : PySem.W.kitOne K (.ref C_LastPart) (.ref C_BadText) = some false)
    (xi_Below_LastPart : PySem.W.kitOne K (.ref C_LastPart) (.ref C_Below) = some false)
    (xi_HasParts_LastPart : PySem.W.kitOne K (.ref C_LastPart) (.ref C_HasParts) = some false)
    (xi_LastPart_LastPart : PySem.W.kitOne K (.ref C_LastPart) (.ref C_LastPart) = some true)
    (xi_NoDeed_LastPart : PySem.W.kitOne K (.ref C_LastPart) (.ref C_NoDeed) = some false)
    (xi_NoMark_LastPart : PySem.W.kitOne K (.ref C_LastPart) (.ref C_NoMark) = some false)
    (xi_NoParts_LastPart : PySem.W.kitOne K (.ref C_LastPart) (.ref C_NoParts) = some false)
    (xi_NoTask_LastPart : PySem.W.kitOne K (.ref C_LastPart) (.ref C_NoTask) = some false)
    (xi_PartsError_LastPart : PySem.W.kitOne K (.ref C_LastPart) (.ref C_PartsError) = some true)
    (xi_Taken_LastPart : PySem.W.kitOne K (.ref C_LastPart) (.ref C_Taken) = some false)
    (xi_TopTask_LastPart : PySem.W.kitOne K (.ref C_LastPart) (.ref C_TopTask) = some false)
    (xi_UnknownKind_LastPart : PySem.W.kitOne K (.ref C_LastPart) (.ref C_UnknownKind) = some false)
    (xi_ValueError_LastPart : PySem.W.kitOne K (.ref C_LastPart) (.type "ValueError") = some true)
    (aC_NoMark : PySem.W.nsIn K mainGlobals "NoMark" = some (some (.ref C_NoMark)))
    (lx_NoMark : K.lookup C_NoMark = some (excClassObj nm_NoMark q_NoMark C_NoMark N_NoMark bs_NoMark bm_NoMark true sn_NoMark sub_NoMark ab_NoMark col_NoMark dd_NoMark k0_NoMark k1_NoMark k2_NoMark k3_NoMark k5_NoMark "ValueError.__new__"))
    (rv_NoMark : PySem.HandSPX.refsVE bm_NoMark = true)
    (sa_NoMark : PySem.W.findIn K (.ref C_NoMark) "__setattr__" = some (some (.builtin "object.__setattr__")))
    (ex_NoMark : PySem.W.subIn K (.ref C_NoMark) (.type "BaseException") = some true)
    (ty_NoMark : PySem.W.typeIn K (.ref C_NoMark) = some (.type "type"))
    (kc_NoMark : PySem.W.keepIn K (.ref C_NoMark) = true)
    (no_NoMark : PySem.W.findIn K (.ref C_NoMark) "name" = some none)
    (ga_NoMark : PySem.W.findIn K (.ref C_NoMark) "__getattribute__" = some (some (.builtin "BaseException.__getattribute__")))
    (gg_NoMark : PySem.W.findIn K (.ref C_NoMark) "__getattr__" = some none)
    (hd_NoMark : PySem.W.hasDictIn K C_NoMark = true)
    (xa_NoMark : PySem.W.findIn K (.ref C_NoMark) "__class__" = some (some (.builtin "object.__class__")))
    (xm_NoMark : PySem.W.mroIn K C_NoMark (.type "object") = some true)
    (xi_BadBook_NoMark : PySem.W.kitOne K (.ref C_NoMark) (.ref C_BadBook) = some false)
    (xi_BadBranch_NoMark : PySem.W.kitOne K (.ref C_NoMark) (.ref C_BadBranch) = some false)
    (xi_BadKind_NoMark : PySem.W.kitOne K (.ref C_NoMark) (.ref C_BadKind) = some false)
    (xi_BadName_NoMark : PySem.W.kitOne K (.ref C_NoMark) (.ref C_BadName) = some false)
    (xi_BadPart_NoMark : PySem.W.kitOne K (.ref C_NoMark) (.ref C_BadPart) = some false)
    (xi_BadState_NoMark : PySem.W.kitOne K (.ref C_NoMark) (.ref C_BadState) = some false)
    (xi_BadText_NoMark : PySem.W.kitOne K (.ref C_NoMark) (.ref C_BadText) = some false)
    (xi_Below_NoMark : PySem.W.kitOne K (.ref C_NoMark) (.ref C_Below) = some false)
    (xi_HasParts_NoMark : PySem.W.kitOne K (.ref C_NoMark) (.ref C_HasParts) = some false)
    (xi_LastPart_NoMark : PySem.W.kitOne K (.ref C_NoMark) (.ref C_LastPart) = some false)
    (xi_NoDeed_NoMark : PySem.W.kitOne K (.ref C_NoMark) (.ref C_NoDeed) = some false)
    (xi_NoMark_NoMark : PySem.W.kitOne K (.ref C_NoMark) (.ref C_NoMark) = some true)
    (xi_NoParts_NoMark : PySem.W.kitOne K (.ref C_NoMark) (.ref C_NoParts) = some false)
    (xi_NoTask_NoMark : PySem.W.kitOne K (.ref C_NoMark) (.ref C_NoTask) = some false)
    (xi_PartsError_NoMark : PySem.W.kitOne K (.ref C_NoMark) (.ref C_PartsError) = some true)
    (xi_Taken_NoMark : PySem.W.kitOne K (.ref C_NoMark) (.ref C_Taken) = some false)
    (xi_TopTask_NoMark : PySem.W.kitOne K (.ref C_NoMark) (.ref C_TopTask) = some false)
    (xi_UnknownKind_NoMark : PySem.W.kitOne K (.ref C_NoMark) (.ref C_UnknownKind) = some false)
    (xi_ValueError_NoMark : PySem.W.kitOne K (.ref C_NoMark) (.type "ValueError") = some true)
    (aC_NoParts : PySem.W.nsIn K mainGlobals "NoParts" = some (some (.ref C_NoParts)))
    (lx_NoParts : K.lookup C_NoParts = some (excClassObj nm_NoParts q_NoParts C_NoParts N_NoParts bs_NoParts bm_NoParts true sn_NoParts sub_NoParts ab_NoParts col_NoParts dd_NoParts k0_NoParts k1_NoParts k2_NoParts k3_NoParts k5_NoParts "ValueError.__new__"))
    (rv_NoParts : PySem.HandSPX.refsVE bm_NoParts = true)
    (sa_NoParts : PySem.W.findIn K (.ref C_NoParts) "__setattr__" = some (some (.builtin "object.__setattr__")))
    (ex_NoParts : PySem.W.subIn K (.ref C_NoParts) (.type "BaseException") = some true)
    (ty_NoParts : PySem.W.typeIn K (.ref C_NoParts) = some (.type "type"))
    (kc_NoParts : PySem.W.keepIn K (.ref C_NoParts) = true)
    (no_NoParts : PySem.W.findIn K (.ref C_NoParts) "name" = some none)
    (ga_NoParts : PySem.W.findIn K (.ref C_NoParts) "__getattribute__" = some (some (.builtin "BaseException.__getattribute__")))
    (gg_NoParts : PySem.W.findIn K (.ref C_NoParts) "__getattr__" = some none)
    (hd_NoParts : PySem.W.hasDictIn K C_NoParts = true)
    (xa_NoParts : PySem.W.findIn K (.ref C_NoParts) "__class__" = some (some (.builtin "object.__class__")))
    (xm_NoParts : PySem.W.mroIn K C_NoParts (.type "object") = some true)
    (xi_BadBook_NoParts : PySem.W.kitOne K (.ref C_NoParts) (.ref C_BadBook) = some false)
    (xi_BadBranch_NoParts : PySem.W.kitOne K (.ref C_NoParts) (.ref C_BadBranch) = some false)
    (xi_BadKind_NoParts : PySem.W.kitOne K (.ref C_NoParts) (.ref C_BadKind) = some false)
    (xi_BadName_NoParts : PySem.W.kitOne K (.ref C_NoParts) (.ref C_BadName) = some false)
    (xi_BadPart_NoParts : PySem.W.kitOne K (.ref C_NoParts) (.ref C_BadPart) = some false)
    (xi_BadState_NoParts : PySem.W.kitOne K (.ref C_NoParts) (.ref C_BadState) = some false)
    (xi_BadText_NoParts : PySem.W.kitOne K (.ref C_NoParts) (.ref C_BadText) = some false)
    (xi_Below_NoParts : PySem.W.kitOne K (.ref C_NoParts) (.ref C_Below) = some false)
    (xi_HasParts_NoParts : PySem.W.kitOne K (.ref C_NoParts) (.ref C_HasParts) = some false)
    (xi_LastPart_NoParts : PySem.W.kitOne K (.ref C_NoParts) (.ref C_LastPart) = some false)
    (xi_NoDeed_NoParts : PySem.W.kitOne K (.ref C_NoParts) (.ref C_NoDeed) = some false)
    (xi_NoMark_NoParts : PySem.W.kitOne K (.ref C_NoParts) (.ref C_NoMark) = some false)
    (xi_NoParts_NoParts : PySem.W.kitOne K (.ref C_NoParts) (.ref C_NoParts) = some true)
    (xi_NoTask_NoParts : PySem.W.kitOne K (.ref C_NoParts) (.ref C_NoTask) = some false)
    (xi_PartsError_NoParts : PySem.W.kitOne K (.ref C_NoParts) (.ref C_PartsError) = some true)
    (xi_Taken_NoParts : PySem.W.kitOne K (.ref C_NoParts) (.ref C_Taken) = some false)
    (xi_TopTask_NoParts : PySem.W.kitOne K (.ref C_NoParts) (.ref C_TopTask) = some false)
    (xi_UnknownKind_NoParts : PySem.W.kitOne K (.ref C_NoParts) (.ref C_UnknownKind) = some false)
    (xi_ValueError_NoParts : PySem.W.kitOne K (.ref C_NoParts) (.type "ValueError") = some true)
    (aC_NoTask : PySem.W.nsIn K mainGlobals "NoTask" = some (some (.ref C_NoTask)))
    (lx_NoTask : K.lookup C_NoTask = some (excClassObj nm_NoTask q_NoTask C_NoTask N_NoTask bs_NoTask bm_NoTask true sn_NoTask sub_NoTask ab_NoTask col_NoTask dd_NoTask k0_NoTask k1_NoTask k2_NoTask k3_NoTask k5_NoTask "ValueError.__new__"))
    (rv_NoTask : PySem.HandSPX.refsVE bm_NoTask = true)
    (sa_NoTask : PySem.W.findIn K (.ref C_NoTask) "__setattr__" = some (some (.builtin "object.__setattr__")))
    (ex_NoTask : PySem.W.subIn K (.ref C_NoTask) (.type "BaseException") = some true)
    (ty_NoTask : PySem.W.typeIn K (.ref C_NoTask) = some (.type "type"))
    (kc_NoTask : PySem.W.keepIn K (.ref C_NoTask) = true)
    (no_NoTask : PySem.W.findIn K (.ref C_NoTask) "name" = some none)
    (ga_NoTask : PySem.W.findIn K (.ref C_NoTask) "__getattribute__" = some (some (.builtin "BaseException.__getattribute__")))
    (gg_NoTask : PySem.W.findIn K (.ref C_NoTask) "__getattr__" = some none)
    (hd_NoTask : PySem.W.hasDictIn K C_NoTask = true)
    (xa_NoTask : PySem.W.findIn K (.ref C_NoTask) "__class__" = some (some (.builtin "object.__class__")))
    (xm_NoTask : PySem.W.mroIn K C_NoTask (.type "object") = some true)
    (xi_BadBook_NoTask : PySem.W.kitOne K (.ref C_NoTask) (.ref C_BadBook) = some false)
    (xi_BadBranch_NoTask : PySem.W.kitOne K (.ref C_NoTask) (.ref C_BadBranch) = some false)
    (xi_BadKind_NoTask : PySem.W.kitOne K (.ref C_NoTask) (.ref C_BadKind) = some false)
    (xi_BadName_NoTask : PySem.W.kitOne K (.ref C_NoTask) (.ref C_BadName) = some false)
    (xi_BadPart_NoTask : PySem.W.kitOne K (.ref C_NoTask) (.ref C_BadPart) = some false)
    (xi_BadState_NoTask : PySem.W.kitOne K (.ref C_NoTask) (.ref C_BadState) = some false)
    (xi_BadText_NoTask : PySem.W.kitOne K (.ref C_NoTask) (.ref C_BadText) = some false)
    (xi_Below_NoTask : PySem.W.kitOne K (.ref C_NoTask) (.ref C_Below) = some false)
    (xi_HasParts_NoTask : PySem.W.kitOne K (.ref C_NoTask) (.ref C_HasParts) = some false)
    (xi_LastPart_NoTask : PySem.W.kitOne K (.ref C_NoTask) (.ref C_LastPart) = some false)
    (xi_NoDeed_NoTask : PySem.W.kitOne K (.ref C_NoTask) (.ref C_NoDeed) = some false)
    (xi_NoMark_NoTask : PySem.W.kitOne K (.ref C_NoTask) (.ref C_NoMark) = some false)
    (xi_NoParts_NoTask : PySem.W.kitOne K (.ref C_NoTask) (.ref C_NoParts) = some false)
    (xi_NoTask_NoTask : PySem.W.kitOne K (.ref C_NoTask) (.ref C_NoTask) = some true)
    (xi_PartsError_NoTask : PySem.W.kitOne K (.ref C_NoTask) (.ref C_PartsError) = some true)
    (xi_Taken_NoTask : PySem.W.kitOne K (.ref C_NoTask) (.ref C_Taken) = some false)
    (xi_TopTask_NoTask : PySem.W.kitOne K (.ref C_NoTask) (.ref C_TopTask) = some false)
    (xi_UnknownKind_NoTask : PySem.W.kitOne K (.ref C_NoTask) (.ref C_UnknownKind) = some false)
    (xi_ValueError_NoTask : PySem.W.kitOne K (.ref C_NoTask) (.type "ValueError") = some true)
    (aC_Taken : PySem.W.nsIn K mainGlobals "Taken" = some (some (.ref C_Taken)))
    (lx_Taken : K.lookup C_Taken = some (excClassObj nm_Taken q_Taken C_Taken N_Taken bs_Taken bm_Taken true sn_Taken sub_Taken ab_Taken col_Taken dd_Taken k0_Taken k1_Taken k2_Taken k3_Taken k5_Taken "ValueError.__new__"))
    (rv_Taken : PySem.HandSPX.refsVE bm_Taken = true)
    (sa_Taken : PySem.W.findIn K (.ref C_Taken) "__setattr__" = some (some (.builtin "object.__setattr__")))
    (ex_Taken : PySem.W.subIn K (.ref C_Taken) (.type "BaseException") = some true)
    (ty_Taken : PySem.W.typeIn K (.ref C_Taken) = some (.type "type"))
    (kc_Taken : PySem.W.keepIn K (.ref C_Taken) = true)
    (no_Taken : PySem.W.findIn K (.ref C_Taken) "name" = some none)
    (ga_Taken : PySem.W.findIn K (.ref C_Taken) "__getattribute__" = some (some (.builtin "BaseException.__getattribute__")))
    (gg_Taken : PySem.W.findIn K (.ref C_Taken) "__getattr__" = some none)
    (hd_Taken : PySem.W.hasDictIn K C_Taken = true)
    (xa_Taken : PySem.W.findIn K (.ref C_Taken) "__class__" = some (some (.builtin "object.__class__")))
    (xm_Taken : PySem.W.mroIn K C_Taken (.type "object") = some true)
    (xi_BadBook_Taken : PySem.W.kitOne K (.ref C_Taken) (.ref C_BadBook) = some false)
    (xi_BadBranch_Taken : PySem.W.kitOne K (.ref C_Taken) (.ref C_BadBranch) = some false)
    (xi_BadKind_Taken : PySem.W.kitOne K (.ref C_Taken) (.ref C_BadKind) = some false)
    (xi_BadName_Taken : PySem.W.kitOne K (.ref C_Taken) (.ref C_BadName) = some false)
    (xi_BadPart_Taken : PySem.W.kitOne K (.ref C_Taken) (.ref C_BadPart) = some false)
    (xi_BadState_Taken : PySem.W.kitOne K (.ref C_Taken) (.ref C_BadState) = some false)
    (xi_BadText_Taken : PySem.W.kitOne K (.ref C_Taken) (.ref C_BadText) = some false)
    (xi_Below_Taken : PySem.W.kitOne K (.ref C_Taken) (.ref C_Below) = some false)
    (xi_HasParts_Taken : PySem.W.kitOne K (.ref C_Taken) (.ref C_HasParts) = some false)
    (xi_LastPart_Taken : PySem.W.kitOne K (.ref C_Taken) (.ref C_LastPart) = some false)
    (xi_NoDeed_Taken : PySem.W.kitOne K (.ref C_Taken) (.ref C_NoDeed) = some false)
    (xi_NoMark_Taken : PySem.W.kitOne K (.ref C_Taken) (.ref C_NoMark) = some false)
    (xi_NoParts_Taken : PySem.W.kitOne K (.ref C_Taken) (.ref C_NoParts) = some false)
    (xi_NoTask_Taken : PySem.W.kitOne K (.ref C_Taken) (.ref C_NoTask) = some false)
    (xi_PartsError_Taken : PySem.W.kitOne K (.ref C_Taken) (.ref C_PartsError) = some true)
    (xi_Taken_Taken : PySem.W.kitOne K (.ref C_Taken) (.ref C_Taken) = some true)
    (xi_TopTask_Taken : PySem.W.kitOne K (.ref C_Taken) (.ref C_TopTask) = some false)
    (xi_UnknownKind_Taken : PySem.W.kitOne K (.ref C_Taken) (.ref C_UnknownKind) = some false)
    (xi_ValueError_Taken : PySem.W.kitOne K (.ref C_Taken) (.type "ValueError") = some true)
    (aC_TopTask : PySem.W.nsIn K mainGlobals "TopTask" = some (some (.ref C_TopTask)))
    (lx_TopTask : K.lookup C_TopTask = some (excClassObj nm_TopTask q_TopTask C_TopTask N_TopTask bs_TopTask bm_TopTask true sn_TopTask sub_TopTask ab_TopTask col_TopTask dd_TopTask k0_TopTask k1_TopTask k2_TopTask k3_TopTask k5_TopTask "ValueError.__new__"))
    (rv_TopTask : PySem.HandSPX.refsVE bm_TopTask = true)
    (sa_TopTask : PySem.W.findIn K (.ref C_TopTask) "__setattr__" = some (some (.builtin "object.__setattr__")))
    (ex_TopTask : PySem.W.subIn K (.ref C_TopTask) (.type "BaseException") = some true)
    (ty_TopTask : PySem.W.typeIn K (.ref C_TopTask) = some (.type "type"))
    (kc_TopTask : PySem.W.keepIn K (.ref C_TopTask) = true)
    (no_TopTask : PySem.W.findIn K (.ref C_TopTask) "name" = some none)
    (ga_TopTask : PySem.W.findIn K (.ref C_TopTask) "__getattribute__" = some (some (.builtin "BaseException.__getattribute__")))
    (gg_TopTask : PySem.W.findIn K (.ref C_TopTask) "__getattr__" = some none)
    (hd_TopTask : PySem.W.hasDictIn K C_TopTask = true)
    (xa_TopTask : PySem.W.findIn K (.ref C_TopTask) "__class__" = some (some (.builtin "object.__class__")))
    (xm_TopTask : PySem.W.mroIn K C_TopTask (.type "object") = some true)
    (xi_BadBook_TopTask : PySem.W.kitOne K (.ref C_TopTask) (.ref C_BadBook) = some false)
    (xi_BadBranch_TopTask : PySem.W.kitOne K (.ref C_TopTask) (.ref C_BadBranch) = some false)
    (xi_BadKind_TopTask : PySem.W.kitOne K (.ref C_TopTask) (.ref C_BadKind) = some false)
    (xi_BadName_TopTask : PySem.W.kitOne K (.ref C_TopTask) (.ref C_BadName) = some false)
    (xi_BadPart_TopTask : PySem.W.kitOne K (.ref C_TopTask) (.ref C_BadPart) = some false)
    (xi_BadState_TopTask : PySem.W.kitOne K (.ref C_TopTask) (.ref C_BadState) = some false)
    (xi_BadText_TopTask : PySem.W.kitOne K (.ref C_TopTask) (.ref C_BadText) = some false)
    (xi_Below_TopTask : PySem.W.kitOne K (.ref C_TopTask) (.ref C_Below) = some false)
    (xi_HasParts_TopTask : PySem.W.kitOne K (.ref C_TopTask) (.ref C_HasParts) = some false)
    (xi_LastPart_TopTask : PySem.W.kitOne K (.ref C_TopTask) (.ref C_LastPart) = some false)
    (xi_NoDeed_TopTask : PySem.W.kitOne K (.ref C_TopTask) (.ref C_NoDeed) = some false)
    (xi_NoMark_TopTask : PySem.W.kitOne K (.ref C_TopTask) (.ref C_NoMark) = some false)
    (xi_NoParts_TopTask : PySem.W.kitOne K (.ref C_TopTask) (.ref C_NoParts) = some false)
    (xi_NoTask_TopTask : PySem.W.kitOne K (.ref C_TopTask) (.ref C_NoTask) = some false)
    (xi_PartsError_TopTask : PySem.W.kitOne K (.ref C_TopTask) (.ref C_PartsError) = some true)
    (xi_Taken_TopTask : PySem.W.kitOne K (.ref C_TopTask) (.ref C_Taken) = some false)
    (xi_TopTask_TopTask : PySem.W.kitOne K (.ref C_TopTask) (.ref C_TopTask) = some true)
    (xi_UnknownKind_TopTask : PySem.W.kitOne K (.ref C_TopTask) (.ref C_UnknownKind) = some false)
    (xi_ValueError_TopTask : PySem.W.kitOne K (.ref C_TopTask) (.type "ValueError") = some true)
    (aC_UnknownKind : PySem.W.nsIn K mainGlobals "UnknownKind" = some (some (.ref C_UnknownKind)))
    (lx_UnknownKind : K.lookup C_UnknownKind = some (excClassObj nm_UnknownKind q_UnknownKind C_UnknownKind N_UnknownKind bs_UnknownKind bm_UnknownKind true sn_UnknownKind sub_UnknownKind ab_UnknownKind col_UnknownKind dd_UnknownKind k0_UnknownKind k1_UnknownKind k2_UnknownKind k3_UnknownKind k5_UnknownKind "ValueError.__new__"))
    (rv_UnknownKind : PySem.HandSPX.refsVE bm_UnknownKind = true)
    (sa_UnknownKind : PySem.W.findIn K (.ref C_UnknownKind) "__setattr__" = some (some (.builtin "object.__setattr__")))
    (ex_UnknownKind : PySem.W.subIn K (.ref C_UnknownKind) (.type "BaseException") = some true)
    (ty_UnknownKind : PySem.W.typeIn K (.ref C_UnknownKind) = some (.type "type"))
    (kc_UnknownKind : PySem.W.keepIn K (.ref C_UnknownKind) = true)
    (no_UnknownKind : PySem.W.findIn K (.ref C_UnknownKind) "kind" = some none)
    (ga_UnknownKind : PySem.W.findIn K (.ref C_UnknownKind) "__getattribute__" = some (some (.builtin "BaseException.__getattribute__")))
    (gg_UnknownKind : PySem.W.findIn K (.ref C_UnknownKind) "__getattr__" = some none)
    (hd_UnknownKind : PySem.W.hasDictIn K C_UnknownKind = true)
    (xa_UnknownKind : PySem.W.findIn K (.ref C_UnknownKind) "__class__" = some (some (.builtin "object.__class__")))
    (xm_UnknownKind : PySem.W.mroIn K C_UnknownKind (.type "object") = some true)
    (xi_BadBook_UnknownKind : PySem.W.kitOne K (.ref C_UnknownKind) (.ref C_BadBook) = some false)
    (xi_BadBranch_UnknownKind : PySem.W.kitOne K (.ref C_UnknownKind) (.ref C_BadBranch) = some false)
    (xi_BadKind_UnknownKind : PySem.W.kitOne K (.ref C_UnknownKind) (.ref C_BadKind) = some false)
    (xi_BadName_UnknownKind : PySem.W.kitOne K (.ref C_UnknownKind) (.ref C_BadName) = some false)
    (xi_BadPart_UnknownKind : PySem.W.kitOne K (.ref C_UnknownKind) (.ref C_BadPart) = some false)
    (xi_BadState_UnknownKind : PySem.W.kitOne K (.ref C_UnknownKind) (.ref C_BadState) = some false)
    (xi_BadText_UnknownKind : PySem.W.kitOne K (.ref C_UnknownKind) (.ref C_BadText) = some false)
    (xi_Below_UnknownKind : PySem.W.kitOne K (.ref C_UnknownKind) (.ref C_Below) = some false)
    (xi_HasParts_UnknownKind : PySem.W.kitOne K (.ref C_UnknownKind) (.ref C_HasParts) = some false)
    (xi_LastPart_UnknownKind : PySem.W.kitOne K (.ref C_UnknownKind) (.ref C_LastPart) = some false)
    (xi_NoDeed_UnknownKind : PySem.W.kitOne K (.ref C_UnknownKind) (.ref C_NoDeed) = some false)
    (xi_NoMark_UnknownKind : PySem.W.kitOne K (.ref C_UnknownKind) (.ref C_NoMark) = some false)
    (xi_NoParts_UnknownKind : PySem.W.kitOne K (.ref C_UnknownKind) (.ref C_NoParts) = some false)
    (xi_NoTask_UnknownKind : PySem.W.kitOne K (.ref C_UnknownKind) (.ref C_NoTask) = some false)
    (xi_PartsError_UnknownKind : PySem.W.kitOne K (.ref C_UnknownKind) (.ref C_PartsError) = some true)
    (xi_Taken_UnknownKind : PySem.W.kitOne K (.ref C_UnknownKind) (.ref C_Taken) = some false)
    (xi_TopTask_UnknownKind : PySem.W.kitOne K (.ref C_UnknownKind) (.ref C_TopTask) = some false)
    (xi_UnknownKind_UnknownKind : PySem.W.kitOne K (.ref C_UnknownKind) (.ref C_UnknownKind) = some true)
    (xi_ValueError_UnknownKind : PySem.W.kitOne K (.ref C_UnknownKind) (.type "ValueError") = some true)
    (aC_NoDeed : PySem.W.nsIn K mainGlobals "NoDeed" = some (some (.ref C_NoDeed)))
    (lx_NoDeed : K.lookup C_NoDeed = some (excClassObj nm_NoDeed q_NoDeed C_NoDeed N_NoDeed bs_NoDeed bm_NoDeed true sn_NoDeed sub_NoDeed ab_NoDeed col_NoDeed dd_NoDeed k0_NoDeed k1_NoDeed k2_NoDeed k3_NoDeed k5_NoDeed "ValueError.__new__"))
    (rv_NoDeed : PySem.HandSPX.refsVE bm_NoDeed = true)
    (sa_NoDeed : PySem.W.findIn K (.ref C_NoDeed) "__setattr__" = some (some (.builtin "object.__setattr__")))
    (ex_NoDeed : PySem.W.subIn K (.ref C_NoDeed) (.type "BaseException") = some true)
    (ty_NoDeed : PySem.W.typeIn K (.ref C_NoDeed) = some (.type "type"))
    (kc_NoDeed : PySem.W.keepIn K (.ref C_NoDeed) = true)
    (ga_NoDeed : PySem.W.findIn K (.ref C_NoDeed) "__getattribute__" = some (some (.builtin "BaseException.__getattribute__")))
    (gg_NoDeed : PySem.W.findIn K (.ref C_NoDeed) "__getattr__" = some none)
    (hd_NoDeed : PySem.W.hasDictIn K C_NoDeed = true)
    (in_NoDeed : PySem.W.findIn K (.ref C_NoDeed) "__init__" = some (some (.builtin "ValueError.__init__")))
    (xa_NoDeed : PySem.W.findIn K (.ref C_NoDeed) "__class__" = some (some (.builtin "object.__class__")))
    (xm_NoDeed : PySem.W.mroIn K C_NoDeed (.type "object") = some true)
    (xi_BadBook_NoDeed : PySem.W.kitOne K (.ref C_NoDeed) (.ref C_BadBook) = some false)
    (xi_BadBranch_NoDeed : PySem.W.kitOne K (.ref C_NoDeed) (.ref C_BadBranch) = some false)
    (xi_BadKind_NoDeed : PySem.W.kitOne K (.ref C_NoDeed) (.ref C_BadKind) = some false)
    (xi_BadName_NoDeed : PySem.W.kitOne K (.ref C_NoDeed) (.ref C_BadName) = some false)
    (xi_BadPart_NoDeed : PySem.W.kitOne K (.ref C_NoDeed) (.ref C_BadPart) = some false)
    (xi_BadState_NoDeed : PySem.W.kitOne K (.ref C_NoDeed) (.ref C_BadState) = some false)
    (xi_BadText_NoDeed : PySem.W.kitOne K (.ref C_NoDeed) (.ref C_BadText) = some false)
    (xi_Below_NoDeed : PySem.W.kitOne K (.ref C_NoDeed) (.ref C_Below) = some false)
    (xi_HasParts_NoDeed : PySem.W.kitOne K (.ref C_NoDeed) (.ref C_HasParts) = some false)
    (xi_LastPart_NoDeed : PySem.W.kitOne K (.ref C_NoDeed) (.ref C_LastPart) = some false)
    (xi_NoDeed_NoDeed : PySem.W.kitOne K (.ref C_NoDeed) (.ref C_NoDeed) = some true)
    (xi_NoMark_NoDeed : PySem.W.kitOne K (.ref C_NoDeed) (.ref C_NoMark) = some false)
    (xi_NoParts_NoDeed : PySem.W.kitOne K (.ref C_NoDeed) (.ref C_NoParts) = some false)
    (xi_NoTask_NoDeed : PySem.W.kitOne K (.ref C_NoDeed) (.ref C_NoTask) = some false)
    (xi_PartsError_NoDeed : PySem.W.kitOne K (.ref C_NoDeed) (.ref C_PartsError) = some true)
    (xi_Taken_NoDeed : PySem.W.kitOne K (.ref C_NoDeed) (.ref C_Taken) = some false)
    (xi_TopTask_NoDeed : PySem.W.kitOne K (.ref C_NoDeed) (.ref C_TopTask) = some false)
    (xi_UnknownKind_NoDeed : PySem.W.kitOne K (.ref C_NoDeed) (.ref C_UnknownKind) = some false)
    (xi_ValueError_NoDeed : PySem.W.kitOne K (.ref C_NoDeed) (.type "ValueError") = some true)
    (aC_PartsError : PySem.W.nsIn K mainGlobals "PartsError" = some (some (.ref C_PartsError)))
    (ic3 : PySem.W.specialIn K (.builtin "object.__class__") "__get__" = some (some (.builtin "getset_descriptor.__get__")))
    (ic4 : PySem.W.takesIn K (.builtin "object.__class__") = some true)
    (a__law_draw : PySem.W.nsIn K mainGlobals "_law_draw" = some (some (.ref f__law_draw)))
    (l__law_draw : K.lookup f__law_draw = some ⟨oc__law_draw, od__law_draw, .func (PySem.W.fnOf "_law_draw" "_law_draw" (defArgs s__law_draw) (defBody s__law_draw) (defScope s__law_draw) .none kV__law_draw dc__law_draw pm__law_draw an__law_draw cd__law_draw ct__law_draw), sl__law_draw⟩)
    (c__law_draw : PySem.W.codeIn K cd__law_draw "_law_draw" = true)
    (k__law_draw : PySem.W.keepIn K (.ref f__law_draw) = true)
    (a__law_kinds : PySem.W.nsIn K mainGlobals "_law_kinds" = some (some (.ref f__law_kinds)))
    (l__law_kinds : K.lookup f__law_kinds = some ⟨oc__law_kinds, od__law_kinds, .func (PySem.W.fnOf "_law_kinds" "_law_kinds" (defArgs s__law_kinds) (defBody s__law_kinds) (defScope s__law_kinds) .none kV__law_kinds dc__law_kinds pm__law_kinds an__law_kinds cd__law_kinds ct__law_kinds), sl__law_kinds⟩)
    (c__law_kinds : PySem.W.codeIn K cd__law_kinds "_law_kinds" = true)
    (k__law_kinds : PySem.W.keepIn K (.ref f__law_kinds) = true)
    (a_BadBook___init__ : PySem.W.findIn K (.ref C_BadBook) "__init__" = some (some (.ref f_BadBook___init__)))
    (tf_BadBook : PySem.W.typeIn K (.ref f_BadBook___init__) = some (.type "function"))
    (l_BadBook___init__ : K.lookup f_BadBook___init__ = some ⟨oc_BadBook___init__, od_BadBook___init__, .func (PySem.W.fnOf "__init__" "BadBook.__init__" (defArgs s_BadBook___init__) (defBody s_BadBook___init__) (defScope s_BadBook___init__) .none kV_BadBook___init__ dc_BadBook___init__ pm_BadBook___init__ an_BadBook___init__ cd_BadBook___init__ ct_BadBook___init__), sl_BadBook___init__⟩)
    (c_BadBook___init__ : PySem.W.codeIn K cd_BadBook___init__ "BadBook.__init__" = true)
    (k_BadBook___init__ : PySem.W.keepIn K (.ref f_BadBook___init__) = true)
    (a_BadBranch___init__ : PySem.W.findIn K (.ref C_BadBranch) "__init__" = some (some (.ref f_BadBranch___init__)))
    (tf_BadBranch : PySem.W.typeIn K (.ref f_BadBranch___init__) = some (.type "function"))
    (l_BadBranch___init__ : K.lookup f_BadBranch___init__ = some ⟨oc_BadBranch___init__, od_BadBranch___init__, .func (PySem.W.fnOf "__init__" "BadBranch.__init__" (defArgs s_BadBranch___init__) (defBody s_BadBranch___init__) (defScope s_BadBranch___init__) .none kV_BadBranch___init__ dc_BadBranch___init__ pm_BadBranch___init__ an_BadBranch___init__ cd_BadBranch___init__ ct_BadBranch___init__), sl_BadBranch___init__⟩)
    (c_BadBranch___init__ : PySem.W.codeIn K cd_BadBranch___init__ "BadBranch.__init__" = true)
    (k_BadBranch___init__ : PySem.W.keepIn K (.ref f_BadBranch___init__) = true)
    (a_BadKind___init__ : PySem.W.findIn K (.ref C_BadKind) "__init__" = some (some (.ref f_BadKind___init__)))
    (tf_BadKind : PySem.W.typeIn K (.ref f_BadKind___init__) = some (.type "function"))
    (l_BadKind___init__ : K.lookup f_BadKind___init__ = some ⟨oc_BadKind___init__, od_BadKind___init__, .func (PySem.W.fnOf "__init__" "BadKind.__init__" (defArgs s_BadKind___init__) (defBody s_BadKind___init__) (defScope s_BadKind___init__) .none kV_BadKind___init__ dc_BadKind___init__ pm_BadKind___init__ an_BadKind___init__ cd_BadKind___init__ ct_BadKind___init__), sl_BadKind___init__⟩)
    (c_BadKind___init__ : PySem.W.codeIn K cd_BadKind___init__ "BadKind.__init__" = true)
    (k_BadKind___init__ : PySem.W.keepIn K (.ref f_BadKind___init__) = true)
    (a_BadName___init__ : PySem.W.findIn K (.ref C_BadName) "__init__" = some (some (.ref f_BadName___init__)))
    (tf_BadName : PySem.W.typeIn K (.ref f_BadName___init__) = some (.type "function"))
    (l_BadName___init__ : K.lookup f_BadName___init__ = some ⟨oc_BadName___init__, od_BadName___init__, .func (PySem.W.fnOf "__init__" "BadName.__init__" (defArgs s_BadName___init__) (defBody s_BadName___init__) (defScope s_BadName___init__) .none kV_BadName___init__ dc_BadName___init__ pm_BadName___init__ an_BadName___init__ cd_BadName___init__ ct_BadName___init__), sl_BadName___init__⟩)
    (c_BadName___init__ : PySem.W.codeIn K cd_BadName___init__ "BadName.__init__" = true)
    (k_BadName___init__ : PySem.W.keepIn K (.ref f_BadName___init__) = true)
    (a_BadPart___init__ : PySem.W.findIn K (.ref C_BadPart) "__init__" = some (some (.ref f_BadPart___init__)))
    (tf_BadPart : PySem.W.typeIn K (.ref f_BadPart___init__) = some (.type "function"))
    (l_BadPart___init__ : K.lookup f_BadPart___init__ = some ⟨oc_BadPart___init__, od_BadPart___init__, .func (PySem.W.fnOf "__init__" "BadPart.__init__" (defArgs s_BadPart___init__) (defBody s_BadPart___init__) (defScope s_BadPart___init__) .none kV_BadPart___init__ dc_BadPart___init__ pm_BadPart___init__ an_BadPart___init__ cd_BadPart___init__ ct_BadPart___init__), sl_BadPart___init__⟩)
    (c_BadPart___init__ : PySem.W.codeIn K cd_BadPart___init__ "BadPart.__init__" = true)
    (k_BadPart___init__ : PySem.W.keepIn K (.ref f_BadPart___init__) = true)
    (a_BadState___init__ : PySem.W.findIn K (.ref C_BadState) "__init__" = some (some (.ref f_BadState___init__)))
    (tf_BadState : PySem.W.typeIn K (.ref f_BadState___init__) = some (.type "function"))
    (l_BadState___init__ : K.lookup f_BadState___init__ = some ⟨oc_BadState___init__, od_BadState___init__, .func (PySem.W.fnOf "__init__" "BadState.__init__" (defArgs s_BadState___init__) (defBody s_BadState___init__) (defScope s_BadState___init__) .none kV_BadState___init__ dc_BadState___init__ pm_BadState___init__ an_BadState___init__ cd_BadState___init__ ct_BadState___init__), sl_BadState___init__⟩)
    (c_BadState___init__ : PySem.W.codeIn K cd_BadState___init__ "BadState.__init__" = true)
    (k_BadState___init__ : PySem.W.keepIn K (.ref f_BadState___init__) = true)
    (a_BadText___init__ : PySem.W.findIn K (.ref C_BadText) "__init__" = some (some (.ref f_BadText___init__)))
    (tf_BadText : PySem.W.typeIn K (.ref f_BadText___init__) = some (.type "function"))
    (l_BadText___init__ : K.lookup f_BadText___init__ = some ⟨oc_BadText___init__, od_BadText___init__, .func (PySem.W.fnOf "__init__" "BadText.__init__" (defArgs s_BadText___init__) (defBody s_BadText___init__) (defScope s_BadText___init__) .none kV_BadText___init__ dc_BadText___init__ pm_BadText___init__ an_BadText___init__ cd_BadText___init__ ct_BadText___init__), sl_BadText___init__⟩)
    (c_BadText___init__ : PySem.W.codeIn K cd_BadText___init__ "BadText.__init__" = true)
    (k_BadText___init__ : PySem.W.keepIn K (.ref f_BadText___init__) = true)
    (a_Below___init__ : PySem.W.findIn K (.ref C_Below) "__init__" = some (some (.ref f_Below___init__)))
    (tf_Below : PySem.W.typeIn K (.ref f_Below___init__) = some (.type "function"))
    (l_Below___init__ : K.lookup f_Below___init__ = some ⟨oc_Below___init__, od_Below___init__, .func (PySem.W.fnOf "__init__" "Below.__init__" (defArgs s_Below___init__) (defBody s_Below___init__) (defScope s_Below___init__) .none kV_Below___init__ dc_Below___init__ pm_Below___init__ an_Below___init__ cd_Below___init__ ct_Below___init__), sl_Below___init__⟩)
    (c_Below___init__ : PySem.W.codeIn K cd_Below___init__ "Below.__init__" = true)
    (k_Below___init__ : PySem.W.keepIn K (.ref f_Below___init__) = true)
    (a_HasParts___init__ : PySem.W.findIn K (.ref C_HasParts) "__init__" = some (some (.ref f_HasParts___init__)))
    (tf_HasParts : PySem.W.typeIn K (.ref f_HasParts___init__) = some (.type "function"))
    (l_HasParts___init__ : K.lookup f_HasParts___init__ = some ⟨oc_HasParts___init__, od_HasParts___init__, .func (PySem.W.fnOf "__init__" "HasParts.__init__" (defArgs s_HasParts___init__) (defBody s_HasParts___init__) (defScope s_HasParts___init__) .none kV_HasParts___init__ dc_HasParts___init__ pm_HasParts___init__ an_HasParts___init__ cd_HasParts___init__ ct_HasParts___init__), sl_HasParts___init__⟩)
    (c_HasParts___init__ : PySem.W.codeIn K cd_HasParts___init__ "HasParts.__init__" = true)
    (k_HasParts___init__ : PySem.W.keepIn K (.ref f_HasParts___init__) = true)
    (a_LastPart___init__ : PySem.W.findIn K (.ref C_LastPart) "__init__" = some (some (.ref f_LastPart___init__)))
    (tf_LastPart : PySem.W.typeIn K (.ref f_LastPart___init__) = some (.type "function"))
    (l_LastPart___init__ : K.lookup f_LastPart___init__ = some ⟨oc_LastPart___init__, od_LastPart___init__, .func (PySem.W.fnOf "__init__" "LastPart.__init__" (defArgs s_LastPart___init__) (defBody s_LastPart___init__) (defScope s_LastPart___init__) .none kV_LastPart___init__ dc_LastPart___init__ pm_LastPart___init__ an_LastPart___init__ cd_LastPart___init__ ct_LastPart___init__), sl_LastPart___init__⟩)
    (c_LastPart___init__ : PySem.W.codeIn K cd_LastPart___init__ "LastPart.__init__" = true)
    (k_LastPart___init__ : PySem.W.keepIn K (.ref f_LastPart___init__) = true)
    (a_NoMark___init__ : PySem.W.findIn K (.ref C_NoMark) "__init__" = some (some (.ref f_NoMark___init__)))
    (tf_NoMark : PySem.W.typeIn K (.ref f_NoMark___init__) = some (.type "function"))
    (l_NoMark___init__ : K.lookup f_NoMark___init__ = some ⟨oc_NoMark___init__, od_NoMark___init__, .func (PySem.W.fnOf "__init__" "NoMark.__init__" (defArgs s_NoMark___init__) (defBody s_NoMark___init__) (defScope s_NoMark___init__) .none kV_NoMark___init__ dc_NoMark___init__ pm_NoMark___init__ an_NoMark___init__ cd_NoMark___init__ ct_NoMark___init__), sl_NoMark___init__⟩)
    (c_NoMark___init__ : PySem.W.codeIn K cd_NoMark___init__ "NoMark.__init__" = true)
    (k_NoMark___init__ : PySem.W.keepIn K (.ref f_NoMark___init__) = true)
    (a_NoParts___init__ : PySem.W.findIn K (.ref C_NoParts) "__init__" = some (some (.ref f_NoParts___init__)))
    (tf_NoParts : PySem.W.typeIn K (.ref f_NoParts___init__) = some (.type "function"))
    (l_NoParts___init__ : K.lookup f_NoParts___init__ = some ⟨oc_NoParts___init__, od_NoParts___init__, .func (PySem.W.fnOf "__init__" "NoParts.__init__" (defArgs s_NoParts___init__) (defBody s_NoParts___init__) (defScope s_NoParts___init__) .none kV_NoParts___init__ dc_NoParts___init__ pm_NoParts___init__ an_NoParts___init__ cd_NoParts___init__ ct_NoParts___init__), sl_NoParts___init__⟩)
    (c_NoParts___init__ : PySem.W.codeIn K cd_NoParts___init__ "NoParts.__init__" = true)
    (k_NoParts___init__ : PySem.W.keepIn K (.ref f_NoParts___init__) = true)
    (a_NoTask___init__ : PySem.W.findIn K (.ref C_NoTask) "__init__" = some (some (.ref f_NoTask___init__)))
    (tf_NoTask : PySem.W.typeIn K (.ref f_NoTask___init__) = some (.type "function"))
    (l_NoTask___init__ : K.lookup f_NoTask___init__ = some ⟨oc_NoTask___init__, od_NoTask___init__, .func (PySem.W.fnOf "__init__" "NoTask.__init__" (defArgs s_NoTask___init__) (defBody s_NoTask___init__) (defScope s_NoTask___init__) .none kV_NoTask___init__ dc_NoTask___init__ pm_NoTask___init__ an_NoTask___init__ cd_NoTask___init__ ct_NoTask___init__), sl_NoTask___init__⟩)
    (c_NoTask___init__ : PySem.W.codeIn K cd_NoTask___init__ "NoTask.__init__" = true)
    (k_NoTask___init__ : PySem.W.keepIn K (.ref f_NoTask___init__) = true)
    (a_Taken___init__ : PySem.W.findIn K (.ref C_Taken) "__init__" = some (some (.ref f_Taken___init__)))
    (tf_Taken : PySem.W.typeIn K (.ref f_Taken___init__) = some (.type "function"))
    (l_Taken___init__ : K.lookup f_Taken___init__ = some ⟨oc_Taken___init__, od_Taken___init__, .func (PySem.W.fnOf "__init__" "Taken.__init__" (defArgs s_Taken___init__) (defBody s_Taken___init__) (defScope s_Taken___init__) .none kV_Taken___init__ dc_Taken___init__ pm_Taken___init__ an_Taken___init__ cd_Taken___init__ ct_Taken___init__), sl_Taken___init__⟩)
    (c_Taken___init__ : PySem.W.codeIn K cd_Taken___init__ "Taken.__init__" = true)
    (k_Taken___init__ : PySem.W.keepIn K (.ref f_Taken___init__) = true)
    (a_TopTask___init__ : PySem.W.findIn K (.ref C_TopTask) "__init__" = some (some (.ref f_TopTask___init__)))
    (tf_TopTask : PySem.W.typeIn K (.ref f_TopTask___init__) = some (.type "function"))
    (l_TopTask___init__ : K.lookup f_TopTask___init__ = some ⟨oc_TopTask___init__, od_TopTask___init__, .func (PySem.W.fnOf "__init__" "TopTask.__init__" (defArgs s_TopTask___init__) (defBody s_TopTask___init__) (defScope s_TopTask___init__) .none kV_TopTask___init__ dc_TopTask___init__ pm_TopTask___init__ an_TopTask___init__ cd_TopTask___init__ ct_TopTask___init__), sl_TopTask___init__⟩)
    (c_TopTask___init__ : PySem.W.codeIn K cd_TopTask___init__ "TopTask.__init__" = true)
    (k_TopTask___init__ : PySem.W.keepIn K (.ref f_TopTask___init__) = true)
    (a_UnknownKind___init__ : PySem.W.findIn K (.ref C_UnknownKind) "__init__" = some (some (.ref f_UnknownKind___init__)))
    (tf_UnknownKind : PySem.W.typeIn K (.ref f_UnknownKind___init__) = some (.type "function"))
    (l_UnknownKind___init__ : K.lookup f_UnknownKind___init__ = some ⟨oc_UnknownKind___init__, od_UnknownKind___init__, .func (PySem.W.fnOf "__init__" "UnknownKind.__init__" (defArgs s_UnknownKind___init__) (defBody s_UnknownKind___init__) (defScope s_UnknownKind___init__) .none kV_UnknownKind___init__ dc_UnknownKind___init__ pm_UnknownKind___init__ an_UnknownKind___init__ cd_UnknownKind___init__ ct_UnknownKind___init__), sl_UnknownKind___init__⟩)
    (c_UnknownKind___init__ : PySem.W.codeIn K cd_UnknownKind___init__ "UnknownKind.__init__" = true)
    (k_UnknownKind___init__ : PySem.W.keepIn K (.ref f_UnknownKind___init__) = true)
    (a__law_made : PySem.W.nsIn K mainGlobals "_law_made" = some (some (.ref f__law_made)))
    (l__law_made : K.lookup f__law_made = some ⟨oc__law_made, od__law_made, .func (PySem.W.fnOf "_law_made" "_law_made" (defArgs s__law_made) (defBody s__law_made) (defScope s__law_made) .none kV__law_made dc__law_made pm__law_made an__law_made cd__law_made ct__law_made), sl__law_made⟩)
    (c__law_made : PySem.W.codeIn K cd__law_made "_law_made" = true)
    (k__law_made : PySem.W.keepIn K (.ref f__law_made) = true)
    (a__law_pick : PySem.W.nsIn K mainGlobals "_law_pick" = some (some (.ref f__law_pick)))
    (l__law_pick : K.lookup f__law_pick = some ⟨oc__law_pick, od__law_pick, .func (PySem.W.fnOf "_law_pick" "_law_pick" (defArgs s__law_pick) (defBody s__law_pick) (defScope s__law_pick) .none kV__law_pick dc__law_pick pm__law_pick an__law_pick cd__law_pick ct__law_pick), sl__law_pick⟩)
    (c__law_pick : PySem.W.codeIn K cd__law_pick "_law_pick" = true)
    (k__law_pick : PySem.W.keepIn K (.ref f__law_pick) = true)
    (a__law_source : PySem.W.nsIn K mainGlobals "_law_source" = some (some (.ref f__law_source)))
    (l__law_source : K.lookup f__law_source = some ⟨oc__law_source, od__law_source, .func (PySem.W.fnOf "_law_source" "_law_source" (defArgs s__law_source) (defBody s__law_source) (defScope s__law_source) .none kV__law_source dc__law_source pm__law_source an__law_source cd__law_source ct__law_source), sl__law_source⟩)
    (c__law_source : PySem.W.codeIn K cd__law_source "_law_source" = true)
    (k__law_source : PySem.W.keepIn K (.ref f__law_source) = true)
    (a_law : PySem.W.nsIn K mainGlobals "law" = some (some (.ref f_law)))
    (l_law : K.lookup f_law = some ⟨oc_law, od_law, .func (PySem.W.fnOf "law" "law" (defArgs s_law) (defBody s_law) (defScope s_law) .none kV_law dc_law pm_law an_law cd_law ct_law), sl_law⟩)
    (c_law : PySem.W.codeIn K cd_law "law" = true)
    (k_law : PySem.W.keepIn K (.ref f_law) = true)
    (z_ValueError : PySem.W.nsIn K mainGlobals "ValueError" = some none)
    (z_bool : PySem.W.nsIn K mainGlobals "bool" = some none)
    (z_enumerate : PySem.W.nsIn K mainGlobals "enumerate" = some none)
    (z_int : PySem.W.nsIn K mainGlobals "int" = some none)
    (z_isinstance : PySem.W.nsIn K mainGlobals "isinstance" = some none)
    (z_len : PySem.W.nsIn K mainGlobals "len" = some none)
    (z_range : PySem.W.nsIn K mainGlobals "range" = some none)
    : ∃ fd : FuncData, (∀ (s : Shared) (v : Value), BindsTo s fd ⟨[v], []⟩ [("_law_script", v)]) ∧ ∀ base : Heap, K.In base → base.Ns mainGlobals mg → FnOk l.prog w K mg base (L2.CX l.prog w) 4 fa fd ["_law_script"] (spLaw K) := by
  have e := hfa.symm.trans (PySem.W.mg_of X G a_law)
  cases e
  letI : Wrl := ⟨l.prog, w, []⟩
  have hw : HereP l.prog w := ⟨rfl, rfl⟩
  have cat_BadBook : CAt K "BadBook" C_BadBook := aC_BadBook
  have ox_BadBook : OexC K C_BadBook := ⟨⟨nm_BadBook, q_BadBook, N_BadBook, bs_BadBook, bm_BadBook, sn_BadBook, sub_BadBook, ab_BadBook, col_BadBook, dd_BadBook, k0_BadBook, k1_BadBook, k2_BadBook, k3_BadBook, k5_BadBook, lx_BadBook, rv_BadBook⟩, sa_BadBook, ex_BadBook, ty_BadBook, kc_BadBook⟩
  have xc_BadBook : ExcC K C_BadBook := ⟨ga_BadBook, gg_BadBook, ex_BadBook, hd_BadBook, xa_BadBook, ic3, ic4, xm_BadBook⟩
  have cat_BadBranch : CAt K "BadBranch" C_BadBranch := aC_BadBranch
  have ox_BadBranch : OexC K C_BadBranch := ⟨⟨nm_BadBranch, q_BadBranch, N_BadBranch, bs_BadBranch, bm_BadBranch, sn_BadBranch, sub_BadBranch, ab_BadBranch, col_BadBranch, dd_BadBranch, k0_BadBranch, k1_BadBranch, k2_BadBranch, k3_BadBranch, k5_BadBranch, lx_BadBranch, rv_BadBranch⟩, sa_BadBranch, ex_BadBranch, ty_BadBranch, kc_BadBranch⟩
  have xc_BadBranch : ExcC K C_BadBranch := ⟨ga_BadBranch, gg_BadBranch, ex_BadBranch, hd_BadBranch, xa_BadBranch, ic3, ic4, xm_BadBranch⟩
  have cat_BadKind : CAt K "BadKind" C_BadKind := aC_BadKind
  have ox_BadKind : OexC K C_BadKind := ⟨⟨nm_BadKind, q_BadKind, N_BadKind, bs_BadKind, bm_BadKind, sn_BadKind, sub_BadKind, ab_BadKind, col_BadKind, dd_BadKind, k0_BadKind, k1_BadKind, k2_BadKind, k3_BadKind, k5_BadKind, lx_BadKind, rv_BadKind⟩, sa_BadKind, ex_BadKind, ty_BadKind, kc_BadKind⟩
  have xc_BadKind : ExcC K C_BadKind := ⟨ga_BadKind, gg_BadKind, ex_BadKind, hd_BadKind, xa_BadKind, ic3, ic4, xm_BadKind⟩
  have cat_BadName : CAt K "BadName" C_BadName := aC_BadName
  have ox_BadName : OexC K C_BadName := ⟨⟨nm_BadName, q_BadName, N_BadName, bs_BadName, bm_BadName, sn_BadName, sub_BadName, ab_BadName, col_BadName, dd_BadName, k0_BadName, k1_BadName, k2_BadName, k3_BadName, k5_BadName, lx_BadName, rv_BadName⟩, sa_BadName, ex_BadName, ty_BadName, kc_BadName⟩
  have xc_BadName : ExcC K C_BadName := ⟨ga_BadName, gg_BadName, ex_BadName, hd_BadName, xa_BadName, ic3, ic4, xm_BadName⟩
  have cat_BadPart : CAt K "BadPart" C_BadPart := aC_BadPart
  have ox_BadPart : OexC K C_BadPart := ⟨⟨nm_BadPart, q_BadPart, N_BadPart, bs_BadPart, bm_BadPart, sn_BadPart, sub_BadPart, ab_BadPart, col_BadPart, dd_BadPart, k0_BadPart, k1_BadPart, k2_BadPart, k3_BadPart, k5_BadPart, lx_BadPart, rv_BadPart⟩, sa_BadPart, ex_BadPart, ty_BadPart, kc_BadPart⟩
  have xc_BadPart : ExcC K C_BadPart := ⟨ga_BadPart, gg_BadPart, ex_BadPart, hd_BadPart, xa_BadPart, ic3, ic4, xm_BadPart⟩
  have cat_BadState : CAt K "BadState" C_BadState := aC_BadState
  have ox_BadState : OexC K C_BadState := ⟨⟨nm_BadState, q_BadState, N_BadState, bs_BadState, bm_BadState, sn_BadState, sub_BadState, ab_BadState, col_BadState, dd_BadState, k0_BadState, k1_BadState, k2_BadState, k3_BadState, k5_BadState, lx_BadState, rv_BadState⟩, sa_BadState, ex_BadState, ty_BadState, kc_BadState⟩
  have xc_BadState : ExcC K C_BadState := ⟨ga_BadState, gg_BadState, ex_BadState, hd_BadState, xa_BadState, ic3, ic4, xm_BadState⟩
  have cat_BadText : CAt K "BadText" C_BadText := aC_BadText
  have ox_BadText : OexC K C_BadText := ⟨⟨nm_BadText, q_BadText, N_BadText, bs_BadText, bm_BadText, sn_BadText, sub_BadText, ab_BadText, col_BadText, dd_BadText, k0_BadText, k1_BadText, k2_BadText, k3_BadText, k5_BadText, lx_BadText, rv_BadText⟩, sa_BadText, ex_BadText, ty_BadText, kc_BadText⟩
  have xc_BadText : ExcC K C_BadText := ⟨ga_BadText, gg_BadText, ex_BadText, hd_BadText, xa_BadText, ic3, ic4, xm_BadText⟩
  have cat_Below : CAt K "Below" C_Below := aC_Below
  have ox_Below : OexC K C_Below := ⟨⟨nm_Below, q_Below, N_Below, bs_Below, bm_Below, sn_Below, sub_Below, ab_Below, col_Below, dd_Below, k0_Below, k1_Below, k2_Below, k3_Below, k5_Below, lx_Below, rv_Below⟩, sa_Below, ex_Below, ty_Below, kc_Below⟩
  have xc_Below : ExcC K C_Below := ⟨ga_Below, gg_Below, ex_Below, hd_Below, xa_Below, ic3, ic4, xm_Below⟩
  have cat_HasParts : CAt K "HasParts" C_HasParts := aC_HasParts
  have ox_HasParts : OexC K C_HasParts := ⟨⟨nm_HasParts, q_HasParts, N_HasParts, bs_HasParts, bm_HasParts, sn_HasParts, sub_HasParts, ab_HasParts, col_HasParts, dd_HasParts, k0_HasParts, k1_HasParts, k2_HasParts, k3_HasParts, k5_HasParts, lx_HasParts, rv_HasParts⟩, sa_HasParts, ex_HasParts, ty_HasParts, kc_HasParts⟩
  have xc_HasParts : ExcC K C_HasParts := ⟨ga_HasParts, gg_HasParts, ex_HasParts, hd_HasParts, xa_HasParts, ic3, ic4, xm_HasParts⟩
  have cat_LastPart : CAt K "LastPart" C_LastPart := aC_LastPart
  have ox_LastPart : OexC K C_LastPart := ⟨⟨nm_LastPart, q_LastPart, N_LastPart, bs_LastPart, bm_LastPart, sn_LastPart, sub_LastPart, ab_LastPart, col_LastPart, dd_LastPart, k0_LastPart, k1_LastPart, k2_LastPart, k3_LastPart, k5_LastPart, lx_LastPart, rv_LastPart⟩, sa_LastPart, ex_LastPart, ty_LastPart, kc_LastPart⟩
  have xc_LastPart : ExcC K C_LastPart := ⟨ga_LastPart, gg_LastPart, ex_LastPart, hd_LastPart, xa_LastPart, ic3, ic4, xm_LastPart⟩
  have cat_NoDeed : CAt K "NoDeed" C_NoDeed := aC_NoDeed
  have ox_NoDeed : OexC K C_NoDeed := ⟨⟨nm_NoDeed, q_NoDeed, N_NoDeed, bs_NoDeed, bm_NoDeed, sn_NoDeed, sub_NoDeed, ab_NoDeed, col_NoDeed, dd_NoDeed, k0_NoDeed, k1_NoDeed, k2_NoDeed, k3_NoDeed, k5_NoDeed, lx_NoDeed, rv_NoDeed⟩, sa_NoDeed, ex_NoDeed, ty_NoDeed, kc_NoDeed⟩
  have xc_NoDeed : ExcC K C_NoDeed := ⟨ga_NoDeed, gg_NoDeed, ex_NoDeed, hd_NoDeed, xa_NoDeed, ic3, ic4, xm_NoDeed⟩
  have cat_NoMark : CAt K "NoMark" C_NoMark := aC_NoMark
  have ox_NoMark : OexC K C_NoMark := ⟨⟨nm_NoMark, q_NoMark, N_NoMark, bs_NoMark, bm_NoMark, sn_NoMark, sub_NoMark, ab_NoMark, col_NoMark, dd_NoMark, k0_NoMark, k1_NoMark, k2_NoMark, k3_NoMark, k5_NoMark, lx_NoMark, rv_NoMark⟩, sa_NoMark, ex_NoMark, ty_NoMark, kc_NoMark⟩
  have xc_NoMark : ExcC K C_NoMark := ⟨ga_NoMark, gg_NoMark, ex_NoMark, hd_NoMark, xa_NoMark, ic3, ic4, xm_NoMark⟩
  have cat_NoParts : CAt K "NoParts" C_NoParts := aC_NoParts
  have ox_NoParts : OexC K C_NoParts := ⟨⟨nm_NoParts, q_NoParts, N_NoParts, bs_NoParts, bm_NoParts, sn_NoParts, sub_NoParts, ab_NoParts, col_NoParts, dd_NoParts, k0_NoParts, k1_NoParts, k2_NoParts, k3_NoParts, k5_NoParts, lx_NoParts, rv_NoParts⟩, sa_NoParts, ex_NoParts, ty_NoParts, kc_NoParts⟩
  have xc_NoParts : ExcC K C_NoParts := ⟨ga_NoParts, gg_NoParts, ex_NoParts, hd_NoParts, xa_NoParts, ic3, ic4, xm_NoParts⟩
  have cat_NoTask : CAt K "NoTask" C_NoTask := aC_NoTask
  have ox_NoTask : OexC K C_NoTask := ⟨⟨nm_NoTask, q_NoTask, N_NoTask, bs_NoTask, bm_NoTask, sn_NoTask, sub_NoTask, ab_NoTask, col_NoTask, dd_NoTask, k0_NoTask, k1_NoTask, k2_NoTask, k3_NoTask, k5_NoTask, lx_NoTask, rv_NoTask⟩, sa_NoTask, ex_NoTask, ty_NoTask, kc_NoTask⟩
  have xc_NoTask : ExcC K C_NoTask := ⟨ga_NoTask, gg_NoTask, ex_NoTask, hd_NoTask, xa_NoTask, ic3, ic4, xm_NoTask⟩
  have cat_Taken : CAt K "Taken" C_Taken := aC_Taken
  have ox_Taken : OexC K C_Taken := ⟨⟨nm_Taken, q_Taken, N_Taken, bs_Taken, bm_Taken, sn_Taken, sub_Taken, ab_Taken, col_Taken, dd_Taken, k0_Taken, k1_Taken, k2_Taken, k3_Taken, k5_Taken, lx_Taken, rv_Taken⟩, sa_Taken, ex_Taken, ty_Taken, kc_Taken⟩
  have xc_Taken : ExcC K C_Taken := ⟨ga_Taken, gg_Taken, ex_Taken, hd_Taken, xa_Taken, ic3, ic4, xm_Taken⟩
  have cat_TopTask : CAt K "TopTask" C_TopTask := aC_TopTask
  have ox_TopTask : OexC K C_TopTask := ⟨⟨nm_TopTask, q_TopTask, N_TopTask, bs_TopTask, bm_TopTask, sn_TopTask, sub_TopTask, ab_TopTask, col_TopTask, dd_TopTask, k0_TopTask, k1_TopTask, k2_TopTask, k3_TopTask, k5_TopTask, lx_TopTask, rv_TopTask⟩, sa_TopTask, ex_TopTask, ty_TopTask, kc_TopTask⟩
  have xc_TopTask : ExcC K C_TopTask := ⟨ga_TopTask, gg_TopTask, ex_TopTask, hd_TopTask, xa_TopTask, ic3, ic4, xm_TopTask⟩
  have cat_UnknownKind : CAt K "UnknownKind" C_UnknownKind := aC_UnknownKind
  have ox_UnknownKind : OexC K C_UnknownKind := ⟨⟨nm_UnknownKind, q_UnknownKind, N_UnknownKind, bs_UnknownKind, bm_UnknownKind, sn_UnknownKind, sub_UnknownKind, ab_UnknownKind, col_UnknownKind, dd_UnknownKind, k0_UnknownKind, k1_UnknownKind, k2_UnknownKind, k3_UnknownKind, k5_UnknownKind, lx_UnknownKind, rv_UnknownKind⟩, sa_UnknownKind, ex_UnknownKind, ty_UnknownKind, kc_UnknownKind⟩
  have xc_UnknownKind : ExcC K C_UnknownKind := ⟨ga_UnknownKind, gg_UnknownKind, ex_UnknownKind, hd_UnknownKind, xa_UnknownKind, ic3, ic4, xm_UnknownKind⟩
  have T : Txt K mg := ⟨PySem.W.mg_none_of X G z_ValueError, PySem.W.mg_none_of X G z_bool, PySem.W.mg_none_of X G z_enumerate, PySem.W.mg_none_of X G z_int, PySem.W.mg_none_of X G z_isinstance, PySem.W.mg_none_of X G z_len, PySem.W.mg_none_of X G z_range, ⟨⟨C_NoDeed, cat_NoDeed, PySem.W.mg_of X G aC_NoDeed, ox_NoDeed, in_NoDeed⟩⟩, ⟨C_BadBook, PySem.W.mg_of X G aC_BadBook, [C_BadBook, C_BadBranch, C_BadKind, C_BadName, C_BadPart, C_BadState, C_BadText, C_Below, C_HasParts, C_LastPart, C_NoDeed, C_NoMark, C_NoParts, C_NoTask, C_Taken, C_TopTask, C_UnknownKind], .cons ⟨cat_BadBook, ox_BadBook, xc_BadBook, xi_BadBook_BadBook.trans (by decide +kernel)⟩ (.cons ⟨cat_BadBranch, ox_BadBranch, xc_BadBranch, xi_BadBook_BadBranch.trans (by decide +kernel)⟩ (.cons ⟨cat_BadKind, ox_BadKind, xc_BadKind, xi_BadBook_BadKind.trans (by decide +kernel)⟩ (.cons ⟨cat_BadName, ox_BadName, xc_BadName, xi_BadBook_BadName.trans (by decide +kernel)⟩ (.cons ⟨cat_BadPart, ox_BadPart, xc_BadPart, xi_BadBook_BadPart.trans (by decide +kernel)⟩ (.cons ⟨cat_BadState, ox_BadState, xc_BadState, xi_BadBook_BadState.trans (by decide +kernel)⟩ (.cons ⟨cat_BadText, ox_BadText, xc_BadText, xi_BadBook_BadText.trans (by decide +kernel)⟩ (.cons ⟨cat_Below, ox_Below, xc_Below, xi_BadBook_Below.trans (by decide +kernel)⟩ (.cons ⟨cat_HasParts, ox_HasParts, xc_HasParts, xi_BadBook_HasParts.trans (by decide +kernel)⟩ (.cons ⟨cat_LastPart, ox_LastPart, xc_LastPart, xi_BadBook_LastPart.trans (by decide +kernel)⟩ (.cons ⟨cat_NoDeed, ox_NoDeed, xc_NoDeed, xi_BadBook_NoDeed.trans (by decide +kernel)⟩ (.cons ⟨cat_NoMark, ox_NoMark, xc_NoMark, xi_BadBook_NoMark.trans (by decide +kernel)⟩ (.cons ⟨cat_NoParts, ox_NoParts, xc_NoParts, xi_BadBook_NoParts.trans (by decide +kernel)⟩ (.cons ⟨cat_NoTask, ox_NoTask, xc_NoTask, xi_BadBook_NoTask.trans (by decide +kernel)⟩ (.cons ⟨cat_Taken, ox_Taken, xc_Taken, xi_BadBook_Taken.trans (by decide +kernel)⟩ (.cons ⟨cat_TopTask, ox_TopTask, xc_TopTask, xi_BadBook_TopTask.trans (by decide +kernel)⟩ (.cons ⟨cat_UnknownKind, ox_UnknownKind, xc_UnknownKind, xi_BadBook_UnknownKind.trans (by decide +kernel)⟩ (.nil)))))))))))))))))⟩, ⟨C_BadBranch, PySem.W.mg_of X G aC_BadBranch, [C_BadBook, C_BadBranch, C_BadKind, C_BadName, C_BadPart, C_BadState, C_BadText, C_Below, C_HasParts, C_LastPart, C_NoDeed, C_NoMark, C_NoParts, C_NoTask, C_Taken, C_TopTask, C_UnknownKind], .cons ⟨cat_BadBook, ox_BadBook, xc_BadBook, xi_BadBranch_BadBook.trans (by decide +kernel)⟩ (.cons ⟨cat_BadBranch, ox_BadBranch, xc_BadBranch, xi_BadBranch_BadBranch.trans (by decide +kernel)⟩ (.cons ⟨cat_BadKind, ox_BadKind, xc_BadKind, xi_BadBranch_BadKind.trans (by decide +kernel)⟩ (.cons ⟨cat_BadName, ox_BadName, xc_BadName, xi_BadBranch_BadName.trans (by decide +kernel)⟩ (.cons ⟨cat_BadPart, ox_BadPart, xc_BadPart, xi_BadBranch_BadPart.trans (by decide +kernel)⟩ (.cons ⟨cat_BadState, ox_BadState, xc_BadState, xi_BadBranch_BadState.trans (by decide +kernel)⟩ (.cons ⟨cat_BadText, ox_BadText, xc_BadText, xi_BadBranch_BadText.trans (by decide +kernel)⟩ (.cons ⟨cat_Below, ox_Below, xc_Below, xi_BadBranch_Below.trans (by decide +kernel)⟩ (.cons ⟨cat_HasParts, ox_HasParts, xc_HasParts, xi_BadBranch_HasParts.trans (by decide +kernel)⟩ (.cons ⟨cat_LastPart, ox_LastPart, xc_LastPart, xi_BadBranch_LastPart.trans (by decide +kernel)⟩ (.cons ⟨cat_NoDeed, ox_NoDeed, xc_NoDeed, xi_BadBranch_NoDeed.trans (by decide +kernel)⟩ (.cons ⟨cat_NoMark, ox_NoMark, xc_NoMark, xi_BadBranch_NoMark.trans (by decide +kernel)⟩ (.cons ⟨cat_NoParts, ox_NoParts, xc_NoParts, xi_BadBranch_NoParts.trans (by decide +kernel)⟩ (.cons ⟨cat_NoTask, ox_NoTask, xc_NoTask, xi_BadBranch_NoTask.trans (by decide +kernel)⟩ (.cons ⟨cat_Taken, ox_Taken, xc_Taken, xi_BadBranch_Taken.trans (by decide +kernel)⟩ (.cons ⟨cat_TopTask, ox_TopTask, xc_TopTask, xi_BadBranch_TopTask.trans (by decide +kernel)⟩ (.cons ⟨cat_UnknownKind, ox_UnknownKind, xc_UnknownKind, xi_BadBranch_UnknownKind.trans (by decide +kernel)⟩ (.nil)))))))))))))))))⟩, ⟨C_BadKind, PySem.W.mg_of X G aC_BadKind, [C_BadBook, C_BadBranch, C_BadKind, C_BadName, C_BadPart, C_BadState, C_BadText, C_Below, C_HasParts, C_LastPart, C_NoDeed, C_NoMark, C_NoParts, C_NoTask, C_Taken, C_TopTask, C_UnknownKind], .cons ⟨cat_BadBook, ox_BadBook, xc_BadBook, xi_BadKind_BadBook.trans (by decide +kernel)⟩ (.cons ⟨cat_BadBranch, ox_BadBranch, xc_BadBranch, xi_BadKind_BadBranch.trans (by decide +kernel)⟩ (.cons ⟨cat_BadKind, ox_BadKind, xc_BadKind, xi_BadKind_BadKind.trans (by decide +kernel)⟩ (.cons ⟨cat_BadName, ox_BadName, xc_BadName, xi_BadKind_BadName.trans (by decide +kernel)⟩ (.cons ⟨cat_BadPart, ox_BadPart, xc_BadPart, xi_BadKind_BadPart.trans (by decide +kernel)⟩ (.cons ⟨cat_BadState, ox_BadState, xc_BadState, xi_BadKind_BadState.trans (by decide +kernel)⟩ (.cons ⟨cat_BadText, ox_BadText, xc_BadText, xi_BadKind_BadText.trans (by decide +kernel)⟩ (.cons ⟨cat_Below, ox_Below, xc_Below, xi_BadKind_Below.trans (by decide +kernel)⟩ (.cons ⟨cat_HasParts, ox_HasParts, xc_HasParts, xi_BadKind_HasParts.trans (by decide +kernel)⟩ (.cons ⟨cat_LastPart, ox_LastPart, xc_LastPart, xi_BadKind_LastPart.trans (by decide +kernel)⟩ (.cons ⟨cat_NoDeed, ox_NoDeed, xc_NoDeed, xi_BadKind_NoDeed.trans (by decide +kernel)⟩ (.cons ⟨cat_NoMark, ox_NoMark, xc_NoMark, xi_BadKind_NoMark.trans (by decide +kernel)⟩ (.cons ⟨cat_NoParts, ox_NoParts, xc_NoParts, xi_BadKind_NoParts.trans (by decide +kernel)⟩ (.cons ⟨cat_NoTask, ox_NoTask, xc_NoTask, xi_BadKind_NoTask.trans (by decide +kernel)⟩ (.cons ⟨cat_Taken, ox_Taken, xc_Taken, xi_BadKind_Taken.trans (by decide +kernel)⟩ (.cons ⟨cat_TopTask, ox_TopTask, xc_TopTask, xi_BadKind_TopTask.trans (by decide +kernel)⟩ (.cons ⟨cat_UnknownKind, ox_UnknownKind, xc_UnknownKind, xi_BadKind_UnknownKind.trans (by decide +kernel)⟩ (.nil)))))))))))))))))⟩, ⟨C_BadName, PySem.W.mg_of X G aC_BadName, [C_BadBook, C_BadBranch, C_BadKind, C_BadName, C_BadPart, C_BadState, C_BadText, C_Below, C_HasParts, C_LastPart, C_NoDeed, C_NoMark, C_NoParts, C_NoTask, C_Taken, C_TopTask, C_UnknownKind], .cons ⟨cat_BadBook, ox_BadBook, xc_BadBook, xi_BadName_BadBook.trans (by decide +kernel)⟩ (.cons ⟨cat_BadBranch, ox_BadBranch, xc_BadBranch, xi_BadName_BadBranch.trans (by decide +kernel)⟩ (.cons ⟨cat_BadKind, ox_BadKind, xc_BadKind, xi_BadName_BadKind.trans (by decide +kernel)⟩ (.cons ⟨cat_BadName, ox_BadName, xc_BadName, xi_BadName_BadName.trans (by decide +kernel)⟩ (.cons ⟨cat_BadPart, ox_BadPart, xc_BadPart, xi_BadName_BadPart.trans (by decide +kernel)⟩ (.cons ⟨cat_BadState, ox_BadState, xc_BadState, xi_BadName_BadState.trans (by decide +kernel)⟩ (.cons ⟨cat_BadText, ox_BadText, xc_BadText, xi_BadName_BadText.trans (by decide +kernel)⟩ (.cons ⟨cat_Below, ox_Below, xc_Below, xi_BadName_Below.trans (by decide +kernel)⟩ (.cons ⟨cat_HasParts, ox_HasParts, xc_HasParts, xi_BadName_HasParts.trans (by decide +kernel)⟩ (.cons ⟨cat_LastPart, ox_LastPart, xc_LastPart, xi_BadName_LastPart.trans (by decide +kernel)⟩ (.cons ⟨cat_NoDeed, ox_NoDeed, xc_NoDeed, xi_BadName_NoDeed.trans (by decide +kernel)⟩ (.cons ⟨cat_NoMark, ox_NoMark, xc_NoMark, xi_BadName_NoMark.trans (by decide +kernel)⟩ (.cons ⟨cat_NoParts, ox_NoParts, xc_NoParts, xi_BadName_NoParts.trans (by decide +kernel)⟩ (.cons ⟨cat_NoTask, ox_NoTask, xc_NoTask, xi_BadName_NoTask.trans (by decide +kernel)⟩ (.cons ⟨cat_Taken, ox_Taken, xc_Taken, xi_BadName_Taken.trans (by decide +kernel)⟩ (.cons ⟨cat_TopTask, ox_TopTask, xc_TopTask, xi_BadName_TopTask.trans (by decide +kernel)⟩ (.cons ⟨cat_UnknownKind, ox_UnknownKind, xc_UnknownKind, xi_BadName_UnknownKind.trans (by decide +kernel)⟩ (.nil)))))))))))))))))⟩, ⟨C_BadPart, PySem.W.mg_of X G aC_BadPart, [C_BadBook, C_BadBranch, C_BadKind, C_BadName, C_BadPart, C_BadState, C_BadText, C_Below, C_HasParts, C_LastPart, C_NoDeed, C_NoMark, C_NoParts, C_NoTask, C_Taken, C_TopTask, C_UnknownKind], .cons ⟨cat_BadBook, ox_BadBook, xc_BadBook, xi_BadPart_BadBook.trans (by decide +kernel)⟩ (.cons ⟨cat_BadBranch, ox_BadBranch, xc_BadBranch, xi_BadPart_BadBranch.trans (by decide +kernel)⟩ (.cons ⟨cat_BadKind, ox_BadKind, xc_BadKind, xi_BadPart_BadKind.trans (by decide +kernel)⟩ (.cons ⟨cat_BadName, ox_BadName, xc_BadName, xi_BadPart_BadName.trans (by decide +kernel)⟩ (.cons ⟨cat_BadPart, ox_BadPart, xc_BadPart, xi_BadPart_BadPart.trans (by decide +kernel)⟩ (.cons ⟨cat_BadState, ox_BadState, xc_BadState, xi_BadPart_BadState.trans (by decide +kernel)⟩ (.cons ⟨cat_BadText, ox_BadText, xc_BadText, xi_BadPart_BadText.trans (by decide +kernel)⟩ (.cons ⟨cat_Below, ox_Below, xc_Below, xi_BadPart_Below.trans (by decide +kernel)⟩ (.cons ⟨cat_HasParts, ox_HasParts, xc_HasParts, xi_BadPart_HasParts.trans (by decide +kernel)⟩ (.cons ⟨cat_LastPart, ox_LastPart, xc_LastPart, xi_BadPart_LastPart.trans (by decide +kernel)⟩ (.cons ⟨cat_NoDeed, ox_NoDeed, xc_NoDeed, xi_BadPart_NoDeed.trans (by decide +kernel)⟩ (.cons ⟨cat_NoMark, ox_NoMark, xc_NoMark, xi_BadPart_NoMark.trans (by decide +kernel)⟩ (.cons ⟨cat_NoParts, ox_NoParts, xc_NoParts, xi_BadPart_NoParts.trans (by decide +kernel)⟩ (.cons ⟨cat_NoTask, ox_NoTask, xc_NoTask, xi_BadPart_NoTask.trans (by decide +kernel)⟩ (.cons ⟨cat_Taken, ox_Taken, xc_Taken, xi_BadPart_Taken.trans (by decide +kernel)⟩ (.cons ⟨cat_TopTask, ox_TopTask, xc_TopTask, xi_BadPart_TopTask.trans (by decide +kernel)⟩ (.cons ⟨cat_UnknownKind, ox_UnknownKind, xc_UnknownKind, xi_BadPart_UnknownKind.trans (by decide +kernel)⟩ (.nil)))))))))))))))))⟩, ⟨C_BadState, PySem.W.mg_of X G aC_BadState, [C_BadBook, C_BadBranch, C_BadKind, C_BadName, C_BadPart, C_BadState, C_BadText, C_Below, C_HasParts, C_LastPart, C_NoDeed, C_NoMark, C_NoParts, C_NoTask, C_Taken, C_TopTask, C_UnknownKind], .cons ⟨cat_BadBook, ox_BadBook, xc_BadBook, xi_BadState_BadBook.trans (by decide +kernel)⟩ (.cons ⟨cat_BadBranch, ox_BadBranch, xc_BadBranch, xi_BadState_BadBranch.trans (by decide +kernel)⟩ (.cons ⟨cat_BadKind, ox_BadKind, xc_BadKind, xi_BadState_BadKind.trans (by decide +kernel)⟩ (.cons ⟨cat_BadName, ox_BadName, xc_BadName, xi_BadState_BadName.trans (by decide +kernel)⟩ (.cons ⟨cat_BadPart, ox_BadPart, xc_BadPart, xi_BadState_BadPart.trans (by decide +kernel)⟩ (.cons ⟨cat_BadState, ox_BadState, xc_BadState, xi_BadState_BadState.trans (by decide +kernel)⟩ (.cons ⟨cat_BadText, ox_BadText, xc_BadText, xi_BadState_BadText.trans (by decide +kernel)⟩ (.cons ⟨cat_Below, ox_Below, xc_Below, xi_BadState_Below.trans (by decide +kernel)⟩ (.cons ⟨cat_HasParts, ox_HasParts, xc_HasParts, xi_BadState_HasParts.trans (by decide +kernel)⟩ (.cons ⟨cat_LastPart, ox_LastPart, xc_LastPart, xi_BadState_LastPart.trans (by decide +kernel)⟩ (.cons ⟨cat_NoDeed, ox_NoDeed, xc_NoDeed, xi_BadState_NoDeed.trans (by decide +kernel)⟩ (.cons ⟨cat_NoMark, ox_NoMark, xc_NoMark, xi_BadState_NoMark.trans (by decide +kernel)⟩ (.cons ⟨cat_NoParts, ox_NoParts, xc_NoParts, xi_BadState_NoParts.trans (by decide +kernel)⟩ (.cons ⟨cat_NoTask, ox_NoTask, xc_NoTask, xi_BadState_NoTask.trans (by decide +kernel)⟩ (.cons ⟨cat_Taken, ox_Taken, xc_Taken, xi_BadState_Taken.trans (by decide +kernel)⟩ (.cons ⟨cat_TopTask, ox_TopTask, xc_TopTask, xi_BadState_TopTask.trans (by decide +kernel)⟩ (.cons ⟨cat_UnknownKind, ox_UnknownKind, xc_UnknownKind, xi_BadState_UnknownKind.trans (by decide +kernel)⟩ (.nil)))))))))))))))))⟩, ⟨C_BadText, PySem.W.mg_of X G aC_BadText, [C_BadBook, C_BadBranch, C_BadKind, C_BadName, C_BadPart, C_BadState, C_BadText, C_Below, C_HasParts, C_LastPart, C_NoDeed, C_NoMark, C_NoParts, C_NoTask, C_Taken, C_TopTask, C_UnknownKind], .cons ⟨cat_BadBook, ox_BadBook, xc_BadBook, xi_BadText_BadBook.trans (by decide +kernel)⟩ (.cons ⟨cat_BadBranch, ox_BadBranch, xc_BadBranch, xi_BadText_BadBranch.trans (by decide +kernel)⟩ (.cons ⟨cat_BadKind, ox_BadKind, xc_BadKind, xi_BadText_BadKind.trans (by decide +kernel)⟩ (.cons ⟨cat_BadName, ox_BadName, xc_BadName, xi_BadText_BadName.trans (by decide +kernel)⟩ (.cons ⟨cat_BadPart, ox_BadPart, xc_BadPart, xi_BadText_BadPart.trans (by decide +kernel)⟩ (.cons ⟨cat_BadState, ox_BadState, xc_BadState, xi_BadText_BadState.trans (by decide +kernel)⟩ (.cons ⟨cat_BadText, ox_BadText, xc_BadText, xi_BadText_BadText.trans (by decide +kernel)⟩ (.cons ⟨cat_Below, ox_Below, xc_Below, xi_BadText_Below.trans (by decide +kernel)⟩ (.cons ⟨cat_HasParts, ox_HasParts, xc_HasParts, xi_BadText_HasParts.trans (by decide +kernel)⟩ (.cons ⟨cat_LastPart, ox_LastPart, xc_LastPart, xi_BadText_LastPart.trans (by decide +kernel)⟩ (.cons ⟨cat_NoDeed, ox_NoDeed, xc_NoDeed, xi_BadText_NoDeed.trans (by decide +kernel)⟩ (.cons ⟨cat_NoMark, ox_NoMark, xc_NoMark, xi_BadText_NoMark.trans (by decide +kernel)⟩ (.cons ⟨cat_NoParts, ox_NoParts, xc_NoParts, xi_BadText_NoParts.trans (by decide +kernel)⟩ (.cons ⟨cat_NoTask, ox_NoTask, xc_NoTask, xi_BadText_NoTask.trans (by decide +kernel)⟩ (.cons ⟨cat_Taken, ox_Taken, xc_Taken, xi_BadText_Taken.trans (by decide +kernel)⟩ (.cons ⟨cat_TopTask, ox_TopTask, xc_TopTask, xi_BadText_TopTask.trans (by decide +kernel)⟩ (.cons ⟨cat_UnknownKind, ox_UnknownKind, xc_UnknownKind, xi_BadText_UnknownKind.trans (by decide +kernel)⟩ (.nil)))))))))))))))))⟩, ⟨C_Below, PySem.W.mg_of X G aC_Below, [C_BadBook, C_BadBranch, C_BadKind, C_BadName, C_BadPart, C_BadState, C_BadText, C_Below, C_HasParts, C_LastPart, C_NoDeed, C_NoMark, C_NoParts, C_NoTask, C_Taken, C_TopTask, C_UnknownKind], .cons ⟨cat_BadBook, ox_BadBook, xc_BadBook, xi_Below_BadBook.trans (by decide +kernel)⟩ (.cons ⟨cat_BadBranch, ox_BadBranch, xc_BadBranch, xi_Below_BadBranch.trans (by decide +kernel)⟩ (.cons ⟨cat_BadKind, ox_BadKind, xc_BadKind, xi_Below_BadKind.trans (by decide +kernel)⟩ (.cons ⟨cat_BadName, ox_BadName, xc_BadName, xi_Below_BadName.trans (by decide +kernel)⟩ (.cons ⟨cat_BadPart, ox_BadPart, xc_BadPart, xi_Below_BadPart.trans (by decide +kernel)⟩ (.cons ⟨cat_BadState, ox_BadState, xc_BadState, xi_Below_BadState.trans (by decide +kernel)⟩ (.cons ⟨cat_BadText, ox_BadText, xc_BadText, xi_Below_BadText.trans (by decide +kernel)⟩ (.cons ⟨cat_Below, ox_Below, xc_Below, xi_Below_Below.trans (by decide +kernel)⟩ (.cons ⟨cat_HasParts, ox_HasParts, xc_HasParts, xi_Below_HasParts.trans (by decide +kernel)⟩ (.cons ⟨cat_LastPart, ox_LastPart, xc_LastPart, xi_Below_LastPart.trans (by decide +kernel)⟩ (.cons ⟨cat_NoDeed, ox_NoDeed, xc_NoDeed, xi_Below_NoDeed.trans (by decide +kernel)⟩ (.cons ⟨cat_NoMark, ox_NoMark, xc_NoMark, xi_Below_NoMark.trans (by decide +kernel)⟩ (.cons ⟨cat_NoParts, ox_NoParts, xc_NoParts, xi_Below_NoParts.trans (by decide +kernel)⟩ (.cons ⟨cat_NoTask, ox_NoTask, xc_NoTask, xi_Below_NoTask.trans (by decide +kernel)⟩ (.cons ⟨cat_Taken, ox_Taken, xc_Taken, xi_Below_Taken.trans (by decide +kernel)⟩ (.cons ⟨cat_TopTask, ox_TopTask, xc_TopTask, xi_Below_TopTask.trans (by decide +kernel)⟩ (.cons ⟨cat_UnknownKind, ox_UnknownKind, xc_UnknownKind, xi_Below_UnknownKind.trans (by decide +kernel)⟩ (.nil)))))))))))))))))⟩, ⟨C_HasParts, PySem.W.mg_of X G aC_HasParts, [C_BadBook, C_BadBranch, C_BadKind, C_BadName, C_BadPart, C_BadState, C_BadText, C_Below, C_HasParts, C_LastPart, C_NoDeed, C_NoMark, C_NoParts, C_NoTask, C_Taken, C_TopTask, C_UnknownKind], .cons ⟨cat_BadBook, ox_BadBook, xc_BadBook, xi_HasParts_BadBook.trans (by decide +kernel)⟩ (.cons ⟨cat_BadBranch, ox_BadBranch, xc_BadBranch, xi_HasParts_BadBranch.trans (by decide +kernel)⟩ (.cons ⟨cat_BadKind, ox_BadKind, xc_BadKind, xi_HasParts_BadKind.trans (by decide +kernel)⟩ (.cons ⟨cat_BadName, ox_BadName, xc_BadName, xi_HasParts_BadName.trans (by decide +kernel)⟩ (.cons ⟨cat_BadPart, ox_BadPart, xc_BadPart, xi_HasParts_BadPart.trans (by decide +kernel)⟩ (.cons ⟨cat_BadState, ox_BadState, xc_BadState, xi_HasParts_BadState.trans (by decide +kernel)⟩ (.cons ⟨cat_BadText, ox_BadText, xc_BadText, xi_HasParts_BadText.trans (by decide +kernel)⟩ (.cons ⟨cat_Below, ox_Below, xc_Below, xi_HasParts_Below.trans (by decide +kernel)⟩ (.cons ⟨cat_HasParts, ox_HasParts, xc_HasParts, xi_HasParts_HasParts.trans (by decide +kernel)⟩ (.cons ⟨cat_LastPart, ox_LastPart, xc_LastPart, xi_HasParts_LastPart.trans (by decide +kernel)⟩ (.cons ⟨cat_NoDeed, ox_NoDeed, xc_NoDeed, xi_HasParts_NoDeed.trans (by decide +kernel)⟩ (.cons ⟨cat_NoMark, ox_NoMark, xc_NoMark, xi_HasParts_NoMark.trans (by decide +kernel)⟩ (.cons ⟨cat_NoParts, ox_NoParts, xc_NoParts, xi_HasParts_NoParts.trans (by decide +kernel)⟩ (.cons ⟨cat_NoTask, ox_NoTask, xc_NoTask, xi_HasParts_NoTask.trans (by decide +kernel)⟩ (.cons ⟨cat_Taken, ox_Taken, xc_Taken, xi_HasParts_Taken.trans (by decide +kernel)⟩ (.cons ⟨cat_TopTask, ox_TopTask, xc_TopTask, xi_HasParts_TopTask.trans (by decide +kernel)⟩ (.cons ⟨cat_UnknownKind, ox_UnknownKind, xc_UnknownKind, xi_HasParts_UnknownKind.trans (by decide +kernel)⟩ (.nil)))))))))))))))))⟩, ⟨C_LastPart, PySem.W.mg_of X G aC_LastPart, [C_BadBook, C_BadBranch, C_BadKind, C_BadName, C_BadPart, C_BadState, C_BadText, C_Below, C_HasParts, C_LastPart, C_NoDeed, C_NoMark, C_NoParts, C_NoTask, C_Taken, C_TopTask, C_UnknownKind], .cons ⟨cat_BadBook, ox_BadBook, xc_BadBook, xi_LastPart_BadBook.trans (by decide +kernel)⟩ (.cons ⟨cat_BadBranch, ox_BadBranch, xc_BadBranch, xi_LastPart_BadBranch.trans (by decide +kernel)⟩ (.cons ⟨cat_BadKind, ox_BadKind, xc_BadKind, xi_LastPart_BadKind.trans (by decide +kernel)⟩ (.cons ⟨cat_BadName, ox_BadName, xc_BadName, xi_LastPart_BadName.trans (by decide +kernel)⟩ (.cons ⟨cat_BadPart, ox_BadPart, xc_BadPart, xi_LastPart_BadPart.trans (by decide +kernel)⟩ (.cons ⟨cat_BadState, ox_BadState, xc_BadState, xi_LastPart_BadState.trans (by decide +kernel)⟩ (.cons ⟨cat_BadText, ox_BadText, xc_BadText, xi_LastPart_BadText.trans (by decide +kernel)⟩ (.cons ⟨cat_Below, ox_Below, xc_Below, xi_LastPart_Below.trans (by decide +kernel)⟩ (.cons ⟨cat_HasParts, ox_HasParts, xc_HasParts, xi_LastPart_HasParts.trans (by decide +kernel)⟩ (.cons ⟨cat_LastPart, ox_LastPart, xc_LastPart, xi_LastPart_LastPart.trans (by decide +kernel)⟩ (.cons ⟨cat_NoDeed, ox_NoDeed, xc_NoDeed, xi_LastPart_NoDeed.trans (by decide +kernel)⟩ (.cons ⟨cat_NoMark, ox_NoMark, xc_NoMark, xi_LastPart_NoMark.trans (by decide +kernel)⟩ (.cons ⟨cat_NoParts, ox_NoParts, xc_NoParts, xi_LastPart_NoParts.trans (by decide +kernel)⟩ (.cons ⟨cat_NoTask, ox_NoTask, xc_NoTask, xi_LastPart_NoTask.trans (by decide +kernel)⟩ (.cons ⟨cat_Taken, ox_Taken, xc_Taken, xi_LastPart_Taken.trans (by decide +kernel)⟩ (.cons ⟨cat_TopTask, ox_TopTask, xc_TopTask, xi_LastPart_TopTask.trans (by decide +kernel)⟩ (.cons ⟨cat_UnknownKind, ox_UnknownKind, xc_UnknownKind, xi_LastPart_UnknownKind.trans (by decide +kernel)⟩ (.nil)))))))))))))))))⟩, ⟨C_NoDeed, PySem.W.mg_of X G aC_NoDeed, [C_BadBook, C_BadBranch, C_BadKind, C_BadName, C_BadPart, C_BadState, C_BadText, C_Below, C_HasParts, C_LastPart, C_NoDeed, C_NoMark, C_NoParts, C_NoTask, C_Taken, C_TopTask, C_UnknownKind], .cons ⟨cat_BadBook, ox_BadBook, xc_BadBook, xi_NoDeed_BadBook.trans (by decide +kernel)⟩ (.cons ⟨cat_BadBranch, ox_BadBranch, xc_BadBranch, xi_NoDeed_BadBranch.trans (by decide +kernel)⟩ (.cons ⟨cat_BadKind, ox_BadKind, xc_BadKind, xi_NoDeed_BadKind.trans (by decide +kernel)⟩ (.cons ⟨cat_BadName, ox_BadName, xc_BadName, xi_NoDeed_BadName.trans (by decide +kernel)⟩ (.cons ⟨cat_BadPart, ox_BadPart, xc_BadPart, xi_NoDeed_BadPart.trans (by decide +kernel)⟩ (.cons ⟨cat_BadState, ox_BadState, xc_BadState, xi_NoDeed_BadState.trans (by decide +kernel)⟩ (.cons ⟨cat_BadText, ox_BadText, xc_BadText, xi_NoDeed_BadText.trans (by decide +kernel)⟩ (.cons ⟨cat_Below, ox_Below, xc_Below, xi_NoDeed_Below.trans (by decide +kernel)⟩ (.cons ⟨cat_HasParts, ox_HasParts, xc_HasParts, xi_NoDeed_HasParts.trans (by decide +kernel)⟩ (.cons ⟨cat_LastPart, ox_LastPart, xc_LastPart, xi_NoDeed_LastPart.trans (by decide +kernel)⟩ (.cons ⟨cat_NoDeed, ox_NoDeed, xc_NoDeed, xi_NoDeed_NoDeed.trans (by decide +kernel)⟩ (.cons ⟨cat_NoMark, ox_NoMark, xc_NoMark, xi_NoDeed_NoMark.trans (by decide +kernel)⟩ (.cons ⟨cat_NoParts, ox_NoParts, xc_NoParts, xi_NoDeed_NoParts.trans (by decide +kernel)⟩ (.cons ⟨cat_NoTask, ox_NoTask, xc_NoTask, xi_NoDeed_NoTask.trans (by decide +kernel)⟩ (.cons ⟨cat_Taken, ox_Taken, xc_Taken, xi_NoDeed_Taken.trans (by decide +kernel)⟩ (.cons ⟨cat_TopTask, ox_TopTask, xc_TopTask, xi_NoDeed_TopTask.trans (by decide +kernel)⟩ (.cons ⟨cat_UnknownKind, ox_UnknownKind, xc_UnknownKind, xi_NoDeed_UnknownKind.trans (by decide +kernel)⟩ (.nil)))))))))))))))))⟩, ⟨C_NoMark, PySem.W.mg_of X G aC_NoMark, [C_BadBook, C_BadBranch, C_BadKind, C_BadName, C_BadPart, C_BadState, C_BadText, C_Below, C_HasParts, C_LastPart, C_NoDeed, C_NoMark, C_NoParts, C_NoTask, C_Taken, C_TopTask, C_UnknownKind], .cons ⟨cat_BadBook, ox_BadBook, xc_BadBook, xi_NoMark_BadBook.trans (by decide +kernel)⟩ (.cons ⟨cat_BadBranch, ox_BadBranch, xc_BadBranch, xi_NoMark_BadBranch.trans (by decide +kernel)⟩ (.cons ⟨cat_BadKind, ox_BadKind, xc_BadKind, xi_NoMark_BadKind.trans (by decide +kernel)⟩ (.cons ⟨cat_BadName, ox_BadName, xc_BadName, xi_NoMark_BadName.trans (by decide +kernel)⟩ (.cons ⟨cat_BadPart, ox_BadPart, xc_BadPart, xi_NoMark_BadPart.trans (by decide +kernel)⟩ (.cons ⟨cat_BadState, ox_BadState, xc_BadState, xi_NoMark_BadState.trans (by decide +kernel)⟩ (.cons ⟨cat_BadText, ox_BadText, xc_BadText, xi_NoMark_BadText.trans (by decide +kernel)⟩ (.cons ⟨cat_Below, ox_Below, xc_Below, xi_NoMark_Below.trans (by decide +kernel)⟩ (.cons ⟨cat_HasParts, ox_HasParts, xc_HasParts, xi_NoMark_HasParts.trans (by decide +kernel)⟩ (.cons ⟨cat_LastPart, ox_LastPart, xc_LastPart, xi_NoMark_LastPart.trans (by decide +kernel)⟩ (.cons ⟨cat_NoDeed, ox_NoDeed, xc_NoDeed, xi_NoMark_NoDeed.trans (by decide +kernel)⟩ (.cons ⟨cat_NoMark, ox_NoMark, xc_NoMark, xi_NoMark_NoMark.trans (by decide +kernel)⟩ (.cons ⟨cat_NoParts, ox_NoParts, xc_NoParts, xi_NoMark_NoParts.trans (by decide +kernel)⟩ (.cons ⟨cat_NoTask, ox_NoTask, xc_NoTask, xi_NoMark_NoTask.trans (by decide +kernel)⟩ (.cons ⟨cat_Taken, ox_Taken, xc_Taken, xi_NoMark_Taken.trans (by decide +kernel)⟩ (.cons ⟨cat_TopTask, ox_TopTask, xc_TopTask, xi_NoMark_TopTask.trans (by decide +kernel)⟩ (.cons ⟨cat_UnknownKind, ox_UnknownKind, xc_UnknownKind, xi_NoMark_UnknownKind.trans (by decide +kernel)⟩ (.nil)))))))))))))))))⟩, ⟨C_NoParts, PySem.W.mg_of X G aC_NoParts, [C_BadBook, C_BadBranch, C_BadKind, C_BadName, C_BadPart, C_BadState, C_BadText, C_Below, C_HasParts, C_LastPart, C_NoDeed, C_NoMark, C_NoParts, C_NoTask, C_Taken, C_TopTask, C_UnknownKind], .cons ⟨cat_BadBook, ox_BadBook, xc_BadBook, xi_NoParts_BadBook.trans (by decide +kernel)⟩ (.cons ⟨cat_BadBranch, ox_BadBranch, xc_BadBranch, xi_NoParts_BadBranch.trans (by decide +kernel)⟩ (.cons ⟨cat_BadKind, ox_BadKind, xc_BadKind, xi_NoParts_BadKind.trans (by decide +kernel)⟩ (.cons ⟨cat_BadName, ox_BadName, xc_BadName, xi_NoParts_BadName.trans (by decide +kernel)⟩ (.cons ⟨cat_BadPart, ox_BadPart, xc_BadPart, xi_NoParts_BadPart.trans (by decide +kernel)⟩ (.cons ⟨cat_BadState, ox_BadState, xc_BadState, xi_NoParts_BadState.trans (by decide +kernel)⟩ (.cons ⟨cat_BadText, ox_BadText, xc_BadText, xi_NoParts_BadText.trans (by decide +kernel)⟩ (.cons ⟨cat_Below, ox_Below, xc_Below, xi_NoParts_Below.trans (by decide +kernel)⟩ (.cons ⟨cat_HasParts, ox_HasParts, xc_HasParts, xi_NoParts_HasParts.trans (by decide +kernel)⟩ (.cons ⟨cat_LastPart, ox_LastPart, xc_LastPart, xi_NoParts_LastPart.trans (by decide +kernel)⟩ (.cons ⟨cat_NoDeed, ox_NoDeed, xc_NoDeed, xi_NoParts_NoDeed.trans (by decide +kernel)⟩ (.cons ⟨cat_NoMark, ox_NoMark, xc_NoMark, xi_NoParts_NoMark.trans (by decide +kernel)⟩ (.cons ⟨cat_NoParts, ox_NoParts, xc_NoParts, xi_NoParts_NoParts.trans (by decide +kernel)⟩ (.cons ⟨cat_NoTask, ox_NoTask, xc_NoTask, xi_NoParts_NoTask.trans (by decide +kernel)⟩ (.cons ⟨cat_Taken, ox_Taken, xc_Taken, xi_NoParts_Taken.trans (by decide +kernel)⟩ (.cons ⟨cat_TopTask, ox_TopTask, xc_TopTask, xi_NoParts_TopTask.trans (by decide +kernel)⟩ (.cons ⟨cat_UnknownKind, ox_UnknownKind, xc_UnknownKind, xi_NoParts_UnknownKind.trans (by decide +kernel)⟩ (.nil)))))))))))))))))⟩, ⟨C_NoTask, PySem.W.mg_of X G aC_NoTask, [C_BadBook, C_BadBranch, C_BadKind, C_BadName, C_BadPart, C_BadState, C_BadText, C_Below, C_HasParts, C_LastPart, C_NoDeed, C_NoMark, C_NoParts, C_NoTask, C_Taken, C_TopTask, C_UnknownKind], .cons ⟨cat_BadBook, ox_BadBook, xc_BadBook, xi_NoTask_BadBook.trans (by decide +kernel)⟩ (.cons ⟨cat_BadBranch, ox_BadBranch, xc_BadBranch, xi_NoTask_BadBranch.trans (by decide +kernel)⟩ (.cons ⟨cat_BadKind, ox_BadKind, xc_BadKind, xi_NoTask_BadKind.trans (by decide +kernel)⟩ (.cons ⟨cat_BadName, ox_BadName, xc_BadName, xi_NoTask_BadName.trans (by decide +kernel)⟩ (.cons ⟨cat_BadPart, ox_BadPart, xc_BadPart, xi_NoTask_BadPart.trans (by decide +kernel)⟩ (.cons ⟨cat_BadState, ox_BadState, xc_BadState, xi_NoTask_BadState.trans (by decide +kernel)⟩ (.cons ⟨cat_BadText, ox_BadText, xc_BadText, xi_NoTask_BadText.trans (by decide +kernel)⟩ (.cons ⟨cat_Below, ox_Below, xc_Below, xi_NoTask_Below.trans (by decide +kernel)⟩ (.cons ⟨cat_HasParts, ox_HasParts, xc_HasParts, xi_NoTask_HasParts.trans (by decide +kernel)⟩ (.cons ⟨cat_LastPart, ox_LastPart, xc_LastPart, xi_NoTask_LastPart.trans (by decide +kernel)⟩ (.cons ⟨cat_NoDeed, ox_NoDeed, xc_NoDeed, xi_NoTask_NoDeed.trans (by decide +kernel)⟩ (.cons ⟨cat_NoMark, ox_NoMark, xc_NoMark, xi_NoTask_NoMark.trans (by decide +kernel)⟩ (.cons ⟨cat_NoParts, ox_NoParts, xc_NoParts, xi_NoTask_NoParts.trans (by decide +kernel)⟩ (.cons ⟨cat_NoTask, ox_NoTask, xc_NoTask, xi_NoTask_NoTask.trans (by decide +kernel)⟩ (.cons ⟨cat_Taken, ox_Taken, xc_Taken, xi_NoTask_Taken.trans (by decide +kernel)⟩ (.cons ⟨cat_TopTask, ox_TopTask, xc_TopTask, xi_NoTask_TopTask.trans (by decide +kernel)⟩ (.cons ⟨cat_UnknownKind, ox_UnknownKind, xc_UnknownKind, xi_NoTask_UnknownKind.trans (by decide +kernel)⟩ (.nil)))))))))))))))))⟩, ⟨C_PartsError, PySem.W.mg_of X G aC_PartsError, [C_BadBook, C_BadBranch, C_BadKind, C_BadName, C_BadPart, C_BadState, C_BadText, C_Below, C_HasParts, C_LastPart, C_NoDeed, C_NoMark, C_NoParts, C_NoTask, C_Taken, C_TopTask, C_UnknownKind], .cons ⟨cat_BadBook, ox_BadBook, xc_BadBook, xi_PartsError_BadBook.trans (by decide +kernel)⟩ (.cons ⟨cat_BadBranch, ox_BadBranch, xc_BadBranch, xi_PartsError_BadBranch.trans (by decide +kernel)⟩ (.cons ⟨cat_BadKind, ox_BadKind, xc_BadKind, xi_PartsError_BadKind.trans (by decide +kernel)⟩ (.cons ⟨cat_BadName, ox_BadName, xc_BadName, xi_PartsError_BadName.trans (by decide +kernel)⟩ (.cons ⟨cat_BadPart, ox_BadPart, xc_BadPart, xi_PartsError_BadPart.trans (by decide +kernel)⟩ (.cons ⟨cat_BadState, ox_BadState, xc_BadState, xi_PartsError_BadState.trans (by decide +kernel)⟩ (.cons ⟨cat_BadText, ox_BadText, xc_BadText, xi_PartsError_BadText.trans (by decide +kernel)⟩ (.cons ⟨cat_Below, ox_Below, xc_Below, xi_PartsError_Below.trans (by decide +kernel)⟩ (.cons ⟨cat_HasParts, ox_HasParts, xc_HasParts, xi_PartsError_HasParts.trans (by decide +kernel)⟩ (.cons ⟨cat_LastPart, ox_LastPart, xc_LastPart, xi_PartsError_LastPart.trans (by decide +kernel)⟩ (.cons ⟨cat_NoDeed, ox_NoDeed, xc_NoDeed, xi_PartsError_NoDeed.trans (by decide +kernel)⟩ (.cons ⟨cat_NoMark, ox_NoMark, xc_NoMark, xi_PartsError_NoMark.trans (by decide +kernel)⟩ (.cons ⟨cat_NoParts, ox_NoParts, xc_NoParts, xi_PartsError_NoParts.trans (by decide +kernel)⟩ (.cons ⟨cat_NoTask, ox_NoTask, xc_NoTask, xi_PartsError_NoTask.trans (by decide +kernel)⟩ (.cons ⟨cat_Taken, ox_Taken, xc_Taken, xi_PartsError_Taken.trans (by decide +kernel)⟩ (.cons ⟨cat_TopTask, ox_TopTask, xc_TopTask, xi_PartsError_TopTask.trans (by decide +kernel)⟩ (.cons ⟨cat_UnknownKind, ox_UnknownKind, xc_UnknownKind, xi_PartsError_UnknownKind.trans (by decide +kernel)⟩ (.nil)))))))))))))))))⟩, ⟨C_Taken, PySem.W.mg_of X G aC_Taken, [C_BadBook, C_BadBranch, C_BadKind, C_BadName, C_BadPart, C_BadState, C_BadText, C_Below, C_HasParts, C_LastPart, C_NoDeed, C_NoMark, C_NoParts, C_NoTask, C_Taken, C_TopTask, C_UnknownKind], .cons ⟨cat_BadBook, ox_BadBook, xc_BadBook, xi_Taken_BadBook.trans (by decide +kernel)⟩ (.cons ⟨cat_BadBranch, ox_BadBranch, xc_BadBranch, xi_Taken_BadBranch.trans (by decide +kernel)⟩ (.cons ⟨cat_BadKind, ox_BadKind, xc_BadKind, xi_Taken_BadKind.trans (by decide +kernel)⟩ (.cons ⟨cat_BadName, ox_BadName, xc_BadName, xi_Taken_BadName.trans (by decide +kernel)⟩ (.cons ⟨cat_BadPart, ox_BadPart, xc_BadPart, xi_Taken_BadPart.trans (by decide +kernel)⟩ (.cons ⟨cat_BadState, ox_BadState, xc_BadState, xi_Taken_BadState.trans (by decide +kernel)⟩ (.cons ⟨cat_BadText, ox_BadText, xc_BadText, xi_Taken_BadText.trans (by decide +kernel)⟩ (.cons ⟨cat_Below, ox_Below, xc_Below, xi_Taken_Below.trans (by decide +kernel)⟩ (.cons ⟨cat_HasParts, ox_HasParts, xc_HasParts, xi_Taken_HasParts.trans (by decide +kernel)⟩ (.cons ⟨cat_LastPart, ox_LastPart, xc_LastPart, xi_Taken_LastPart.trans (by decide +kernel)⟩ (.cons ⟨cat_NoDeed, ox_NoDeed, xc_NoDeed, xi_Taken_NoDeed.trans (by decide +kernel)⟩ (.cons ⟨cat_NoMark, ox_NoMark, xc_NoMark, xi_Taken_NoMark.trans (by decide +kernel)⟩ (.cons ⟨cat_NoParts, ox_NoParts, xc_NoParts, xi_Taken_NoParts.trans (by decide +kernel)⟩ (.cons ⟨cat_NoTask, ox_NoTask, xc_NoTask, xi_Taken_NoTask.trans (by decide +kernel)⟩ (.cons ⟨cat_Taken, ox_Taken, xc_Taken, xi_Taken_Taken.trans (by decide +kernel)⟩ (.cons ⟨cat_TopTask, ox_TopTask, xc_TopTask, xi_Taken_TopTask.trans (by decide +kernel)⟩ (.cons ⟨cat_UnknownKind, ox_UnknownKind, xc_UnknownKind, xi_Taken_UnknownKind.trans (by decide +kernel)⟩ (.nil)))))))))))))))))⟩, ⟨C_TopTask, PySem.W.mg_of X G aC_TopTask, [C_BadBook, C_BadBranch, C_BadKind, C_BadName, C_BadPart, C_BadState, C_BadText, C_Below, C_HasParts, C_LastPart, C_NoDeed, C_NoMark, C_NoParts, C_NoTask, C_Taken, C_TopTask, C_UnknownKind], .cons ⟨cat_BadBook, ox_BadBook, xc_BadBook, xi_TopTask_BadBook.trans (by decide +kernel)⟩ (.cons ⟨cat_BadBranch, ox_BadBranch, xc_BadBranch, xi_TopTask_BadBranch.trans (by decide +kernel)⟩ (.cons ⟨cat_BadKind, ox_BadKind, xc_BadKind, xi_TopTask_BadKind.trans (by decide +kernel)⟩ (.cons ⟨cat_BadName, ox_BadName, xc_BadName, xi_TopTask_BadName.trans (by decide +kernel)⟩ (.cons ⟨cat_BadPart, ox_BadPart, xc_BadPart, xi_TopTask_BadPart.trans (by decide +kernel)⟩ (.cons ⟨cat_BadState, ox_BadState, xc_BadState, xi_TopTask_BadState.trans (by decide +kernel)⟩ (.cons ⟨cat_BadText, ox_BadText, xc_BadText, xi_TopTask_BadText.trans (by decide +kernel)⟩ (.cons ⟨cat_Below, ox_Below, xc_Below, xi_TopTask_Below.trans (by decide +kernel)⟩ (.cons ⟨cat_HasParts, ox_HasParts, xc_HasParts, xi_TopTask_HasParts.trans (by decide +kernel)⟩ (.cons ⟨cat_LastPart, ox_LastPart, xc_LastPart, xi_TopTask_LastPart.trans (by decide +kernel)⟩ (.cons ⟨cat_NoDeed, ox_NoDeed, xc_NoDeed, xi_TopTask_NoDeed.trans (by decide +kernel)⟩ (.cons ⟨cat_NoMark, ox_NoMark, xc_NoMark, xi_TopTask_NoMark.trans (by decide +kernel)⟩ (.cons ⟨cat_NoParts, ox_NoParts, xc_NoParts, xi_TopTask_NoParts.trans (by decide +kernel)⟩ (.cons ⟨cat_NoTask, ox_NoTask, xc_NoTask, xi_TopTask_NoTask.trans (by decide +kernel)⟩ (.cons ⟨cat_Taken, ox_Taken, xc_Taken, xi_TopTask_Taken.trans (by decide +kernel)⟩ (.cons ⟨cat_TopTask, ox_TopTask, xc_TopTask, xi_TopTask_TopTask.trans (by decide +kernel)⟩ (.cons ⟨cat_UnknownKind, ox_UnknownKind, xc_UnknownKind, xi_TopTask_UnknownKind.trans (by decide +kernel)⟩ (.nil)))))))))))))))))⟩, ⟨C_UnknownKind, PySem.W.mg_of X G aC_UnknownKind, [C_BadBook, C_BadBranch, C_BadKind, C_BadName, C_BadPart, C_BadState, C_BadText, C_Below, C_HasParts, C_LastPart, C_NoDeed, C_NoMark, C_NoParts, C_NoTask, C_Taken, C_TopTask, C_UnknownKind], .cons ⟨cat_BadBook, ox_BadBook, xc_BadBook, xi_UnknownKind_BadBook.trans (by decide +kernel)⟩ (.cons ⟨cat_BadBranch, ox_BadBranch, xc_BadBranch, xi_UnknownKind_BadBranch.trans (by decide +kernel)⟩ (.cons ⟨cat_BadKind, ox_BadKind, xc_BadKind, xi_UnknownKind_BadKind.trans (by decide +kernel)⟩ (.cons ⟨cat_BadName, ox_BadName, xc_BadName, xi_UnknownKind_BadName.trans (by decide +kernel)⟩ (.cons ⟨cat_BadPart, ox_BadPart, xc_BadPart, xi_UnknownKind_BadPart.trans (by decide +kernel)⟩ (.cons ⟨cat_BadState, ox_BadState, xc_BadState, xi_UnknownKind_BadState.trans (by decide +kernel)⟩ (.cons ⟨cat_BadText, ox_BadText, xc_BadText, xi_UnknownKind_BadText.trans (by decide +kernel)⟩ (.cons ⟨cat_Below, ox_Below, xc_Below, xi_UnknownKind_Below.trans (by decide +kernel)⟩ (.cons ⟨cat_HasParts, ox_HasParts, xc_HasParts, xi_UnknownKind_HasParts.trans (by decide +kernel)⟩ (.cons ⟨cat_LastPart, ox_LastPart, xc_LastPart, xi_UnknownKind_LastPart.trans (by decide +kernel)⟩ (.cons ⟨cat_NoDeed, ox_NoDeed, xc_NoDeed, xi_UnknownKind_NoDeed.trans (by decide +kernel)⟩ (.cons ⟨cat_NoMark, ox_NoMark, xc_NoMark, xi_UnknownKind_NoMark.trans (by decide +kernel)⟩ (.cons ⟨cat_NoParts, ox_NoParts, xc_NoParts, xi_UnknownKind_NoParts.trans (by decide +kernel)⟩ (.cons ⟨cat_NoTask, ox_NoTask, xc_NoTask, xi_UnknownKind_NoTask.trans (by decide +kernel)⟩ (.cons ⟨cat_Taken, ox_Taken, xc_Taken, xi_UnknownKind_Taken.trans (by decide +kernel)⟩ (.cons ⟨cat_TopTask, ox_TopTask, xc_TopTask, xi_UnknownKind_TopTask.trans (by decide +kernel)⟩ (.cons ⟨cat_UnknownKind, ox_UnknownKind, xc_UnknownKind, xi_UnknownKind_UnknownKind.trans (by decide +kernel)⟩ (.nil)))))))))))))))))⟩, ⟨[C_BadBook, C_BadBranch, C_BadKind, C_BadName, C_BadPart, C_BadState, C_BadText, C_Below, C_HasParts, C_LastPart, C_NoDeed, C_NoMark, C_NoParts, C_NoTask, C_Taken, C_TopTask, C_UnknownKind], .cons ⟨cat_BadBook, ox_BadBook, xc_BadBook, xi_ValueError_BadBook.trans (by decide +kernel)⟩ (.cons ⟨cat_BadBranch, ox_BadBranch, xc_BadBranch, xi_ValueError_BadBranch.trans (by decide +kernel)⟩ (.cons ⟨cat_BadKind, ox_BadKind, xc_BadKind, xi_ValueError_BadKind.trans (by decide +kernel)⟩ (.cons ⟨cat_BadName, ox_BadName, xc_BadName, xi_ValueError_BadName.trans (by decide +kernel)⟩ (.cons ⟨cat_BadPart, ox_BadPart, xc_BadPart, xi_ValueError_BadPart.trans (by decide +kernel)⟩ (.cons ⟨cat_BadState, ox_BadState, xc_BadState, xi_ValueError_BadState.trans (by decide +kernel)⟩ (.cons ⟨cat_BadText, ox_BadText, xc_BadText, xi_ValueError_BadText.trans (by decide +kernel)⟩ (.cons ⟨cat_Below, ox_Below, xc_Below, xi_ValueError_Below.trans (by decide +kernel)⟩ (.cons ⟨cat_HasParts, ox_HasParts, xc_HasParts, xi_ValueError_HasParts.trans (by decide +kernel)⟩ (.cons ⟨cat_LastPart, ox_LastPart, xc_LastPart, xi_ValueError_LastPart.trans (by decide +kernel)⟩ (.cons ⟨cat_NoDeed, ox_NoDeed, xc_NoDeed, xi_ValueError_NoDeed.trans (by decide +kernel)⟩ (.cons ⟨cat_NoMark, ox_NoMark, xc_NoMark, xi_ValueError_NoMark.trans (by decide +kernel)⟩ (.cons ⟨cat_NoParts, ox_NoParts, xc_NoParts, xi_ValueError_NoParts.trans (by decide +kernel)⟩ (.cons ⟨cat_NoTask, ox_NoTask, xc_NoTask, xi_ValueError_NoTask.trans (by decide +kernel)⟩ (.cons ⟨cat_Taken, ox_Taken, xc_Taken, xi_ValueError_Taken.trans (by decide +kernel)⟩ (.cons ⟨cat_TopTask, ox_TopTask, xc_TopTask, xi_ValueError_TopTask.trans (by decide +kernel)⟩ (.cons ⟨cat_UnknownKind, ox_UnknownKind, xc_UnknownKind, xi_ValueError_UnknownKind.trans (by decide +kernel)⟩ (.nil)))))))))))))))))⟩⟩
  have Fn__law_draw := fun_mk (st := s__law_draw) l__law_draw c__law_draw k__law_draw
  have Fn__law_kinds := fun_mk (st := s__law_kinds) l__law_kinds c__law_kinds k__law_kinds
  have Fn_BadBook___init__ := fun_mk (st := s_BadBook___init__) l_BadBook___init__ c_BadBook___init__ k_BadBook___init__
  have Fn_BadBranch___init__ := fun_mk (st := s_BadBranch___init__) l_BadBranch___init__ c_BadBranch___init__ k_BadBranch___init__
  have Fn_BadKind___init__ := fun_mk (st := s_BadKind___init__) l_BadKind___init__ c_BadKind___init__ k_BadKind___init__
  have Fn_BadName___init__ := fun_mk (st := s_BadName___init__) l_BadName___init__ c_BadName___init__ k_BadName___init__
  have Fn_BadPart___init__ := fun_mk (st := s_BadPart___init__) l_BadPart___init__ c_BadPart___init__ k_BadPart___init__
  have Fn_BadState___init__ := fun_mk (st := s_BadState___init__) l_BadState___init__ c_BadState___init__ k_BadState___init__
  have Fn_BadText___init__ := fun_mk (st := s_BadText___init__) l_BadText___init__ c_BadText___init__ k_BadText___init__
  have Fn_Below___init__ := fun_mk (st := s_Below___init__) l_Below___init__ c_Below___init__ k_Below___init__
  have Fn_HasParts___init__ := fun_mk (st := s_HasParts___init__) l_HasParts___init__ c_HasParts___init__ k_HasParts___init__
  have Fn_LastPart___init__ := fun_mk (st := s_LastPart___init__) l_LastPart___init__ c_LastPart___init__ k_LastPart___init__
  have Fn_NoMark___init__ := fun_mk (st := s_NoMark___init__) l_NoMark___init__ c_NoMark___init__ k_NoMark___init__
  have Fn_NoParts___init__ := fun_mk (st := s_NoParts___init__) l_NoParts___init__ c_NoParts___init__ k_NoParts___init__
  have Fn_NoTask___init__ := fun_mk (st := s_NoTask___init__) l_NoTask___init__ c_NoTask___init__ k_NoTask___init__
  have Fn_Taken___init__ := fun_mk (st := s_Taken___init__) l_Taken___init__ c_Taken___init__ k_Taken___init__
  have Fn_TopTask___init__ := fun_mk (st := s_TopTask___init__) l_TopTask___init__ c_TopTask___init__ k_TopTask___init__
  have Fn_UnknownKind___init__ := fun_mk (st := s_UnknownKind___init__) l_UnknownKind___init__ c_UnknownKind___init__ k_UnknownKind___init__
  have Fn__law_made := fun_mk (st := s__law_made) l__law_made c__law_made k__law_made
  have Fn__law_pick := fun_mk (st := s__law_pick) l__law_pick c__law_pick k__law_pick
  have Fn__law_source := fun_mk (st := s__law_source) l__law_source c__law_source k__law_source
  have Fn_law := fun_mk (st := s_law) l_law c_law k_law
  refine ⟨PySem.W.fnOf "law" "law" (defArgs s_law) (defBody s_law) (defScope s_law) .none kV_law dc_law pm_law an_law cd_law ct_law, fun s v => .of_eq rfl, fun base _ _ => ?_⟩
  have D__law_draw : DefOk l.prog w K mg base 2 1 "_law_draw" F__law_draw := ⟨⟨f__law_draw, _, _, rfl, fn__law_draw hw Fn__law_draw T , PySem.W.mg_of X G a__law_draw, k__law_draw, bd__law_draw Fn__law_draw⟩⟩
  have D__law_kinds : DefOk l.prog w K mg base 1 1 "_law_kinds" F__law_kinds := ⟨⟨f__law_kinds, _, _, rfl, fn__law_kinds hw Fn__law_kinds T , PySem.W.mg_of X G a__law_kinds, k__law_kinds, bd__law_kinds Fn__law_kinds⟩⟩
  have D_BadBook___init__ : XvOk l.prog w K mg base 1 "BadBook" "place" := ⟨⟨C_BadBook, f_BadBook___init__, _, _, cat_BadBook, PySem.W.mg_of X G aC_BadBook, ox_BadBook, no_BadBook, a_BadBook___init__, tf_BadBook, fn_BadBook___init__ Fn_BadBook___init__, bd_BadBook___init__ Fn_BadBook___init__, kw_BadBook___init__ Fn_BadBook___init__, ⟨ga_BadBook, gg_BadBook, ex_BadBook, hd_BadBook⟩⟩⟩
  have D_BadBranch___init__ : XvOk l.prog w K mg base 1 "BadBranch" "path" := ⟨⟨C_BadBranch, f_BadBranch___init__, _, _, cat_BadBranch, PySem.W.mg_of X G aC_BadBranch, ox_BadBranch, no_BadBranch, a_BadBranch___init__, tf_BadBranch, fn_BadBranch___init__ Fn_BadBranch___init__, bd_BadBranch___init__ Fn_BadBranch___init__, kw_BadBranch___init__ Fn_BadBranch___init__, ⟨ga_BadBranch, gg_BadBranch, ex_BadBranch, hd_BadBranch⟩⟩⟩
  have D_BadKind___init__ : XvOk l.prog w K mg base 1 "BadKind" "place" := ⟨⟨C_BadKind, f_BadKind___init__, _, _, cat_BadKind, PySem.W.mg_of X G aC_BadKind, ox_BadKind, no_BadKind, a_BadKind___init__, tf_BadKind, fn_BadKind___init__ Fn_BadKind___init__, bd_BadKind___init__ Fn_BadKind___init__, kw_BadKind___init__ Fn_BadKind___init__, ⟨ga_BadKind, gg_BadKind, ex_BadKind, hd_BadKind⟩⟩⟩
  have D_BadName___init__ : XvOk l.prog w K mg base 1 "BadName" "name" := ⟨⟨C_BadName, f_BadName___init__, _, _, cat_BadName, PySem.W.mg_of X G aC_BadName, ox_BadName, no_BadName, a_BadName___init__, tf_BadName, fn_BadName___init__ Fn_BadName___init__, bd_BadName___init__ Fn_BadName___init__, kw_BadName___init__ Fn_BadName___init__, ⟨ga_BadName, gg_BadName, ex_BadName, hd_BadName⟩⟩⟩
  have D_BadPart___init__ : XvOk l.prog w K mg base 1 "BadPart" "kind" := ⟨⟨C_BadPart, f_BadPart___init__, _, _, cat_BadPart, PySem.W.mg_of X G aC_BadPart, ox_BadPart, no_BadPart, a_BadPart___init__, tf_BadPart, fn_BadPart___init__ Fn_BadPart___init__, bd_BadPart___init__ Fn_BadPart___init__, kw_BadPart___init__ Fn_BadPart___init__, ⟨ga_BadPart, gg_BadPart, ex_BadPart, hd_BadPart⟩⟩⟩
  have D_BadState___init__ : XvOk l.prog w K mg base 1 "BadState" "state" := ⟨⟨C_BadState, f_BadState___init__, _, _, cat_BadState, PySem.W.mg_of X G aC_BadState, ox_BadState, no_BadState, a_BadState___init__, tf_BadState, fn_BadState___init__ Fn_BadState___init__, bd_BadState___init__ Fn_BadState___init__, kw_BadState___init__ Fn_BadState___init__, ⟨ga_BadState, gg_BadState, ex_BadState, hd_BadState⟩⟩⟩
  have D_BadText___init__ : XvOk l.prog w K mg base 1 "BadText" "line" := ⟨⟨C_BadText, f_BadText___init__, _, _, cat_BadText, PySem.W.mg_of X G aC_BadText, ox_BadText, no_BadText, a_BadText___init__, tf_BadText, fn_BadText___init__ Fn_BadText___init__, bd_BadText___init__ Fn_BadText___init__, kw_BadText___init__ Fn_BadText___init__, ⟨ga_BadText, gg_BadText, ex_BadText, hd_BadText⟩⟩⟩
  have D_Below___init__ : XvOk l.prog w K mg base 1 "Below" "name" := ⟨⟨C_Below, f_Below___init__, _, _, cat_Below, PySem.W.mg_of X G aC_Below, ox_Below, no_Below, a_Below___init__, tf_Below, fn_Below___init__ Fn_Below___init__, bd_Below___init__ Fn_Below___init__, kw_Below___init__ Fn_Below___init__, ⟨ga_Below, gg_Below, ex_Below, hd_Below⟩⟩⟩
  have D_HasParts___init__ : XvOk l.prog w K mg base 1 "HasParts" "name" := ⟨⟨C_HasParts, f_HasParts___init__, _, _, cat_HasParts, PySem.W.mg_of X G aC_HasParts, ox_HasParts, no_HasParts, a_HasParts___init__, tf_HasParts, fn_HasParts___init__ Fn_HasParts___init__, bd_HasParts___init__ Fn_HasParts___init__, kw_HasParts___init__ Fn_HasParts___init__, ⟨ga_HasParts, gg_HasParts, ex_HasParts, hd_HasParts⟩⟩⟩
  have D_LastPart___init__ : XvOk l.prog w K mg base 1 "LastPart" "name" := ⟨⟨C_LastPart, f_LastPart___init__, _, _, cat_LastPart, PySem.W.mg_of X G aC_LastPart, ox_LastPart, no_LastPart, a_LastPart___init__, tf_LastPart, fn_LastPart___init__ Fn_LastPart___init__, bd_LastPart___init__ Fn_LastPart___init__, kw_LastPart___init__ Fn_LastPart___init__, ⟨ga_LastPart, gg_LastPart, ex_LastPart, hd_LastPart⟩⟩⟩
  have D_NoMark___init__ : XvOk l.prog w K mg base 1 "NoMark" "name" := ⟨⟨C_NoMark, f_NoMark___init__, _, _, cat_NoMark, PySem.W.mg_of X G aC_NoMark, ox_NoMark, no_NoMark, a_NoMark___init__, tf_NoMark, fn_NoMark___init__ Fn_NoMark___init__, bd_NoMark___init__ Fn_NoMark___init__, kw_NoMark___init__ Fn_NoMark___init__, ⟨ga_NoMark, gg_NoMark, ex_NoMark, hd_NoMark⟩⟩⟩
  have D_NoParts___init__ : XvOk l.prog w K mg base 1 "NoParts" "name" := ⟨⟨C_NoParts, f_NoParts___init__, _, _, cat_NoParts, PySem.W.mg_of X G aC_NoParts, ox_NoParts, no_NoParts, a_NoParts___init__, tf_NoParts, fn_NoParts___init__ Fn_NoParts___init__, bd_NoParts___init__ Fn_NoParts___init__, kw_NoParts___init__ Fn_NoParts___init__, ⟨ga_NoParts, gg_NoParts, ex_NoParts, hd_NoParts⟩⟩⟩
  have D_NoTask___init__ : XvOk l.prog w K mg base 1 "NoTask" "name" := ⟨⟨C_NoTask, f_NoTask___init__, _, _, cat_NoTask, PySem.W.mg_of X G aC_NoTask, ox_NoTask, no_NoTask, a_NoTask___init__, tf_NoTask, fn_NoTask___init__ Fn_NoTask___init__, bd_NoTask___init__ Fn_NoTask___init__, kw_NoTask___init__ Fn_NoTask___init__, ⟨ga_NoTask, gg_NoTask, ex_NoTask, hd_NoTask⟩⟩⟩
  have D_Taken___init__ : XvOk l.prog w K mg base 1 "Taken" "name" := ⟨⟨C_Taken, f_Taken___init__, _, _, cat_Taken, PySem.W.mg_of X G aC_Taken, ox_Taken, no_Taken, a_Taken___init__, tf_Taken, fn_Taken___init__ Fn_Taken___init__, bd_Taken___init__ Fn_Taken___init__, kw_Taken___init__ Fn_Taken___init__, ⟨ga_Taken, gg_Taken, ex_Taken, hd_Taken⟩⟩⟩
  have D_TopTask___init__ : XvOk l.prog w K mg base 1 "TopTask" "name" := ⟨⟨C_TopTask, f_TopTask___init__, _, _, cat_TopTask, PySem.W.mg_of X G aC_TopTask, ox_TopTask, no_TopTask, a_TopTask___init__, tf_TopTask, fn_TopTask___init__ Fn_TopTask___init__, bd_TopTask___init__ Fn_TopTask___init__, kw_TopTask___init__ Fn_TopTask___init__, ⟨ga_TopTask, gg_TopTask, ex_TopTask, hd_TopTask⟩⟩⟩
  have D_UnknownKind___init__ : XvOk l.prog w K mg base 1 "UnknownKind" "kind" := ⟨⟨C_UnknownKind, f_UnknownKind___init__, _, _, cat_UnknownKind, PySem.W.mg_of X G aC_UnknownKind, ox_UnknownKind, no_UnknownKind, a_UnknownKind___init__, tf_UnknownKind, fn_UnknownKind___init__ Fn_UnknownKind___init__, bd_UnknownKind___init__ Fn_UnknownKind___init__, kw_UnknownKind___init__ Fn_UnknownKind___init__, ⟨ga_UnknownKind, gg_UnknownKind, ex_UnknownKind, hd_UnknownKind⟩⟩⟩
  have D__law_made : DefOk l.prog w K mg base 1 3 "_law_made" F__law_made := ⟨⟨f__law_made, _, _, rfl, fn__law_made hw Fn__law_made T D_BadBook___init__ D_BadBranch___init__ D_BadKind___init__ D_BadName___init__ D_BadPart___init__ D_BadState___init__ D_BadText___init__ D_Below___init__ D_HasParts___init__ D_LastPart___init__ D_NoMark___init__ D_NoParts___init__ D_NoTask___init__ D_Taken___init__ D_TopTask___init__ D_UnknownKind___init__, PySem.W.mg_of X G a__law_made, k__law_made, bd__law_made Fn__law_made⟩⟩
  have D__law_pick : DefOk l.prog w K mg base 2 2 "_law_pick" F__law_pick := ⟨⟨f__law_pick, _, _, rfl, fn__law_pick hw Fn__law_pick T D__law_draw, PySem.W.mg_of X G a__law_pick, k__law_pick, bd__law_pick Fn__law_pick⟩⟩
  have D__law_source : DefOk l.prog w K mg base 1 1 "_law_source" F__law_source := ⟨⟨f__law_source, _, _, rfl, fn__law_source hw Fn__law_source T , PySem.W.mg_of X G a__law_source, k__law_source, bd__law_source Fn__law_source⟩⟩
  exact (fn_law hw Fn_law T D__law_draw D__law_kinds D__law_made D__law_pick D__law_source).imp (law_imp rfl law_true)
theorem walk {l : PySem.W.OpenLaw} {q : Program} {loose : List Str} {XP : (Str → Option Value) → Heap → Prop} {YP : World → Heap → Prop} {d : DefRec} {K : Params → PySem.W.Frag} (hn : l.most = some 63) (hdf : d.params.defaults = []) (hY : ∀ (w : World) (h : Heap), YP w h → (K w.params).In h)
    (F : ∀ (w : World) (mg : Str → Option Value) (fa : Addr) (h : Heap), (K w.params).In h → h.Ns mainGlobals mg → mg d.name = some (.ref fa) → ∃ fd : FuncData, (∀ (s : Shared) (u : Value), BindsTo s fd ⟨[u], []⟩ [("_law_script", u)]) ∧ ∀ base : Heap, (K w.params).In base → base.Ns mainGlobals mg → FnOk l.prog w (K w.params) mg base (L2.CX l.prog w) 4 fa fd ["_law_script"] (spLaw (K w.params))) :
    PySem.W.WalkO q loose XP YP l.row.toRowW d [] (fun f vs => PySem.call f vs) :=
  L2.walk_of (n := 63) (k := 4) (x := "_law_script") (CX := fun w => L2.CX l.prog w) (sp := fun w => spLaw (K w.params)) hn (by decide) hdf ⟨rfl, by decide, by decide⟩ hY F (fun _ _ a ns hl _ hS => ⟨a, ns, rfl, hS, hl, fun _ => rfl⟩) fun _ _ _ _ _ z => by
    obtain ⟨_, _, _, _, _, _, _, _, _, _, _, _, z⟩ := z
    exact z
end G

namespace M
open PySem L2 Ev G
/-- the draws' cell at s: the great number, the seed, how often was drawn (at most c times) -/
def Src (m : Mem) (s : Nat) (c : Nat) : Prop := ∃ g sd k : Int, m[s]? = some (some (.lst [.int g, .int sd, .int k])) ∧ 0 ≤ sd ∧ sd < 2147483647 ∧ 0 ≤ k ∧ k ≤ c
/-- all but the cell s is as it was -/
structure Fr (s : Nat) (m m' : Mem) : Prop where
  len : m.length ≤ m'.length
  get : ∀ i, i < m.length → i ≠ s → m'[i]? = m[i]?
theorem Fr.refl {s : Nat} {m : Mem} : Fr s m m := ⟨Nat.le_refl _, fun _ _ _ => rfl⟩
theorem Fr.trans {s : Nat} {m m1 m2 : Mem} (a : Fr s m m1) (b : Fr s m1 m2) : Fr s m m2 :=
  ⟨Nat.le_trans a.len b.len, fun i h n => (b.get i (Nat.lt_of_lt_of_le h a.len) n).trans (a.get i h n)⟩
theorem Fr.cell {s j : Nat} {m m' : Mem} {o : MO} (f : Fr s m m') (h : m[j]? = some (some o)) (n : j ≠ s) : m'[j]? = some (some o) := by
  rw [f.get j (List.getElem?_eq_some_iff.mp h).1 n]; exact h
theorem Src.mono {m : Mem} {s c d : Nat} (h : Src m s c) (hd : c ≤ d) : Src m s d := by
  obtain ⟨g, sd, k, a, b, e, f, i⟩ := h
  exact ⟨g, sd, k, a, b, e, f, by omega⟩
theorem Src.app {m : Mem} {s c : Nat} (h : Src m s c) (t : Mem) : Src (m ++ t) s c := by
  obtain ⟨g, sd, k, a, b⟩ := h
  exact ⟨g, sd, k, by rw [List.getElem?_append_left (List.getElem?_eq_some_iff.mp a).1]; exact a, b⟩
theorem Src.set {m : Mem} {s c j : Nat} (h : Src m s c) (n : j ≠ s) (o : Option MO) : Src (m.set j o) s c := by
  obtain ⟨g, sd, k, a, b⟩ := h
  exact ⟨g, sd, k, by rw [List.getElem?_set_ne n]; exact a, b⟩
theorem Src.lt {m : Mem} {s c : Nat} (h : Src m s c) : s < m.length := by
  obtain ⟨g, sd, k, a, b⟩ := h
  exact (List.getElem?_eq_some_iff.mp a).1
theorem Fr.app {s : Nat} {m : Mem} (t : Mem) : Fr s m (m ++ t) := ⟨by simp, fun i h _ => List.getElem?_append_left h⟩
theorem at0 {α : Type} {a : α} {ts : List α} : atI (a :: ts) 0 = some a := by
  unfold atI ixN
  rw [if_pos (by decide), if_pos (by simp only [List.length_cons]; omega)]; rfl
theorem at1 {α : Type} {a b : α} {ts : List α} : atI (a :: b :: ts) 1 = some b := by
  unfold atI ixN
  rw [if_pos (by decide), if_pos (by simp only [List.length_cons]; omega)]; rfl
theorem at2 {α : Type} {a b c : α} {ts : List α} : atI (a :: b :: c :: ts) 2 = some c := by
  unfold atI ixN
  rw [if_pos (by decide), if_pos (by simp only [List.length_cons]; omega)]; rfl
theorem at3 {α : Type} {a b c d : α} {ts : List α} : atI (a :: b :: c :: d :: ts) 3 = some d := by
  unfold atI ixN
  rw [if_pos (by decide), if_pos (by simp only [List.length_cons]; omega)]; rfl
theorem ix30 : ixN 3 0 = some 0 := by decide
theorem ix31 : ixN 3 1 = some 1 := by decide
theorem ix32 : ixN 3 2 = some 2 := by decide
theorem atN {α : Type} {ts : List α} {k : Nat} {t : α} (h : ts[k]? = some t) : atI ts (k : Int) = some t := by
  have hl := (List.getElem?_eq_some_iff.mp h).1
  unfold atI ixN
  rw [if_pos (by omega), if_pos (by omega)]
  simp [h]
theorem atB {α : Type} {ts : List α} {i : Int} (h0 : 0 ≤ i) (h1 : i < ts.length) : ∃ t, atI ts i = some t ∧ ts[i.toNat]? = some t ∧ t ∈ ts := by
  have hl : i.toNat < ts.length := by omega
  refine ⟨ts[i.toNat], ?_, List.getElem?_eq_getElem hl, List.getElem_mem hl⟩
  have := atN (ts := ts) (List.getElem?_eq_getElem hl)
  rwa [Int.toNat_of_nonneg h0] at this
theorem small_of {k : Nat} {i : Int} (h0 : 0 ≤ i) (h1 : i < 2 ^ k) : small k i = true := by
  unfold small
  simp only [Bool.and_eq_true, decide_eq_true_eq]
  have : (0 : Int) < 2 ^ k := by omega
  omega
theorem draw_spec {m : Mem} {s c : Nat} {many : Int} (h : Src m s c) (hc : c < 900000) (h0 : 0 < many) (h1 : many < 1073741824) : ∃ d m', F__law_draw [.loc s, .int many] m = .ok (.int d) m' ∧ 0 ≤ d ∧ d < many ∧ Src m' s (c + 1) ∧ Fr s m m' ∧ m'.length = m.length := by
  obtain ⟨g, sd, k, hm, s0, s1, k0, kc⟩ := h
  have hl := (List.getElem?_eq_some_iff.mp hm).1
  unfold F__law_draw B__law_draw
  simp only [fnOf, sSeq, sOf, sIf, sAsg, sNil, sNo, sSetIx, sFor, sPar, e2, e1, eVar, eC, eOfL, lNil, lCons, eCall, bV, bAnd, bOr, bNot, eAnd, eOr, eNot, eIf, eMeth, eComp, iVal, iRange, iRange2, eListRange, eSlice, oNone, oSome, eChain, gN, gT, gTL, gsCons, gsNil, frz, sFrz, bYes, Out.bind, gAdd, Ev.gSub, gMul, gMod, gDiv, gPow, gIx, gLt, gLe, gGt, gGe, gOrd, gEq, gNe, gEqB, gIsN, gInt, gIntA, gTupleA, gExtendA, gListA, gLen, gTuple, gList, gTupL, gLstL, gAllAny, gAppend, gExtend, gPop, gPopAt, gJoin, gSetL, gSlice, gSorted, gIsi, mk, asL, asO, asT, asSeq, cellL, isTy, items, gEn, iEnumA, eIsiT, tyOf, wipeE, eNeg, List.map_cons, List.map_nil, List.cons_append, List.nil_append, List.append_nil, List.length_cons, List.length_nil, List.replicate_succ, List.replicate_zero, List.getElem?_cons_zero, List.getElem?_cons_succ, List.set_cons_zero, List.set_cons_succ, Option.bind_some, if_true, if_false, Bool.false_eq_true, Bool.not_true, Bool.not_false, reduceIte, Nat.reduceSub, Nat.reduceAdd, Nat.reduceEqDiff, Int.reduceSub, Int.reduceAdd, Int.reduceMul, Int.reduceLE, Int.reduceLT, Int.reduceNeg, Nat.reduceLeDiff, Nat.reduceLT, reduceCtorEq, decide_true, decide_false, beq_self_eq_true, String.reduceBEq, and_self, true_and, and_true, at0, at1, at2, at3, ix30, ix31, ix32, hm, List.getElem?_set_self hl]
  by_cases hg : 1 < g
  · simp only [fnOf, sSeq, sOf, sIf, sAsg, sNil, sNo, sSetIx, sFor, sPar, e2, e1, eVar, eC, eOfL, lNil, lCons, eCall, bV, bAnd, bOr, bNot, eAnd, eOr, eNot, eIf, eMeth, eComp, iVal, iRange, iRange2, eListRange, eSlice, oNone, oSome, eChain, gN, gT, gTL, gsCons, gsNil, frz, sFrz, bYes, Out.bind, gAdd, Ev.gSub, gMul, gMod, gDiv, gPow, gIx, gLt, gLe, gGt, gGe, gOrd, gEq, gNe, gEqB, gIsN, gInt, gIntA, gTupleA, gExtendA, gListA, gLen, gTuple, gList, gTupL, gLstL, gAllAny, gAppend, gExtend, gPop, gPopAt, gJoin, gSetL, gSlice, gSorted, gIsi, mk, asL, asO, asT, asSeq, cellL, isTy, items, gEn, iEnumA, eIsiT, tyOf, wipeE, eNeg, List.map_cons, List.map_nil, List.cons_append, List.nil_append, List.append_nil, List.length_cons, List.length_nil, List.replicate_succ, List.replicate_zero, List.getElem?_cons_zero, List.getElem?_cons_succ, List.set_cons_zero, List.set_cons_succ, Option.bind_some, if_true, if_false, Bool.false_eq_true, Bool.not_true, Bool.not_false, reduceIte, Nat.reduceSub, Nat.reduceAdd, Nat.reduceEqDiff, Int.reduceSub, Int.reduceAdd, Int.reduceMul, Int.reduceLE, Int.reduceLT, Int.reduceNeg, Nat.reduceLeDiff, Nat.reduceLT, reduceCtorEq, decide_true, decide_false, beq_self_eq_true, String.reduceBEq, and_self, true_and, and_true, at0, at1, at2, at3, ix30, ix31, ix32, hg, h0, h1, List.getElem?_set_self hl, List.set_set, List.length_set]
    refine ⟨g % many, _, rfl, Int.emod_nonneg _ (by omega), Int.emod_lt_of_pos _ h0, ⟨g / many, sd, k + 1, by simp [hl], s0, s1, by omega, by omega⟩, ⟨by simp, fun i _ n => by rw [List.getElem?_set_ne (by omega)]⟩, by simp⟩
  · have b1 : (small 64 7919 || small 64 (k + 1)) = true := by rw [show small 64 7919 = true by decide]; rfl
    have b2 : (small 64 16807 || small 64 (k + 1)) = true := by rw [show small 64 16807 = true by decide]; rfl
    have b4 : (small 64 (16807 * (k + 1)) || small 64 (k + 1)) = true := by rw [small_of (i := k + 1) (by omega) (by omega)]; simp
    have p1 : ((0 : Int) ≤ 5 ∧ (5 : Int) ≤ 100 ∧ (sd + 7919 * (k + 1)).natAbs < 2 ^ 64) := ⟨by decide, by decide, by omega⟩
    simp only [fnOf, sSeq, sOf, sIf, sAsg, sNil, sNo, sSetIx, sFor, sPar, e2, e1, eVar, eC, eOfL, lNil, lCons, eCall, bV, bAnd, bOr, bNot, eAnd, eOr, eNot, eIf, eMeth, eComp, iVal, iRange, iRange2, eListRange, eSlice, oNone, oSome, eChain, gN, gT, gTL, gsCons, gsNil, frz, sFrz, bYes, Out.bind, gAdd, Ev.gSub, gMul, gMod, gDiv, gPow, gIx, gLt, gLe, gGt, gGe, gOrd, gEq, gNe, gEqB, gIsN, gInt, gIntA, gTupleA, gExtendA, gListA, gLen, gTuple, gList, gTupL, gLstL, gAllAny, gAppend, gExtend, gPop, gPopAt, gJoin, gSetL, gSlice, gSorted, gIsi, mk, asL, asO, asT, asSeq, cellL, isTy, items, gEn, iEnumA, eIsiT, tyOf, wipeE, eNeg, List.map_cons, List.map_nil, List.cons_append, List.nil_append, List.append_nil, List.length_cons, List.length_nil, List.replicate_succ, List.replicate_zero, List.getElem?_cons_zero, List.getElem?_cons_succ, List.set_cons_zero, List.set_cons_succ, Option.bind_some, if_true, if_false, Bool.false_eq_true, Bool.not_true, Bool.not_false, reduceIte, Nat.reduceSub, Nat.reduceAdd, Nat.reduceEqDiff, Int.reduceSub, Int.reduceAdd, Int.reduceMul, Int.reduceLE, Int.reduceLT, Int.reduceNeg, Nat.reduceLeDiff, Nat.reduceLT, reduceCtorEq, decide_true, decide_false, beq_self_eq_true, String.reduceBEq, and_self, true_and, and_true, at0, at1, at2, at3, ix30, ix31, ix32, hg, List.getElem?_set_self hl, b1, b2, b4, p1.2.2]
    generalize hf : (sd + 7919 * (k + 1)) ^ (5 : Int).toNat % 2147483629 = f
    have f0 : 0 ≤ f := by rw [← hf]; exact Int.emod_nonneg _ (by decide)
    have f1 : f < 2147483629 := by rw [← hf]; exact Int.emod_lt_of_pos _ (by decide)
    have b3 : (small 64 f || small 64 48271) = true := by rw [show small 64 48271 = true by decide]; simp
    have q : (k + 1) * (k + 1) ≤ 900000 * 900000 := Int.mul_le_mul (by omega) (by omega) (by omega) (by omega)
    have q0 : 0 ≤ (k + 1) * (k + 1) := Int.mul_nonneg (by omega) (by omega)
    have p2 : ((0 : Int) ≤ 3 ∧ (3 : Int) ≤ 100 ∧ (f * 48271 + 16807 * (k + 1) * (k + 1) + 11).natAbs < 2 ^ 64) := ⟨by decide, by decide, by rw [Int.mul_assoc]; omega⟩
    simp only [fnOf, sSeq, sOf, sIf, sAsg, sNil, sNo, sSetIx, sFor, sPar, e2, e1, eVar, eC, eOfL, lNil, lCons, eCall, bV, bAnd, bOr, bNot, eAnd, eOr, eNot, eIf, eMeth, eComp, iVal, iRange, iRange2, eListRange, eSlice, oNone, oSome, eChain, gN, gT, gTL, gsCons, gsNil, frz, sFrz, bYes, Out.bind, gAdd, Ev.gSub, gMul, gMod, gDiv, gPow, gIx, gLt, gLe, gGt, gGe, gOrd, gEq, gNe, gEqB, gIsN, gInt, gIntA, gTupleA, gExtendA, gListA, gLen, gTuple, gList, gTupL, gLstL, gAllAny, gAppend, gExtend, gPop, gPopAt, gJoin, gSetL, gSlice, gSorted, gIsi, mk, asL, asO, asT, asSeq, cellL, isTy, items, gEn, iEnumA, eIsiT, tyOf, wipeE, eNeg, List.map_cons, List.map_nil, List.cons_append, List.nil_append, List.append_nil, List.length_cons, List.length_nil, List.replicate_succ, List.replicate_zero, List.getElem?_cons_zero, List.getElem?_cons_succ, List.set_cons_zero, List.set_cons_succ, Option.bind_some, if_true, if_false, Bool.false_eq_true, Bool.not_true, Bool.not_false, reduceIte, Nat.reduceSub, Nat.reduceAdd, Nat.reduceEqDiff, Int.reduceSub, Int.reduceAdd, Int.reduceMul, Int.reduceLE, Int.reduceLT, Int.reduceNeg, Nat.reduceLeDiff, Nat.reduceLT, reduceCtorEq, decide_true, decide_false, beq_self_eq_true, String.reduceBEq, and_self, true_and, and_true, at0, at1, at2, at3, ix30, ix31, ix32, List.getElem?_set_self hl, b2, b4, b3, p2.2.2, h0]
    refine ⟨_, m.set s (some (.lst [.int g, .int sd, .int (k + 1)])), rfl, Int.emod_nonneg _ (by omega), Int.emod_lt_of_pos _ h0, ⟨g, sd, k + 1, by simp [hl], s0, s1, by omega, by omega⟩, ⟨by simp, fun i _ n => by rw [List.getElem?_set_ne (by omega)]⟩, by simp⟩
end M

namespace M
open PySem hiding Env
open L2 Ev G
/-! ### what a piece of code brings about -/
def Ok {α : Type} (o : Out α) (P : α → Mem → Prop) : Prop := ∃ a m, o = .ok a m ∧ P a m
def Nx (o : SOut) (P : Env → Mem → Prop) : Prop := ∃ e m, o = .nx e m ∧ P e m
def Rt (o : SOut) (P : T → Mem → Prop) : Prop := ∃ t m, o = .rt t m ∧ P t m
def Bl (t : T) (m : Mem) (PB : Bool → Mem → Prop) : Prop := ∃ x, t = .bl x ∧ PB x m
def It (t : T) (m : Mem) (PL : List T → Mem → Prop) : Prop := ∃ ts, items t = some ts ∧ PL ts m
def Rg (ts : List T) (m : Mem) (PL : List T → Mem → Prop) : Prop := ∃ n, ts = [.int n] ∧ -1000000 ≤ n ∧ n ≤ 1000000 ∧ PL (rng 0 n) m
def Calls (n : Nat) (F : FS) (xs : List T) (m : Mem) (P : T → Mem → Prop) : Prop := xs.length = n ∧ Ok (F xs m) P
def En (ts : List T) (m : Mem) (PL : List T → Mem → Prop) : Prop := ∃ us, (ts = [.lst us] ∨ ts = [.tup us]) ∧ PL (enumT 0 us) m
section
variable {env : Env} {m : Mem} {P : T → Mem → Prop} {PB : Bool → Mem → Prop} {PL : List T → Mem → Prop} {PE : Env → Mem → Prop} {fa fb fc : EF} {fs : LF} {f g : SF} {b c : BF}
theorem Ok.imp {α : Type} {o : Out α} {P Q : α → Mem → Prop} (h : Ok o P) (i : ∀ a m, P a m → Q a m) : Ok o Q := let ⟨a, m, e, p⟩ := h; ⟨a, m, e, i a m p⟩
theorem Nx.imp {o : SOut} {P Q : Env → Mem → Prop} (h : Nx o P) (i : ∀ a m, P a m → Q a m) : Nx o Q := let ⟨a, m, e, p⟩ := h; ⟨a, m, e, i a m p⟩
theorem Ok.of {α : Type} {o : Out α} {P : α → Mem → Prop} {a : α} {m : Mem} (e : o = .ok a m) (p : P a m) : Ok o P := ⟨a, m, e, p⟩
theorem Ok.bind {α β : Type} {o : Out α} {k : α → Mem → Out β} {P : β → Mem → Prop} (h : Ok o fun a m => Ok (k a m) P) : Ok (o.bind k) P := by
  obtain ⟨a, m, rfl, p⟩ := h
  exact p
theorem ok_fn {n : Nat} {ts : List T} (h : Rt (g (ts.map some ++ List.replicate (n - ts.length) none) m) P) : Ok (fnOf n g ts m) P := by
  obtain ⟨t, m', e, p⟩ := h
  exact ⟨t, m', by unfold fnOf; rw [e], p⟩
theorem ok_fnN {n : Nat} {ts : List T} (h : Nx (g (ts.map some ++ List.replicate (n - ts.length) none) m) fun _ m1 => P .non m1) : Ok (fnOf n g ts m) P := by
  obtain ⟨t, m', e, p⟩ := h
  exact ⟨_, m', by unfold fnOf; rw [e], p⟩
theorem nx_seq (h : Nx (f env m) fun e1 m1 => Nx (g e1 m1) PE) : Nx (sSeq f g env m) PE := by
  obtain ⟨t, m', e, p⟩ := h
  unfold sSeq; rw [e]; exact p
theorem rt_seq (h : Nx (f env m) fun e1 m1 => Rt (g e1 m1) P) : Rt (sSeq f g env m) P := by
  obtain ⟨t, m', e, p⟩ := h
  unfold sSeq; rw [e]; exact p
theorem rt_seq0 (h : Rt (f env m) P) : Rt (sSeq f g env m) P := by
  obtain ⟨t, m', e, p⟩ := h
  unfold sSeq; rw [e]; exact ⟨t, m', rfl, p⟩
theorem nx_nil (h : PE env m) : Nx (sNil env m) PE := ⟨_, _, rfl, h⟩
theorem nx_nx (h : PE env m) : Nx (.nx env m) PE := ⟨_, _, rfl, h⟩
theorem rt_rt {t : T} (h : P t m) : Rt (.rt t m) P := ⟨_, _, rfl, h⟩
theorem nx_of {k : T → Env → Mem → SOut} (h : Ok (fa env m) fun t m1 => Nx (k t env m1) PE) : Nx (sOf fa k env m) PE := by
  obtain ⟨t, m', e, p⟩ := h
  unfold sOf; rw [e]; exact p
theorem rt_of {k : T → Env → Mem → SOut} (h : Ok (fa env m) fun t m1 => Rt (k t env m1) P) : Rt (sOf fa k env m) P := by
  obtain ⟨t, m', e, p⟩ := h
  unfold sOf; rw [e]; exact p
theorem nx_if (h : Ok (b env m) fun x m1 => if x then Nx (f env m1) PE else Nx (g env m1) PE) : Nx (sIf b f g env m) PE := by
  obtain ⟨t, m', e, p⟩ := h
  unfold sIf; rw [e]
  cases t <;> exact p
theorem rt_if (h : Ok (b env m) fun x m1 => if x then Rt (f env m1) P else Rt (g env m1) P) : Rt (sIf b f g env m) P := by
  obtain ⟨t, m', e, p⟩ := h
  unfold sIf; rw [e]
  cases t <;> exact p
theorem nx_asg {gt : GF} (h : Ok (fa env m) fun t m1 => ∃ env1, gt t env = some env1 ∧ PE env1 m1) : Nx (sAsg fa gt env m) PE := by
  obtain ⟨t, m', e, env1, e1, p⟩ := h
  unfold sAsg sOf; rw [e]; exact ⟨env1, m', by simp only [e1], p⟩
theorem nx_par {i j : Nat} (h : Ok (fs env m) fun ts m1 => ∃ t u, ts = [t, u] ∧ PE ((env.set i (some t)).set j (some u)) m1) : Nx (sPar i j fs env m) PE := by
  obtain ⟨t, m', e, x, y, rfl, p⟩ := h
  unfold sPar; rw [e]; exact ⟨_, m', rfl, p⟩
theorem rt_frz {i : Nat} {env1 : Env} {m1 : Mem} (e : frz i env m = some (env1, m1)) (h : Rt (g env1 m1) P) : Rt (sFrz i g env m) P := by
  unfold sFrz; rw [e]; exact h
theorem nx_frz {i : Nat} {env1 : Env} {m1 : Mem} (e : frz i env m = some (env1, m1)) (h : Nx (g env1 m1) PE) : Nx (sFrz i g env m) PE := by
  unfold sFrz; rw [e]; exact h
theorem frz_of {i n : Nat} {ts : List T} (e : env[i]? = some (some (.loc n))) (h : m[n]? = some (some (.lst ts))) : frz i env m = some (env.set i (some (.lst ts)), m.set n none) := by
  unfold frz; simp only [e, h]
theorem ok_var {i : Nat} {t : T} (e : env[i]? = some (some t)) (h : P t m) : Ok (eVar i env m) P := ⟨t, m, by unfold eVar; rw [e], h⟩
theorem ok_c {t : T} (h : P t m) : Ok (eC t env m) P := ⟨t, m, rfl, h⟩
theorem ok_e2 {o : T → T → Mem → Out T} (h : Ok (fa env m) fun x m1 => Ok (fb env m1) fun y m2 => Ok (o x y m2) P) : Ok (e2 o fa fb env m) P := Ok.bind (h.imp fun _ _ h => Ok.bind h)
theorem ok_nil (h : PL [] m) : Ok (lNil env m) PL := ⟨_, _, rfl, h⟩
theorem ok_cons (h : Ok (fa env m) fun x m1 => Ok (fs env m1) fun xs m2 => PL (x :: xs) m2) : Ok (lCons fa fs env m) PL := Ok.bind (h.imp fun _ _ h => Ok.bind (h.imp fun _ _ h => ⟨_, _, rfl, h⟩))
theorem ok_ofL {o : List T → Mem → Out T} (h : Ok (fs env m) fun xs m1 => Ok (o xs m1) P) : Ok (eOfL o fs env m) P := Ok.bind h
theorem ok_call {n : Nat} {F : FS} (h : Ok (fs env m) fun xs m1 => Calls n F xs m1 P) : Ok (eCall n F fs env m) P :=
  Ok.bind (h.imp fun xs m1 ⟨e, h⟩ => by rw [if_pos e]; exact h)
theorem ok_meth {n : String} {o : T → List T → Mem → Out T} (h : Ok (fa env m) fun x m1 => isTy n m1 x = true ∧ Ok (fs env m1) fun xs m2 => Ok (o x xs m2) P) : Ok (eMeth n o fa fs env m) P :=
  Ok.bind (h.imp fun xs m1 ⟨e, h⟩ => by rw [if_pos e]; exact Ok.bind h)
theorem ok_bV (h : Ok (fa env m) fun t m1 => Bl t m1 PB) : Ok (bV fa env m) PB := Ok.bind (h.imp fun t m1 ⟨x, e, h⟩ => by subst e; exact ⟨x, m1, rfl, h⟩)
theorem ok_bNot (h : Ok (b env m) fun x m1 => PB (!x) m1) : Ok (bNot b env m) PB := Ok.bind (h.imp fun t m1 h => ⟨_, m1, rfl, h⟩)
theorem ok_bAnd (h : Ok (b env m) fun x m1 => if x then Ok (c env m1) PB else PB false m1) : Ok (bAnd b c env m) PB := Ok.bind (h.imp fun t m1 h => by
  cases t with
  | true => exact h
  | false => exact ⟨_, _, rfl, h⟩)
theorem ok_bOr (h : Ok (b env m) fun x m1 => if x then PB true m1 else Ok (c env m1) PB) : Ok (bOr b c env m) PB := Ok.bind (h.imp fun t m1 h => by
  cases t with
  | false => exact h
  | true => exact ⟨_, _, rfl, h⟩)
theorem ok_eAnd (h : Ok (fa env m) fun t m1 => Bl t m1 fun x m1 => if x then Ok (fb env m1) P else P (.bl false) m1) : Ok (eAnd fa fb env m) P := Ok.bind (h.imp fun t m1 ⟨x, e, h⟩ => by
  subst e
  cases x with
  | true => exact h
  | false => exact ⟨_, _, rfl, h⟩)
theorem ok_eOr (h : Ok (fa env m) fun t m1 => Bl t m1 fun x m1 => if x then P (.bl true) m1 else Ok (fb env m1) P) : Ok (eOr fa fb env m) P := Ok.bind (h.imp fun t m1 ⟨x, e, h⟩ => by
  subst e
  cases x with
  | false => exact h
  | true => exact ⟨_, _, rfl, h⟩)
theorem ok_eNot (h : Ok (fa env m) fun t m1 => Bl t m1 fun x m1 => P (.bl (!x)) m1) : Ok (eNot fa env m) P := Ok.bind (h.imp fun t m1 ⟨x, e, h⟩ => by subst e; exact ⟨_, _, rfl, h⟩)
theorem ok_eIf (h : Ok (b env m) fun x m1 => if x then Ok (fa env m1) P else Ok (fb env m1) P) : Ok (eIf b fa fb env m) P := Ok.bind (h.imp fun t m1 h => by
  cases t with
  | false => exact h
  | true => exact h)
theorem ok_iVal (h : Ok (fa env m) fun t m1 => It t m1 PL) : Ok (iVal fa env m) PL := Ok.bind (h.imp fun t m1 ⟨ts, e, h⟩ => ⟨ts, m1, by simp only [e], h⟩)
theorem ok_range (h : Ok (fs env m) fun ts m1 => Rg ts m1 PL) : Ok (iRange fs env m) PL := Ok.bind (h.imp fun ts m1 ⟨n, e, h0, h1, h⟩ => by
  subst e
  exact ⟨_, m1, by simp only [h0, h1, and_self, if_true], h⟩)
theorem ok_range2 (h : Ok (fs env m) fun ts m1 => ∃ a b, ts = [.int a, .int b] ∧ (-1000000 ≤ a ∧ a ≤ 1000000 ∧ -1000000 ≤ b ∧ b ≤ 1000000) ∧ PL (rng a b) m1) : Ok (iRange2 fs env m) PL := Ok.bind (h.imp fun ts m1 ⟨a, b, e, h0, h⟩ => by
  subst e
  exact ⟨_, m1, by simp only [h0, and_self, if_true], h⟩)
theorem ok_listRange {mu : Bool} (h : Ok (fa env m) fun t m1 => ∃ n, t = .int n ∧ -1000000 ≤ n ∧ n ≤ 1000000 ∧ Ok (mk mu (rng 0 n) m1) P) : Ok (eListRange mu fa env m) P := Ok.bind (h.imp fun t m1 ⟨n, e, h0, h1, h⟩ => by
  subst e
  show Ok (if -1000000 ≤ n ∧ n ≤ 1000000 then mk mu (rng 0 n) m1 else Out.no) P
  rw [if_pos ⟨h0, h1⟩]; exact h)
theorem ok_enum (h : Ok (fs env m) fun ts m1 => En ts m1 PL) : Ok (iEnumA fs env m) PL := Ok.bind (h.imp fun ts m1 ⟨us, e, h⟩ => by
  rcases e with e | e <;> subst e <;> exact ⟨_, _, rfl, h⟩)
theorem bl_mk {x : Bool} (h : PB x m) : Bl (.bl x) m PB := ⟨x, rfl, h⟩
theorem it_lst {ts : List T} (h : PL ts m) : It (.lst ts) m PL := ⟨ts, rfl, h⟩
theorem it_tup {ts : List T} (h : PL ts m) : It (.tup ts) m PL := ⟨ts, rfl, h⟩
theorem it_rls {ts : List T} (h : PL ts m) : It (.rls ts) m PL := ⟨ts, rfl, h⟩
theorem rg_mk {n : Int} (h0 : -1000000 ≤ n) (h1 : n ≤ 1000000) (h : PL (rng 0 n) m) : Rg [.int n] m PL := ⟨n, rfl, h0, h1, h⟩
theorem en_lst {ts : List T} (h : PL (enumT 0 ts) m) : En [.lst ts] m PL := ⟨ts, .inl rfl, h⟩
theorem en_tup {ts : List T} (h : PL (enumT 0 ts) m) : En [.tup ts] m PL := ⟨ts, .inr rfl, h⟩
theorem ok_calls {n : Nat} {F : FS} {xs : List T} (e : xs.length = n) (h : Ok (F xs m) P) : Calls n F xs m P := ⟨e, h⟩
theorem rt_seqIf {k : SF} (h : Ok (b env m) fun x m1 => if x then Rt (sSeq f k env m1) P else Rt (sSeq g k env m1) P) : Rt (sSeq (sIf b f g) k env m) P := by
  obtain ⟨t, m', e, p⟩ := h
  unfold sSeq sIf; rw [e]
  cases t <;> exact p
theorem rt_seqNil {k : SF} (h : Rt (k env m) P) : Rt (sSeq sNil k env m) P := h
theorem rt_seqOf {k : T → Env → Mem → SOut} (h : Ok (fa env m) fun t m1 => Nx (k t env m1) fun e1 m2 => Rt (g e1 m2) P) : Rt (sSeq (sOf fa k) g env m) P := rt_seq (nx_of h)
theorem nx_seqOf {k : T → Env → Mem → SOut} (h : Ok (fa env m) fun t m1 => Nx (k t env m1) fun e1 m2 => Nx (g e1 m2) PE) : Nx (sSeq (sOf fa k) g env m) PE := nx_seq (nx_of h)
theorem ok_bYes (h : PB true m) : Ok (bYes env m) PB := ⟨_, _, rfl, h⟩
theorem ok_mkL {ts : List T} (h : P (.lst ts) m) : Ok (mk false ts m) P := ⟨_, _, rfl, h⟩
theorem ok_mkC {ts : List T} (h : P (.loc m.length) (m ++ [some (.lst ts)])) : Ok (mk true ts m) P := ⟨_, _, rfl, h⟩
theorem ok_ok {α : Type} {Q : α → Mem → Prop} {t : α} (h : Q t m) : Ok (.ok t m) Q := ⟨_, _, rfl, h⟩
/-! operations -/
theorem ok_addI {mu : Bool} {i j : Int} (h : P (.int (i + j)) m) : Ok (gAdd mu (.int i) (.int j) m) P := ⟨_, _, rfl, h⟩
theorem ok_addL {xs ys : List T} (hl : xs.length + ys.length ≤ lim) (h : P (.lst (xs ++ ys)) m) : Ok (gAdd false (.lst xs) (.lst ys) m) P := ⟨_, _, by unfold gAdd; simp only [asO, if_pos hl]; try rfl, h⟩
theorem ok_addS {mu : Bool} {i j : Str} (hl : i.length + j.length ≤ lim) (h : P (.str (i ++ j)) m) : Ok (gAdd mu (.str i) (.str j) m) P := ⟨_, _, by unfold gAdd; simp only [if_pos hl]; try rfl, h⟩
theorem ok_gtI {i j : Int} (h : P (.bl (decide (j < i))) m) : Ok (gGt (.int i) (.int j) m) P := ⟨_, _, rfl, h⟩
theorem ok_geI {i j : Int} (h : P (.bl (decide (j ≤ i))) m) : Ok (gGe (.int i) (.int j) m) P := ⟨_, _, rfl, h⟩
theorem ok_ltI {i j : Int} (h : P (.bl (decide (i < j))) m) : Ok (gLt (.int i) (.int j) m) P := ⟨_, _, rfl, h⟩
theorem ok_leI {i j : Int} (h : P (.bl (decide (i ≤ j))) m) : Ok (gLe (.int i) (.int j) m) P := ⟨_, _, rfl, h⟩
theorem ok_leS {i j : Str} (h : P (.bl (!decide (j.cps.toList < i.cps.toList))) m) : Ok (gLe (.str i) (.str j) m) P := ⟨_, _, rfl, h⟩
theorem ok_eqI {i j : Int} (h : P (.bl (decide (i = j))) m) : Ok (gEq (.int i) (.int j) m) P := ⟨_, _, rfl, h⟩
theorem ok_neI {i j : Int} (h : P (.bl (!decide (i = j))) m) : Ok (gNe (.int i) (.int j) m) P := ⟨_, _, rfl, h⟩
theorem ok_eqS {i j : Str} (h : P (.bl (decide (i = j))) m) : Ok (gEq (.str i) (.str j) m) P := ⟨.bl (eqS i j), _, rfl, by rw [← eqS_dec]; exact h⟩
theorem ok_neS {i j : Str} (h : P (.bl (!decide (i = j))) m) : Ok (gNe (.str i) (.str j) m) P := ⟨.bl (!eqS i j), _, rfl, by rw [← eqS_dec]; exact h⟩
theorem ok_modI {i j : Int} (h0 : 0 < j) (h : P (.int (i % j)) m) : Ok (gMod (.int i) (.int j) m) P := ⟨_, _, by unfold gMod; simp only [if_pos h0]; try rfl, h⟩
theorem ok_mulI {mu : Bool} {i j : Int} (hs : (small 64 i || small 64 j) = true) (h : P (.int (i * j)) m) : Ok (gMul mu (.int i) (.int j) m) P := ⟨_, _, by unfold gMul; simp only [if_pos hs]; try rfl, h⟩
theorem ok_mulL {xs : List T} {j : Int} (hs : (small 62 j && decide (xs.length * j.toNat ≤ lim)) = true) (h : P (.lst (List.replicate j.toNat xs).flatten) m) : Ok (gMul false (.lst xs) (.int j) m) P := ⟨_, _, by unfold gMul; simp only [asO, if_pos hs]; try rfl, h⟩
theorem ok_int {i : Int} (h : P (.int i) m) : Ok (gIntA [.int i] m) P := ⟨_, _, rfl, h⟩
theorem ok_lenL {ts : List T} (h : P (.int ts.length) m) : Ok (gLen [.lst ts] m) P := ⟨_, _, rfl, h⟩
theorem ok_lenT {ts : List T} (h : P (.int ts.length) m) : Ok (gLen [.tup ts] m) P := ⟨_, _, rfl, h⟩
theorem ok_lenC {n : Nat} {ts : List T} (e : m[n]? = some (some (.lst ts))) (h : P (.int ts.length) m) : Ok (gLen [.loc n] m) P := ⟨_, _, by unfold gLen; simp only [asSeq, asT, asL, e]; try rfl, h⟩
theorem ok_lenS {x : Str} (hl : x.length ≤ lim) (h : P (.int x.length) m) : Ok (gLen [.str x] m) P := ⟨_, _, by unfold gLen; simp only [if_pos hl]; try rfl, h⟩
theorem ok_tupOfL {ts : List T} (h : P (.tup ts) m) : Ok (gTupleA [.lst ts] m) P := ⟨_, _, rfl, h⟩
theorem ok_tupOfT {ts : List T} (h : P (.tup ts) m) : Ok (gTupleA [.tup ts] m) P := ⟨_, _, rfl, h⟩
theorem ok_bT {b : Bool} (h : PB b m) : ∀ {f : EF}, Ok (f env m) (fun t m1 => t = .bl b ∧ m1 = m) → Ok (bV f env m) PB := fun ⟨_, _, e, e1, e2⟩ => ⟨b, m, by unfold bV; rw [e, e1, e2]; rfl, h⟩
theorem ok_tupL {ts : List T} (hl : ts.length ≤ lim) (h : P (.tup ts) m) : Ok (gTupL ts m) P := ⟨_, _, by unfold gTupL; simp only [if_pos hl]; try rfl, h⟩
theorem ok_lstL {ts : List T} (hl : ts.length ≤ lim) (h : P (.lst ts) m) : Ok (gLstL false ts m) P := ⟨_, _, by unfold gLstL; simp only [if_pos hl]; try rfl, h⟩
theorem ok_lstC {ts : List T} (hl : ts.length ≤ lim) (h : P (.loc m.length) (m ++ [some (.lst ts)])) : Ok (gLstL true ts m) P := ⟨_, _, by unfold gLstL; simp only [if_pos hl]; try rfl, h⟩
theorem ok_ixT {ts : List T} {i : Int} {t : T} (e : atI ts i = some t) (h : P t m) : Ok (gIx (.tup ts) (.int i) m) P := ⟨_, _, by unfold gIx; simp only [e]; try rfl, h⟩
theorem ok_ixL {ts : List T} {i : Int} {t : T} (e : atI ts i = some t) (h : P t m) : Ok (gIx (.lst ts) (.int i) m) P := ⟨_, _, by unfold gIx; simp only [asL, e]; try rfl, h⟩
theorem ok_app {n : Nat} {ts : List T} {y : T} (e : m[n]? = some (some (.lst ts))) (hl : ts.length < lim) (h : P .non (m.set n (some (.lst (ts ++ [y]))))) : Ok (gAppend (.loc n) [y] m) P := ⟨_, _, by unfold gAppend; simp only [cellL, e, if_pos hl]; try rfl, h⟩
theorem ok_ext {n : Nat} {ts us : List T} (e : m[n]? = some (some (.lst ts))) (hl : ts.length + us.length ≤ lim) (h : P .non (m.set n (some (.lst (ts ++ us))))) : Ok (gExtendA (.loc n) [.lst us] m) P := ⟨_, _, by unfold gExtendA gExtend; simp only [cellL, e, asO, if_pos hl]; try rfl, h⟩
theorem ok_isN {t : T} (hn : t ≠ .non) (h : P (.bl false) m) : Ok (gIsN false t .non m) P := by
  refine ⟨_, _, ?_, h⟩
  unfold gIsN
  cases t <;> first | rfl | exact absurd rfl hn
theorem ok_isNN (h : P (.bl true) m) : Ok (gIsN false .non .non m) P := ⟨_, _, rfl, h⟩
/-! loops -/
theorem cLoop_inv {g : GF} {tt : BF} {fe : EF} {env0 : Env} {R : List T → List T → Mem → Prop} : ∀ (ts pre ys : List T) (m : Mem), R pre ys m →
    (∀ (p : List T) (t : T) (q zs : List T) (m1 : Mem), pre ++ ts = p ++ t :: q → R p zs m1 → ∃ env1, g t env0 = some env1 ∧ Ok (tt env1 m1) fun b m2 => if b then Ok (fe env1 m2) fun y m3 => R (p ++ [t]) (zs ++ [y]) m3 else R (p ++ [t]) zs m2) →
    Ok (cLoop g tt fe env0 ts m) fun zs m' => R (pre ++ ts) (ys ++ zs) m'
  | [], pre, ys, m, h, _ => ⟨[], m, rfl, by simpa using h⟩
  | t :: ts, pre, ys, m, h, st => by
    obtain ⟨env1, e1, bb, m2, e2, hh⟩ := st pre t ts ys m rfl h
    cases bb with
    | true =>
      obtain ⟨y, m3, e3, h3⟩ := hh
      obtain ⟨zs, m', e4, h4⟩ := cLoop_inv (R := R) ts (pre ++ [t]) (ys ++ [y]) m3 h3 (fun p u q zs m1 e => st p u q zs m1 (by rw [← e]; simp))
      exact ⟨y :: zs, m', by unfold cLoop; simp only [e1, e2, e3, e4], by simpa using h4⟩
    | false =>
      obtain ⟨zs, m', e4, h4⟩ := cLoop_inv (R := R) ts (pre ++ [t]) ys m2 hh (fun p u q zs m1 e => st p u q zs m1 (by rw [← e]; simp))
      exact ⟨zs, m', by unfold cLoop; simp only [e1, e2, e4], by simpa using h4⟩
theorem ok_comp {mu : Bool} {sl : List Nat} {fi : LF} {gt : GF} {tt : BF} (R : List T → List T → Mem → Prop)
    (h : Ok (fi env m) fun ts m1 => ts.length ≤ lim ∧ R [] [] m1 ∧
      (∀ (p : List T) (t : T) (q zs : List T) (m2 : Mem), ts = p ++ t :: q → R p zs m2 → ∃ env1, gt t (wipeE env sl) = some env1 ∧ Ok (tt env1 m2) fun x m3 => if x then Ok (fa env1 m3) fun y m4 => R (p ++ [t]) (zs ++ [y]) m4 else R (p ++ [t]) zs m3) ∧
      ∀ zs m2, R ts zs m2 → Ok (mk mu zs m2) P) : Ok (eComp mu sl fi gt tt fa env m) P := by
  obtain ⟨ts, m1, e, hl, h0, st, h⟩ := h
  obtain ⟨zs, m2, e2, h2⟩ := cLoop_inv (env0 := wipeE env sl) ts [] [] m1 h0 st
  obtain ⟨t, m3, e3, h3⟩ := h zs m2 h2
  refine ⟨t, m3, ?_, h3⟩
  unfold eComp
  simp only [e, Out.bind, if_pos hl, e2, e3]
/-- without changes of the memory: a filter, a map -/
theorem ok_compP {mu : Bool} {sl : List Nat} {fi : LF} {gt : GF} {tt : BF} (x : T → Bool) (y : T → T)
    (h : Ok (fi env m) fun ts m1 => ts.length ≤ lim ∧ (∀ t ∈ ts, ∃ env1, gt t (wipeE env sl) = some env1 ∧ Ok (tt env1 m1) fun b m2 => m2 = m1 ∧ b = x t ∧ (b = true → Ok (fa env1 m1) fun z m3 => m3 = m1 ∧ z = y t)) ∧
      Ok (mk mu ((ts.filter x).map y) m1) P) : Ok (eComp mu sl fi gt tt fa env m) P := by
  obtain ⟨ts, m1, e, hl, st, h⟩ := h
  refine ok_comp (fun p zs m2 => m2 = m1 ∧ zs = (p.filter x).map y) ⟨ts, m1, e, hl, ⟨rfl, rfl⟩, ?_, ?_⟩
  · rintro p t q zs m2 rfl ⟨rfl, rfl⟩
    obtain ⟨env1, e1, b, m3, e2, rfl, rfl, h3⟩ := st t (by simp)
    refine ⟨env1, e1, _, _, e2, ?_⟩
    cases hb : x t with
    | true =>
      rw [if_pos rfl]
      exact (h3 hb).imp fun z m ⟨h1, h2⟩ => ⟨h1, by simp [hb, h2]⟩
    | false =>
      rw [if_neg (by decide)]
      exact ⟨rfl, by simp [hb]⟩
  · rintro zs m2 ⟨rfl, rfl⟩
    exact h
theorem loop_inv {gt : GF} {body : SF} {R : List T → Env → Mem → Prop} : ∀ (ts pre : List T) (env : Env) (m : Mem), R pre env m →
    (∀ (p : List T) (t : T) (q : List T) (env : Env) (m : Mem), pre ++ ts = p ++ t :: q → R p env m → ∃ env1, gt t env = some env1 ∧ Nx (body env1 m) (R (p ++ [t]))) →
    Nx (loop gt body ts env m) (R (pre ++ ts))
  | [], pre, env, m, h, _ => ⟨env, m, rfl, by simpa using h⟩
  | t :: ts, pre, env, m, h, st => by
    obtain ⟨env1, e1, env2, m2, e2, h2⟩ := st pre t ts env m rfl h
    obtain ⟨env', m', e3, h3⟩ := loop_inv (R := R) ts (pre ++ [t]) env2 m2 h2 (fun p u q env m e => st p u q env m (by rw [← e]; simp))
    exact ⟨env', m', by unfold loop; simp only [e1, e2, e3], by simpa using h3⟩
theorem nx_for {fi : LF} {gt : GF} (R : List T → Env → Mem → Prop)
    (h : Ok (fi env m) fun ts m1 => R [] env m1 ∧ (∀ (p : List T) (t : T) (q : List T) (env2 : Env) (m2 : Mem), ts = p ++ t :: q → R p env2 m2 → ∃ env3, gt t env2 = some env3 ∧ Nx (f env3 m2) (R (p ++ [t]))) ∧ ∀ env2 m2, R ts env2 m2 → PE env2 m2) : Nx (sFor fi gt f env m) PE := by
  obtain ⟨ts, m1, e, h0, st, h⟩ := h
  obtain ⟨env2, m2, e2, h2⟩ := loop_inv ts [] env m1 h0 st
  exact ⟨env2, m2, by unfold sFor; simp only [e, e2], h env2 m2 h2⟩
end
theorem draw_ok {m : Mem} {s c : Nat} {many : Int} {P : T → Mem → Prop} (h : Src m s c) (hc : c < 900000) (h0 : 0 < many) (h1 : many < 1073741824)
    (k : ∀ d m', 0 ≤ d → d < many → Src m' s (c + 1) → Fr s m m' → P (.int d) m') : Ok (F__law_draw [.loc s, .int many] m) P := by
  obtain ⟨d, m', e, a, b, x, y⟩ := draw_spec h hc h0 h1
  exact ⟨_, _, e, k d m' a b x y.1⟩
end M

namespace M
open PySem hiding Env
open L2 Ev G
theorem Fr.setNew {s j : Nat} {m m' : Mem} (f : Fr s m m') (h : m.length ≤ j) (o : Option MO) : Fr s m (m'.set j o) :=
  ⟨by simpa using f.len, fun i hi n => by rw [List.getElem?_set_ne (by omega)]; exact f.get i hi n⟩
/-- the draws' cell alone -/
def One (m : Mem) (c : Nat) : Prop := Src m 0 c ∧ m.length = 1
theorem One.eq {m : Mem} {c : Nat} (h : One m c) : ∃ g sd k : Int, m = [some (.lst [.int g, .int sd, .int k])] := by
  obtain ⟨⟨g, sd, k, e, _⟩, l⟩ := h
  match m, l with
  | [o], _ => exact ⟨g, sd, k, by simp at e; rw [e]⟩
theorem draw1 {m : Mem} {c : Nat} {many : Int} {P : T → Mem → Prop} (h : One m c) (hc : c < 900000) (h0 : 0 < many) (h1 : many < 1073741824)
    (k : ∀ d m', 0 ≤ d → d < many → One m' (c + 1) → P (.int d) m') : Ok (F__law_draw [.loc 0, .int many] m) P := by
  obtain ⟨d, m', e, a, b, x, _, y⟩ := draw_spec h.1 hc h0 h1
  exact ⟨_, _, e, k d m' a b ⟨x, by rw [y]; exact h.2⟩⟩
theorem pick1 {m : Mem} {c : Nat} {ts : List T} {P : T → Mem → Prop} (h : One m c) (hc : c < 900000) (h0 : 0 < ts.length) (h1 : ts.length < 100000)
    (k : ∀ t m', t ∈ ts → One m' (c + 1) → P t m') : Ok (F__law_pick [.loc 0, .lst ts] m) P := by
  unfold F__law_pick B__law_pick
  refine ok_fn ?_
  try simp only [List.map_cons, List.map_nil, List.cons_append, List.nil_append, List.length_cons, List.length_nil, Nat.reduceAdd, Nat.reduceSub, List.replicate_succ, List.replicate_zero, List.set_cons_succ, List.set_cons_zero]
  repeat (first | ((with_reducible apply ok_var); exact rfl) | ((with_reducible apply ok_calls); exact rfl) | ((with_reducible apply ok_tupL); exact Nat.le_of_ble_eq_true rfl) | ((with_reducible apply ok_lstL); exact Nat.le_of_ble_eq_true rfl) | ((with_reducible apply ok_lstC); exact Nat.le_of_ble_eq_true rfl) | (with_reducible apply ok_e2) | (with_reducible apply ok_c) | (with_reducible apply ok_cons) | (with_reducible apply ok_nil) | (with_reducible apply ok_ofL) | (with_reducible apply ok_call) | (with_reducible apply ok_meth) | (with_reducible apply ok_bV) | (with_reducible apply ok_bNot) | (with_reducible apply ok_bAnd) | (with_reducible apply ok_bOr) | (with_reducible apply ok_eAnd) | (with_reducible apply ok_eOr) | (with_reducible apply ok_eNot) | (with_reducible apply ok_eIf) | (with_reducible apply ok_iVal) | (with_reducible apply ok_range) | (with_reducible apply ok_range2) | (with_reducible apply ok_listRange) | (with_reducible apply ok_enum) | (with_reducible apply ok_bYes) | (with_reducible apply ok_mkL) | (with_reducible apply ok_mkC) | (with_reducible apply ok_ok) | (with_reducible apply ok_addI) | (with_reducible apply ok_gtI) | (with_reducible apply ok_geI) | (with_reducible apply ok_ltI) | (with_reducible apply ok_leI) | (with_reducible apply ok_leS) | (with_reducible apply ok_eqI) | (with_reducible apply ok_neI) | (with_reducible apply ok_eqS) | (with_reducible apply ok_neS) | (with_reducible apply ok_int) | (with_reducible apply ok_lenL) | (with_reducible apply ok_lenT) | (with_reducible apply ok_tupOfL) | (with_reducible apply ok_tupOfT) | (with_reducible apply bl_mk) | (with_reducible apply it_lst) | (with_reducible apply it_tup) | (with_reducible apply it_rls) | (with_reducible apply en_lst) | (with_reducible apply en_tup) | (with_reducible apply rt_seqOf) | (with_reducible apply nx_seqOf) | (with_reducible apply rt_of) | (with_reducible apply nx_of) | (with_reducible apply nx_nx) | (with_reducible apply rt_rt) | (with_reducible apply nx_nil) | (with_reducible apply rt_seqNil) | (with_reducible apply nx_asg) | (with_reducible apply ok_isNN))
  refine draw1 h hc (by omega) (by omega) fun d m1 d0 d1 hs => ?_
  obtain ⟨t, e1, _, ht⟩ := atB (ts := ts) d0 d1
  refine ok_ixL e1 ?_
  repeat (first | ((with_reducible apply ok_var); exact rfl) | ((with_reducible apply ok_calls); exact rfl) | ((with_reducible apply ok_tupL); exact Nat.le_of_ble_eq_true rfl) | ((with_reducible apply ok_lstL); exact Nat.le_of_ble_eq_true rfl) | ((with_reducible apply ok_lstC); exact Nat.le_of_ble_eq_true rfl) | (with_reducible apply ok_e2) | (with_reducible apply ok_c) | (with_reducible apply ok_cons) | (with_reducible apply ok_nil) | (with_reducible apply ok_ofL) | (with_reducible apply ok_call) | (with_reducible apply ok_meth) | (with_reducible apply ok_bV) | (with_reducible apply ok_bNot) | (with_reducible apply ok_bAnd) | (with_reducible apply ok_bOr) | (with_reducible apply ok_eAnd) | (with_reducible apply ok_eOr) | (with_reducible apply ok_eNot) | (with_reducible apply ok_eIf) | (with_reducible apply ok_iVal) | (with_reducible apply ok_range) | (with_reducible apply ok_range2) | (with_reducible apply ok_listRange) | (with_reducible apply ok_enum) | (with_reducible apply ok_bYes) | (with_reducible apply ok_mkL) | (with_reducible apply ok_mkC) | (with_reducible apply ok_ok) | (with_reducible apply ok_addI) | (with_reducible apply ok_gtI) | (with_reducible apply ok_geI) | (with_reducible apply ok_ltI) | (with_reducible apply ok_leI) | (with_reducible apply ok_leS) | (with_reducible apply ok_eqI) | (with_reducible apply ok_neI) | (with_reducible apply ok_eqS) | (with_reducible apply ok_neS) | (with_reducible apply ok_int) | (with_reducible apply ok_lenL) | (with_reducible apply ok_lenT) | (with_reducible apply ok_tupOfL) | (with_reducible apply ok_tupOfT) | (with_reducible apply bl_mk) | (with_reducible apply it_lst) | (with_reducible apply it_tup) | (with_reducible apply it_rls) | (with_reducible apply en_lst) | (with_reducible apply en_tup) | (with_reducible apply rt_seqOf) | (with_reducible apply nx_seqOf) | (with_reducible apply rt_of) | (with_reducible apply nx_of) | (with_reducible apply nx_nx) | (with_reducible apply rt_rt) | (with_reducible apply nx_nil) | (with_reducible apply rt_seqNil) | (with_reducible apply nx_asg) | (with_reducible apply ok_isNN))
  exact k t m1 ht hs
theorem ok_powI {m : Mem} {P : T → Mem → Prop} {i j : Int} (h0 : 0 ≤ j) (h1 : j ≤ 100) (h2 : i.natAbs < 2 ^ 64) (h : P (.int (i ^ j.toNat)) m) : Ok (gPow (.int i) (.int j) m) P := ⟨_, _, by unfold gPow; simp only [h0, h1, h2, and_self, if_true], h⟩
theorem source_ok {ns : List Int} {m : Mem} {P : T → Mem → Prop}
    (k : ∀ m', m'.length = m.length + 1 → Src m' m.length 0 → P (.loc m.length) m') : Ok (F__law_source [.rls (ns.map T.int)] m) P := by
  unfold F__law_source B__law_source
  refine ok_fn ?_
  try simp only [List.map_cons, List.map_nil, List.cons_append, List.nil_append, List.length_cons, List.length_nil, Nat.reduceAdd, Nat.reduceSub, List.replicate_succ, List.replicate_zero, List.set_cons_succ, List.set_cons_zero]
  refine rt_seq ?_
  repeat (first | ((with_reducible apply ok_var); exact rfl) | ((with_reducible apply ok_calls); exact rfl) | ((with_reducible apply ok_tupL); exact Nat.le_of_ble_eq_true rfl) | ((with_reducible apply ok_lstL); exact Nat.le_of_ble_eq_true rfl) | ((with_reducible apply ok_lstC); exact Nat.le_of_ble_eq_true rfl) | (with_reducible apply ok_e2) | (with_reducible apply ok_c) | (with_reducible apply ok_cons) | (with_reducible apply ok_nil) | (with_reducible apply ok_ofL) | (with_reducible apply ok_call) | (with_reducible apply ok_meth) | (with_reducible apply ok_bV) | (with_reducible apply ok_bNot) | (with_reducible apply ok_bAnd) | (with_reducible apply ok_bOr) | (with_reducible apply ok_eAnd) | (with_reducible apply ok_eOr) | (with_reducible apply ok_eNot) | (with_reducible apply ok_eIf) | (with_reducible apply ok_iVal) | (with_reducible apply ok_range) | (with_reducible apply ok_range2) | (with_reducible apply ok_listRange) | (with_reducible apply ok_enum) | (with_reducible apply ok_bYes) | (with_reducible apply ok_mkL) | (with_reducible apply ok_mkC) | (with_reducible apply ok_ok) | (with_reducible apply ok_addI) | (with_reducible apply ok_gtI) | (with_reducible apply ok_geI) | (with_reducible apply ok_ltI) | (with_reducible apply ok_leI) | (with_reducible apply ok_leS) | (with_reducible apply ok_eqI) | (with_reducible apply ok_neI) | (with_reducible apply ok_eqS) | (with_reducible apply ok_neS) | (with_reducible apply ok_int) | (with_reducible apply ok_lenL) | (with_reducible apply ok_lenT) | (with_reducible apply ok_tupOfL) | (with_reducible apply ok_tupOfT) | (with_reducible apply bl_mk) | (with_reducible apply it_lst) | (with_reducible apply it_tup) | (with_reducible apply it_rls) | (with_reducible apply en_lst) | (with_reducible apply en_tup) | (with_reducible apply rt_seqOf) | (with_reducible apply nx_seqOf) | (with_reducible apply rt_of) | (with_reducible apply nx_of) | (with_reducible apply nx_nx) | (with_reducible apply rt_rt) | (with_reducible apply nx_nil) | (with_reducible apply rt_seqNil) | (with_reducible apply nx_asg) | (with_reducible apply ok_isNN))
  refine ⟨_, rfl, ?_⟩
  try simp only [List.map_cons, List.map_nil, List.cons_append, List.nil_append, List.length_cons, List.length_nil, Nat.reduceAdd, Nat.reduceSub, List.replicate_succ, List.replicate_zero, List.set_cons_succ, List.set_cons_zero]
  refine rt_seq (nx_for (fun _ env m1 => ∃ g sd w, env = [some (.rls (ns.map T.int)), some (.int g), some (.int sd), w] ∧ m1 = m ∧ (0 : Int) ≤ sd ∧ sd < 2147483647) ?_)
  repeat (first | ((with_reducible apply ok_var); exact rfl) | ((with_reducible apply ok_calls); exact rfl) | ((with_reducible apply ok_tupL); exact Nat.le_of_ble_eq_true rfl) | ((with_reducible apply ok_lstL); exact Nat.le_of_ble_eq_true rfl) | ((with_reducible apply ok_lstC); exact Nat.le_of_ble_eq_true rfl) | (with_reducible apply ok_e2) | (with_reducible apply ok_c) | (with_reducible apply ok_cons) | (with_reducible apply ok_nil) | (with_reducible apply ok_ofL) | (with_reducible apply ok_call) | (with_reducible apply ok_meth) | (with_reducible apply ok_bV) | (with_reducible apply ok_bNot) | (with_reducible apply ok_bAnd) | (with_reducible apply ok_bOr) | (with_reducible apply ok_eAnd) | (with_reducible apply ok_eOr) | (with_reducible apply ok_eNot) | (with_reducible apply ok_eIf) | (with_reducible apply ok_iVal) | (with_reducible apply ok_range) | (with_reducible apply ok_range2) | (with_reducible apply ok_listRange) | (with_reducible apply ok_enum) | (with_reducible apply ok_bYes) | (with_reducible apply ok_mkL) | (with_reducible apply ok_mkC) | (with_reducible apply ok_ok) | (with_reducible apply ok_addI) | (with_reducible apply ok_gtI) | (with_reducible apply ok_geI) | (with_reducible apply ok_ltI) | (with_reducible apply ok_leI) | (with_reducible apply ok_leS) | (with_reducible apply ok_eqI) | (with_reducible apply ok_neI) | (with_reducible apply ok_eqS) | (with_reducible apply ok_neS) | (with_reducible apply ok_int) | (with_reducible apply ok_lenL) | (with_reducible apply ok_lenT) | (with_reducible apply ok_tupOfL) | (with_reducible apply ok_tupOfT) | (with_reducible apply bl_mk) | (with_reducible apply it_lst) | (with_reducible apply it_tup) | (with_reducible apply it_rls) | (with_reducible apply en_lst) | (with_reducible apply en_tup) | (with_reducible apply rt_seqOf) | (with_reducible apply nx_seqOf) | (with_reducible apply rt_of) | (with_reducible apply nx_of) | (with_reducible apply nx_nx) | (with_reducible apply rt_rt) | (with_reducible apply nx_nil) | (with_reducible apply rt_seqNil) | (with_reducible apply nx_asg) | (with_reducible apply ok_isNN))
  refine ⟨⟨0, 17, none, rfl, rfl, by decide, by decide⟩, ?_, ?_⟩
  · rintro p t q env m1 hp ⟨g, sd, w, rfl, rfl, h0, h1⟩
    obtain ⟨n, _, rfl⟩ : ∃ n, n ∈ ns ∧ T.int n = t := by
      have : t ∈ ns.map T.int := by rw [hp]; simp
      simpa using this
    refine ⟨_, rfl, ?_⟩
    try simp only [List.map_cons, List.map_nil, List.cons_append, List.nil_append, List.length_cons, List.length_nil, Nat.reduceAdd, Nat.reduceSub, List.replicate_succ, List.replicate_zero, List.set_cons_succ, List.set_cons_zero]
    refine nx_seq (Nx.imp (P := fun env m => ∃ g', env = [some (.rls (ns.map T.int)), some (.int g'), some (.int sd), some (.int n)] ∧ m = m1) (nx_if ?_) ?_)
    · repeat (first | ((with_reducible apply ok_var); exact rfl) | ((with_reducible apply ok_calls); exact rfl) | ((with_reducible apply ok_tupL); exact Nat.le_of_ble_eq_true rfl) | ((with_reducible apply ok_lstL); exact Nat.le_of_ble_eq_true rfl) | ((with_reducible apply ok_lstC); exact Nat.le_of_ble_eq_true rfl) | (with_reducible apply ok_e2) | (with_reducible apply ok_c) | (with_reducible apply ok_cons) | (with_reducible apply ok_nil) | (with_reducible apply ok_ofL) | (with_reducible apply ok_call) | (with_reducible apply ok_meth) | (with_reducible apply ok_bV) | (with_reducible apply ok_bNot) | (with_reducible apply ok_bAnd) | (with_reducible apply ok_bOr) | (with_reducible apply ok_eAnd) | (with_reducible apply ok_eOr) | (with_reducible apply ok_eNot) | (with_reducible apply ok_eIf) | (with_reducible apply ok_iVal) | (with_reducible apply ok_range) | (with_reducible apply ok_range2) | (with_reducible apply ok_listRange) | (with_reducible apply ok_enum) | (with_reducible apply ok_bYes) | (with_reducible apply ok_mkL) | (with_reducible apply ok_mkC) | (with_reducible apply ok_ok) | (with_reducible apply ok_addI) | (with_reducible apply ok_gtI) | (with_reducible apply ok_geI) | (with_reducible apply ok_ltI) | (with_reducible apply ok_leI) | (with_reducible apply ok_leS) | (with_reducible apply ok_eqI) | (with_reducible apply ok_neI) | (with_reducible apply ok_eqS) | (with_reducible apply ok_neS) | (with_reducible apply ok_int) | (with_reducible apply ok_lenL) | (with_reducible apply ok_lenT) | (with_reducible apply ok_tupOfL) | (with_reducible apply ok_tupOfT) | (with_reducible apply bl_mk) | (with_reducible apply it_lst) | (with_reducible apply it_tup) | (with_reducible apply it_rls) | (with_reducible apply en_lst) | (with_reducible apply en_tup) | (with_reducible apply rt_seqOf) | (with_reducible apply nx_seqOf) | (with_reducible apply rt_of) | (with_reducible apply nx_of) | (with_reducible apply nx_nx) | (with_reducible apply rt_rt) | (with_reducible apply nx_nil) | (with_reducible apply rt_seqNil) | (with_reducible apply nx_asg) | (with_reducible apply ok_isNN))
      split
      · repeat (first | ((with_reducible apply ok_var); exact rfl) | ((with_reducible apply ok_calls); exact rfl) | ((with_reducible apply ok_tupL); exact Nat.le_of_ble_eq_true rfl) | ((with_reducible apply ok_lstL); exact Nat.le_of_ble_eq_true rfl) | ((with_reducible apply ok_lstC); exact Nat.le_of_ble_eq_true rfl) | (with_reducible apply ok_e2) | (with_reducible apply ok_c) | (with_reducible apply ok_cons) | (with_reducible apply ok_nil) | (with_reducible apply ok_ofL) | (with_reducible apply ok_call) | (with_reducible apply ok_meth) | (with_reducible apply ok_bV) | (with_reducible apply ok_bNot) | (with_reducible apply ok_bAnd) | (with_reducible apply ok_bOr) | (with_reducible apply ok_eAnd) | (with_reducible apply ok_eOr) | (with_reducible apply ok_eNot) | (with_reducible apply ok_eIf) | (with_reducible apply ok_iVal) | (with_reducible apply ok_range) | (with_reducible apply ok_range2) | (with_reducible apply ok_listRange) | (with_reducible apply ok_enum) | (with_reducible apply ok_bYes) | (with_reducible apply ok_mkL) | (with_reducible apply ok_mkC) | (with_reducible apply ok_ok) | (with_reducible apply ok_addI) | (with_reducible apply ok_gtI) | (with_reducible apply ok_geI) | (with_reducible apply ok_ltI) | (with_reducible apply ok_leI) | (with_reducible apply ok_leS) | (with_reducible apply ok_eqI) | (with_reducible apply ok_neI) | (with_reducible apply ok_eqS) | (with_reducible apply ok_neS) | (with_reducible apply ok_int) | (with_reducible apply ok_lenL) | (with_reducible apply ok_lenT) | (with_reducible apply ok_tupOfL) | (with_reducible apply ok_tupOfT) | (with_reducible apply bl_mk) | (with_reducible apply it_lst) | (with_reducible apply it_tup) | (with_reducible apply it_rls) | (with_reducible apply en_lst) | (with_reducible apply en_tup) | (with_reducible apply rt_seqOf) | (with_reducible apply nx_seqOf) | (with_reducible apply rt_of) | (with_reducible apply nx_of) | (with_reducible apply nx_nx) | (with_reducible apply rt_rt) | (with_reducible apply nx_nil) | (with_reducible apply rt_seqNil) | (with_reducible apply nx_asg) | (with_reducible apply ok_isNN))
        refine ok_powI (by decide) (by decide) (by decide) ?_
        repeat (first | ((with_reducible apply ok_var); exact rfl) | ((with_reducible apply ok_calls); exact rfl) | ((with_reducible apply ok_tupL); exact Nat.le_of_ble_eq_true rfl) | ((with_reducible apply ok_lstL); exact Nat.le_of_ble_eq_true rfl) | ((with_reducible apply ok_lstC); exact Nat.le_of_ble_eq_true rfl) | (with_reducible apply ok_e2) | (with_reducible apply ok_c) | (with_reducible apply ok_cons) | (with_reducible apply ok_nil) | (with_reducible apply ok_ofL) | (with_reducible apply ok_call) | (with_reducible apply ok_meth) | (with_reducible apply ok_bV) | (with_reducible apply ok_bNot) | (with_reducible apply ok_bAnd) | (with_reducible apply ok_bOr) | (with_reducible apply ok_eAnd) | (with_reducible apply ok_eOr) | (with_reducible apply ok_eNot) | (with_reducible apply ok_eIf) | (with_reducible apply ok_iVal) | (with_reducible apply ok_range) | (with_reducible apply ok_range2) | (with_reducible apply ok_listRange) | (with_reducible apply ok_enum) | (with_reducible apply ok_bYes) | (with_reducible apply ok_mkL) | (with_reducible apply ok_mkC) | (with_reducible apply ok_ok) | (with_reducible apply ok_addI) | (with_reducible apply ok_gtI) | (with_reducible apply ok_geI) | (with_reducible apply ok_ltI) | (with_reducible apply ok_leI) | (with_reducible apply ok_leS) | (with_reducible apply ok_eqI) | (with_reducible apply ok_neI) | (with_reducible apply ok_eqS) | (with_reducible apply ok_neS) | (with_reducible apply ok_int) | (with_reducible apply ok_lenL) | (with_reducible apply ok_lenT) | (with_reducible apply ok_tupOfL) | (with_reducible apply ok_tupOfT) | (with_reducible apply bl_mk) | (with_reducible apply it_lst) | (with_reducible apply it_tup) | (with_reducible apply it_rls) | (with_reducible apply en_lst) | (with_reducible apply en_tup) | (with_reducible apply rt_seqOf) | (with_reducible apply nx_seqOf) | (with_reducible apply rt_of) | (with_reducible apply nx_of) | (with_reducible apply nx_nx) | (with_reducible apply rt_rt) | (with_reducible apply nx_nil) | (with_reducible apply rt_seqNil) | (with_reducible apply nx_asg) | (with_reducible apply ok_isNN))
        split
        · repeat (first | ((with_reducible apply ok_var); exact rfl) | ((with_reducible apply ok_calls); exact rfl) | ((with_reducible apply ok_tupL); exact Nat.le_of_ble_eq_true rfl) | ((with_reducible apply ok_lstL); exact Nat.le_of_ble_eq_true rfl) | ((with_reducible apply ok_lstC); exact Nat.le_of_ble_eq_true rfl) | (with_reducible apply ok_e2) | (with_reducible apply ok_c) | (with_reducible apply ok_cons) | (with_reducible apply ok_nil) | (with_reducible apply ok_ofL) | (with_reducible apply ok_call) | (with_reducible apply ok_meth) | (with_reducible apply ok_bV) | (with_reducible apply ok_bNot) | (with_reducible apply ok_bAnd) | (with_reducible apply ok_bOr) | (with_reducible apply ok_eAnd) | (with_reducible apply ok_eOr) | (with_reducible apply ok_eNot) | (with_reducible apply ok_eIf) | (with_reducible apply ok_iVal) | (with_reducible apply ok_range) | (with_reducible apply ok_range2) | (with_reducible apply ok_listRange) | (with_reducible apply ok_enum) | (with_reducible apply ok_bYes) | (with_reducible apply ok_mkL) | (with_reducible apply ok_mkC) | (with_reducible apply ok_ok) | (with_reducible apply ok_addI) | (with_reducible apply ok_gtI) | (with_reducible apply ok_geI) | (with_reducible apply ok_ltI) | (with_reducible apply ok_leI) | (with_reducible apply ok_leS) | (with_reducible apply ok_eqI) | (with_reducible apply ok_neI) | (with_reducible apply ok_eqS) | (with_reducible apply ok_neS) | (with_reducible apply ok_int) | (with_reducible apply ok_lenL) | (with_reducible apply ok_lenT) | (with_reducible apply ok_tupOfL) | (with_reducible apply ok_tupOfT) | (with_reducible apply bl_mk) | (with_reducible apply it_lst) | (with_reducible apply it_tup) | (with_reducible apply it_rls) | (with_reducible apply en_lst) | (with_reducible apply en_tup) | (with_reducible apply rt_seqOf) | (with_reducible apply nx_seqOf) | (with_reducible apply rt_of) | (with_reducible apply nx_of) | (with_reducible apply nx_nx) | (with_reducible apply rt_rt) | (with_reducible apply nx_nil) | (with_reducible apply rt_seqNil) | (with_reducible apply nx_asg) | (with_reducible apply ok_isNN))
          exact ⟨_, rfl, rfl⟩
        · repeat (first | ((with_reducible apply ok_var); exact rfl) | ((with_reducible apply ok_calls); exact rfl) | ((with_reducible apply ok_tupL); exact Nat.le_of_ble_eq_true rfl) | ((with_reducible apply ok_lstL); exact Nat.le_of_ble_eq_true rfl) | ((with_reducible apply ok_lstC); exact Nat.le_of_ble_eq_true rfl) | (with_reducible apply ok_e2) | (with_reducible apply ok_c) | (with_reducible apply ok_cons) | (with_reducible apply ok_nil) | (with_reducible apply ok_ofL) | (with_reducible apply ok_call) | (with_reducible apply ok_meth) | (with_reducible apply ok_bV) | (with_reducible apply ok_bNot) | (with_reducible apply ok_bAnd) | (with_reducible apply ok_bOr) | (with_reducible apply ok_eAnd) | (with_reducible apply ok_eOr) | (with_reducible apply ok_eNot) | (with_reducible apply ok_eIf) | (with_reducible apply ok_iVal) | (with_reducible apply ok_range) | (with_reducible apply ok_range2) | (with_reducible apply ok_listRange) | (with_reducible apply ok_enum) | (with_reducible apply ok_bYes) | (with_reducible apply ok_mkL) | (with_reducible apply ok_mkC) | (with_reducible apply ok_ok) | (with_reducible apply ok_addI) | (with_reducible apply ok_gtI) | (with_reducible apply ok_geI) | (with_reducible apply ok_ltI) | (with_reducible apply ok_leI) | (with_reducible apply ok_leS) | (with_reducible apply ok_eqI) | (with_reducible apply ok_neI) | (with_reducible apply ok_eqS) | (with_reducible apply ok_neS) | (with_reducible apply ok_int) | (with_reducible apply ok_lenL) | (with_reducible apply ok_lenT) | (with_reducible apply ok_tupOfL) | (with_reducible apply ok_tupOfT) | (with_reducible apply bl_mk) | (with_reducible apply it_lst) | (with_reducible apply it_tup) | (with_reducible apply it_rls) | (with_reducible apply en_lst) | (with_reducible apply en_tup) | (with_reducible apply rt_seqOf) | (with_reducible apply nx_seqOf) | (with_reducible apply rt_of) | (with_reducible apply nx_of) | (with_reducible apply nx_nx) | (with_reducible apply rt_rt) | (with_reducible apply nx_nil) | (with_reducible apply rt_seqNil) | (with_reducible apply nx_asg) | (with_reducible apply ok_isNN))
          exact ⟨_, rfl, rfl⟩
      · rw [if_neg (by decide)]
        repeat (first | ((with_reducible apply ok_var); exact rfl) | ((with_reducible apply ok_calls); exact rfl) | ((with_reducible apply ok_tupL); exact Nat.le_of_ble_eq_true rfl) | ((with_reducible apply ok_lstL); exact Nat.le_of_ble_eq_true rfl) | ((with_reducible apply ok_lstC); exact Nat.le_of_ble_eq_true rfl) | (with_reducible apply ok_e2) | (with_reducible apply ok_c) | (with_reducible apply ok_cons) | (with_reducible apply ok_nil) | (with_reducible apply ok_ofL) | (with_reducible apply ok_call) | (with_reducible apply ok_meth) | (with_reducible apply ok_bV) | (with_reducible apply ok_bNot) | (with_reducible apply ok_bAnd) | (with_reducible apply ok_bOr) | (with_reducible apply ok_eAnd) | (with_reducible apply ok_eOr) | (with_reducible apply ok_eNot) | (with_reducible apply ok_eIf) | (with_reducible apply ok_iVal) | (with_reducible apply ok_range) | (with_reducible apply ok_range2) | (with_reducible apply ok_listRange) | (with_reducible apply ok_enum) | (with_reducible apply ok_bYes) | (with_reducible apply ok_mkL) | (with_reducible apply ok_mkC) | (with_reducible apply ok_ok) | (with_reducible apply ok_addI) | (with_reducible apply ok_gtI) | (with_reducible apply ok_geI) | (with_reducible apply ok_ltI) | (with_reducible apply ok_leI) | (with_reducible apply ok_leS) | (with_reducible apply ok_eqI) | (with_reducible apply ok_neI) | (with_reducible apply ok_eqS) | (with_reducible apply ok_neS) | (with_reducible apply ok_int) | (with_reducible apply ok_lenL) | (with_reducible apply ok_lenT) | (with_reducible apply ok_tupOfL) | (with_reducible apply ok_tupOfT) | (with_reducible apply bl_mk) | (with_reducible apply it_lst) | (with_reducible apply it_tup) | (with_reducible apply it_rls) | (with_reducible apply en_lst) | (with_reducible apply en_tup) | (with_reducible apply rt_seqOf) | (with_reducible apply nx_seqOf) | (with_reducible apply rt_of) | (with_reducible apply nx_of) | (with_reducible apply nx_nx) | (with_reducible apply rt_rt) | (with_reducible apply nx_nil) | (with_reducible apply rt_seqNil) | (with_reducible apply nx_asg) | (with_reducible apply ok_isNN))
        exact ⟨_, rfl, rfl⟩
    · rintro env m ⟨g', rfl, rfl⟩
      repeat (first | ((with_reducible apply ok_var); exact rfl) | ((with_reducible apply ok_calls); exact rfl) | ((with_reducible apply ok_tupL); exact Nat.le_of_ble_eq_true rfl) | ((with_reducible apply ok_lstL); exact Nat.le_of_ble_eq_true rfl) | ((with_reducible apply ok_lstC); exact Nat.le_of_ble_eq_true rfl) | (with_reducible apply ok_e2) | (with_reducible apply ok_c) | (with_reducible apply ok_cons) | (with_reducible apply ok_nil) | (with_reducible apply ok_ofL) | (with_reducible apply ok_call) | (with_reducible apply ok_meth) | (with_reducible apply ok_bV) | (with_reducible apply ok_bNot) | (with_reducible apply ok_bAnd) | (with_reducible apply ok_bOr) | (with_reducible apply ok_eAnd) | (with_reducible apply ok_eOr) | (with_reducible apply ok_eNot) | (with_reducible apply ok_eIf) | (with_reducible apply ok_iVal) | (with_reducible apply ok_range) | (with_reducible apply ok_range2) | (with_reducible apply ok_listRange) | (with_reducible apply ok_enum) | (with_reducible apply ok_bYes) | (with_reducible apply ok_mkL) | (with_reducible apply ok_mkC) | (with_reducible apply ok_ok) | (with_reducible apply ok_addI) | (with_reducible apply ok_gtI) | (with_reducible apply ok_geI) | (with_reducible apply ok_ltI) | (with_reducible apply ok_leI) | (with_reducible apply ok_leS) | (with_reducible apply ok_eqI) | (with_reducible apply ok_neI) | (with_reducible apply ok_eqS) | (with_reducible apply ok_neS) | (with_reducible apply ok_int) | (with_reducible apply ok_lenL) | (with_reducible apply ok_lenT) | (with_reducible apply ok_tupOfL) | (with_reducible apply ok_tupOfT) | (with_reducible apply bl_mk) | (with_reducible apply it_lst) | (with_reducible apply it_tup) | (with_reducible apply it_rls) | (with_reducible apply en_lst) | (with_reducible apply en_tup) | (with_reducible apply rt_seqOf) | (with_reducible apply nx_seqOf) | (with_reducible apply rt_of) | (with_reducible apply nx_of) | (with_reducible apply nx_nx) | (with_reducible apply rt_rt) | (with_reducible apply nx_nil) | (with_reducible apply rt_seqNil) | (with_reducible apply nx_asg) | (with_reducible apply ok_isNN))
      refine ok_mulI (by rw [show small 64 31 = true by decide]; simp) ?_
      repeat (first | ((with_reducible apply ok_var); exact rfl) | ((with_reducible apply ok_calls); exact rfl) | ((with_reducible apply ok_tupL); exact Nat.le_of_ble_eq_true rfl) | ((with_reducible apply ok_lstL); exact Nat.le_of_ble_eq_true rfl) | ((with_reducible apply ok_lstC); exact Nat.le_of_ble_eq_true rfl) | (with_reducible apply ok_e2) | (with_reducible apply ok_c) | (with_reducible apply ok_cons) | (with_reducible apply ok_nil) | (with_reducible apply ok_ofL) | (with_reducible apply ok_call) | (with_reducible apply ok_meth) | (with_reducible apply ok_bV) | (with_reducible apply ok_bNot) | (with_reducible apply ok_bAnd) | (with_reducible apply ok_bOr) | (with_reducible apply ok_eAnd) | (with_reducible apply ok_eOr) | (with_reducible apply ok_eNot) | (with_reducible apply ok_eIf) | (with_reducible apply ok_iVal) | (with_reducible apply ok_range) | (with_reducible apply ok_range2) | (with_reducible apply ok_listRange) | (with_reducible apply ok_enum) | (with_reducible apply ok_bYes) | (with_reducible apply ok_mkL) | (with_reducible apply ok_mkC) | (with_reducible apply ok_ok) | (with_reducible apply ok_addI) | (with_reducible apply ok_gtI) | (with_reducible apply ok_geI) | (with_reducible apply ok_ltI) | (with_reducible apply ok_leI) | (with_reducible apply ok_leS) | (with_reducible apply ok_eqI) | (with_reducible apply ok_neI) | (with_reducible apply ok_eqS) | (with_reducible apply ok_neS) | (with_reducible apply ok_int) | (with_reducible apply ok_lenL) | (with_reducible apply ok_lenT) | (with_reducible apply ok_tupOfL) | (with_reducible apply ok_tupOfT) | (with_reducible apply bl_mk) | (with_reducible apply it_lst) | (with_reducible apply it_tup) | (with_reducible apply it_rls) | (with_reducible apply en_lst) | (with_reducible apply en_tup) | (with_reducible apply rt_seqOf) | (with_reducible apply nx_seqOf) | (with_reducible apply rt_of) | (with_reducible apply nx_of) | (with_reducible apply nx_nx) | (with_reducible apply rt_rt) | (with_reducible apply nx_nil) | (with_reducible apply rt_seqNil) | (with_reducible apply nx_asg) | (with_reducible apply ok_isNN))
      refine ok_modI (by decide) ?_
      repeat (first | ((with_reducible apply ok_var); exact rfl) | ((with_reducible apply ok_calls); exact rfl) | ((with_reducible apply ok_tupL); exact Nat.le_of_ble_eq_true rfl) | ((with_reducible apply ok_lstL); exact Nat.le_of_ble_eq_true rfl) | ((with_reducible apply ok_lstC); exact Nat.le_of_ble_eq_true rfl) | (with_reducible apply ok_e2) | (with_reducible apply ok_c) | (with_reducible apply ok_cons) | (with_reducible apply ok_nil) | (with_reducible apply ok_ofL) | (with_reducible apply ok_call) | (with_reducible apply ok_meth) | (with_reducible apply ok_bV) | (with_reducible apply ok_bNot) | (with_reducible apply ok_bAnd) | (with_reducible apply ok_bOr) | (with_reducible apply ok_eAnd) | (with_reducible apply ok_eOr) | (with_reducible apply ok_eNot) | (with_reducible apply ok_eIf) | (with_reducible apply ok_iVal) | (with_reducible apply ok_range) | (with_reducible apply ok_range2) | (with_reducible apply ok_listRange) | (with_reducible apply ok_enum) | (with_reducible apply ok_bYes) | (with_reducible apply ok_mkL) | (with_reducible apply ok_mkC) | (with_reducible apply ok_ok) | (with_reducible apply ok_addI) | (with_reducible apply ok_gtI) | (with_reducible apply ok_geI) | (with_reducible apply ok_ltI) | (with_reducible apply ok_leI) | (with_reducible apply ok_leS) | (with_reducible apply ok_eqI) | (with_reducible apply ok_neI) | (with_reducible apply ok_eqS) | (with_reducible apply ok_neS) | (with_reducible apply ok_int) | (with_reducible apply ok_lenL) | (with_reducible apply ok_lenT) | (with_reducible apply ok_tupOfL) | (with_reducible apply ok_tupOfT) | (with_reducible apply bl_mk) | (with_reducible apply it_lst) | (with_reducible apply it_tup) | (with_reducible apply it_rls) | (with_reducible apply en_lst) | (with_reducible apply en_tup) | (with_reducible apply rt_seqOf) | (with_reducible apply nx_seqOf) | (with_reducible apply rt_of) | (with_reducible apply nx_of) | (with_reducible apply nx_nx) | (with_reducible apply rt_rt) | (with_reducible apply nx_nil) | (with_reducible apply rt_seqNil) | (with_reducible apply nx_asg) | (with_reducible apply ok_isNN))
      exact ⟨g', _, _, rfl, rfl, Int.emod_nonneg _ (by decide), Int.emod_lt_of_pos _ (by decide)⟩
  · rintro env m1 ⟨g, sd, w, rfl, rfl, h0, h1⟩
    repeat (first | ((with_reducible apply ok_var); exact rfl) | ((with_reducible apply ok_calls); exact rfl) | ((with_reducible apply ok_tupL); exact Nat.le_of_ble_eq_true rfl) | ((with_reducible apply ok_lstL); exact Nat.le_of_ble_eq_true rfl) | ((with_reducible apply ok_lstC); exact Nat.le_of_ble_eq_true rfl) | (with_reducible apply ok_e2) | (with_reducible apply ok_c) | (with_reducible apply ok_cons) | (with_reducible apply ok_nil) | (with_reducible apply ok_ofL) | (with_reducible apply ok_call) | (with_reducible apply ok_meth) | (with_reducible apply ok_bV) | (with_reducible apply ok_bNot) | (with_reducible apply ok_bAnd) | (with_reducible apply ok_bOr) | (with_reducible apply ok_eAnd) | (with_reducible apply ok_eOr) | (with_reducible apply ok_eNot) | (with_reducible apply ok_eIf) | (with_reducible apply ok_iVal) | (with_reducible apply ok_range) | (with_reducible apply ok_range2) | (with_reducible apply ok_listRange) | (with_reducible apply ok_enum) | (with_reducible apply ok_bYes) | (with_reducible apply ok_mkL) | (with_reducible apply ok_mkC) | (with_reducible apply ok_ok) | (with_reducible apply ok_addI) | (with_reducible apply ok_gtI) | (with_reducible apply ok_geI) | (with_reducible apply ok_ltI) | (with_reducible apply ok_leI) | (with_reducible apply ok_leS) | (with_reducible apply ok_eqI) | (with_reducible apply ok_neI) | (with_reducible apply ok_eqS) | (with_reducible apply ok_neS) | (with_reducible apply ok_int) | (with_reducible apply ok_lenL) | (with_reducible apply ok_lenT) | (with_reducible apply ok_tupOfL) | (with_reducible apply ok_tupOfT) | (with_reducible apply bl_mk) | (with_reducible apply it_lst) | (with_reducible apply it_tup) | (with_reducible apply it_rls) | (with_reducible apply en_lst) | (with_reducible apply en_tup) | (with_reducible apply rt_seqOf) | (with_reducible apply nx_seqOf) | (with_reducible apply rt_of) | (with_reducible apply nx_of) | (with_reducible apply nx_nx) | (with_reducible apply rt_rt) | (with_reducible apply nx_nil) | (with_reducible apply rt_seqNil) | (with_reducible apply nx_asg) | (with_reducible apply ok_isNN))
    refine k (m1 ++ [some (.lst [.int g, .int sd, .int 0])]) (by simp) ⟨g, sd, 0, ?_, h0, h1, by omega, by omega⟩
    simp
end M

namespace M
open PySem hiding Env
open L2 Ev G
def okRt : SOut → Bool
  | .rt (.bl true) _ => true
  | _ => false
theorem rt_bool {o : SOut} (h : okRt o = true) : Rt o (fun t _ => t = .bl true) := by
  match o, h with
  | .rt (.bl true) m, _ => exact ⟨_, m, rfl, rfl⟩
theorem all_lt (f : Nat → Bool) (N : Nat) (h : (List.range N).all f = true) (n : Nat) (hn : n < N) : f n = true := by
  rw [List.all_eq_true] at h
  exact h n (List.mem_range.mpr hn)
theorem ok_subI {m : Mem} {P : T → Mem → Prop} {i j : Int} (h : P (.int (i - j)) m) : Ok (gSub (.int i) (.int j) m) P := ⟨_, _, rfl, h⟩
def restB : SF :=     (sSeq (sFor (iEnumA (lCons (eCall 1 F__law_made (lCons (eVar 2) lNil)) lNil)) (gT 2 (gsCons (gN 3) (gsCons (gT 4 (gsCons (gN 4) (gsCons (gN 5) (gsCons (gN 6) (gsCons (gN 7) gsNil))))) gsNil))) (sSeq (sIf (bOr (bV (e2 gNe (eVar 6) (eVar 2))) (bOr (bV (e2 gNe (eVar 7) (eVar 2))) (bV (e2 gNe (eOfL gIsi (lCons (eVar 6) (lCons (eC (.ty "bool")) lNil))) (eOfL gIsi (lCons (eVar 2) (lCons (eC (.ty "bool")) lNil))))))) (sOf (eC (.bl false)) fun t _ m => .rt t m) sNil)
    (sFor (iVal (eOfL gTupL (lCons (eVar 4) (lCons (eVar 5) lNil)))) (gN 8) (sSeq (sIf (bOr (bV (e2 gNe (eCall 1 F__law_kinds (lCons (eVar 8) lNil)) (eComp false [9] (iRange (lCons (eC (.int 17)) lNil)) (gN 9) bYes (e2 gEq (eVar 9) (eVar 3))))) (bNot (bV (eIsE q_PartsError xsl (eVar 8))))) (sOf (eC (.bl false)) fun t _ m => .rt t m) sNil)
    (sIf (bNot (bV (eIsE q_ValueError xsl (eVar 8)))) (sOf (eC (.bl false)) fun t _ m => .rt t m) sNil)))))
    (sSeq (sOf (eMk0 "NoDeed") fun t env m => .nx (env.set 8 (some t)) m)
    (sOf (eAnd (e2 gEq (eCall 1 F__law_kinds (lCons (eVar 8) lNil)) (e2 (gAdd false) (e2 (gMul false) (eOfL (gLstL false) (lCons (eC (.bl false)) lNil)) (eC (.int 16))) (eOfL (gLstL false) (lCons (eC (.bl true)) lNil)))) (eAnd (eIsE q_PartsError xsl (eVar 8)) (eIsE q_ValueError xsl (eVar 8)))) fun t _ m => .rt t m)))
theorem B_eq : B_law = sSeq (sOf (eCall 1 F__law_source (lCons (eVar 0) lNil)) fun t env m => .nx (env.set 1 (some t)) m) (sSeq (sOf (eCall 2 F__law_pick (lCons (eVar 1) (lCons (eOfL (gLstL false) (lCons (e2 gSub (eCall 2 F__law_draw (lCons (eVar 1) (lCons (eC (.int 100)) lNil))) (eC (.int 50))) (lCons (eC (.str "a b")) (lCons (eC (.str "")) (lCons (eOfL gTupL (lCons (eC (.int 1)) (lCons (eC (.int 2)) lNil))) (lCons (eC .non) (lCons (eC (.bl true)) (lCons (e2 gPow (eC (.int 10)) (eC (.int 40))) (lCons (eOfL gTupL lNil) lNil))))))))) lNil))) fun t env m => .nx (env.set 2 (some t)) m) restB) := rfl
def evA (w : Option T) (c : Option MO) (t : T) : Bool := okRt (restB [w, some (.loc 0), some t, none, none, none, none, none, none, none] [c])
theorem key0 (w : Option T) (c : Option MO) : ((List.range 10).all fun r => evA w c (.int (((0 + r : Nat) : Int) - 50))) = true := by kernel_rfl
theorem key1 (w : Option T) (c : Option MO) : ((List.range 10).all fun r => evA w c (.int (((10 + r : Nat) : Int) - 50))) = true := by kernel_rfl
theorem key2 (w : Option T) (c : Option MO) : ((List.range 10).all fun r => evA w c (.int (((20 + r : Nat) : Int) - 50))) = true := by kernel_rfl
theorem key3 (w : Option T) (c : Option MO) : ((List.range 10).all fun r => evA w c (.int (((30 + r : Nat) : Int) - 50))) = true := by kernel_rfl
theorem key4 (w : Option T) (c : Option MO) : ((List.range 10).all fun r => evA w c (.int (((40 + r : Nat) : Int) - 50))) = true := by kernel_rfl
theorem key5 (w : Option T) (c : Option MO) : ((List.range 10).all fun r => evA w c (.int (((50 + r : Nat) : Int) - 50))) = true := by kernel_rfl
theorem key6 (w : Option T) (c : Option MO) : ((List.range 10).all fun r => evA w c (.int (((60 + r : Nat) : Int) - 50))) = true := by kernel_rfl
theorem key7 (w : Option T) (c : Option MO) : ((List.range 10).all fun r => evA w c (.int (((70 + r : Nat) : Int) - 50))) = true := by kernel_rfl
theorem key8 (w : Option T) (c : Option MO) : ((List.range 10).all fun r => evA w c (.int (((80 + r : Nat) : Int) - 50))) = true := by kernel_rfl
theorem key9 (w : Option T) (c : Option MO) : ((List.range 10).all fun r => evA w c (.int (((90 + r : Nat) : Int) - 50))) = true := by kernel_rfl
theorem keyR (w : Option T) (c : Option MO) : (([.str "a b", .str "", .tup [.int 1, .int 2], .non, .bl true, .int (10 ^ 40), .tup []] : List T).all fun t => evA w c t) = true := by kernel_rfl
theorem all10 {f : Nat → Bool} (h : ((List.range 10).all f) = true) (r : Nat) (hr : r < 10) : f r = true := List.all_eq_true.mp h r (List.mem_range.mpr hr)
theorem keyI (w : Option T) (c : Option MO) (n : Nat) (hn : n < 100) : evA w c (.int ((n : Int) - 50)) = true := by
  have hr : n % 10 < 10 := Nat.mod_lt _ (by decide)
  have hq : n / 10 < 10 := by omega
  have he : n = 10 * (n / 10) + n % 10 := by omega
  have key : ∀ q r : Nat, q < 10 → r < 10 → evA w c (.int (((10 * q + r : Nat) : Int) - 50)) = true := by
    intro q r h1 h2
    match q, h1 with
    | 0, _ => exact all10 (key0 w c) r h2
    | 1, _ => exact all10 (key1 w c) r h2
    | 2, _ => exact all10 (key2 w c) r h2
    | 3, _ => exact all10 (key3 w c) r h2
    | 4, _ => exact all10 (key4 w c) r h2
    | 5, _ => exact all10 (key5 w c) r h2
    | 6, _ => exact all10 (key6 w c) r h2
    | 7, _ => exact all10 (key7 w c) r h2
    | 8, _ => exact all10 (key8 w c) r h2
    | 9, _ => exact all10 (key9 w c) r h2
    | q + 10, h => exact absurd h (by omega)
  rw [he]
  exact key _ _ hq hr
theorem law_ok (ns : List Int) : Ok (F_law [.rls (ns.map T.int)] []) fun t _ => t = .bl true := by
  unfold F_law
  rw [B_eq]
  refine ok_fn ?_
  try simp only [List.map_cons, List.map_nil, List.cons_append, List.nil_append, List.length_cons, List.length_nil, Nat.reduceAdd, Nat.reduceSub, List.replicate_succ, List.replicate_zero, List.set_cons_succ, List.set_cons_zero]
  repeat (first | ((with_reducible apply ok_var); exact rfl) | ((with_reducible apply ok_calls); exact rfl) | ((with_reducible apply ok_tupL); exact Nat.le_of_ble_eq_true rfl) | ((with_reducible apply ok_lstL); exact Nat.le_of_ble_eq_true rfl) | ((with_reducible apply ok_lstC); exact Nat.le_of_ble_eq_true rfl) | (with_reducible apply ok_e2) | (with_reducible apply ok_c) | (with_reducible apply ok_cons) | (with_reducible apply ok_nil) | (with_reducible apply ok_ofL) | (with_reducible apply ok_call) | (with_reducible apply ok_meth) | (with_reducible apply ok_bV) | (with_reducible apply ok_bNot) | (with_reducible apply ok_bAnd) | (with_reducible apply ok_bOr) | (with_reducible apply ok_eAnd) | (with_reducible apply ok_eOr) | (with_reducible apply ok_eNot) | (with_reducible apply ok_eIf) | (with_reducible apply ok_iVal) | (with_reducible apply ok_range) | (with_reducible apply ok_range2) | (with_reducible apply ok_listRange) | (with_reducible apply ok_enum) | (with_reducible apply ok_bYes) | (with_reducible apply ok_mkL) | (with_reducible apply ok_mkC) | (with_reducible apply ok_ok) | (with_reducible apply ok_addI) | (with_reducible apply ok_gtI) | (with_reducible apply ok_geI) | (with_reducible apply ok_ltI) | (with_reducible apply ok_leI) | (with_reducible apply ok_leS) | (with_reducible apply ok_eqI) | (with_reducible apply ok_neI) | (with_reducible apply ok_eqS) | (with_reducible apply ok_neS) | (with_reducible apply ok_int) | (with_reducible apply ok_lenL) | (with_reducible apply ok_lenT) | (with_reducible apply ok_tupOfL) | (with_reducible apply ok_tupOfT) | (with_reducible apply bl_mk) | (with_reducible apply it_lst) | (with_reducible apply it_tup) | (with_reducible apply it_rls) | (with_reducible apply en_lst) | (with_reducible apply en_tup) | (with_reducible apply rt_seqOf) | (with_reducible apply nx_seqOf) | (with_reducible apply rt_of) | (with_reducible apply nx_of) | (with_reducible apply nx_nx) | (with_reducible apply rt_rt) | (with_reducible apply nx_nil) | (with_reducible apply rt_seqNil) | (with_reducible apply nx_asg) | (with_reducible apply ok_isNN))
  refine source_ok fun m1 l1 hs => ?_
  repeat (first | ((with_reducible apply ok_var); exact rfl) | ((with_reducible apply ok_calls); exact rfl) | ((with_reducible apply ok_tupL); exact Nat.le_of_ble_eq_true rfl) | ((with_reducible apply ok_lstL); exact Nat.le_of_ble_eq_true rfl) | ((with_reducible apply ok_lstC); exact Nat.le_of_ble_eq_true rfl) | (with_reducible apply ok_e2) | (with_reducible apply ok_c) | (with_reducible apply ok_cons) | (with_reducible apply ok_nil) | (with_reducible apply ok_ofL) | (with_reducible apply ok_call) | (with_reducible apply ok_meth) | (with_reducible apply ok_bV) | (with_reducible apply ok_bNot) | (with_reducible apply ok_bAnd) | (with_reducible apply ok_bOr) | (with_reducible apply ok_eAnd) | (with_reducible apply ok_eOr) | (with_reducible apply ok_eNot) | (with_reducible apply ok_eIf) | (with_reducible apply ok_iVal) | (with_reducible apply ok_range) | (with_reducible apply ok_range2) | (with_reducible apply ok_listRange) | (with_reducible apply ok_enum) | (with_reducible apply ok_bYes) | (with_reducible apply ok_mkL) | (with_reducible apply ok_mkC) | (with_reducible apply ok_ok) | (with_reducible apply ok_addI) | (with_reducible apply ok_gtI) | (with_reducible apply ok_geI) | (with_reducible apply ok_ltI) | (with_reducible apply ok_leI) | (with_reducible apply ok_leS) | (with_reducible apply ok_eqI) | (with_reducible apply ok_neI) | (with_reducible apply ok_eqS) | (with_reducible apply ok_neS) | (with_reducible apply ok_int) | (with_reducible apply ok_lenL) | (with_reducible apply ok_lenT) | (with_reducible apply ok_tupOfL) | (with_reducible apply ok_tupOfT) | (with_reducible apply bl_mk) | (with_reducible apply it_lst) | (with_reducible apply it_tup) | (with_reducible apply it_rls) | (with_reducible apply en_lst) | (with_reducible apply en_tup) | (with_reducible apply rt_seqOf) | (with_reducible apply nx_seqOf) | (with_reducible apply rt_of) | (with_reducible apply nx_of) | (with_reducible apply nx_nx) | (with_reducible apply rt_rt) | (with_reducible apply nx_nil) | (with_reducible apply rt_seqNil) | (with_reducible apply nx_asg) | (with_reducible apply ok_isNN))
  refine draw1 (c := 0) ⟨hs, l1⟩ (by decide) (by decide) (by decide) fun d m2 d0 d1 h2 => ?_
  repeat (first | ((with_reducible apply ok_var); exact rfl) | ((with_reducible apply ok_calls); exact rfl) | ((with_reducible apply ok_tupL); exact Nat.le_of_ble_eq_true rfl) | ((with_reducible apply ok_lstL); exact Nat.le_of_ble_eq_true rfl) | ((with_reducible apply ok_lstC); exact Nat.le_of_ble_eq_true rfl) | (with_reducible apply ok_e2) | (with_reducible apply ok_c) | (with_reducible apply ok_cons) | (with_reducible apply ok_nil) | (with_reducible apply ok_ofL) | (with_reducible apply ok_call) | (with_reducible apply ok_meth) | (with_reducible apply ok_bV) | (with_reducible apply ok_bNot) | (with_reducible apply ok_bAnd) | (with_reducible apply ok_bOr) | (with_reducible apply ok_eAnd) | (with_reducible apply ok_eOr) | (with_reducible apply ok_eNot) | (with_reducible apply ok_eIf) | (with_reducible apply ok_iVal) | (with_reducible apply ok_range) | (with_reducible apply ok_range2) | (with_reducible apply ok_listRange) | (with_reducible apply ok_enum) | (with_reducible apply ok_bYes) | (with_reducible apply ok_mkL) | (with_reducible apply ok_mkC) | (with_reducible apply ok_ok) | (with_reducible apply ok_addI) | (with_reducible apply ok_gtI) | (with_reducible apply ok_geI) | (with_reducible apply ok_ltI) | (with_reducible apply ok_leI) | (with_reducible apply ok_leS) | (with_reducible apply ok_eqI) | (with_reducible apply ok_neI) | (with_reducible apply ok_eqS) | (with_reducible apply ok_neS) | (with_reducible apply ok_int) | (with_reducible apply ok_lenL) | (with_reducible apply ok_lenT) | (with_reducible apply ok_tupOfL) | (with_reducible apply ok_tupOfT) | (with_reducible apply bl_mk) | (with_reducible apply it_lst) | (with_reducible apply it_tup) | (with_reducible apply it_rls) | (with_reducible apply en_lst) | (with_reducible apply en_tup) | (with_reducible apply rt_seqOf) | (with_reducible apply nx_seqOf) | (with_reducible apply rt_of) | (with_reducible apply nx_of) | (with_reducible apply nx_nx) | (with_reducible apply rt_rt) | (with_reducible apply nx_nil) | (with_reducible apply rt_seqNil) | (with_reducible apply nx_asg) | (with_reducible apply ok_isNN))
  refine ok_subI ?_
  repeat (first | ((with_reducible apply ok_var); exact rfl) | ((with_reducible apply ok_calls); exact rfl) | ((with_reducible apply ok_tupL); exact Nat.le_of_ble_eq_true rfl) | ((with_reducible apply ok_lstL); exact Nat.le_of_ble_eq_true rfl) | ((with_reducible apply ok_lstC); exact Nat.le_of_ble_eq_true rfl) | (with_reducible apply ok_e2) | (with_reducible apply ok_c) | (with_reducible apply ok_cons) | (with_reducible apply ok_nil) | (with_reducible apply ok_ofL) | (with_reducible apply ok_call) | (with_reducible apply ok_meth) | (with_reducible apply ok_bV) | (with_reducible apply ok_bNot) | (with_reducible apply ok_bAnd) | (with_reducible apply ok_bOr) | (with_reducible apply ok_eAnd) | (with_reducible apply ok_eOr) | (with_reducible apply ok_eNot) | (with_reducible apply ok_eIf) | (with_reducible apply ok_iVal) | (with_reducible apply ok_range) | (with_reducible apply ok_range2) | (with_reducible apply ok_listRange) | (with_reducible apply ok_enum) | (with_reducible apply ok_bYes) | (with_reducible apply ok_mkL) | (with_reducible apply ok_mkC) | (with_reducible apply ok_ok) | (with_reducible apply ok_addI) | (with_reducible apply ok_gtI) | (with_reducible apply ok_geI) | (with_reducible apply ok_ltI) | (with_reducible apply ok_leI) | (with_reducible apply ok_leS) | (with_reducible apply ok_eqI) | (with_reducible apply ok_neI) | (with_reducible apply ok_eqS) | (with_reducible apply ok_neS) | (with_reducible apply ok_int) | (with_reducible apply ok_lenL) | (with_reducible apply ok_lenT) | (with_reducible apply ok_tupOfL) | (with_reducible apply ok_tupOfT) | (with_reducible apply bl_mk) | (with_reducible apply it_lst) | (with_reducible apply it_tup) | (with_reducible apply it_rls) | (with_reducible apply en_lst) | (with_reducible apply en_tup) | (with_reducible apply rt_seqOf) | (with_reducible apply nx_seqOf) | (with_reducible apply rt_of) | (with_reducible apply nx_of) | (with_reducible apply nx_nx) | (with_reducible apply rt_rt) | (with_reducible apply nx_nil) | (with_reducible apply rt_seqNil) | (with_reducible apply nx_asg) | (with_reducible apply ok_isNN))
  refine ok_powI (by decide) (by decide) (by decide) ?_
  repeat (first | ((with_reducible apply ok_var); exact rfl) | ((with_reducible apply ok_calls); exact rfl) | ((with_reducible apply ok_tupL); exact Nat.le_of_ble_eq_true rfl) | ((with_reducible apply ok_lstL); exact Nat.le_of_ble_eq_true rfl) | ((with_reducible apply ok_lstC); exact Nat.le_of_ble_eq_true rfl) | (with_reducible apply ok_e2) | (with_reducible apply ok_c) | (with_reducible apply ok_cons) | (with_reducible apply ok_nil) | (with_reducible apply ok_ofL) | (with_reducible apply ok_call) | (with_reducible apply ok_meth) | (with_reducible apply ok_bV) | (with_reducible apply ok_bNot) | (with_reducible apply ok_bAnd) | (with_reducible apply ok_bOr) | (with_reducible apply ok_eAnd) | (with_reducible apply ok_eOr) | (with_reducible apply ok_eNot) | (with_reducible apply ok_eIf) | (with_reducible apply ok_iVal) | (with_reducible apply ok_range) | (with_reducible apply ok_range2) | (with_reducible apply ok_listRange) | (with_reducible apply ok_enum) | (with_reducible apply ok_bYes) | (with_reducible apply ok_mkL) | (with_reducible apply ok_mkC) | (with_reducible apply ok_ok) | (with_reducible apply ok_addI) | (with_reducible apply ok_gtI) | (with_reducible apply ok_geI) | (with_reducible apply ok_ltI) | (with_reducible apply ok_leI) | (with_reducible apply ok_leS) | (with_reducible apply ok_eqI) | (with_reducible apply ok_neI) | (with_reducible apply ok_eqS) | (with_reducible apply ok_neS) | (with_reducible apply ok_int) | (with_reducible apply ok_lenL) | (with_reducible apply ok_lenT) | (with_reducible apply ok_tupOfL) | (with_reducible apply ok_tupOfT) | (with_reducible apply bl_mk) | (with_reducible apply it_lst) | (with_reducible apply it_tup) | (with_reducible apply it_rls) | (with_reducible apply en_lst) | (with_reducible apply en_tup) | (with_reducible apply rt_seqOf) | (with_reducible apply nx_seqOf) | (with_reducible apply rt_of) | (with_reducible apply nx_of) | (with_reducible apply nx_nx) | (with_reducible apply rt_rt) | (with_reducible apply nx_nil) | (with_reducible apply rt_seqNil) | (with_reducible apply nx_asg) | (with_reducible apply ok_isNN))
  refine pick1 h2 (by decide) (Nat.lt_of_sub_eq_succ rfl) (Nat.lt_of_sub_eq_succ rfl) fun t m3 ht h3 => ?_
  repeat (first | ((with_reducible apply ok_var); exact rfl) | ((with_reducible apply ok_calls); exact rfl) | ((with_reducible apply ok_tupL); exact Nat.le_of_ble_eq_true rfl) | ((with_reducible apply ok_lstL); exact Nat.le_of_ble_eq_true rfl) | ((with_reducible apply ok_lstC); exact Nat.le_of_ble_eq_true rfl) | (with_reducible apply ok_e2) | (with_reducible apply ok_c) | (with_reducible apply ok_cons) | (with_reducible apply ok_nil) | (with_reducible apply ok_ofL) | (with_reducible apply ok_call) | (with_reducible apply ok_meth) | (with_reducible apply ok_bV) | (with_reducible apply ok_bNot) | (with_reducible apply ok_bAnd) | (with_reducible apply ok_bOr) | (with_reducible apply ok_eAnd) | (with_reducible apply ok_eOr) | (with_reducible apply ok_eNot) | (with_reducible apply ok_eIf) | (with_reducible apply ok_iVal) | (with_reducible apply ok_range) | (with_reducible apply ok_range2) | (with_reducible apply ok_listRange) | (with_reducible apply ok_enum) | (with_reducible apply ok_bYes) | (with_reducible apply ok_mkL) | (with_reducible apply ok_mkC) | (with_reducible apply ok_ok) | (with_reducible apply ok_addI) | (with_reducible apply ok_gtI) | (with_reducible apply ok_geI) | (with_reducible apply ok_ltI) | (with_reducible apply ok_leI) | (with_reducible apply ok_leS) | (with_reducible apply ok_eqI) | (with_reducible apply ok_neI) | (with_reducible apply ok_eqS) | (with_reducible apply ok_neS) | (with_reducible apply ok_int) | (with_reducible apply ok_lenL) | (with_reducible apply ok_lenT) | (with_reducible apply ok_tupOfL) | (with_reducible apply ok_tupOfT) | (with_reducible apply bl_mk) | (with_reducible apply it_lst) | (with_reducible apply it_tup) | (with_reducible apply it_rls) | (with_reducible apply en_lst) | (with_reducible apply en_tup) | (with_reducible apply rt_seqOf) | (with_reducible apply nx_seqOf) | (with_reducible apply rt_of) | (with_reducible apply nx_of) | (with_reducible apply nx_nx) | (with_reducible apply rt_rt) | (with_reducible apply nx_nil) | (with_reducible apply rt_seqNil) | (with_reducible apply nx_asg) | (with_reducible apply ok_isNN))
  obtain ⟨g, sd, k, rfl⟩ := h3.eq
  try simp only [List.map_cons, List.map_nil, List.cons_append, List.nil_append, List.length_cons, List.length_nil, Nat.reduceAdd, Nat.reduceSub, List.replicate_succ, List.replicate_zero, List.set_cons_succ, List.set_cons_zero]
  have ha : evA (some (.rls (ns.map T.int))) (some (.lst [.int g, .int sd, .int k])) t = true := by
    simp only [List.mem_cons, List.not_mem_nil, or_false] at ht
    rcases ht with rfl | ht
    · have := keyI (some (.rls (ns.map T.int))) (some (.lst [.int g, .int sd, .int k])) d.toNat (by omega)
      rwa [Int.toNat_of_nonneg d0] at this
    · refine List.all_eq_true.mp (keyR _ _) t ?_
      simp only [List.mem_cons, List.not_mem_nil, or_false]
      exact ht
  exact rt_bool ha
end M

namespace M
open PySem hiding Env
open L2 Ev G
theorem law_true (ns : List Int) (_ : ns.length ≤ 63) : ∃ m, F_law [.rls (ns.map T.int)] [] = .ok (.bl true) m := by
  obtain ⟨t, m, e, rfl⟩ := law_ok ns
  exact ⟨m, e⟩
end M

open PySem L2 Ev in
theorem G.law_true : ∀ ns : List Int, ns.length ≤ 63 → ∃ m, G.F_law [.rls (ns.map T.int)] [] = .ok (.bl true) m := M.law_true

open PySem PySem.W PyProof.Rows
set_option maxRecDepth 100000 in
set_option maxHeartbeats 0 in
theorem PySem.Challenge.cw_partstold_k19_errors_made_holds : PySem.Challenge.rw_partstold_k19_errors_made.Holds := by
  w_on; o_law; k_head; (case hw => w_witness2)
  k_fill
  refine G.walk (l := PySem.Challenge.rw_partstold_k19_errors_made) rfl rfl (fun w h Y => PySem.W.kIn_of Y) ?F
  case F =>
    intro w mg fa h KX HG hmg
    refine' G.all_mk G.law_true KX HG hmg ?aC_BadBook ?lx_BadBook ?rv_BadBook ?sa_BadBook ?ex_BadBook ?ty_BadBook ?kc_BadBook ?no_BadBook ?ga_BadBook ?gg_BadBook ?hd_BadBook ?xa_BadBook ?xm_BadBook ?xi_BadBook_BadBook ?xi_BadBranch_BadBook ?xi_BadKind_BadBook ?xi_BadName_BadBook ?xi_BadPart_BadBook ?xi_BadState_BadBook ?xi_BadText_BadBook ?xi_Below_BadBook ?xi_HasParts_BadBook ?xi_LastPart_BadBook ?xi_NoDeed_BadBook ?xi_NoMark_BadBook ?xi_NoParts_BadBook ?xi_NoTask_BadBook ?xi_PartsError_BadBook ?xi_Taken_BadBook ?xi_TopTask_BadBook ?xi_UnknownKind_BadBook ?xi_ValueError_BadBook ?aC_BadBranch ?lx_BadBranch ?rv_BadBranch ?sa_BadBranch ?ex_BadBranch ?ty_BadBranch ?kc_BadBranch ?no_BadBranch ?ga_BadBranch ?gg_BadBranch ?hd_BadBranch ?xa_BadBranch ?xm_BadBranch ?xi_BadBook_BadBranch ?xi_BadBranch_BadBranch ?xi_BadKind_BadBranch ?xi_BadName_BadBranch ?xi_BadPart_BadBranch ?xi_BadState_BadBranch ?xi_BadText_BadBranch ?xi_Below_BadBranch ?xi_HasParts_BadBranch ?xi_LastPart_BadBranch ?xi_NoDeed_BadBranch ?xi_NoMark_BadBranch ?xi_NoParts_BadBranch ?xi_NoTask_BadBranch ?xi_PartsError_BadBranch ?xi_Taken_BadBranch ?xi_TopTask_BadBranch ?xi_UnknownKind_BadBranch ?xi_ValueError_BadBranch ?aC_BadKind ?lx_BadKind ?rv_BadKind ?sa_BadKind ?ex_BadKind ?ty_BadKind ?kc_BadKind ?no_BadKind ?ga_BadKind ?gg_BadKind ?hd_BadKind ?xa_BadKind ?xm_BadKind ?xi_BadBook_BadKind ?xi_BadBranch_BadKind ?xi_BadKind_BadKind ?xi_BadName_BadKind ?xi_BadPart_BadKind ?xi_BadState_BadKind ?xi_BadText_BadKind ?xi_Below_BadKind ?xi_HasParts_BadKind ?xi_LastPart_BadKind ?xi_NoDeed_BadKind ?xi_NoMark_BadKind ?xi_NoParts_BadKind ?xi_NoTask_BadKind ?xi_PartsError_BadKind ?xi_Taken_BadKind ?xi_TopTask_BadKind ?xi_UnknownKind_BadKind ?xi_ValueError_BadKind ?aC_BadName ?lx_BadName ?rv_BadName ?sa_BadName ?ex_BadName ?ty_BadName ?kc_BadName ?no_BadName ?ga_BadName ?gg_BadName ?hd_BadName ?xa_BadName ?xm_BadName ?xi_BadBook_BadName ?xi_BadBranch_BadName ?xi_BadKind_BadName ?xi_BadName_BadName ?xi_BadPart_BadName ?xi_BadState_BadName ?xi_BadText_BadName ?xi_Below_BadName ?xi_HasParts_BadName ?xi_LastPart_BadName ?xi_NoDeed_BadName ?xi_NoMark_BadName ?xi_NoParts_BadName ?xi_NoTask_BadName ?xi_PartsError_BadName ?xi_Taken_BadName ?xi_TopTask_BadName ?xi_UnknownKind_BadName ?xi_ValueError_BadName ?aC_BadPart ?lx_BadPart ?rv_BadPart ?sa_BadPart ?ex_BadPart ?ty_BadPart ?kc_BadPart ?no_BadPart ?ga_BadPart ?gg_BadPart ?hd_BadPart ?xa_BadPart ?xm_BadPart ?xi_BadBook_BadPart ?xi_BadBranch_BadPart ?xi_BadKind_BadPart ?xi_BadName_BadPart ?xi_BadPart_BadPart ?xi_BadState_BadPart ?xi_BadText_BadPart ?xi_Below_BadPart ?xi_HasParts_BadPart ?xi_LastPart_BadPart ?xi_NoDeed_BadPart ?xi_NoMark_BadPart ?xi_NoParts_BadPart ?xi_NoTask_BadPart ?xi_PartsError_BadPart ?xi_Taken_BadPart ?xi_TopTask_BadPart ?xi_UnknownKind_BadPart ?xi_ValueError_BadPart ?aC_BadState ?lx_BadState ?rv_BadState ?sa_BadState ?ex_BadState ?ty_BadState ?kc_BadState ?no_BadState ?ga_BadState ?gg_BadState ?hd_BadState ?xa_BadState ?xm_BadState ?xi_BadBook_BadState ?xi_BadBranch_BadState ?xi_BadKind_BadState ?xi_BadName_BadState ?xi_BadPart_BadState ?xi_BadState_BadState ?xi_BadText_BadState ?xi_Below_BadState ?xi_HasParts_BadState ?xi_LastPart_BadState ?xi_NoDeed_BadState ?xi_NoMark_BadState ?xi_NoParts_BadState ?xi_NoTask_BadState ?xi_PartsError_BadState ?xi_Taken_BadState ?xi_TopTask_BadState ?xi_UnknownKind_BadState ?xi_ValueError_BadState ?aC_BadText ?lx_BadText ?rv_BadText ?sa_BadText ?ex_BadText ?ty_BadText ?kc_BadText ?no_BadText ?ga_BadText ?gg_BadText ?hd_BadText ?xa_BadText ?xm_BadText ?xi_BadBook_BadText ?xi_BadBranch_BadText ?xi_BadKind_BadText ?xi_BadName_BadText ?xi_BadPart_BadText ?xi_BadState_BadText ?xi_BadText_BadText ?xi_Below_BadText ?xi_HasParts_BadText ?xi_LastPart_BadText ?xi_NoDeed_BadText ?xi_NoMark_BadText ?xi_NoParts_BadText ?xi_NoTask_BadText ?xi_PartsError_BadText ?xi_Taken_BadText ?xi_TopTask_BadText ?xi_UnknownKind_BadText ?xi_ValueError_BadText ?aC_Below ?lx_Below ?rv_Below ?sa_Below ?ex_Below ?ty_Below ?kc_Below ?no_Below ?ga_Below ?gg_Below ?hd_Below ?xa_Below ?xm_Below ?xi_BadBook_Below ?xi_BadBranch_Below ?xi_BadKind_Below ?xi_BadName_Below ?xi_BadPart_Below ?xi_BadState_Below ?xi_BadText_Below ?xi_Below_Below ?xi_HasParts_Below ?xi_LastPart_Below ?xi_NoDeed_Below ?xi_NoMark_Below ?xi_NoParts_Below ?xi_NoTask_Below ?xi_PartsError_Below ?xi_Taken_Below ?xi_TopTask_Below ?xi_UnknownKind_Below ?xi_ValueError_Below ?aC_HasParts ?lx_HasParts ?rv_HasParts ?sa_HasParts ?ex_HasParts ?ty_HasParts ?kc_HasParts ?no_HasParts ?ga_HasParts ?gg_HasParts ?hd_HasParts ?xa_HasParts ?xm_HasParts ?xi_BadBook_HasParts ?xi_BadBranch_HasParts ?xi_BadKind_HasParts ?xi_BadName_HasParts ?xi_BadPart_HasParts ?xi_BadState_HasParts ?xi_BadText_HasParts ?xi_Below_HasParts ?xi_HasParts_HasParts ?xi_LastPart_HasParts ?xi_NoDeed_HasParts ?xi_NoMark_HasParts ?xi_NoParts_HasParts ?xi_NoTask_HasParts ?xi_PartsError_HasParts ?xi_Taken_HasParts ?xi_TopTask_HasParts ?xi_UnknownKind_HasParts ?xi_ValueError_HasParts ?aC_LastPart ?lx_LastPart ?rv_LastPart ?sa_LastPart ?ex_LastPart ?ty_LastPart ?kc_LastPart ?no_LastPart ?ga_LastPart ?gg_LastPart ?hd_LastPart ?xa_LastPart ?xm_LastPart ?xi_BadBook_LastPart ?xi_BadBranch_LastPart ?xi_BadKind_LastPart ?xi_BadName_LastPart ?xi_BadPart_LastPart ?xi_BadState_LastPart ?xi_BadText_LastPart ?xi_Below_LastPart ?xi_HasParts_LastPart ?xi_LastPart_LastPart ?xi_NoDeed_LastPart ?xi_NoMark_LastPart ?xi_NoParts_LastPart ?xi_NoTask_LastPart ?xi_PartsError_LastPart ?xi_Taken_LastPart ?xi_TopTask_LastPart ?xi_UnknownKind_LastPart ?xi_ValueError_LastPart ?aC_NoMark ?lx_NoMark ?rv_NoMark ?sa_NoMark ?ex_NoMark ?ty_NoMark ?kc_NoMark ?no_NoMark ?ga_NoMark ?gg_NoMark ?hd_NoMark ?xa_NoMark ?xm_NoMark ?xi_BadBook_NoMark ?xi_BadBranch_NoMark ?xi_BadKind_NoMark ?xi_BadName_NoMark ?xi_BadPart_NoMark ?xi_BadState_NoMark ?xi_BadText_NoMark ?xi_Below_NoMark ?xi_HasParts_NoMark ?xi_LastPart_NoMark ?xi_NoDeed_NoMark ?xi_NoMark_NoMark ?xi_NoParts_NoMark ?xi_NoTask_NoMark ?xi_PartsError_NoMark ?xi_Taken_NoMark ?xi_TopTask_NoMark ?xi_UnknownKind_NoMark ?xi_ValueError_NoMark ?aC_NoParts ?lx_NoParts ?rv_NoParts ?sa_NoParts ?ex_NoParts ?ty_NoParts ?kc_NoParts ?no_NoParts ?ga_NoParts ?gg_NoParts ?hd_NoParts ?xa_NoParts ?xm_NoParts ?xi_BadBook_NoParts ?xi_BadBranch_NoParts ?xi_BadKind_NoParts ?xi_BadName_NoParts ?xi_BadPart_NoParts ?xi_BadState_NoParts ?xi_BadText_NoParts ?xi_Below_NoParts ?xi_HasParts_NoParts ?xi_LastPart_NoParts ?xi_NoDeed_NoParts ?xi_NoMark_NoParts ?xi_NoParts_NoParts ?xi_NoTask_NoParts ?xi_PartsError_NoParts ?xi_Taken_NoParts ?xi_TopTask_NoParts ?xi_UnknownKind_NoParts ?xi_ValueError_NoParts ?aC_NoTask ?lx_NoTask ?rv_NoTask ?sa_NoTask ?ex_NoTask ?ty_NoTask ?kc_NoTask ?no_NoTask ?ga_NoTask ?gg_NoTask ?hd_NoTask ?xa_NoTask ?xm_NoTask ?xi_BadBook_NoTask ?xi_BadBranch_NoTask ?xi_BadKind_NoTask ?xi_BadName_NoTask ?xi_BadPart_NoTask ?xi_BadState_NoTask ?xi_BadText_NoTask ?xi_Below_NoTask ?xi_HasParts_NoTask ?xi_LastPart_NoTask ?xi_NoDeed_NoTask ?xi_NoMark_NoTask ?xi_NoParts_NoTask ?xi_NoTask_NoTask ?xi_PartsError_NoTask ?xi_Taken_NoTask ?xi_TopTask_NoTask ?xi_UnknownKind_NoTask ?xi_ValueError_NoTask ?aC_Taken ?lx_Taken ?rv_Taken ?sa_Taken ?ex_Taken ?ty_Taken ?kc_Taken ?no_Taken ?ga_Taken ?gg_Taken ?hd_Taken ?xa_Taken ?xm_Taken ?xi_BadBook_Taken ?xi_BadBranch_Taken ?xi_BadKind_Taken ?xi_BadName_Taken ?xi_BadPart_Taken ?xi_BadState_Taken ?xi_BadText_Taken ?xi_Below_Taken ?xi_HasParts_Taken ?xi_LastPart_Taken ?xi_NoDeed_Taken ?xi_NoMark_Taken ?xi_NoParts_Taken ?xi_NoTask_Taken ?xi_PartsError_Taken ?xi_Taken_Taken ?xi_TopTask_Taken ?xi_UnknownKind_Taken ?xi_ValueError_Taken ?aC_TopTask ?lx_TopTask ?rv_TopTask ?sa_TopTask ?ex_TopTask ?ty_TopTask ?kc_TopTask ?no_TopTask ?ga_TopTask ?gg_TopTask ?hd_TopTask ?xa_TopTask ?xm_TopTask ?xi_BadBook_TopTask ?xi_BadBranch_TopTask ?xi_BadKind_TopTask ?xi_BadName_TopTask ?xi_BadPart_TopTask ?xi_BadState_TopTask ?xi_BadText_TopTask ?xi_Below_TopTask ?xi_HasParts_TopTask ?xi_LastPart_TopTask ?xi_NoDeed_TopTask ?xi_NoMark_TopTask ?xi_NoParts_TopTask ?xi_NoTask_TopTask ?xi_PartsError_TopTask ?xi_Taken_TopTask ?xi_TopTask_TopTask ?xi_UnknownKind_TopTask ?xi_ValueError_TopTask ?aC_UnknownKind ?lx_UnknownKind ?rv_UnknownKind ?sa_UnknownKind ?ex_UnknownKind ?ty_UnknownKind ?kc_UnknownKind ?no_UnknownKind ?ga_UnknownKind ?gg_UnknownKind ?hd_UnknownKind ?xa_UnknownKind ?xm_UnknownKind ?xi_BadBook_UnknownKind ?xi_BadBranch_UnknownKind ?xi_BadKind_UnknownKind ?xi_BadName_UnknownKind ?xi_BadPart_UnknownKind ?xi_BadState_UnknownKind ?xi_BadText_UnknownKind ?xi_Below_UnknownKind ?xi_HasParts_UnknownKind ?xi_LastPart_UnknownKind ?xi_NoDeed_UnknownKind ?xi_NoMark_UnknownKind ?xi_NoParts_UnknownKind ?xi_NoTask_UnknownKind ?xi_PartsError_UnknownKind ?xi_Taken_UnknownKind ?xi_TopTask_UnknownKind ?xi_UnknownKind_UnknownKind ?xi_ValueError_UnknownKind ?aC_NoDeed ?lx_NoDeed ?rv_NoDeed ?sa_NoDeed ?ex_NoDeed ?ty_NoDeed ?kc_NoDeed ?ga_NoDeed ?gg_NoDeed ?hd_NoDeed ?in_NoDeed ?xa_NoDeed ?xm_NoDeed ?xi_BadBook_NoDeed ?xi_BadBranch_NoDeed ?xi_BadKind_NoDeed ?xi_BadName_NoDeed ?xi_BadPart_NoDeed ?xi_BadState_NoDeed ?xi_BadText_NoDeed ?xi_Below_NoDeed ?xi_HasParts_NoDeed ?xi_LastPart_NoDeed ?xi_NoDeed_NoDeed ?xi_NoMark_NoDeed ?xi_NoParts_NoDeed ?xi_NoTask_NoDeed ?xi_PartsError_NoDeed ?xi_Taken_NoDeed ?xi_TopTask_NoDeed ?xi_UnknownKind_NoDeed ?xi_ValueError_NoDeed ?aC_PartsError ?ic3 ?ic4 ?a__law_draw ?l__law_draw ?c__law_draw ?k__law_draw ?a__law_kinds ?l__law_kinds ?c__law_kinds ?k__law_kinds ?a_BadBook___init__ ?tf_BadBook ?l_BadBook___init__ ?c_BadBook___init__ ?k_BadBook___init__ ?a_BadBranch___init__ ?tf_BadBranch ?l_BadBranch___init__ ?c_BadBranch___init__ ?k_BadBranch___init__ ?a_BadKind___init__ ?tf_BadKind ?l_BadKind___init__ ?c_BadKind___init__ ?k_BadKind___init__ ?a_BadName___init__ ?tf_BadName ?l_BadName___init__ ?c_BadName___init__ ?k_BadName___init__ ?a_BadPart___init__ ?tf_BadPart ?l_BadPart___init__ ?c_BadPart___init__ ?k_BadPart___init__ ?a_BadState___init__ ?tf_BadState ?l_BadState___init__ ?c_BadState___init__ ?k_BadState___init__ ?a_BadText___init__ ?tf_BadText ?l_BadText___init__ ?c_BadText___init__ ?k_BadText___init__ ?a_Below___init__ ?tf_Below ?l_Below___init__ ?c_Below___init__ ?k_Below___init__ ?a_HasParts___init__ ?tf_HasParts ?l_HasParts___init__ ?c_HasParts___init__ ?k_HasParts___init__ ?a_LastPart___init__ ?tf_LastPart ?l_LastPart___init__ ?c_LastPart___init__ ?k_LastPart___init__ ?a_NoMark___init__ ?tf_NoMark ?l_NoMark___init__ ?c_NoMark___init__ ?k_NoMark___init__ ?a_NoParts___init__ ?tf_NoParts ?l_NoParts___init__ ?c_NoParts___init__ ?k_NoParts___init__ ?a_NoTask___init__ ?tf_NoTask ?l_NoTask___init__ ?c_NoTask___init__ ?k_NoTask___init__ ?a_Taken___init__ ?tf_Taken ?l_Taken___init__ ?c_Taken___init__ ?k_Taken___init__ ?a_TopTask___init__ ?tf_TopTask ?l_TopTask___init__ ?c_TopTask___init__ ?k_TopTask___init__ ?a_UnknownKind___init__ ?tf_UnknownKind ?l_UnknownKind___init__ ?c_UnknownKind___init__ ?k_UnknownKind___init__ ?a__law_made ?l__law_made ?c__law_made ?k__law_made ?a__law_pick ?l__law_pick ?c__law_pick ?k__law_pick ?a__law_source ?l__law_source ?c__law_source ?k__law_source ?a_law ?l_law ?c_law ?k_law ?z_ValueError ?z_bool ?z_enumerate ?z_int ?z_isinstance ?z_len ?z_range
    (case aC_BadBook => k_is); (case lx_BadBook => k_is); (case rv_BadBook => first | rfl | decide +kernel); (case sa_BadBook => k_is); (case ex_BadBook => k_is); (case ty_BadBook => k_is)
    (case kc_BadBook => k_is); (case no_BadBook => k_is); (case ga_BadBook => k_is); (case gg_BadBook => k_is); (case hd_BadBook => k_is); (case xa_BadBook => k_is)
    (case xm_BadBook => k_is); (case aC_BadBranch => k_is); (case lx_BadBranch => k_is); (case rv_BadBranch => first | rfl | decide +kernel); (case sa_BadBranch => k_is); (case ex_BadBranch => k_is)
    (case ty_BadBranch => k_is); (case kc_BadBranch => k_is); (case no_BadBranch => k_is); (case ga_BadBranch => k_is); (case gg_BadBranch => k_is); (case hd_BadBranch => k_is)
    (case xa_BadBranch => k_is); (case xm_BadBranch => k_is); (case aC_BadKind => k_is); (case lx_BadKind => k_is); (case rv_BadKind => first | rfl | decide +kernel); (case sa_BadKind => k_is)
    (case ex_BadKind => k_is); (case ty_BadKind => k_is); (case kc_BadKind => k_is); (case no_BadKind => k_is); (case ga_BadKind => k_is); (case gg_BadKind => k_is)
    (case hd_BadKind => k_is); (case xa_BadKind => k_is); (case xm_BadKind => k_is); (case aC_BadName => k_is); (case lx_BadName => k_is); (case rv_BadName => first | rfl | decide +kernel)
    (case sa_BadName => k_is); (case ex_BadName => k_is); (case ty_BadName => k_is); (case kc_BadName => k_is); (case no_BadName => k_is); (case ga_BadName => k_is)
    (case gg_BadName => k_is); (case hd_BadName => k_is); (case xa_BadName => k_is); (case xm_BadName => k_is); (case aC_BadPart => k_is); (case lx_BadPart => k_is)
    (case rv_BadPart => first | rfl | decide +kernel); (case sa_BadPart => k_is); (case ex_BadPart => k_is); (case ty_BadPart => k_is); (case kc_BadPart => k_is); (case no_BadPart => k_is)
    (case ga_BadPart => k_is); (case gg_BadPart => k_is); (case hd_BadPart => k_is); (case xa_BadPart => k_is); (case xm_BadPart => k_is); (case aC_BadState => k_is)
    (case lx_BadState => k_is); (case rv_BadState => first | rfl | decide +kernel); (case sa_BadState => k_is); (case ex_BadState => k_is); (case ty_BadState => k_is); (case kc_BadState => k_is)
    (case no_BadState => k_is); (case ga_BadState => k_is); (case gg_BadState => k_is); (case hd_BadState => k_is); (case xa_BadState => k_is); (case xm_BadState => k_is)
    (case aC_BadText => k_is); (case lx_BadText => k_is); (case rv_BadText => first | rfl | decide +kernel); (case sa_BadText => k_is); (case ex_BadText => k_is); (case ty_BadText => k_is)
    (case kc_BadText => k_is); (case no_BadText => k_is); (case ga_BadText => k_is); (case gg_BadText => k_is); (case hd_BadText => k_is); (case xa_BadText => k_is)
    (case xm_BadText => k_is); (case aC_Below => k_is); (case lx_Below => k_is); (case rv_Below => first | rfl | decide +kernel); (case sa_Below => k_is); (case ex_Below => k_is)
    (case ty_Below => k_is); (case kc_Below => k_is); (case no_Below => k_is); (case ga_Below => k_is); (case gg_Below => k_is); (case hd_Below => k_is)
    (case xa_Below => k_is); (case xm_Below => k_is); (case aC_HasParts => k_is); (case lx_HasParts => k_is); (case rv_HasParts => first | rfl | decide +kernel); (case sa_HasParts => k_is)
    (case ex_HasParts => k_is); (case ty_HasParts => k_is); (case kc_HasParts => k_is); (case no_HasParts => k_is); (case ga_HasParts => k_is); (case gg_HasParts => k_is)
    (case hd_HasParts => k_is); (case xa_HasParts => k_is); (case xm_HasParts => k_is); (case aC_LastPart => k_is); (case lx_LastPart => k_is); (case rv_LastPart => first | rfl | decide +kernel)
    (case sa_LastPart => k_is); (case ex_LastPart => k_is); (case ty_LastPart => k_is); (case kc_LastPart => k_is); (case no_LastPart => k_is); (case ga_LastPart => k_is)
    (case gg_LastPart => k_is); (case hd_LastPart => k_is); (case xa_LastPart => k_is); (case xm_LastPart => k_is); (case aC_NoMark => k_is); (case lx_NoMark => k_is)
    (case rv_NoMark => first | rfl | decide +kernel); (case sa_NoMark => k_is); (case ex_NoMark => k_is); (case ty_NoMark => k_is); (case kc_NoMark => k_is); (case no_NoMark => k_is)
    (case ga_NoMark => k_is); (case gg_NoMark => k_is); (case hd_NoMark => k_is); (case xa_NoMark => k_is); (case xm_NoMark => k_is); (case aC_NoParts => k_is)
    (case lx_NoParts => k_is); (case rv_NoParts => first | rfl | decide +kernel); (case sa_NoParts => k_is); (case ex_NoParts => k_is); (case ty_NoParts => k_is); (case kc_NoParts => k_is)
    (case no_NoParts => k_is); (case ga_NoParts => k_is); (case gg_NoParts => k_is); (case hd_NoParts => k_is); (case xa_NoParts => k_is); (case xm_NoParts => k_is)
    (case aC_NoTask => k_is); (case lx_NoTask => k_is); (case rv_NoTask => first | rfl | decide +kernel); (case sa_NoTask => k_is); (case ex_NoTask => k_is); (case ty_NoTask => k_is)
    (case kc_NoTask => k_is); (case no_NoTask => k_is); (case ga_NoTask => k_is); (case gg_NoTask => k_is); (case hd_NoTask => k_is); (case xa_NoTask => k_is)
    (case xm_NoTask => k_is); (case aC_Taken => k_is); (case lx_Taken => k_is); (case rv_Taken => first | rfl | decide +kernel); (case sa_Taken => k_is); (case ex_Taken => k_is)
    (case ty_Taken => k_is); (case kc_Taken => k_is); (case no_Taken => k_is); (case ga_Taken => k_is); (case gg_Taken => k_is); (case hd_Taken => k_is)
    (case xa_Taken => k_is); (case xm_Taken => k_is); (case aC_TopTask => k_is); (case lx_TopTask => k_is); (case rv_TopTask => first | rfl | decide +kernel); (case sa_TopTask => k_is)
    (case ex_TopTask => k_is); (case ty_TopTask => k_is); (case kc_TopTask => k_is); (case no_TopTask => k_is); (case ga_TopTask => k_is); (case gg_TopTask => k_is)
    (case hd_TopTask => k_is); (case xa_TopTask => k_is); (case xm_TopTask => k_is); (case aC_UnknownKind => k_is); (case lx_UnknownKind => k_is); (case rv_UnknownKind => first | rfl | decide +kernel)
    (case sa_UnknownKind => k_is); (case ex_UnknownKind => k_is); (case ty_UnknownKind => k_is); (case kc_UnknownKind => k_is); (case no_UnknownKind => k_is); (case ga_UnknownKind => k_is)
    (case gg_UnknownKind => k_is); (case hd_UnknownKind => k_is); (case xa_UnknownKind => k_is); (case xm_UnknownKind => k_is); (case aC_NoDeed => k_is); (case lx_NoDeed => k_is)
    (case rv_NoDeed => first | rfl | decide +kernel); (case sa_NoDeed => k_is); (case ex_NoDeed => k_is); (case ty_NoDeed => k_is); (case kc_NoDeed => k_is); (case ga_NoDeed => k_is)
    (case gg_NoDeed => k_is); (case hd_NoDeed => k_is); (case in_NoDeed => k_is); (case xa_NoDeed => k_is); (case xm_NoDeed => k_is); (case aC_PartsError => k_is)
    (case ic3 => k_is); (case ic4 => k_is); (case a__law_draw => k_is); (case l__law_draw => k_is); (case c__law_draw => k_is); (case k__law_draw => k_is)
    (case a__law_kinds => k_is); (case l__law_kinds => k_is); (case c__law_kinds => k_is); (case k__law_kinds => k_is); (case a_BadBook___init__ => k_is); (case tf_BadBook => k_is)
    (case l_BadBook___init__ => k_is); (case c_BadBook___init__ => k_is); (case k_BadBook___init__ => k_is); (case a_BadBranch___init__ => k_is); (case tf_BadBranch => k_is); (case l_BadBranch___init__ => k_is)
    (case c_BadBranch___init__ => k_is); (case k_BadBranch___init__ => k_is); (case a_BadKind___init__ => k_is); (case tf_BadKind => k_is); (case l_BadKind___init__ => k_is); (case c_BadKind___init__ => k_is)
    (case k_BadKind___init__ => k_is); (case a_BadName___init__ => k_is); (case tf_BadName => k_is); (case l_BadName___init__ => k_is); (case c_BadName___init__ => k_is); (case k_BadName___init__ => k_is)
    (case a_BadPart___init__ => k_is); (case tf_BadPart => k_is); (case l_BadPart___init__ => k_is); (case c_BadPart___init__ => k_is); (case k_BadPart___init__ => k_is); (case a_BadState___init__ => k_is)
    (case tf_BadState => k_is); (case l_BadState___init__ => k_is); (case c_BadState___init__ => k_is); (case k_BadState___init__ => k_is); (case a_BadText___init__ => k_is); (case tf_BadText => k_is)
    (case l_BadText___init__ => k_is); (case c_BadText___init__ => k_is); (case k_BadText___init__ => k_is); (case a_Below___init__ => k_is); (case tf_Below => k_is); (case l_Below___init__ => k_is)
    (case c_Below___init__ => k_is); (case k_Below___init__ => k_is); (case a_HasParts___init__ => k_is); (case tf_HasParts => k_is); (case l_HasParts___init__ => k_is); (case c_HasParts___init__ => k_is)
    (case k_HasParts___init__ => k_is); (case a_LastPart___init__ => k_is); (case tf_LastPart => k_is); (case l_LastPart___init__ => k_is); (case c_LastPart___init__ => k_is); (case k_LastPart___init__ => k_is)
    (case a_NoMark___init__ => k_is); (case tf_NoMark => k_is); (case l_NoMark___init__ => k_is); (case c_NoMark___init__ => k_is); (case k_NoMark___init__ => k_is); (case a_NoParts___init__ => k_is)
    (case tf_NoParts => k_is); (case l_NoParts___init__ => k_is); (case c_NoParts___init__ => k_is); (case k_NoParts___init__ => k_is); (case a_NoTask___init__ => k_is); (case tf_NoTask => k_is)
    (case l_NoTask___init__ => k_is); (case c_NoTask___init__ => k_is); (case k_NoTask___init__ => k_is); (case a_Taken___init__ => k_is); (case tf_Taken => k_is); (case l_Taken___init__ => k_is)
    (case c_Taken___init__ => k_is); (case k_Taken___init__ => k_is); (case a_TopTask___init__ => k_is); (case tf_TopTask => k_is); (case l_TopTask___init__ => k_is); (case c_TopTask___init__ => k_is)
    (case k_TopTask___init__ => k_is); (case a_UnknownKind___init__ => k_is); (case tf_UnknownKind => k_is); (case l_UnknownKind___init__ => k_is); (case c_UnknownKind___init__ => k_is); (case k_UnknownKind___init__ => k_is)
    (case a__law_made => k_is); (case l__law_made => k_is); (case c__law_made => k_is); (case k__law_made => k_is); (case a__law_pick => k_is); (case l__law_pick => k_is)
    (case c__law_pick => k_is); (case k__law_pick => k_is); (case a__law_source => k_is); (case l__law_source => k_is); (case c__law_source => k_is); (case k__law_source => k_is)
    (case a_law => k_is); (case l_law => k_is); (case c_law => k_is); (case k_law => k_is); (case z_ValueError => k_is); (case z_bool => k_is)
    (case z_enumerate => k_is); (case z_int => k_is); (case z_isinstance => k_is); (case z_len => k_is); (case z_range => k_is); (case xi_BadBook_BadBook => kit_is)
    (case xi_BadBranch_BadBook => kit_is); (case xi_BadKind_BadBook => kit_is); (case xi_BadName_BadBook => kit_is); (case xi_BadPart_BadBook => kit_is); (case xi_BadState_BadBook => kit_is); (case xi_BadText_BadBook => kit_is)
    (case xi_Below_BadBook => kit_is); (case xi_HasParts_BadBook => kit_is); (case xi_LastPart_BadBook => kit_is); (case xi_NoDeed_BadBook => kit_is); (case xi_NoMark_BadBook => kit_is); (case xi_NoParts_BadBook => kit_is)
    (case xi_NoTask_BadBook => kit_is); (case xi_PartsError_BadBook => kit_is); (case xi_Taken_BadBook => kit_is); (case xi_TopTask_BadBook => kit_is); (case xi_UnknownKind_BadBook => kit_is); (case xi_ValueError_BadBook => kit_is)
    (case xi_BadBook_BadBranch => kit_is); (case xi_BadBranch_BadBranch => kit_is); (case xi_BadKind_BadBranch => kit_is); (case xi_BadName_BadBranch => kit_is); (case xi_BadPart_BadBranch => kit_is); (case xi_BadState_BadBranch => kit_is)
    (case xi_BadText_BadBranch => kit_is); (case xi_Below_BadBranch => kit_is); (case xi_HasParts_BadBranch => kit_is); (case xi_LastPart_BadBranch => kit_is); (case xi_NoDeed_BadBranch => kit_is); (case xi_NoMark_BadBranch => kit_is)
    (case xi_NoParts_BadBranch => kit_is); (case xi_NoTask_BadBranch => kit_is); (case xi_PartsError_BadBranch => kit_is); (case xi_Taken_BadBranch => kit_is); (case xi_TopTask_BadBranch => kit_is); (case xi_UnknownKind_BadBranch => kit_is)
    (case xi_ValueError_BadBranch => kit_is); (case xi_BadBook_BadKind => kit_is); (case xi_BadBranch_BadKind => kit_is); (case xi_BadKind_BadKind => kit_is); (case xi_BadName_BadKind => kit_is); (case xi_BadPart_BadKind => kit_is)
    (case xi_BadState_BadKind => kit_is); (case xi_BadText_BadKind => kit_is); (case xi_Below_BadKind => kit_is); (case xi_HasParts_BadKind => kit_is); (case xi_LastPart_BadKind => kit_is); (case xi_NoDeed_BadKind => kit_is)
    (case xi_NoMark_BadKind => kit_is); (case xi_NoParts_BadKind => kit_is); (case xi_NoTask_BadKind => kit_is); (case xi_PartsError_BadKind => kit_is); (case xi_Taken_BadKind => kit_is); (case xi_TopTask_BadKind => kit_is)
    (case xi_UnknownKind_BadKind => kit_is); (case xi_ValueError_BadKind => kit_is); (case xi_BadBook_BadName => kit_is); (case xi_BadBranch_BadName => kit_is); (case xi_BadKind_BadName => kit_is); (case xi_BadName_BadName => kit_is)
    (case xi_BadPart_BadName => kit_is); (case xi_BadState_BadName => kit_is); (case xi_BadText_BadName => kit_is); (case xi_Below_BadName => kit_is); (case xi_HasParts_BadName => kit_is); (case xi_LastPart_BadName => kit_is)
    (case xi_NoDeed_BadName => kit_is); (case xi_NoMark_BadName => kit_is); (case xi_NoParts_BadName => kit_is); (case xi_NoTask_BadName => kit_is); (case xi_PartsError_BadName => kit_is); (case xi_Taken_BadName => kit_is)
    (case xi_TopTask_BadName => kit_is); (case xi_UnknownKind_BadName => kit_is); (case xi_ValueError_BadName => kit_is); (case xi_BadBook_BadPart => kit_is); (case xi_BadBranch_BadPart => kit_is); (case xi_BadKind_BadPart => kit_is)
    (case xi_BadName_BadPart => kit_is); (case xi_BadPart_BadPart => kit_is); (case xi_BadState_BadPart => kit_is); (case xi_BadText_BadPart => kit_is); (case xi_Below_BadPart => kit_is); (case xi_HasParts_BadPart => kit_is)
    (case xi_LastPart_BadPart => kit_is); (case xi_NoDeed_BadPart => kit_is); (case xi_NoMark_BadPart => kit_is); (case xi_NoParts_BadPart => kit_is); (case xi_NoTask_BadPart => kit_is); (case xi_PartsError_BadPart => kit_is)
    (case xi_Taken_BadPart => kit_is); (case xi_TopTask_BadPart => kit_is); (case xi_UnknownKind_BadPart => kit_is); (case xi_ValueError_BadPart => kit_is); (case xi_BadBook_BadState => kit_is); (case xi_BadBranch_BadState => kit_is)
    (case xi_BadKind_BadState => kit_is); (case xi_BadName_BadState => kit_is); (case xi_BadPart_BadState => kit_is); (case xi_BadState_BadState => kit_is); (case xi_BadText_BadState => kit_is); (case xi_Below_BadState => kit_is)
    (case xi_HasParts_BadState => kit_is); (case xi_LastPart_BadState => kit_is); (case xi_NoDeed_BadState => kit_is); (case xi_NoMark_BadState => kit_is); (case xi_NoParts_BadState => kit_is); (case xi_NoTask_BadState => kit_is)
    (case xi_PartsError_BadState => kit_is); (case xi_Taken_BadState => kit_is); (case xi_TopTask_BadState => kit_is); (case xi_UnknownKind_BadState => kit_is); (case xi_ValueError_BadState => kit_is); (case xi_BadBook_BadText => kit_is)
    (case xi_BadBranch_BadText => kit_is); (case xi_BadKind_BadText => kit_is); (case xi_BadName_BadText => kit_is); (case xi_BadPart_BadText => kit_is); (case xi_BadState_BadText => kit_is); (case xi_BadText_BadText => kit_is)
    (case xi_Below_BadText => kit_is); (case xi_HasParts_BadText => kit_is); (case xi_LastPart_BadText => kit_is); (case xi_NoDeed_BadText => kit_is); (case xi_NoMark_BadText => kit_is); (case xi_NoParts_BadText => kit_is)
    (case xi_NoTask_BadText => kit_is); (case xi_PartsError_BadText => kit_is); (case xi_Taken_BadText => kit_is); (case xi_TopTask_BadText => kit_is); (case xi_UnknownKind_BadText => kit_is); (case xi_ValueError_BadText => kit_is)
    (case xi_BadBook_Below => kit_is); (case xi_BadBranch_Below => kit_is); (case xi_BadKind_Below => kit_is); (case xi_BadName_Below => kit_is); (case xi_BadPart_Below => kit_is); (case xi_BadState_Below => kit_is)
    (case xi_BadText_Below => kit_is); (case xi_Below_Below => kit_is); (case xi_HasParts_Below => kit_is); (case xi_LastPart_Below => kit_is); (case xi_NoDeed_Below => kit_is); (case xi_NoMark_Below => kit_is)
    (case xi_NoParts_Below => kit_is); (case xi_NoTask_Below => kit_is); (case xi_PartsError_Below => kit_is); (case xi_Taken_Below => kit_is); (case xi_TopTask_Below => kit_is); (case xi_UnknownKind_Below => kit_is)
    (case xi_ValueError_Below => kit_is); (case xi_BadBook_HasParts => kit_is); (case xi_BadBranch_HasParts => kit_is); (case xi_BadKind_HasParts => kit_is); (case xi_BadName_HasParts => kit_is); (case xi_BadPart_HasParts => kit_is)
    (case xi_BadState_HasParts => kit_is); (case xi_BadText_HasParts => kit_is); (case xi_Below_HasParts => kit_is); (case xi_HasParts_HasParts => kit_is); (case xi_LastPart_HasParts => kit_is); (case xi_NoDeed_HasParts => kit_is)
    (case xi_NoMark_HasParts => kit_is); (case xi_NoParts_HasParts => kit_is); (case xi_NoTask_HasParts => kit_is); (case xi_PartsError_HasParts => kit_is); (case xi_Taken_HasParts => kit_is); (case xi_TopTask_HasParts => kit_is)
    (case xi_UnknownKind_HasParts => kit_is); (case xi_ValueError_HasParts => kit_is); (case xi_BadBook_LastPart => kit_is); (case xi_BadBranch_LastPart => kit_is); (case xi_BadKind_LastPart => kit_is); (case xi_BadName_LastPart => kit_is)
    (case xi_BadPart_LastPart => kit_is); (case xi_BadState_LastPart => kit_is); (case xi_BadText_LastPart => kit_is); (case xi_Below_LastPart => kit_is); (case xi_HasParts_LastPart => kit_is); (case xi_LastPart_LastPart => kit_is)
    (case xi_NoDeed_LastPart => kit_is); (case xi_NoMark_LastPart => kit_is); (case xi_NoParts_LastPart => kit_is); (case xi_NoTask_LastPart => kit_is); (case xi_PartsError_LastPart => kit_is); (case xi_Taken_LastPart => kit_is)
    (case xi_TopTask_LastPart => kit_is); (case xi_UnknownKind_LastPart => kit_is); (case xi_ValueError_LastPart => kit_is); (case xi_BadBook_NoMark => kit_is); (case xi_BadBranch_NoMark => kit_is); (case xi_BadKind_NoMark => kit_is)
    (case xi_BadName_NoMark => kit_is); (case xi_BadPart_NoMark => kit_is); (case xi_BadState_NoMark => kit_is); (case xi_BadText_NoMark => kit_is); (case xi_Below_NoMark => kit_is); (case xi_HasParts_NoMark => kit_is)
    (case xi_LastPart_NoMark => kit_is); (case xi_NoDeed_NoMark => kit_is); (case xi_NoMark_NoMark => kit_is); (case xi_NoParts_NoMark => kit_is); (case xi_NoTask_NoMark => kit_is); (case xi_PartsError_NoMark => kit_is)
    (case xi_Taken_NoMark => kit_is); (case xi_TopTask_NoMark => kit_is); (case xi_UnknownKind_NoMark => kit_is); (case xi_ValueError_NoMark => kit_is); (case xi_BadBook_NoParts => kit_is); (case xi_BadBranch_NoParts => kit_is)
    (case xi_BadKind_NoParts => kit_is); (case xi_BadName_NoParts => kit_is); (case xi_BadPart_NoParts => kit_is); (case xi_BadState_NoParts => kit_is); (case xi_BadText_NoParts => kit_is); (case xi_Below_NoParts => kit_is)
    (case xi_HasParts_NoParts => kit_is); (case xi_LastPart_NoParts => kit_is); (case xi_NoDeed_NoParts => kit_is); (case xi_NoMark_NoParts => kit_is); (case xi_NoParts_NoParts => kit_is); (case xi_NoTask_NoParts => kit_is)
    (case xi_PartsError_NoParts => kit_is); (case xi_Taken_NoParts => kit_is); (case xi_TopTask_NoParts => kit_is); (case xi_UnknownKind_NoParts => kit_is); (case xi_ValueError_NoParts => kit_is); (case xi_BadBook_NoTask => kit_is)
    (case xi_BadBranch_NoTask => kit_is); (case xi_BadKind_NoTask => kit_is); (case xi_BadName_NoTask => kit_is); (case xi_BadPart_NoTask => kit_is); (case xi_BadState_NoTask => kit_is); (case xi_BadText_NoTask => kit_is)
    (case xi_Below_NoTask => kit_is); (case xi_HasParts_NoTask => kit_is); (case xi_LastPart_NoTask => kit_is); (case xi_NoDeed_NoTask => kit_is); (case xi_NoMark_NoTask => kit_is); (case xi_NoParts_NoTask => kit_is)
    (case xi_NoTask_NoTask => kit_is); (case xi_PartsError_NoTask => kit_is); (case xi_Taken_NoTask => kit_is); (case xi_TopTask_NoTask => kit_is); (case xi_UnknownKind_NoTask => kit_is); (case xi_ValueError_NoTask => kit_is)
    (case xi_BadBook_Taken => kit_is); (case xi_BadBranch_Taken => kit_is); (case xi_BadKind_Taken => kit_is); (case xi_BadName_Taken => kit_is); (case xi_BadPart_Taken => kit_is); (case xi_BadState_Taken => kit_is)
    (case xi_BadText_Taken => kit_is); (case xi_Below_Taken => kit_is); (case xi_HasParts_Taken => kit_is); (case xi_LastPart_Taken => kit_is); (case xi_NoDeed_Taken => kit_is); (case xi_NoMark_Taken => kit_is)
    (case xi_NoParts_Taken => kit_is); (case xi_NoTask_Taken => kit_is); (case xi_PartsError_Taken => kit_is); (case xi_Taken_Taken => kit_is); (case xi_TopTask_Taken => kit_is); (case xi_UnknownKind_Taken => kit_is)
    (case xi_ValueError_Taken => kit_is); (case xi_BadBook_TopTask => kit_is); (case xi_BadBranch_TopTask => kit_is); (case xi_BadKind_TopTask => kit_is); (case xi_BadName_TopTask => kit_is); (case xi_BadPart_TopTask => kit_is)
    (case xi_BadState_TopTask => kit_is); (case xi_BadText_TopTask => kit_is); (case xi_Below_TopTask => kit_is); (case xi_HasParts_TopTask => kit_is); (case xi_LastPart_TopTask => kit_is); (case xi_NoDeed_TopTask => kit_is)
    (case xi_NoMark_TopTask => kit_is); (case xi_NoParts_TopTask => kit_is); (case xi_NoTask_TopTask => kit_is); (case xi_PartsError_TopTask => kit_is); (case xi_Taken_TopTask => kit_is); (case xi_TopTask_TopTask => kit_is)
    (case xi_UnknownKind_TopTask => kit_is); (case xi_ValueError_TopTask => kit_is); (case xi_BadBook_UnknownKind => kit_is); (case xi_BadBranch_UnknownKind => kit_is); (case xi_BadKind_UnknownKind => kit_is); (case xi_BadName_UnknownKind => kit_is)
    (case xi_BadPart_UnknownKind => kit_is); (case xi_BadState_UnknownKind => kit_is); (case xi_BadText_UnknownKind => kit_is); (case xi_Below_UnknownKind => kit_is); (case xi_HasParts_UnknownKind => kit_is); (case xi_LastPart_UnknownKind => kit_is)
    (case xi_NoDeed_UnknownKind => kit_is); (case xi_NoMark_UnknownKind => kit_is); (case xi_NoParts_UnknownKind => kit_is); (case xi_NoTask_UnknownKind => kit_is); (case xi_PartsError_UnknownKind => kit_is); (case xi_Taken_UnknownKind => kit_is)
    (case xi_TopTask_UnknownKind => kit_is); (case xi_UnknownKind_UnknownKind => kit_is); (case xi_ValueError_UnknownKind => kit_is); (case xi_BadBook_NoDeed => kit_is); (case xi_BadBranch_NoDeed => kit_is); (case xi_BadKind_NoDeed => kit_is)
    (case xi_BadName_NoDeed => kit_is); (case xi_BadPart_NoDeed => kit_is); (case xi_BadState_NoDeed => kit_is); (case xi_BadText_NoDeed => kit_is); (case xi_Below_NoDeed => kit_is); (case xi_HasParts_NoDeed => kit_is)
    (case xi_LastPart_NoDeed => kit_is); (case xi_NoDeed_NoDeed => kit_is); (case xi_NoMark_NoDeed => kit_is); (case xi_NoParts_NoDeed => kit_is); (case xi_NoTask_NoDeed => kit_is); (case xi_PartsError_NoDeed => kit_is)
    (case xi_Taken_NoDeed => kit_is); (case xi_TopTask_NoDeed => kit_is); (case xi_UnknownKind_NoDeed => kit_is); (case xi_ValueError_NoDeed => kit_is)
