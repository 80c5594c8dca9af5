import PyProof.Rows.All
import Wide.All
import OpenK.AllK
import Wide.FinOn
import HandS.ForMost
import HandS.ForExc
import HandS.TupAny
import PyProof.Rows.SortShellAny
import PyProof.Rows.StrMeet
import HandS.IsInst
import HandS.Zip
import HandS.Property
import HandS.Conv
import HandS.Strs
import PySem.Challenge.RW_partstold_k06_clauses_that_count
set_option linter.all false
set_option Elab.async false
set_option maxRecDepth 100000
set_option maxHeartbeats 4000000
set_option autoImplicit false
/-! Ev: a value-level reading of Python: trees for what stays, cells for what changes. -/
namespace Ev
open PySem L2

/-- values as trees; loc: a cell that may change -/
inductive T where
  | non | bl (b : Bool) | int (i : Int) | str (x : Str) | ty (n : String)
  | tup (xs : List T) | lst (xs : List T) | rls (xs : List T) | dct (ks : List Key) (vs : List T) | ins (C : Str) (ns : List Str) (vs : List T)
  | loc (n : Nat)
/-- what stands in a cell -/
inductive MO where
  | lst (ts : List T) | dct (ks : List Key) (vs : List T) | ins (C : Str) (ns : List Str) (vs : List T)
abbrev Env := List (Option T)
abbrev Mem := List (Option MO)

/-- the class of that name in the module stands at C -/
def CAt (K : PySem.W.Frag) (c : Str) (C : Addr) : Prop := PySem.W.nsIn K mainGlobals c = some (some (.ref C))
theorem CAt.inj {K : PySem.W.Frag} {c : Str} {C D : Addr} (h : CAt K c C) (h' : CAt K c D) : C = D := by
  unfold CAt at h h'
  rw [h] at h'
  simpa using h'
mutual
def Rep (K : PySem.W.Frag) (Z : Hp) (ρ : List Addr) : T → V → Prop
  | .non, v => v = .non
  | .bl b, v => v = .bl b
  | .int i, v => v = .int i
  | .str x, v => v = .str x
  | .ty n, v => v = .ty n
  | .tup ts, v => ∃ a vs, v = .ref a ∧ SqT K Z a vs ∧ Reps K Z ρ ts vs
  | .lst ts, v => ∃ a vs, v = .ref a ∧ Z a = some (.lst vs) ∧ Reps K Z ρ ts vs
  | .rls ts, v => ∃ a vs, v = .ref a ∧ SqL K Z a vs ∧ Reps K Z ρ ts vs
  | .dct ks ts, v => ∃ a vs, v = .ref a ∧ Z a = some (.dK (ks.zip vs)) ∧ ks.length = vs.length ∧ Reps K Z ρ ts vs
  | .ins c ns ts, v => ∃ a C dx vs, v = .ref a ∧ CAt K c C ∧ Z a = some (.ins C dx (ns.zip vs)) ∧ ns.length = vs.length ∧ Reps K Z ρ ts vs
  | .loc n, v => ∃ a, ρ[n]? = some a ∧ v = .ref a
def Reps (K : PySem.W.Frag) (Z : Hp) (ρ : List Addr) : List T → List V → Prop
  | [], vs => vs = []
  | t :: ts, vs => ∃ v us, vs = v :: us ∧ Rep K Z ρ t v ∧ Reps K Z ρ ts us
end
def RepO (K : PySem.W.Frag) (Z : Hp) (ρ : List Addr) : MO → Option HO → Prop
  | .lst ts, o => ∃ vs, o = some (.lst vs) ∧ Reps K Z ρ ts vs
  | .dct ks ts, o => ∃ vs, o = some (.dK (ks.zip vs)) ∧ ks.length = vs.length ∧ Reps K Z ρ ts vs
  | .ins c ns ts, o => ∃ C dx vs, o = some (.ins C dx (ns.zip vs)) ∧ CAt K c C ∧ ns.length = vs.length ∧ Reps K Z ρ ts vs

theorem Same.sqt {K : PySem.W.Frag} {H H' : Hp} {a : Addr} {xs : List V} (e : Same H H') (h : SqT K H a xs) : SqT K H' a xs := by
  rcases h with (h | ⟨o, h⟩) | h
  · exact .inl (.inl (e _ _ h))
  · exact .inl (.inr ⟨o, e _ _ h⟩)
  · exact .inr h
theorem pre_get {ρ ρ' : List Addr} (h : ρ <+: ρ') {n : Nat} {a : Addr} (e : ρ[n]? = some a) : ρ'[n]? = some a := by
  obtain ⟨t, rfl⟩ := h
  have hl : n < ρ.length := (List.getElem?_eq_some_iff.mp e).1
  rw [List.getElem?_append_left hl]; exact e

section
variable {K : PySem.W.Frag} {Z Z' : Hp} {ρ ρ' : List Addr}
mutual
theorem Rep.mono (hz : Same Z Z') (hp : ρ <+: ρ') : ∀ {t : T} {v : V}, Rep K Z ρ t v → Rep K Z' ρ' t v
  | .non, _, h => by unfold Rep at h ⊢; exact h
  | .bl _, _, h => by unfold Rep at h ⊢; exact h
  | .int _, _, h => by unfold Rep at h ⊢; exact h
  | .str _, _, h => by unfold Rep at h ⊢; exact h
  | .ty _, _, h => by unfold Rep at h ⊢; exact h
  | .tup ts, _, h => by
    unfold Rep at h ⊢
    obtain ⟨a, vs, e, q, r⟩ := h
    exact ⟨a, vs, e, Same.sqt hz q, Reps.mono hz hp r⟩
  | .lst ts, _, h => by
    unfold Rep at h ⊢
    obtain ⟨a, vs, e, q, r⟩ := h
    exact ⟨a, vs, e, hz _ _ q, Reps.mono hz hp r⟩
  | .rls ts, _, h => by
    unfold Rep at h ⊢
    obtain ⟨a, vs, e, q, r⟩ := h
    exact ⟨a, vs, e, hz.seq q, Reps.mono hz hp r⟩
  | .dct ks ts, _, h => by
    unfold Rep at h ⊢
    obtain ⟨a, vs, e, q, l, r⟩ := h
    exact ⟨a, vs, e, hz _ _ q, l, Reps.mono hz hp r⟩
  | .ins C ns ts, _, h => by
    unfold Rep at h ⊢
    obtain ⟨a, C, dx, vs, e, k, q, l, r⟩ := h
    exact ⟨a, C, dx, vs, e, k, hz _ _ q, l, Reps.mono hz hp r⟩
  | .loc n, _, h => by
    unfold Rep at h ⊢
    obtain ⟨a, e, r⟩ := h
    exact ⟨a, pre_get hp e, r⟩
theorem Reps.mono (hz : Same Z Z') (hp : ρ <+: ρ') : ∀ {ts : List T} {vs : List V}, Reps K Z ρ ts vs → Reps K Z' ρ' ts vs
  | [], _, h => by unfold Reps at h ⊢; exact h
  | t :: ts, _, h => by
    unfold Reps at h ⊢
    obtain ⟨v, us, e, r, rs⟩ := h
    exact ⟨v, us, e, Rep.mono hz hp r, Reps.mono hz hp rs⟩
end
theorem RepO.mono (hz : Same Z Z') (hp : ρ <+: ρ') : ∀ {o : MO} {h : Option HO}, RepO K Z ρ o h → RepO K Z' ρ' o h
  | .lst ts, _, ⟨vs, e, r⟩ => ⟨vs, e, r.mono hz hp⟩
  | .dct ks ts, _, ⟨vs, e, l, r⟩ => ⟨vs, e, l, r.mono hz hp⟩
  | .ins C ns ts, _, ⟨C', dx, vs, e, k, l, r⟩ => ⟨C', dx, vs, e, k, l, r.mono hz hp⟩
theorem Reps.length : ∀ {ts : List T} {vs : List V}, Reps K Z ρ ts vs → ts.length = vs.length
  | [], _, h => by unfold Reps at h; subst h; rfl
  | t :: ts, _, h => by
    unfold Reps at h
    obtain ⟨v, us, rfl, _, rs⟩ := h
    simp [Reps.length rs]
theorem Reps.nil : Reps K Z ρ [] [] := by unfold Reps; rfl
theorem Reps.cons {t : T} {ts : List T} {v : V} {vs : List V} (r : Rep K Z ρ t v) (rs : Reps K Z ρ ts vs) : Reps K Z ρ (t :: ts) (v :: vs) := by
  unfold Reps; exact ⟨v, vs, rfl, r, rs⟩
theorem Reps.append : ∀ {ts us : List T} {vs ws : List V}, Reps K Z ρ ts vs → Reps K Z ρ us ws → Reps K Z ρ (ts ++ us) (vs ++ ws)
  | [], us, _, ws, h, h' => by unfold Reps at h; subst h; exact h'
  | t :: ts, us, _, ws, h, h' => by
    unfold Reps at h
    obtain ⟨v, vs, rfl, r, rs⟩ := h
    exact .cons r (Reps.append rs h')
theorem Reps.get : ∀ {ts : List T} {vs : List V} {i : Nat} {t : T}, Reps K Z ρ ts vs → ts[i]? = some t → ∃ v, vs[i]? = some v ∧ Rep K Z ρ t v
  | [], _, _, _, _, e => by simp at e
  | t :: ts, _, 0, _, h, e => by
    unfold Reps at h
    obtain ⟨v, vs, rfl, r, rs⟩ := h
    simp at e; subst e; exact ⟨v, rfl, r⟩
  | t :: ts, _, i + 1, _, h, e => by
    unfold Reps at h
    obtain ⟨v, vs, rfl, r, rs⟩ := h
    obtain ⟨u, h1, h2⟩ := Reps.get (i := i) rs (by simpa using e)
    exact ⟨u, by simpa using h1, h2⟩
theorem Reps.getV : ∀ {ts : List T} {vs : List V} {i : Nat} {v : V}, Reps K Z ρ ts vs → vs[i]? = some v → ∃ t, ts[i]? = some t ∧ Rep K Z ρ t v
  | [], _, _, _, h, e => by unfold Reps at h; subst h; simp at e
  | t :: ts, _, 0, _, h, e => by
    unfold Reps at h
    obtain ⟨v, vs, rfl, r, rs⟩ := h
    simp at e; subst e; exact ⟨t, rfl, r⟩
  | t :: ts, _, i + 1, _, h, e => by
    unfold Reps at h
    obtain ⟨v, vs, rfl, r, rs⟩ := h
    obtain ⟨u, h1, h2⟩ := Reps.getV (i := i) rs (by simpa using e)
    exact ⟨u, by simpa using h1, h2⟩
theorem Reps.set : ∀ {ts : List T} {vs : List V} {t : T} {v : V} (i : Nat), Reps K Z ρ ts vs → Rep K Z ρ t v → Reps K Z ρ (ts.set i t) (vs.set i v)
  | [], _, _, _, _, h, _ => by unfold Reps at h; subst h; exact .nil
  | t :: ts, _, _, _, 0, h, r' => by
    unfold Reps at h
    obtain ⟨v, vs, rfl, r, rs⟩ := h
    exact .cons r' rs
  | t :: ts, _, _, _, i + 1, h, r' => by
    unfold Reps at h
    obtain ⟨v, vs, rfl, r, rs⟩ := h
    exact .cons r (Reps.set i rs r')
theorem Reps.take : ∀ {ts : List T} {vs : List V} (n : Nat), Reps K Z ρ ts vs → Reps K Z ρ (ts.take n) (vs.take n)
  | _, _, 0, _ => .nil
  | [], _, _ + 1, h => by unfold Reps at h; subst h; exact .nil
  | t :: ts, _, n + 1, h => by
    unfold Reps at h
    obtain ⟨v, vs, rfl, r, rs⟩ := h
    exact .cons r (Reps.take n rs)
theorem Reps.drop : ∀ {ts : List T} {vs : List V} (n : Nat), Reps K Z ρ ts vs → Reps K Z ρ (ts.drop n) (vs.drop n)
  | ts, _, 0, h => h
  | [], _, _ + 1, h => by unfold Reps at h; subst h; exact .nil
  | t :: ts, _, n + 1, h => by
    unfold Reps at h
    obtain ⟨v, vs, rfl, r, rs⟩ := h
    exact Reps.drop n rs
end

/-- the abstract heap as the cells and trees say; Φ: what else must stay -/
structure Rel (K : PySem.W.Frag) (Φ Z : Hp) (ρ : List Addr) (H : Hp) (m : Mem) : Prop where
  zin : ∀ a o, Z a = some o → H a = some o
  fin : ∀ a o, Φ a = some o → H a = some o ∧ Z a = none ∧ a ∉ ρ
  len : ρ.length = m.length
  nd : ρ.Nodup
  trk : ∀ a ∈ ρ, H a ≠ none
  mem : ∀ (i : Nat) (o : MO) (a : Addr), m[i]? = some (some o) → ρ[i]? = some a → Z a = none ∧ RepO K Z ρ o (H a)
structure Envs (K : PySem.W.Frag) (Z : Hp) (ρ : List Addr) (env : Env) (σ : St) : Prop where
  len : env.length = σ.length
  get : ∀ (i : Nat) (t : T), env[i]? = some (some t) → ∃ v : V, σ[i]? = some (some v) ∧ Rep K Z ρ t v
structure Fits (K : PySem.W.Frag) (Φ Z : Hp) (ρ : List Addr) (σ : St) (H : Hp) (env : Env) (m : Mem) : Prop where
  rel : Rel K Φ Z ρ H m
  env : Envs K Z ρ env σ

/-- outcomes -/
inductive Out (α : Type) where
  | ok (a : α) (m : Mem) | ex (C : Str) (ns : List Str) (vs : List T) (m : Mem) | no
inductive SOut where
  | nx (env : Env) (m : Mem) | rt (t : T) (m : Mem) | bk (env : Env) (m : Mem) | ct (env : Env) (m : Mem)
  | ex (C : Str) (ns : List Str) (vs : List T) (env : Env) (m : Mem) | no
abbrev EF := Env → Mem → Out T
abbrev SF := Env → Mem → SOut
@[simp] def Out.bind {α β : Type} (x : Out α) (f : α → Mem → Out β) : Out β := match x with
  | .ok a m => f a m
  | .ex C ns vs m => .ex C ns vs m
  | .no => .no

structure Ext (Z Z' : Hp) (ρ ρ' : List Addr) : Prop where
  z : Same Z Z'
  p : ρ <+: ρ'
theorem Ext.refl {Z : Hp} {ρ : List Addr} : Ext Z Z ρ ρ := ⟨Same.refl _, List.prefix_refl _⟩
theorem Ext.trans {Z Z1 Z2 : Hp} {ρ ρ1 ρ2 : List Addr} (a : Ext Z Z1 ρ ρ1) (b : Ext Z1 Z2 ρ1 ρ2) : Ext Z Z2 ρ ρ2 := ⟨a.z.trans b.z, a.p.trans b.p⟩
theorem Rep.ext {K : PySem.W.Frag} {Z Z' : Hp} {ρ ρ' : List Addr} {t : T} {v : V} (r : Rep K Z ρ t v) (e : Ext Z Z' ρ ρ') : Rep K Z' ρ' t v := r.mono e.z e.p
theorem Reps.ext {K : PySem.W.Frag} {Z Z' : Hp} {ρ ρ' : List Addr} {t : List T} {v : List V} (r : Reps K Z ρ t v) (e : Ext Z Z' ρ ρ') : Reps K Z' ρ' t v := r.mono e.z e.p
theorem Envs.ext {K : PySem.W.Frag} {Z Z' : Hp} {ρ ρ' : List Addr} {env : Env} {σ : St} (r : Envs K Z ρ env σ) (e : Ext Z Z' ρ ρ') : Envs K Z' ρ' env σ :=
  ⟨r.len, fun i t h => let ⟨v, h1, h2⟩ := r.get i t h; ⟨v, h1, h2.ext e⟩⟩
theorem Envs.set {K : PySem.W.Frag} {Z : Hp} {ρ : List Addr} {env : Env} {σ : St} {t : T} {v : V} (r : Envs K Z ρ env σ) (i : Nat) (h : Rep K Z ρ t v) : Envs K Z ρ (env.set i (some t)) (σ.set i (some v)) := by
  refine ⟨by simp [r.len], fun j u e => ?_⟩
  by_cases hj : i = j
  · subst hj
    have hl : i < env.length := by
      have := (List.getElem?_eq_some_iff.mp e).1
      simpa using this
    rw [List.getElem?_set_self hl] at e
    have e' : t = u := by simpa using e
    subst e'
    exact ⟨v, List.getElem?_set_self (by rw [← r.len]; exact hl), h⟩
  · rw [List.getElem?_set_ne hj] at e
    obtain ⟨w, h1, h2⟩ := r.get j u e
    exact ⟨w, by rw [List.getElem?_set_ne hj]; exact h1, h2⟩

variable (K : PySem.W.Frag) (W : WX)
/-- what is wanted of an exception of the class of that name -/
def WR (c : Str) (d : Addr) (σ : St) (H : Hp) : Prop := ∀ C, CAt K c C → W (.ref C) (some d) σ H
/-- what a value's outcome must bring -/
def Post (Φ Z : Hp) (ρ : List Addr) (σ : St) (Q : VK) : Out T → Prop
  | .ok t m => ∀ Z' ρ' H' v, Ext Z Z' ρ ρ' → Rel K Φ Z' ρ' H' m → Rep K Z' ρ' t v → Q v H'
  | .ex C ns ts m => ∀ Z' ρ' H' d vs, Ext Z Z' ρ ρ' → Rel K Φ Z' ρ' H' m → Reps K Z' ρ' ts vs → ns.length = vs.length → Z' d = some (.xd (ns.zip vs)) → WR K W C d σ H'
  | .no => False
def PostL (Φ Z : Hp) (ρ : List Addr) (σ : St) (Q : List V → Hp → Prop) : Out (List T) → Prop
  | .ok ts m => ∀ Z' ρ' H' vs, Ext Z Z' ρ ρ' → Rel K Φ Z' ρ' H' m → Reps K Z' ρ' ts vs → Q vs H'
  | .ex C ns ts m => ∀ Z' ρ' H' d vs, Ext Z Z' ρ ρ' → Rel K Φ Z' ρ' H' m → Reps K Z' ρ' ts vs → ns.length = vs.length → Z' d = some (.xd (ns.zip vs)) → WR K W C d σ H'
  | .no => False
def PostB (Φ Z : Hp) (ρ : List Addr) (σ : St) (Q : Bool → Hp → Prop) : Out Bool → Prop
  | .ok b m => ∀ Z' ρ' H', Ext Z Z' ρ ρ' → Rel K Φ Z' ρ' H' m → Q b H'
  | .ex C ns ts m => ∀ Z' ρ' H' d vs, Ext Z Z' ρ ρ' → Rel K Φ Z' ρ' H' m → Reps K Z' ρ' ts vs → ns.length = vs.length → Z' d = some (.xd (ns.zip vs)) → WR K W C d σ H'
  | .no => False
def PostS (Φ Z : Hp) (ρ : List Addr) (n : Nat) (D : Ends) : SOut → Prop
  | .nx env m => ∀ Z' ρ' H' σ', Ext Z Z' ρ ρ' → Fits K Φ Z' ρ' σ' H' env m → σ'.length = n → D.nx σ' H'
  | .bk env m => ∀ Z' ρ' H' σ', Ext Z Z' ρ ρ' → Fits K Φ Z' ρ' σ' H' env m → σ'.length = n → D.bk σ' H'
  | .ct env m => ∀ Z' ρ' H' σ', Ext Z Z' ρ ρ' → Fits K Φ Z' ρ' σ' H' env m → σ'.length = n → D.ct σ' H'
  | .rt t m => ∀ Z' ρ' H' v, Ext Z Z' ρ ρ' → Rel K Φ Z' ρ' H' m → Rep K Z' ρ' t v → D.rt v H'
  | .ex C ns ts env m => ∀ Z' ρ' H' σ' d vs, Ext Z Z' ρ ρ' → Fits K Φ Z' ρ' σ' H' env m → Reps K Z' ρ' ts vs → ns.length = vs.length → Z' d = some (.xd (ns.zip vs)) → WR K W C d σ' H'
  | .no => False
def tr (f : EF) : TE := fun σ H Q => ∃ Φ Z ρ env m, Fits K Φ Z ρ σ H env m ∧ Post K W Φ Z ρ σ Q (f env m)
def trL (f : Env → Mem → Out (List T)) : TA := fun σ H Q => ∃ Φ Z ρ env m, Fits K Φ Z ρ σ H env m ∧ PostL K W Φ Z ρ σ Q (f env m)
def trB (f : Env → Mem → Out Bool) : TT := fun σ H Q => ∃ Φ Z ρ env m, Fits K Φ Z ρ σ H env m ∧ PostB K W Φ Z ρ σ Q (f env m)
def trS (g : SF) : TS := fun D σ H => ∃ Φ Z ρ env m, Fits K Φ Z ρ σ H env m ∧ PostS K W Φ Z ρ σ.length D (g env m)

variable {K W}
variable {Φ Z Z' : Hp} {ρ ρ' : List Addr} {σ : St} {H : Hp}
theorem Post.ext {Q : VK} {o : Out T} (h : Post K W Φ Z ρ σ Q o) (e : Ext Z Z' ρ ρ') : Post K W Φ Z' ρ' σ Q o := by
  cases o with
  | ok t m => exact fun Z2 ρ2 H' v e2 => h Z2 ρ2 H' v (e.trans e2)
  | ex C ns ts m => exact fun Z2 ρ2 H' d vs e2 => h Z2 ρ2 H' d vs (e.trans e2)
  | no => exact h
theorem PostL.ext {Q : List V → Hp → Prop} {o : Out (List T)} (h : PostL K W Φ Z ρ σ Q o) (e : Ext Z Z' ρ ρ') : PostL K W Φ Z' ρ' σ Q o := by
  cases o with
  | ok t m => exact fun Z2 ρ2 H' v e2 => h Z2 ρ2 H' v (e.trans e2)
  | ex C ns ts m => exact fun Z2 ρ2 H' d vs e2 => h Z2 ρ2 H' d vs (e.trans e2)
  | no => exact h
theorem PostB.ext {Q : Bool → Hp → Prop} {o : Out Bool} (h : PostB K W Φ Z ρ σ Q o) (e : Ext Z Z' ρ ρ') : PostB K W Φ Z' ρ' σ Q o := by
  cases o with
  | ok t m => exact fun Z2 ρ2 H' e2 => h Z2 ρ2 H' (e.trans e2)
  | ex C ns ts m => exact fun Z2 ρ2 H' d vs e2 => h Z2 ρ2 H' d vs (e.trans e2)
  | no => exact h
theorem PostS.ext {n : Nat} {D : Ends} {o : SOut} (h : PostS K W Φ Z ρ n D o) (e : Ext Z Z' ρ ρ') : PostS K W Φ Z' ρ' n D o := by
  cases o with
  | nx env m => exact fun Z2 ρ2 H' v e2 => h Z2 ρ2 H' v (e.trans e2)
  | bk env m => exact fun Z2 ρ2 H' v e2 => h Z2 ρ2 H' v (e.trans e2)
  | ct env m => exact fun Z2 ρ2 H' v e2 => h Z2 ρ2 H' v (e.trans e2)
  | rt env m => exact fun Z2 ρ2 H' v e2 => h Z2 ρ2 H' v (e.trans e2)
  | ex C ns ts env m => exact fun Z2 ρ2 H' σ' d vs e2 => h Z2 ρ2 H' σ' d vs (e.trans e2)
  | no => exact h

structure SE (X : Cx) (W : WX) (e : Expr) (f : EF) : Prop where
  pe : PE X e (tr X.K W f)
structure SA (X : Cx) (W : WX) (es : List Expr) (f : Env → Mem → Out (List T)) : Prop where
  pa : PA X es (trL X.K W f)
structure SB (X : Cx) (W : WX) (e : Expr) (f : Env → Mem → Out Bool) : Prop where
  pt : PT X e (trB X.K W f)
structure SS (X : Cx) (W : WX) (st : Stmt) (g : SF) : Prop where
  ps : PS X st (trS X.K W g)
structure SSs (X : Cx) (W : WX) (sts : List Stmt) (g : SF) : Prop where
  ps : PSs X sts (trS X.K W g)

theorem pe_imp {X : Cx} {e : Expr} {t u : TE} (h : PE X e t) (i : ∀ σ H Q, u σ H Q → t σ H Q) : PE X e u := ⟨fun pins s σ H Q I q => h.run pins s σ H Q I (i σ H Q q)⟩
theorem pt_imp {X : Cx} {e : Expr} {t u : TT} (h : PT X e t) (i : ∀ σ H Q, u σ H Q → t σ H Q) : PT X e u := ⟨fun pins s σ H Q I q => h.run pins s σ H Q I (i σ H Q q)⟩
theorem pa_imp {X : Cx} {e : List Expr} {t u : TA} (h : PA X e t) (i : ∀ σ H Q, u σ H Q → t σ H Q) : PA X e u := ⟨fun pos pins s σ H Q I q => h.run pos pins s σ H Q I (i σ H Q q)⟩
theorem ps_imp {X : Cx} {e : Stmt} {t u : TS} (h : PS X e t) (i : ∀ D σ H, u D σ H → t D σ H) : PS X e u := ⟨fun pins s σ H D I q => h.run pins s σ H D I (i D σ H q)⟩
theorem pss_imp {X : Cx} {e : List Stmt} {t u : TS} (h : PSs X e t) (i : ∀ D σ H, u D σ H → t D σ H) : PSs X e u := ⟨fun pins s σ H D I q => h.run pins s σ H D I (i D σ H q)⟩

/-- running f first, k behind it -/
theorem tr_bind {α : Type} {f : EF} {env : Env} {m : Mem} {k : T → Mem → Out α} {P : Out α → Prop} {R : V → Hp → Prop} (F : Fits K Φ Z ρ σ H env m)
    (hk : ∀ t m1 Z1 ρ1 H1 v, f env m = .ok t m1 → Ext Z Z1 ρ ρ1 → Fits K Φ Z1 ρ1 σ H1 env m1 → Rep K Z1 ρ1 t v → P (k t m1) → R v H1)
    (hx : ∀ C ns vs m1, P (.ex C ns vs m1) → Post K W Φ Z ρ σ R (.ex C ns vs m1)) (hn : P .no → False)
    (h : P ((f env m).bind k)) : tr K W f σ H R := by
  refine ⟨Φ, Z, ρ, env, m, F, ?_⟩
  cases e : f env m with
  | ok t m1 =>
    rw [e] at h
    exact fun Z1 ρ1 H1 v e1 r1 rep => hk t m1 Z1 ρ1 H1 v e e1 ⟨r1, F.env.ext e1⟩ rep h
  | ex C ns vs m1 =>
    rw [e] at h
    exact hx C ns vs m1 h
  | no =>
    rw [e] at h
    exact (hn h).elim
end Ev

namespace Ev
open PySem L2
section
variable {K : PySem.W.Frag} {W : WX} {Φ Z Z' : Hp} {ρ ρ' : List Addr} {σ : St} {H : Hp} {m : Mem}

theorem Rel.zn (r : Rel K Φ Z ρ H m) {p : Addr} (hp : H p = none) : Z p = none := by
  cases e : Z p with
  | none => rfl
  | some o => rw [r.zin p o e] at hp; cases hp
theorem Rel.rn (r : Rel K Φ Z ρ H m) {p : Addr} (hp : H p = none) : p ∉ ρ := fun h => r.trk p h hp
theorem same_upd {Z : Hp} {p : Addr} {o : HO} (h : Z p = none) : Same Z (upd Z p o) := fun b u e => by
  rw [upd_ne (ne_of_none e h)]; exact e
/-- a new object that stays -/
theorem Rel.allocZ (r : Rel K Φ Z ρ H m) {p : Addr} (hp : H p = none) (o : HO) : Rel K Φ (upd Z p o) ρ (upd H p o) m ∧ Ext Z (upd Z p o) ρ ρ := by
  have hz := r.zn hp
  have e : Ext Z (upd Z p o) ρ ρ := ⟨same_upd hz, List.prefix_refl _⟩
  refine ⟨⟨fun a u h => ?_, fun a u h => ?_, r.len, r.nd, fun a ha => ?_, fun i u a h1 h2 => ?_⟩, e⟩
  · by_cases hb : a = p
    · subst hb; rw [upd_same] at h ⊢; exact h
    · rw [upd_ne hb] at h ⊢; exact r.zin a u h
  · obtain ⟨h1, h2, h3⟩ := r.fin a u h
    have hb := ne_of_none h1 hp
    exact ⟨by rw [upd_ne hb]; exact h1, by rw [upd_ne hb]; exact h2, h3⟩
  · have hb : a ≠ p := fun z => r.rn hp (z ▸ ha)
    rw [upd_ne hb]; exact r.trk a ha
  · have ha : a ∈ ρ := List.mem_of_getElem? h2
    have hb : a ≠ p := fun z => r.rn hp (z ▸ ha)
    obtain ⟨h3, h4⟩ := r.mem i u a h1 h2
    rw [upd_ne hb, upd_ne hb]
    exact ⟨h3, h4.mono e.z e.p⟩
/-- a new cell -/
theorem Rel.allocC (r : Rel K Φ Z ρ H m) {p : Addr} (hp : H p = none) {o : HO} {u : MO} (ho : RepO K Z ρ u (some o)) : Rel K Φ Z (ρ ++ [p]) (upd H p o) (m ++ [some u]) ∧ Ext Z Z ρ (ρ ++ [p]) := by
  have hz := r.zn hp
  have e : Ext Z Z ρ (ρ ++ [p]) := ⟨Same.refl _, List.prefix_append _ _⟩
  refine ⟨⟨fun a u h => ?_, fun a u h => ?_, by simp [r.len], ?_, fun a ha => ?_, fun i w a h1 h2 => ?_⟩, e⟩
  · have hb : a ≠ p := fun z => by subst z; rw [hz] at h; cases h
    rw [upd_ne hb]; exact r.zin a u h
  · obtain ⟨h1, h2, h3⟩ := r.fin a u h
    have hb := ne_of_none h1 hp
    refine ⟨by rw [upd_ne hb]; exact h1, h2, fun hm => ?_⟩
    rcases List.mem_append.mp hm with q | q
    · exact h3 q
    · exact hb (List.mem_singleton.mp q)
  · refine List.nodup_append.mpr ⟨r.nd, by simp, fun a ha b hb => ?_⟩
    rw [List.mem_singleton.mp hb]
    exact fun z => r.rn hp (z ▸ ha)
  · rcases List.mem_append.mp ha with q | q
    · have hb : a ≠ p := fun z => r.rn hp (z ▸ q)
      rw [upd_ne hb]; exact r.trk a q
    · rw [List.mem_singleton.mp q, upd_same]; exact fun z => nomatch z
  · by_cases hi : i < m.length
    · rw [List.getElem?_append_left hi] at h1
      rw [List.getElem?_append_left (by rw [r.len]; exact hi)] at h2
      have hb : a ≠ p := fun z => r.rn hp (z ▸ List.mem_of_getElem? h2)
      obtain ⟨h3, h4⟩ := r.mem i w a h1 h2
      rw [upd_ne hb]
      exact ⟨h3, h4.mono e.z e.p⟩
    · have hl := (List.getElem?_eq_some_iff.mp h1).1
      rw [List.length_append] at hl
      have hi' : i = m.length := by simp at hl; omega
      subst hi'
      have e1 : u = w := by simpa using h1
      subst e1
      rw [← r.len] at h2
      have e2 : p = a := by simpa using h2
      subst e2
      rw [upd_same]
      exact ⟨hz, ho.mono e.z e.p⟩
/-- a cell is written -/
theorem Rel.write (r : Rel K Φ Z ρ H m) {n : Nat} {a : Addr} {u : MO} {o : HO} {w : MO} (hn : m[n]? = some (some w)) (ha : ρ[n]? = some a) (ho : RepO K Z ρ u (some o)) : Rel K Φ Z ρ (upd H a o) (m.set n (some u)) := by
  have hz := (r.mem n w a hn ha).1
  have hm : a ∈ ρ := List.mem_of_getElem? ha
  refine ⟨fun b v h => ?_, fun b v h => ?_, by simp [r.len], r.nd, fun b hb => ?_, fun i v b h1 h2 => ?_⟩
  · have hb : b ≠ a := fun z => by subst z; rw [hz] at h; cases h
    rw [upd_ne hb]; exact r.zin b v h
  · obtain ⟨h1, h2, h3⟩ := r.fin b v h
    have hb : b ≠ a := fun z => h3 (z ▸ hm)
    exact ⟨by rw [upd_ne hb]; exact h1, h2, h3⟩
  · by_cases hb' : b = a
    · subst hb'; rw [upd_same]; exact fun z => nomatch z
    · rw [upd_ne hb']; exact r.trk b hb
  · by_cases hi : n = i
    · subst hi
      rw [ha] at h2; cases h2
      have hl := (List.getElem?_eq_some_iff.mp hn).1
      rw [List.getElem?_set_self hl] at h1
      have e1 : u = v := by simpa using h1
      subst e1
      rw [upd_same]; exact ⟨hz, ho⟩
    · rw [List.getElem?_set_ne hi] at h1
      have hb : b ≠ a := fun z => hi (by
        subst z
        exact (nd_ix r.nd h2 ha).symm)
      rw [upd_ne hb]; exact r.mem i v b h1 h2
/-- a cell's list stays from now on -/
theorem Rel.freeze (r : Rel K Φ Z ρ H m) {n : Nat} {a : Addr} {o : HO} {w : MO} (hn : m[n]? = some (some w)) (ha : ρ[n]? = some a) (ho : H a = some o) : Rel K Φ (upd Z a o) ρ H (m.set n none) ∧ Ext Z (upd Z a o) ρ ρ := by
  have hz := (r.mem n w a hn ha).1
  have hm : a ∈ ρ := List.mem_of_getElem? ha
  have e : Ext Z (upd Z a o) ρ ρ := ⟨same_upd hz, List.prefix_refl _⟩
  refine ⟨⟨fun b v h => ?_, fun b v h => ?_, by simp [r.len], r.nd, r.trk, fun i v b h1 h2 => ?_⟩, e⟩
  · by_cases hb : b = a
    · subst hb; rw [upd_same] at h; rw [ho]; exact h
    · rw [upd_ne hb] at h; exact r.zin b v h
  · obtain ⟨h1, h2, h3⟩ := r.fin b v h
    have hb : b ≠ a := fun z => h3 (z ▸ hm)
    exact ⟨h1, by rw [upd_ne hb]; exact h2, h3⟩
  · by_cases hi : n = i
    · subst hi
      have hl := (List.getElem?_eq_some_iff.mp hn).1
      rw [List.getElem?_set_self hl] at h1; cases h1
    · rw [List.getElem?_set_ne hi] at h1
      have hb : b ≠ a := fun z => hi (by subst z; exact (nd_ix r.nd h2 ha).symm)
      obtain ⟨h3, h4⟩ := r.mem i v b h1 h2
      rw [upd_ne hb]
      exact ⟨h3, h4.mono e.z e.p⟩
theorem Rel.addr (r : Rel K Φ Z ρ H m) {n : Nat} {w : MO} (hn : m[n]? = some (some w)) : ∃ a, ρ[n]? = some a := by
  have hl := (List.getElem?_eq_some_iff.mp hn).1
  rw [← r.len] at hl
  exact ⟨ρ[n], by simp [hl]⟩
theorem Rel.same (r : Rel K Φ Z ρ H m) : Same Z H := r.zin
/-- a further thing is kept aside -/
theorem Rel.aside (r : Rel K Φ Z ρ H m) {p : Addr} (hp : H p = none) (o : HO) : Rel K (upd Φ p o) Z ρ (upd H p o) m := by
  have hz := r.zn hp
  refine ⟨fun a u h => ?_, fun a u h => ?_, r.len, r.nd, fun a ha => ?_, fun i w a h1 h2 => ?_⟩
  · have hb : a ≠ p := fun z => by subst z; rw [hz] at h; cases h
    rw [upd_ne hb]; exact r.zin a u h
  · by_cases hb : a = p
    · subst hb; rw [upd_same] at h ⊢; exact ⟨h, hz, r.rn hp⟩
    · rw [upd_ne hb] at h ⊢; exact r.fin a u h
  · have hb : a ≠ p := fun z => r.rn hp (z ▸ ha)
    rw [upd_ne hb]; exact r.trk a ha
  · have hb : a ≠ p := fun z => r.rn hp (z ▸ List.mem_of_getElem? h2)
    rw [upd_ne hb]; exact r.mem i w a h1 h2
/-- .. changed there -/
theorem Rel.aside_set (r : Rel K Φ Z ρ H m) {p : Addr} {o u : HO} (hp : Φ p = some o) : Rel K (upd Φ p u) Z ρ (upd H p u) m := by
  obtain ⟨hh, hz, hr⟩ := r.fin p o hp
  refine ⟨fun a u h => ?_, fun a u h => ?_, r.len, r.nd, fun a ha => ?_, fun i w a h1 h2 => ?_⟩
  · have hb : a ≠ p := fun z => by subst z; rw [hz] at h; cases h
    rw [upd_ne hb]; exact r.zin a u h
  · by_cases hb : a = p
    · subst hb; rw [upd_same] at h ⊢; exact ⟨h, hz, hr⟩
    · rw [upd_ne hb] at h ⊢; exact r.fin a u h
  · have hb : a ≠ p := fun z => hr (z ▸ ha)
    rw [upd_ne hb]; exact r.trk a ha
  · have hb : a ≠ p := fun z => hr (z ▸ List.mem_of_getElem? h2)
    rw [upd_ne hb]; exact r.mem i w a h1 h2
/-- .. and back among what stays, or a cell -/
theorem Rel.back (r : Rel K Φ Z ρ H m) {Ψ : Hp} {p : Addr} {o : HO} (hp : Φ p = some o) (hΨ : ∀ a u, Ψ a = some u → Φ a = some u ∧ a ≠ p) : Rel K Ψ (upd Z p o) ρ H m ∧ Ext Z (upd Z p o) ρ ρ := by
  obtain ⟨hh, hz, hr⟩ := r.fin p o hp
  have e : Ext Z (upd Z p o) ρ ρ := ⟨same_upd hz, List.prefix_refl _⟩
  refine ⟨⟨fun b v h => ?_, fun b v h => ?_, r.len, r.nd, r.trk, fun i v b h1 h2 => ?_⟩, e⟩
  · by_cases hb : b = p
    · subst hb; rw [upd_same] at h; rw [hh]; exact h
    · rw [upd_ne hb] at h; exact r.zin b v h
  · obtain ⟨h1, h2⟩ := hΨ b v h
    obtain ⟨h3, h4, h5⟩ := r.fin b v h1
    exact ⟨h3, by rw [upd_ne h2]; exact h4, h5⟩
  · have hb : b ≠ p := fun z => hr (z ▸ List.mem_of_getElem? h2)
    obtain ⟨h3, h4⟩ := r.mem i v b h1 h2
    rw [upd_ne hb]
    exact ⟨h3, h4.mono e.z e.p⟩
theorem Rel.backC (r : Rel K Φ Z ρ H m) {Ψ : Hp} {p : Addr} {o : HO} {u : MO} (hp : Φ p = some o) (hΨ : ∀ a u, Ψ a = some u → Φ a = some u ∧ a ≠ p) (ho : RepO K Z ρ u (some o)) : Rel K Ψ Z (ρ ++ [p]) H (m ++ [some u]) ∧ Ext Z Z ρ (ρ ++ [p]) := by
  obtain ⟨hh, hz, hr⟩ := r.fin p o hp
  have e : Ext Z Z ρ (ρ ++ [p]) := ⟨Same.refl _, List.prefix_append _ _⟩
  refine ⟨⟨r.zin, fun b v h => ?_, by simp [r.len], ?_, fun a ha => ?_, fun i w a h1 h2 => ?_⟩, e⟩
  · obtain ⟨h1, h2⟩ := hΨ b v h
    obtain ⟨h3, h4, h5⟩ := r.fin b v h1
    refine ⟨h3, h4, fun hm => ?_⟩
    rcases List.mem_append.mp hm with q | q
    · exact h5 q
    · exact h2 (List.mem_singleton.mp q)
  · refine List.nodup_append.mpr ⟨r.nd, by simp, fun a ha b hb => ?_⟩
    rw [List.mem_singleton.mp hb]
    exact fun z => hr (z ▸ ha)
  · rcases List.mem_append.mp ha with q | q
    · exact r.trk a q
    · rw [List.mem_singleton.mp q, hh]; exact fun z => nomatch z
  · by_cases hi : i < m.length
    · rw [List.getElem?_append_left hi] at h1
      rw [List.getElem?_append_left (by rw [r.len]; exact hi)] at h2
      obtain ⟨h3, h4⟩ := r.mem i w a h1 h2
      exact ⟨h3, h4.mono e.z e.p⟩
    · have hl := (List.getElem?_eq_some_iff.mp h1).1
      rw [List.length_append] at hl
      have hi' : i = m.length := by simp at hl; omega
      subst hi'
      have e1 : u = w := by simpa using h1
      subst e1
      rw [← r.len] at h2
      have e2 : p = a := by simpa using h2
      subst e2
      rw [hh]
      exact ⟨hz, ho.mono e.z e.p⟩

/-! ### reading lists and tuples -/
def asL (m : Mem) : T → Option (List T)
  | .lst ts => some ts
  | .rls ts => some ts
  | .loc n => match m[n]? with
    | some (some (.lst ts)) => some ts
    | _ => none
  | _ => none
/-- a list that is no locked or written one -/
def asO (m : Mem) : T → Option (List T)
  | .lst ts => some ts
  | .loc n => match m[n]? with
    | some (some (.lst ts)) => some ts
    | _ => none
  | _ => none
def asT : T → Option (List T)
  | .tup ts => some ts
  | _ => none
theorem cell_lst (r : Rel K Φ Z ρ H m) {n : Nat} {ts : List T} {v : V} (hv : Rep K Z ρ (.loc n) v) (hn : m[n]? = some (some (.lst ts))) : ∃ a vs, v = .ref a ∧ ρ[n]? = some a ∧ H a = some (.lst vs) ∧ Reps K Z ρ ts vs := by
  unfold Rep at hv
  obtain ⟨a, ha, rfl⟩ := hv
  obtain ⟨_, vs, e, rs⟩ := r.mem n _ a hn ha
  exact ⟨a, vs, rfl, ha, e, rs⟩
theorem asO_rep (r : Rel K Φ Z ρ H m) {t : T} {ts : List T} {v : V} (hv : Rep K Z ρ t v) (h : asO m t = some ts) : ∃ a vs, v = .ref a ∧ H a = some (.lst vs) ∧ Reps K Z ρ ts vs := by
  cases t with
  | lst us =>
    have e : us = ts := by simpa [asO] using h
    subst e
    unfold Rep at hv
    obtain ⟨a, vs, rfl, e, rs⟩ := hv
    exact ⟨a, vs, rfl, r.zin _ _ e, rs⟩
  | loc n =>
    unfold asO at h
    simp only at h
    split at h
    · rename_i us e
      cases h
      obtain ⟨a, vs, e1, _, e2, rs⟩ := cell_lst r hv e
      exact ⟨a, vs, e1, e2, rs⟩
    · cases h
  | _ => simp [asO] at h
theorem asL_rep (r : Rel K Φ Z ρ H m) {t : T} {ts : List T} {v : V} (hv : Rep K Z ρ t v) (h : asL m t = some ts) : ∃ a vs, v = .ref a ∧ SqL K H a vs ∧ Reps K Z ρ ts vs := by
  cases t with
  | lst us =>
    have e : us = ts := by simpa [asL] using h
    subst e
    unfold Rep at hv
    obtain ⟨a, vs, rfl, e, rs⟩ := hv
    exact ⟨a, vs, rfl, .of (r.zin _ _ e), rs⟩
  | rls us =>
    have e : us = ts := by simpa [asL] using h
    subst e
    unfold Rep at hv
    obtain ⟨a, vs, rfl, e, rs⟩ := hv
    exact ⟨a, vs, rfl, r.same.seq e, rs⟩
  | loc n =>
    unfold asL at h
    simp only at h
    split at h
    · rename_i us e
      cases h
      obtain ⟨a, vs, e1, _, e2, rs⟩ := cell_lst r hv e
      exact ⟨a, vs, e1, .of e2, rs⟩
    · cases h
  | _ => simp [asL] at h
theorem asT_rep (r : Rel K Φ Z ρ H m) {t : T} {ts : List T} {v : V} (hv : Rep K Z ρ t v) (h : asT t = some ts) : ∃ a vs, v = .ref a ∧ SqT K H a vs ∧ Reps K Z ρ ts vs := by
  cases t with
  | tup us =>
    have e : us = ts := by simpa [asT] using h
    subst e
    unfold Rep at hv
    obtain ⟨a, vs, rfl, e, rs⟩ := hv
    exact ⟨a, vs, rfl, Same.sqt r.same e, rs⟩
  | _ => simp [asT] at h
/-- a new list: a cell, or one that stays -/
def mk (mu : Bool) (ts : List T) (m : Mem) : Out T := if mu then .ok (.loc m.length) (m ++ [some (.lst ts)]) else .ok (.lst ts) m
theorem post_mk {mu : Bool} {ts : List T} {vs : List V} {Q : VK} (r : Rel K Φ Z ρ H m) (rs : Reps K Z ρ ts vs) (h : Post K W Φ Z ρ σ Q (mk mu ts m)) {p : Addr} (hp : H p = none) : Q (.ref p) (upd H p (.lst vs)) := by
  cases mu with
  | false =>
    obtain ⟨r', e⟩ := r.allocZ hp (.lst vs)
    refine h _ _ _ _ e r' ?_
    unfold Rep
    exact ⟨p, vs, rfl, upd_same, rs.ext e⟩
  | true =>
    obtain ⟨r', e⟩ := r.allocC hp (o := .lst vs) (u := .lst ts) ⟨vs, rfl, rs⟩
    refine h _ _ _ _ e r' ?_
    unfold Rep
    exact ⟨p, by rw [← r.len]; simp, rfl⟩
theorem post_tup {ts : List T} {vs : List V} {Q : VK} (r : Rel K Φ Z ρ H m) (rs : Reps K Z ρ ts vs) (h : Post K W Φ Z ρ σ Q (.ok (.tup ts) m)) {p : Addr} (hp : H p = none) : Q (.ref p) (upd H p (.tup vs)) := by
  obtain ⟨r', e⟩ := r.allocZ hp (.tup vs)
  refine h _ _ _ _ e r' ?_
  unfold Rep
  exact ⟨p, vs, rfl, .of upd_same, rs.ext e⟩
theorem post_ok {t : T} {v : V} {Q : VK} (r : Rel K Φ Z ρ H m) (rt : Rep K Z ρ t v) (h : Post K W Φ Z ρ σ Q (.ok t m)) : Q v H := h _ _ _ _ Ext.refl r rt
theorem rep_int {i : Int} : Rep K Z ρ (.int i) (.int i) := by unfold Rep; rfl
theorem rep_bl {i : Bool} : Rep K Z ρ (.bl i) (.bl i) := by unfold Rep; rfl
theorem rep_str {i : Str} : Rep K Z ρ (.str i) (.str i) := by unfold Rep; rfl
theorem rep_non : Rep K Z ρ .non .non := by unfold Rep; rfl
theorem rep_ty {n : String} : Rep K Z ρ (.ty n) (.ty n) := by unfold Rep; rfl
end
end Ev

namespace Ev
open PySem L2
section
variable {X : Cx} {W : WX}

/-! ### names and constants -/
def eVar (i : Nat) : EF := fun env m => match env[i]? with
  | some (some t) => .ok t m
  | _ => .no
theorem se_of {e : Expr} {f : EF} {t : TE} (h : PE X e t) (i : ∀ Φ Z ρ σ H env m Q, Fits X.K Φ Z ρ σ H env m → Post X.K W Φ Z ρ σ Q (f env m) → t σ H Q) : SE X W e f :=
  ⟨pe_imp h fun σ H Q ⟨Φ, Z, ρ, env, m, F, p⟩ => i Φ Z ρ σ H env m Q F p⟩
theorem se_var (i : Nat) {x : Str} {pos : Pos} (hN : X.N[i]? = some x := by rfl) (hv : Vis X.env.scope x := by first | exact Or.inl rfl | exact Or.inr (Or.inl rfl) | exact Or.inr (Or.inr rfl)) (hd : (x == ("__debug__" : Str)) = false := by decide)
    (hcd : (x == ("__classdict__" : Str)) = false := by decide) : SE X W (.Name x pos) (eVar i) := by
  refine se_of (pe_var hN hv hd hcd) fun Φ Z ρ σ H env m Q F p => ?_
  unfold eVar at p
  split at p
  · rename_i t e
    obtain ⟨v, h1, h2⟩ := F.env.get i t e
    exact ⟨v, h1, post_ok F.rel h2 p⟩
  · exact p.elim
def eC (t : T) : EF := fun _ m => .ok t m
theorem se_int {i : Int} {j pos} : SE X W (.Constant (.int i) j pos) (eC (.int i)) := se_of pe_int fun _ _ _ _ _ _ _ _ F p => post_ok F.rel rep_int p
theorem se_bl {b : Bool} {j pos} : SE X W (.Constant (.bool b) j pos) (eC (.bl b)) := se_of pe_bl fun _ _ _ _ _ _ _ _ F p => post_ok F.rel rep_bl p
theorem se_non {j pos} : SE X W (.Constant .none j pos) (eC .non) := se_of pe_non fun _ _ _ _ _ _ _ _ F p => post_ok F.rel rep_non p
theorem se_str {x : Str} {j pos} : SE X W (.Constant (.str x) j pos) (eC (.str x)) := se_of pe_str fun _ _ _ _ _ _ _ _ F p => post_ok F.rel rep_str p
/-- code that has no meaning here -/
def eNo : EF := fun _ _ => .no
theorem se_no {e : Expr} : SE X W e eNo := ⟨⟨fun _ _ _ _ _ _ ⟨_, _, _, _, _, _, p⟩ => p.elim⟩⟩
/-- a name of the module, a built-in, as a value: its T -/
theorem se_glob {x : Str} {t : T} {v : V} {u : Value} {pos : Pos} (hm : X.mg x = some u) (r : RelV v u) (ht : ∀ Z ρ, Rep X.K Z ρ t v) (hg : Gl X x := by rfl) (hd : (x == ("__debug__" : Str)) = false := by decide) : SE X W (.Name x pos) (eC t) :=
  se_of (pe_glob hg hm r hd) fun _ _ _ _ _ _ _ _ F p => post_ok F.rel (ht _ _) p
theorem se_ty {x : Str} {n : String} {pos : Pos} (hm : X.mg x = none) (hv : bootBuiltins x = some (.type n)) (hg : Gl X x := by rfl) (hn : x ≠ "__name__" := by decide) (hd : (x == ("__debug__" : Str)) = false := by decide) : SE X W (.Name x pos) (eC (.ty n)) :=
  se_of (pe_bltn (v := .ty n) hg hm hv rfl hn hd) fun _ _ _ _ _ _ _ _ F p => post_ok F.rel rep_ty p

/-! ### two, one after another -/
def e2 (g : T → T → Mem → Out T) (fa fb : EF) : EF := fun env m => (fa env m).bind fun x m1 => (fb env m1).bind fun y m2 => g x y m2
def Sem2 (K : PySem.W.Frag) (g : T → T → Mem → Out T) (r : R2) : Prop :=
  ∀ (W : WX) (Φ Z : Hp) (ρ : List Addr) (σ : St) (H : Hp) (m : Mem) (Q : VK) (x y : T) (vx vy : V), Rel K Φ Z ρ H m → Rep K Z ρ x vx → Rep K Z ρ y vy → Post K W Φ Z ρ σ Q (g x y m) → r vx vy H Q
theorem tr_e2 {K : PySem.W.Frag} {g : T → T → Mem → Out T} {r : R2} (hg : Sem2 K g r) {fa fb : EF} {σ : St} {H : Hp} {Q : VK} (h : tr K W (e2 g fa fb) σ H Q) : tOp r (tr K W fa) (tr K W fb) σ H Q := by
  obtain ⟨Φ, Z, ρ, env, m, F, p⟩ := h
  refine tr_bind (P := Post K W Φ Z ρ σ Q) F (fun x m1 Z1 ρ1 H1 vx _ e1 F1 rx p1 => ?_) (fun _ _ _ _ h => h) (fun h => h) p
  refine tr_bind (P := Post K W Φ Z1 ρ1 σ Q) F1 (fun y m2 Z2 ρ2 H2 vy _ e2 F2 ry p2 => ?_) (fun _ _ _ _ h => h) (fun h => h) (p1.ext e1)
  exact hg W Φ Z2 ρ2 σ H2 m2 Q x y vx vy F2.rel (rx.ext e2) ry (p2.ext e2)
theorem se_op {op : Operator} {a b : Expr} {pos : Pos} {r : R2} {g : T → T → Mem → Out T} {fa fb : EF} (ho : OpR X (binaryOp op) r) (hg : Sem2 X.K g r) (ha : SE X W a fa) (hb : SE X W b fb) : SE X W (.BinOp a op b pos) (e2 g fa fb) :=
  ⟨pe_imp (pe_op ho ha.pe hb.pe) fun _ _ _ h => tr_e2 hg h⟩
theorem se_cmp {op : CmpOp} {a b : Expr} {pos : Pos} {r : R2} {g : T → T → Mem → Out T} {fa fb : EF} (ho : OpR X (compareOp op) r) (hg : Sem2 X.K g r) (ha : SE X W a fa) (hb : SE X W b fb) (hm : behindInMarks op b = false := by first | exact nomark _ | rfl) : SE X W (.Compare a [op] [b] pos) (e2 g fa fb) :=
  ⟨pe_imp (pe_cmpR ho ha.pe hb.pe hm) fun _ _ _ h => tr_e2 hg h⟩
theorem se_ix {a b : Expr} {pos : Pos} {r : R2} {g : T → T → Mem → Out T} {fa fb : EF} (ho : IxR X r) (hg : Sem2 X.K g r) (ha : SE X W a fa) (hb : SE X W b fb) (hs : PlainIx b := by exact fun _ _ => rfl) : SE X W (.Subscript a b pos) (e2 g fa fb) :=
  ⟨pe_imp (pe_ix ho ha.pe hb.pe hs) fun _ _ _ h => tr_e2 hg h⟩
def e1 (g : T → Mem → Out T) (fa : EF) : EF := fun env m => (fa env m).bind fun x m1 => g x m1

/-! ### arguments -/
abbrev LF := Env → Mem → Out (List T)
def lNil : LF := fun _ m => .ok [] m
def lCons (fa : EF) (fs : LF) : LF := fun env m => (fa env m).bind fun x m1 => (fs env m1).bind fun xs m2 => .ok (x :: xs) m2
theorem sa_nil : SA X W [] lNil := ⟨pa_imp pa_nil fun σ H Q ⟨Φ, Z, ρ, env, m, F, p⟩ => p Z ρ H [] Ext.refl F.rel Reps.nil⟩
theorem trL_bind {α : Type} {K : PySem.W.Frag} {Φ Z : Hp} {ρ : List Addr} {σ : St} {H : Hp} {f : LF} {env : Env} {m : Mem} {k : List T → Mem → Out α} {P : Out α → Prop} {R : List V → Hp → Prop} (F : Fits K Φ Z ρ σ H env m)
    (hk : ∀ t m1 Z1 ρ1 H1 v, f env m = .ok t m1 → Ext Z Z1 ρ ρ1 → Fits K Φ Z1 ρ1 σ H1 env m1 → Reps K Z1 ρ1 t v → P (k t m1) → R v H1)
    (hx : ∀ C ns vs m1, P (.ex C ns vs m1) → PostL K W Φ Z ρ σ R (.ex C ns vs m1)) (hn : P .no → False)
    (h : P ((f env m).bind k)) : trL K W f σ H R := by
  refine ⟨Φ, Z, ρ, env, m, F, ?_⟩
  cases e : f env m with
  | ok t m1 =>
    rw [e] at h
    exact fun Z1 ρ1 H1 v e1 r1 rep => hk t m1 Z1 ρ1 H1 v e e1 ⟨r1, F.env.ext e1⟩ rep h
  | ex C ns vs m1 =>
    rw [e] at h
    exact hx C ns vs m1 h
  | no =>
    rw [e] at h
    exact (hn h).elim
theorem sa_cons {e : Expr} {es : List Expr} {fa : EF} {fs : LF} (ha : SE X W e fa) (hr : SA X W es fs) (hs : starEach (e :: es) X.env = (false, eval e X.env) :: starEach es X.env := by rfl) : SA X W (e :: es) (lCons fa fs) := by
  refine ⟨pa_imp (pa_cons ha.pe hr.pa hs) fun σ H Q ⟨Φ, Z, ρ, env, m, F, p⟩ => ?_⟩
  refine tr_bind (P := PostL X.K W Φ Z ρ σ Q) F (fun x m1 Z1 ρ1 H1 vx _ e1 F1 rx p1 => ?_) (fun _ _ _ _ h => h) (fun h => h) p
  refine trL_bind (P := PostL X.K W Φ Z1 ρ1 σ Q) F1 (fun xs m2 Z2 ρ2 H2 vs _ e2 F2 rs p2 => ?_) (fun _ _ _ _ h => h) (fun h => h) (p1.ext e1)
  exact (p2.ext e2) Z2 ρ2 H2 _ Ext.refl F2.rel (.cons (rx.ext e2) rs)
def eOfL (g : List T → Mem → Out T) (fs : LF) : EF := fun env m => (fs env m).bind g
def SemL (K : PySem.W.Frag) (g : List T → Mem → Out T) (r : List V → Hp → VK → Prop) : Prop :=
  ∀ (W : WX) (Φ Z : Hp) (ρ : List Addr) (σ : St) (H : Hp) (m : Mem) (Q : VK) (xs : List T) (vs : List V), Rel K Φ Z ρ H m → Reps K Z ρ xs vs → Post K W Φ Z ρ σ Q (g xs m) → r vs H Q
theorem tr_ofL {K : PySem.W.Frag} {g : List T → Mem → Out T} {r : List V → Hp → VK → Prop} (hg : SemL K g r) {fs : LF} {σ : St} {H : Hp} {Q : VK} (h : tr K W (eOfL g fs) σ H Q) : trL K W fs σ H (fun vs H1 => r vs H1 Q) := by
  obtain ⟨Φ, Z, ρ, env, m, F, p⟩ := h
  refine trL_bind (P := Post K W Φ Z ρ σ Q) F (fun x m1 Z1 ρ1 H1 vx _ e1 F1 rx p1 => ?_) (fun _ _ _ _ h => h) (fun h => h) p
  exact hg W Φ Z1 ρ1 σ H1 m1 Q x vx F1.rel rx (p1.ext e1)
def lim : Nat := 100000
theorem lim_le {n : Nat} (h : n ≤ lim) : n ≤ sizeLine := Nat.le_trans h (by decide)
theorem lim_lt {n : Nat} (h : n ≤ lim) : n < sizeLine := Nat.lt_of_le_of_lt h (by decide)
def gTupL : List T → Mem → Out T := fun ts m => if ts.length ≤ lim then .ok (.tup ts) m else .no
def gLstL (mu : Bool) : List T → Mem → Out T := fun ts m => if ts.length ≤ lim then mk mu ts m else .no
theorem se_tup {es : List Expr} {k : Nat} {pos : Pos} {fs : LF} (h : SA X W es fs) : SE X W (.Tuple es k pos) (eOfL gTupL fs) :=
  ⟨pe_imp (pe_tup h.pa) fun σ H Q h => tr_ofL (r := fun xs H1 Q => xs.length ≤ sizeLine ∧ ∀ p, H1 p = none → Q (.ref p) (upd H1 p (.tup xs))) (fun W Φ Z ρ σ H m Q xs vs r rs p => by
    unfold gTupL at p
    split at p
    · rename_i hl
      exact ⟨by rw [← rs.length]; exact lim_le hl, fun q hq => post_tup r rs p hq⟩
    · exact p.elim) h⟩
theorem se_lst (mu : Bool) {es : List Expr} {pos : Pos} {fs : LF} (h : SA X W es fs) : SE X W (.List es pos) (eOfL (gLstL mu) fs) :=
  ⟨pe_imp (pe_lst h.pa) fun σ H Q h => tr_ofL (r := fun xs H1 Q => xs.length ≤ sizeLine ∧ ∀ p, H1 p = none → Q (.ref p) (upd H1 p (.lst xs))) (fun W Φ Z ρ σ H m Q xs vs r rs p => by
    unfold gLstL at p
    split at p
    · rename_i hl
      exact ⟨by rw [← rs.length]; exact lim_le hl, fun q hq => post_mk r rs p hq⟩
    · exact p.elim) h⟩
/-- the context of a body: what is raised is taken, loops pass, there is room -/
structure Cok (X : Cx) (W : WX) (k : Nat) : Prop where
  tk : Takes X W
  pass : PassesOwn (model X.prog X.w) X.A X.env X.xe
  calm : X.calm = true
  nd : X.N.Nodup
  room : Room k X.A
abbrev W0 : WX := fun _ _ _ _ => False
/-- a built-in called by its name -/
theorem se_callB {x : Str} {id : String} {r : List V → Hp → VK → Prop} {g : List T → Mem → Out T} {e : Expr} {es : List Expr} {fs : LF} {p pos : Pos} (hf : CallR X (.builtin id) r) (hg : SemL X.K g r) (hm : X.mg x = none) (ha : SA X W (e :: es) fs)
    (hv : bootBuiltins x = some (.builtin id) := by decide +kernel) (hG : Gl X x := by rfl) (hn : x ≠ "__name__" := by decide) (hdb : (x == ("__debug__" : Str)) = false := by decide)
    (he : starEach (e :: es) X.env = (false, eval e X.env) :: starEach es X.env := by rfl) (hpl : (backTo pos (starEach es X.env)).any (·.1) = false := by rfl) : SE X W (.Call (.Name x p) (e :: es) [] pos) (eOfL g fs) :=
  ⟨pe_imp (pe_callB hf hG hm hv ha.pa hn hdb he hpl) fun σ H Q h => tr_ofL hg h⟩
theorem se_callTy {x : Str} {id : String} {r : List V → Hp → VK → Prop} {g : List T → Mem → Out T} {e : Expr} {es : List Expr} {fs : LF} {p pos : Pos} (hf : CallR X (.type id) r) (hg : SemL X.K g r) (hm : X.mg x = none) (ha : SA X W (e :: es) fs)
    (hv : bootBuiltins x = some (.type id) := by decide +kernel) (hG : Gl X x := by rfl) (hn : x ≠ "__name__" := by decide) (hdb : (x == ("__debug__" : Str)) = false := by decide)
    (he : starEach (e :: es) X.env = (false, eval e X.env) :: starEach es X.env := by rfl) (hpl : (backTo pos (starEach es X.env)).any (·.1) = false := by rfl) : SE X W (.Call (.Name x p) (e :: es) [] pos) (eOfL g fs) :=
  ⟨pe_imp (pe_callTy hf hG hm hv ha.pa hn hdb he hpl) fun σ H Q h => tr_ofL hg h⟩
/-! ### defs -/
abbrev FS := List T → Mem → Out T
def spF (K : PySem.W.Frag) (n : Nat) (F : FS) : Sp := fun vs H Q E => ∃ Φ Z ρ m ts, Rel K Φ Z ρ H m ∧ Reps K Z ρ ts vs ∧ vs.length = n ∧ Post K (fun c d _ H' => E c d H') Φ Z ρ [] Q (F ts m)
structure DefOk (P : Program) (w : World) (K : PySem.W.Frag) (mg : Str → Option Value) (base : Heap) (n k : Nat) (x : Str) (F : FS) : Prop where
  ok : ∃ (f : Addr) (fd : FuncData) (ps : List Str), ps.length = n ∧ FnOk P w K mg base (L2.CX P w) k f fd ps (spF K n F) ∧ mg x = some (.ref f) ∧ PySem.W.keepIn K (.ref f) = true ∧ Binds K fd ps []
/-- a call asks as many values as there are parameters -/
def eCall (n : Nat) (F : FS) (fs : LF) : EF := fun env m => (fs env m).bind fun ts m1 => if ts.length = n then F ts m1 else .no
theorem post_w {K : PySem.W.Frag} {Φ Z : Hp} {ρ : List Addr} {σ : St} {Q : VK} {o : Out T} (h : Post K W Φ Z ρ σ Q o) : Post K (fun c d _ H' => WE W σ c d H') Φ Z ρ [] Q o := by
  cases o <;> exact h
theorem se_call {k j n : Nat} {F : FS} {x : Str} {e : Expr} {es : List Expr} {fs : LF} {p pos : Pos} (c : Cok X W k) (D : DefOk X.prog X.w X.K X.mg X.base n j x F) (ha : SA X W (e :: es) fs) (hj : j ≤ k := by decide)
    (hg : Gl X x := by rfl) (hdb : (x == ("__debug__" : Str)) = false := by decide) (he : starEach (e :: es) X.env = (false, eval e X.env) :: starEach es X.env := by rfl) (hpl : (backTo pos (starEach es X.env)).any (·.1) = false := by rfl) :
    SE X W (.Call (.Name x p) (e :: es) [] pos) (eCall n F fs) := by
  obtain ⟨f, fd, ps, hn, hF, hm, hk, hb⟩ := D.ok
  refine ⟨pe_imp (pe_callS hF (c.room.mono hj) hg hm hk hb (fun σ => passAt c.tk σ) ha.pa hdb he hpl) fun σ H Q ⟨Φ, Z, ρ, env, m, Fi, p⟩ => ?_⟩
  refine trL_bind (P := Post X.K W Φ Z ρ σ Q) Fi (fun ts m1 Z1 ρ1 H1 vs _ e1 F1 rs p1 => ?_) (fun _ _ _ _ h => h) (fun h => h) p
  split at p1
  · rename_i hl
    exact ⟨Φ, Z1, ρ1, m1, ts, F1.rel, rs, by rw [← rs.length]; exact hl, post_w (p1.ext e1)⟩
  · exact p1.elim

/-! ### tests -/
abbrev BF := Env → Mem → Out Bool
def bV (f : EF) : BF := fun env m => (f env m).bind fun t m1 => match t with
  | .bl b => .ok b m1
  | _ => .no
theorem tr_bV {K : PySem.W.Frag} {f : EF} {σ : St} {H : Hp} {Q : Bool → Hp → Prop} (h : trB K W (bV f) σ H Q) : tr K W f σ H (fun x H' => ∃ k, x = .bl k ∧ Q k H') := by
  obtain ⟨Φ, Z, ρ, env, m, F, p⟩ := h
  refine tr_bind (P := PostB K W Φ Z ρ σ Q) F (fun t m1 Z1 ρ1 H1 v _ e1 F1 r p1 => ?_) (fun _ _ _ _ h => h) (fun h => h) p
  cases t with
  | bl b =>
    unfold Rep at r
    subst r
    exact ⟨b, rfl, p1 _ _ _ e1 F1.rel⟩
  | _ => exact p1.elim
theorem sb_val {e : Expr} {f : EF} (h : SE X W e f) (he : ∀ whole, isTrue e X.env whole = (do let v ← whole; standAt e.pos; holding [v] (truthy v)) := by intro _; rfl) : SB X W e (bV f) :=
  ⟨pt_imp (pt_val h.pe he) fun σ H Q h => tr_bV h⟩
theorem sb_cmp {op : CmpOp} {a b : Expr} {pos : Pos} {r : R2} {g : T → T → Mem → Out T} {fa fb : EF} (ho : OpR X (compareOp op) r) (hg : Sem2 X.K g r) (ha : SE X W a fa) (hb : SE X W b fb) (hm : behindInMarks op b = false := by first | exact nomark _ | rfl) : SB X W (.Compare a [op] [b] pos) (bV (e2 g fa fb)) :=
  ⟨pt_imp (pt_cmpR ho ha.pe hb.pe hm) fun σ H Q h => tr_e2 hg (tr_bV h)⟩
def bNot (f : BF) : BF := fun env m => (f env m).bind fun b m1 => .ok (!b) m1
theorem trB_bind {α : Type} {K : PySem.W.Frag} {Φ Z : Hp} {ρ : List Addr} {σ : St} {H : Hp} {f : BF} {env : Env} {m : Mem} {k : Bool → Mem → Out α} {P : Out α → Prop} {R : Bool → Hp → Prop} (F : Fits K Φ Z ρ σ H env m)
    (hk : ∀ t m1 Z1 ρ1 H1, f env m = .ok t m1 → Ext Z Z1 ρ ρ1 → Fits K Φ Z1 ρ1 σ H1 env m1 → P (k t m1) → R t H1)
    (hx : ∀ C ns vs m1, P (.ex C ns vs m1) → PostB K W Φ Z ρ σ R (.ex C ns vs m1)) (hn : P .no → False)
    (h : P ((f env m).bind k)) : trB K W f σ H R := by
  refine ⟨Φ, Z, ρ, env, m, F, ?_⟩
  cases e : f env m with
  | ok t m1 =>
    rw [e] at h
    exact fun Z1 ρ1 H1 e1 r1 => hk t m1 Z1 ρ1 H1 e e1 ⟨r1, F.env.ext e1⟩ h
  | ex C ns vs m1 =>
    rw [e] at h
    exact hx C ns vs m1 h
  | no =>
    rw [e] at h
    exact (hn h).elim
theorem sb_not {a : Expr} {f : BF} {pos : Pos} (ha : SB X W a f) : SB X W (.UnaryOp .Not a pos) (bNot f) :=
  ⟨pt_imp (pt_not ha.pt) fun σ H Q ⟨Φ, Z, ρ, env, m, F, p⟩ =>
    trB_bind (P := PostB X.K W Φ Z ρ σ Q) (k := fun b m1 => .ok (!b) m1) F (fun b m1 Z1 ρ1 H1 _ e1 F1 p1 => p1 _ _ _ e1 F1.rel) (fun _ _ _ _ h => h) (fun h => h) p⟩
structure SW (X : Cx) (W : WX) (e : Expr) (f : BF) : Prop where
  pw : PW X e (trB X.K W f)
theorem pw_imp {X : Cx} {e : Expr} {t u : TT} (h : PW X e t) (i : ∀ σ H Q, u σ H Q → t σ H Q) : PW X e u := ⟨fun wh pins s σ H Q I q => h.run wh pins s σ H Q I (i σ H Q q)⟩
theorem SW.sb {e : Expr} {f : BF} (h : SW X W e f) : SB X W e f := ⟨h.pw.pt⟩
def bAnd (f g : BF) : BF := fun env m => (f env m).bind fun b m1 => if b then g env m1 else .ok false m1
def bOr (f g : BF) : BF := fun env m => (f env m).bind fun b m1 => if b then .ok true m1 else g env m1
theorem sw_and1 {a : Expr} {f : BF} {pos : Pos} (ha : SB X W a f) : SW X W (.BoolOp .And [a] pos) f := ⟨pw_and1 ha.pt⟩
theorem sw_or1 {a : Expr} {f : BF} {pos : Pos} (ha : SB X W a f) : SW X W (.BoolOp .Or [a] pos) f := ⟨pw_or1 ha.pt⟩
theorem sw_and {a b : Expr} {rest : List Expr} {f g : BF} {pos : Pos} (ha : SB X W a f) (hb : SW X W (.BoolOp .And (b :: rest) pos) g) : SW X W (.BoolOp .And (a :: b :: rest) pos) (bAnd f g) :=
  ⟨pw_imp (pw_and ha.pt hb.pw) fun σ H Q ⟨Φ, Z, ρ, env, m, F, p⟩ =>
    trB_bind (P := PostB X.K W Φ Z ρ σ Q) F (fun b m1 Z1 ρ1 H1 _ e1 F1 p1 => by
      cases b with
      | true => exact ⟨Φ, Z1, ρ1, env, m1, F1, p1.ext e1⟩
      | false => exact p1 _ _ _ e1 F1.rel) (fun _ _ _ _ h => h) (fun h => h) p⟩
theorem sw_or {a b : Expr} {rest : List Expr} {f g : BF} {pos : Pos} (ha : SB X W a f) (hb : SW X W (.BoolOp .Or (b :: rest) pos) g) : SW X W (.BoolOp .Or (a :: b :: rest) pos) (bOr f g) :=
  ⟨pw_imp (pw_or ha.pt hb.pw) fun σ H Q ⟨Φ, Z, ρ, env, m, F, p⟩ =>
    trB_bind (P := PostB X.K W Φ Z ρ σ Q) F (fun b m1 Z1 ρ1 H1 _ e1 F1 p1 => by
      cases b with
      | true => exact p1 _ _ _ e1 F1.rel
      | false => exact ⟨Φ, Z1, ρ1, env, m1, F1, p1.ext e1⟩) (fun _ _ _ _ h => h) (fun h => h) p⟩
/-- as values -/
def eAnd (f g : EF) : EF := fun env m => (f env m).bind fun t m1 => match t with
  | .bl true => g env m1
  | .bl false => .ok (.bl false) m1
  | _ => .no
def eOr (f g : EF) : EF := fun env m => (f env m).bind fun t m1 => match t with
  | .bl true => .ok (.bl true) m1
  | .bl false => g env m1
  | _ => .no
def eNot (f : EF) : EF := fun env m => (f env m).bind fun t m1 => match t with
  | .bl b => .ok (.bl (!b)) m1
  | _ => .no
theorem se_one {op : BoolOp} {a : Expr} {f : EF} {pos : Pos} (h : SE X W a f) : SE X W (.BoolOp op [a] pos) f := ⟨pe_one h.pe⟩
theorem se_and {a b : Expr} {rest : List Expr} {f g : EF} {pos : Pos} (ha : SE X W a f) (hb : SE X W (.BoolOp .And (b :: rest) pos) g) : SE X W (.BoolOp .And (a :: b :: rest) pos) (eAnd f g) :=
  ⟨pe_imp (pe_and ha.pe hb.pe) fun σ H Q ⟨Φ, Z, ρ, env, m, F, p⟩ =>
    tr_bind (P := Post X.K W Φ Z ρ σ Q) F (fun t m1 Z1 ρ1 H1 v _ e1 F1 r p1 => by
      split at p1
      · unfold Rep at r; subst r; exact ⟨true, rfl, Φ, Z1, ρ1, env, m1, F1, p1.ext e1⟩
      · unfold Rep at r; subst r; exact ⟨false, rfl, p1 _ _ _ _ e1 F1.rel rep_bl⟩
      · exact p1.elim) (fun _ _ _ _ h => h) (fun h => h) p⟩
theorem se_or {a b : Expr} {rest : List Expr} {f g : EF} {pos : Pos} (ha : SE X W a f) (hb : SE X W (.BoolOp .Or (b :: rest) pos) g) : SE X W (.BoolOp .Or (a :: b :: rest) pos) (eOr f g) :=
  ⟨pe_imp (pe_or ha.pe hb.pe) fun σ H Q ⟨Φ, Z, ρ, env, m, F, p⟩ =>
    tr_bind (P := Post X.K W Φ Z ρ σ Q) F (fun t m1 Z1 ρ1 H1 v _ e1 F1 r p1 => by
      split at p1
      · unfold Rep at r; subst r; exact ⟨true, rfl, p1 _ _ _ _ e1 F1.rel rep_bl⟩
      · unfold Rep at r; subst r; exact ⟨false, rfl, Φ, Z1, ρ1, env, m1, F1, p1.ext e1⟩
      · exact p1.elim) (fun _ _ _ _ h => h) (fun h => h) p⟩
theorem se_not {a : Expr} {f : EF} {pos : Pos} (ha : SE X W a f) : SE X W (.UnaryOp .Not a pos) (eNot f) :=
  ⟨pe_imp (pe_not ha.pe) fun σ H Q ⟨Φ, Z, ρ, env, m, F, p⟩ =>
    tr_bind (P := Post X.K W Φ Z ρ σ Q) F (fun t m1 Z1 ρ1 H1 v _ e1 F1 r p1 => by
      split at p1
      · unfold Rep at r; subst r; exact ⟨_, rfl, p1 _ _ _ _ e1 F1.rel rep_bl⟩
      · exact p1.elim) (fun _ _ _ _ h => h) (fun h => h) p⟩
def eIf (c : BF) (f g : EF) : EF := fun env m => (c env m).bind fun b m1 => if b then f env m1 else g env m1
theorem se_if {c a b : Expr} {fc : BF} {f g : EF} {pos : Pos} (hc : SB X W c fc) (ha : SE X W a f) (hb : SE X W b g) : SE X W (.IfExp c a b pos) (eIf fc f g) :=
  ⟨pe_imp (pe_ifExp hc.pt ha.pe hb.pe) fun σ H Q ⟨Φ, Z, ρ, env, m, F, p⟩ =>
    trB_bind (P := Post X.K W Φ Z ρ σ Q) F (fun b m1 Z1 ρ1 H1 _ e1 F1 p1 => by
      cases b with
      | true => exact ⟨Φ, Z1, ρ1, env, m1, F1, p1.ext e1⟩
      | false => exact ⟨Φ, Z1, ρ1, env, m1, F1, p1.ext e1⟩) (fun _ _ _ _ h => h) (fun h => h) p⟩

/-! ### statements -/
def sOf (f : EF) (k : T → Env → Mem → SOut) : SF := fun env m => match f env m with
  | .ok t m1 => k t env m1
  | .ex C ns vs m1 => .ex C ns vs env m1
  | .no => .no
theorem trS_bind {K : PySem.W.Frag} {σ : St} {H : Hp} {D : Ends} {f : EF} {k : T → Env → Mem → SOut} {R : V → Hp → Prop}
    (hk : ∀ Φ Z1 ρ1 H1 env m1 t v, Fits K Φ Z1 ρ1 σ H1 env m1 → Rep K Z1 ρ1 t v → PostS K W Φ Z1 ρ1 σ.length D (k t env m1) → R v H1)
    (h : trS K W (sOf f k) D σ H) : tr K W f σ H R := by
  obtain ⟨Φ, Z, ρ, env, m, F, p⟩ := h
  refine ⟨Φ, Z, ρ, env, m, F, ?_⟩
  unfold sOf at p
  cases e : f env m with
  | ok t m1 =>
    rw [e] at p
    exact fun Z1 ρ1 H1 v e1 r1 rep => hk Φ Z1 ρ1 H1 env m1 t v ⟨r1, F.env.ext e1⟩ rep (p.ext e1)
  | ex C ns vs m1 =>
    rw [e] at p
    exact fun Z1 ρ1 H1 d us e1 r1 rs hl hd => p Z1 ρ1 H1 σ d us e1 ⟨r1, F.env.ext e1⟩ rs hl hd
  | no => rw [e] at p; exact p
theorem ss_ret {e : Expr} {f : EF} {pos : Pos} (h : SE X W e f) : SS X W (.Return (some e) pos) (sOf f fun t _ m => .rt t m) :=
  ⟨ps_imp (ps_ret h.pe) fun D σ H h => trS_bind (k := fun t _ m => .rt t m) (fun Φ Z1 ρ1 H1 env m1 t v F r p => p _ _ _ _ Ext.refl F.rel r) h⟩
theorem ss_retN {pos : Pos} : SS X W (.Return none pos) (fun _ m => .rt .non m) :=
  ⟨ps_imp ps_retN fun D σ H ⟨Φ, Z, ρ, env, m, F, p⟩ => p _ _ _ _ Ext.refl F.rel rep_non⟩
theorem ss_expr {e : Expr} {f : EF} {pos : Pos} (h : SE X W e f) (hs : swapsWith e none pos.line X.env = pure false := by rfl) : SS X W (.Expr e pos) (sOf f fun _ env m => .nx env m) :=
  ⟨ps_imp (ps_expr h.pe hs) fun D σ H h => trS_bind (k := fun _ env m => .nx env m) (fun Φ Z1 ρ1 H1 env m1 t v F r p => p _ _ _ _ Ext.refl F rfl) h⟩
theorem ss_pass {pos : Pos} : SS X W (.Pass pos) (fun env m => .nx env m) :=
  ⟨ps_imp ps_pass fun D σ H ⟨Φ, Z, ρ, env, m, F, p⟩ => p _ _ _ _ Ext.refl F rfl⟩
theorem ss_cont {pos : Pos} : SS X W (.Continue pos) (fun env m => .ct env m) :=
  ⟨ps_imp ps_continue fun D σ H ⟨Φ, Z, ρ, env, m, F, p⟩ => p _ _ _ _ Ext.refl F rfl⟩
theorem ss_brk {pos : Pos} : SS X W (.Break pos) (fun env m => .bk env m) :=
  ⟨ps_imp ps_break fun D σ H ⟨Φ, Z, ρ, env, m, F, p⟩ => p _ _ _ _ Ext.refl F rfl⟩
def sNo : SF := fun _ _ => .no
theorem ss_no {st : Stmt} : SS X W st sNo := ⟨⟨fun _ _ _ _ _ _ ⟨_, _, _, _, _, _, p⟩ => p.elim⟩⟩
theorem ss_set {k : Nat} (i : Nat) {x : Str} {e : Expr} {f : EF} {p pos : Pos} (c : Cok X W k) (h : SE X W e f) (hi : X.N[i]? = some x := by rfl) (hx : Loc X.env.scope x := by first | exact Or.inl rfl | exact Or.inr rfl)
    (hs : swapsWith e (some (.Name x p)) pos.line X.env = pure false := by rfl) (hf : X.fn x = true ∨ X.env.scope.names.lookup x = some .local := by first | exact .inl rfl | exact .inr rfl) : SS X W (.Assign [.Name x p] e pos) (sOf f fun t env m => .nx (env.set i (some t)) m) :=
  ⟨ps_imp (ps_set c.nd hi hx h.pe hs hf) fun D σ H h => trS_bind (k := fun t env m => .nx (env.set i (some t)) m) (fun Φ Z1 ρ1 H1 env m1 t v F r p => p _ _ _ _ Ext.refl ⟨F.rel, F.env.set i r⟩ (by simp)) h⟩
def sIf (c : BF) (f g : SF) : SF := fun env m => match c env m with
  | .ok b m1 => if b then f env m1 else g env m1
  | .ex C ns vs m1 => .ex C ns vs env m1
  | .no => .no
theorem trSB_bind {K : PySem.W.Frag} {σ : St} {H : Hp} {D : Ends} {c : BF} {f g : SF} {R : Bool → Hp → Prop}
    (hk : ∀ Φ Z1 ρ1 H1 env m1 b, Fits K Φ Z1 ρ1 σ H1 env m1 → PostS K W Φ Z1 ρ1 σ.length D (if b then f env m1 else g env m1) → R b H1)
    (h : trS K W (sIf c f g) D σ H) : trB K W c σ H R := by
  obtain ⟨Φ, Z, ρ, env, m, F, p⟩ := h
  refine ⟨Φ, Z, ρ, env, m, F, ?_⟩
  unfold sIf at p
  cases e : c env m with
  | ok t m1 =>
    rw [e] at p
    exact fun Z1 ρ1 H1 e1 r1 => hk Φ Z1 ρ1 H1 env m1 t ⟨r1, F.env.ext e1⟩ (PostS.ext (o := if t = true then f env m1 else g env m1) p e1)
  | ex C ns vs m1 =>
    rw [e] at p
    exact fun Z1 ρ1 H1 d us e1 r1 rs hl hd => p Z1 ρ1 H1 σ d us e1 ⟨r1, F.env.ext e1⟩ rs hl hd
  | no => rw [e] at p; exact p
theorem ss_if {c : Expr} {a b : List Stmt} {fc : BF} {f g : SF} {pos : Pos} (hc : SB X W c fc) (ha : SSs X W a f) (hb : SSs X W b g) : SS X W (.If c a b pos) (sIf fc f g) :=
  ⟨ps_imp (ps_if hc.pt ha.ps hb.ps) fun D σ H h => trSB_bind (fun Φ Z1 ρ1 H1 env m1 b F p => by
    cases b with
    | true => exact ⟨Φ, Z1, ρ1, env, m1, F, p⟩
    | false => exact ⟨Φ, Z1, ρ1, env, m1, F, p⟩) h⟩
def sNil : SF := fun env m => .nx env m
def sSeq (f g : SF) : SF := fun env m => match f env m with
  | .nx env1 m1 => g env1 m1
  | r => r
theorem sss_nil : SSs X W [] sNil := ⟨pss_imp pss_nil fun D σ H ⟨Φ, Z, ρ, env, m, F, p⟩ => p _ _ _ _ Ext.refl F rfl⟩
theorem sss_cons {st : Stmt} {rest : List Stmt} {f g : SF} (h1 : SS X W st f) (h2 : SSs X W rest g) : SSs X W (st :: rest) (sSeq f g) := by
  refine ⟨pss_imp (pss_cons h1.ps h2.ps) fun D σ H ⟨Φ, Z, ρ, env, m, F, p⟩ => ⟨Φ, Z, ρ, env, m, F, ?_⟩⟩
  unfold sSeq at p
  cases e : f env m with
  | nx env1 m1 =>
    rw [e] at p
    exact fun Z1 ρ1 H1 σ1 e1 F1 hl => ⟨Φ, Z1, ρ1, env1, m1, F1, by rw [hl]; exact PostS.ext (o := g env1 m1) p e1⟩
  | rt t m1 => rw [e] at p; exact p
  | bk _ _ => rw [e] at p; exact p
  | ct _ _ => rw [e] at p; exact p
  | ex _ _ _ _ _ => rw [e] at p; exact p
  | no => rw [e] at p; exact p
theorem sss_one {st : Stmt} {f : SF} (h1 : SS X W st f) : SSs X W [st] f := ⟨pss_one h1.ps⟩

/-! ### a def -/
def fnOf (n : Nat) (g : SF) : FS := fun ts m => match g (ts.map some ++ List.replicate (n - ts.length) none) m with
  | .nx _ m1 => .ok .non m1
  | .rt t m1 => .ok t m1
  | .ex C ns vs _ m1 => .ex C ns vs m1
  | _ => .no
theorem envs_start {K : PySem.W.Frag} {Z : Hp} {ρ : List Addr} {ts : List T} {vs : List V} (N : List Str) (r : Reps K Z ρ ts vs) : Envs K Z ρ (ts.map some ++ List.replicate (N.length - ts.length) none) (L2.start N vs) := by
  have hl := r.length
  refine ⟨by unfold L2.start; simp [hl], fun i t e => ?_⟩
  by_cases hi : i < ts.length
  · rw [List.getElem?_append_left (by simpa using hi), List.getElem?_map] at e
    obtain ⟨u, e1, e2⟩ := Option.map_eq_some_iff.mp e
    cases e2
    obtain ⟨v, h1, h2⟩ := r.get e1
    refine ⟨v, ?_, h2⟩
    unfold L2.start
    rw [List.getElem?_append_left (by simp; omega), List.getElem?_map, h1]; rfl
  · rw [List.getElem?_append_right (by simpa using Nat.le_of_not_lt hi)] at e
    have := List.mem_of_getElem? e
    have := List.eq_of_mem_replicate this
    cases this
theorem def_ok {P : Program} {w : World} {K : PySem.W.Frag} {mg : Str → Option Value} {base : Heap} {x qual : Str} {st : Stmt} {f : Addr} {fd : FuncData} {N ps : List Str} {k : Nat} {g : SF}
    (Fn : Fun K x qual st f fd) (S : FnScope N ps (defScope st)) (hm : mg x = some (.ref f)) (hb : Binds K fd ps [])
    (hbody : ∀ (cdv : Value) (A : Around) (outer : List PySem.Env) (s : Shared) (H : Hp) (E : XK), Cok (cxOf (L2.CX P w) P w K mg base N qual (defScope st) f cdv A outer s H E) (fun cls d _ H => E cls d H) k →
      SSs (cxOf (L2.CX P w) P w K mg base N qual (defScope st) f cdv A outer s H E) (fun cls d _ H => E cls d H) (defBody st) g) : DefOk P w K mg base ps.length (k + 1) x (fnOf N.length g) := by
  refine ⟨f, fd, ps, rfl, Fn.okX S (fun vs H Q E h => ?_) (fun cdv A outer s H vs Q E hr h => ?_), hm, Fn.kp, hb⟩
  · obtain ⟨Φ, Z, ρ, m, ts, _, _, hl, _⟩ := h
    exact hl
  · have c : Cok (cxOf (L2.CX P w) P w K mg base N qual (defScope st) f cdv A outer s H E) (fun cls d _ H => E cls d H) k := ⟨takes_of rfl rfl rfl rfl, passes_of rfl, rfl, S.nd, hr⟩
    refine ⟨_, (hbody cdv A outer s H E c).ps, ?_⟩
    obtain ⟨Φ, Z, ρ, m, ts, r, rs, hl, p⟩ := h
    refine ⟨Φ, Z, ρ, _, m, ⟨r, envs_start N rs⟩, ?_⟩
    unfold fnOf at p
    cases e : g (ts.map some ++ List.replicate (N.length - ts.length) none) m with
    | nx env1 m1 => rw [e] at p; exact fun Z1 ρ1 H1 σ1 e1 F1 _ => p Z1 ρ1 H1 .non e1 F1.rel rep_non
    | rt t m1 => rw [e] at p; exact p
    | ex C ns us env1 m1 => rw [e] at p; exact fun Z1 ρ1 H1 σ1 d us e1 F1 rs hl hd => p Z1 ρ1 H1 d us e1 F1.rel rs hl hd
    | bk _ _ => rw [e] at p; exact (show False from p).elim
    | ct _ _ => rw [e] at p; exact (show False from p).elim
    | no => rw [e] at p; exact p
end
end Ev

namespace Ev
open PySem L2

/-! ### what is walked -/
/-- J walks these values -/
def Wk (K : PySem.W.Frag) (Z : Hp) (ρ : List Addr) (J : It) (ts : List T) : Prop :=
  ∀ (Φ Z1 : Hp) (ρ1 : List Addr) (H : Hp) (m : Mem) (i : Nat), Ext Z Z1 ρ ρ1 → Rel K Φ Z1 ρ1 H m →
    (i = ts.length → J.stop i H) ∧ ∀ t, ts[i]? = some t → J.go i H ∧ ∀ x H', J.yld i H x H' → ∃ Z2, Ext Z1 Z2 ρ1 ρ1 ∧ Rel K Φ Z2 ρ1 H' m ∧ Rep K Z2 ρ1 t x
def PostI (K : PySem.W.Frag) (W : WX) (Φ Z : Hp) (ρ : List Addr) (σ : St) (R : It → Hp → Prop) : Out (List T) → Prop
  | .ok ts m => ∀ Z' ρ' H' J, Ext Z Z' ρ ρ' → Rel K Φ Z' ρ' H' m → Wk K Z' ρ' J ts → R J H'
  | .ex C ns ts m => ∀ Z' ρ' H' d vs, Ext Z Z' ρ ρ' → Rel K Φ Z' ρ' H' m → Reps K Z' ρ' ts vs → ns.length = vs.length → Z' d = some (.xd (ns.zip vs)) → WR K W C d σ H'
  | .no => False
structure SI (X : Cx) (W : WX) (tg iter : Expr) (fi : LF) : Prop where
  ex : ∃ wi, PI X tg iter wi ∧ ∀ (Φ Z : Hp) (ρ : List Addr) (σ : St) (H : Hp) (env : Env) (m : Mem) (R : It → Hp → Prop), Fits X.K Φ Z ρ σ H env m → PostI X.K W Φ Z ρ σ R (fi env m) → wi σ H R
theorem pi_or {X : Cx} {tg iter : Expr} {w1 w2 : TI} (h1 : PI X tg iter w1) (h2 : PI X tg iter w2) : PI X tg iter (fun σ H R => w1 σ H R ∨ w2 σ H R) :=
  ⟨fun pins s σ H R I h => h.elim (h1.run pins s σ H R I) (h2.run pins s σ H R I)⟩
def items : T → Option (List T)
  | .lst ts => some ts
  | .rls ts => some ts
  | .tup ts => some ts
  | .str x => some (x.cps.toList.map fun c => .str ⟨#[c]⟩)
  | _ => none
def iVal (f : EF) : LF := fun env m => (f env m).bind fun t m1 => match items t with
  | some ts => .ok ts m1
  | none => .no
theorem wk_list {K : PySem.W.Frag} {Z : Hp} {ρ : List Addr} {a : Addr} {vs : List V} {ts : List T} (h : SqL K Z a vs) (rs : Reps K Z ρ ts vs) : Wk K Z ρ (Itl K a) ts := fun Φ Z1 ρ1 H m i e r => by
  have q : SqL K H a vs := r.same.seq (e.z.seq h)
  refine ⟨fun hi => ⟨vs, q, by rw [hi, rs.length]; exact Nat.le_refl _⟩, fun t ht => ?_⟩
  obtain ⟨v, h1, h2⟩ := rs.get ht
  refine ⟨⟨vs, v, q, h1⟩, fun x H' ⟨e1, y⟩ => ?_⟩
  subst e1
  have e3 : v = x := by have := y vs q; rw [h1] at this; exact Option.some.inj this
  subst e3
  exact ⟨Z1, Ext.refl, r, h2.ext e⟩
theorem wk_tup {K : PySem.W.Frag} {Z : Hp} {ρ : List Addr} {a : Addr} {vs : List V} {ts : List T} (h : SqT K Z a vs) (rs : Reps K Z ρ ts vs) : Wk K Z ρ (Itt K a) ts := fun Φ Z1 ρ1 H m i e r => by
  have q : SqT K H a vs := Same.sqt r.same (Same.sqt e.z h)
  refine ⟨fun hi => ⟨vs, q, by rw [hi, rs.length]; exact Nat.le_refl _⟩, fun t ht => ?_⟩
  obtain ⟨v, h1, h2⟩ := rs.get ht
  refine ⟨⟨vs, v, q, h1⟩, fun x H' ⟨e1, y⟩ => ?_⟩
  subst e1
  have e3 : v = x := by have := y vs q; rw [h1] at this; exact Option.some.inj this
  subst e3
  exact ⟨Z1, Ext.refl, r, h2.ext e⟩
theorem wk_str {K : PySem.W.Frag} {Z : Hp} {ρ : List Addr} {x : Str} : Wk K Z ρ (Its x) (x.cps.toList.map fun c => .str ⟨#[c]⟩) := fun Φ Z1 ρ1 H m i e r => by
  refine ⟨fun hi => ?_, fun t ht => ?_⟩
  · show x.cps.size ≤ i
    rw [hi]; simp
  · rw [List.getElem?_map] at ht
    obtain ⟨c, h1, h2⟩ := Option.map_eq_some_iff.mp ht
    have hl := (List.getElem?_eq_some_iff.mp h1).1
    refine ⟨by show i < x.cps.size; simpa using hl, fun y H' ⟨e1, c', h3, h4⟩ => ?_⟩
    subst e1
    have : c = c' := by
      have h5 : x.cps.toList[i]? = some c' := by simpa using h3
      rw [h1] at h5; exact Option.some.inj h5
    subst this
    subst h4; subst h2
    exact ⟨Z1, Ext.refl, r, rep_str⟩
section
variable {X : Cx} {W : WX}
theorem si_val {tg e : Expr} {f : EF} (h : SE X W e f) : SI X W tg e (iVal f) := by
  refine ⟨_, pi_or (pi_or (pi_list h.pe) (pi_tup h.pe)) (pi_str h.pe), fun Φ Z ρ σ H env m R F p => ?_⟩
  have key : ∀ (R' : V → Hp → Prop), (∀ t ts m1 Z1 ρ1 H1 v, f env m = .ok t m1 → items t = some ts → Ext Z Z1 ρ ρ1 → Fits X.K Φ Z1 ρ1 σ H1 env m1 → Rep X.K Z1 ρ1 t v → (∀ J, Wk X.K Z1 ρ1 J ts → R J H1) → R' v H1) → tr X.K W f σ H R' := by
    intro R' hk
    refine tr_bind (P := PostI X.K W Φ Z ρ σ R) F (fun t m1 Z1 ρ1 H1 v e0 e1 F1 r p1 => ?_) (fun _ _ _ _ h => h) (fun h => h) p
    cases hi : items t with
    | none => rw [hi] at p1; exact p1.elim
    | some ts =>
      rw [hi] at p1
      exact hk t ts m1 Z1 ρ1 H1 v e0 hi e1 F1 r fun J w => p1 _ _ _ J e1 F1.rel w
  cases e0 : f env m with
  | no => unfold iVal at p; rw [e0] at p; exact p.elim
  | ex C ns vs m1 =>
    refine .inl (.inl ?_)
    exact key _ fun t ts m1 Z1 ρ1 H1 v e1 => by rw [e0] at e1; cases e1
  | ok t m1 =>
    cases t with
    | lst us =>
      refine .inl (.inl (key _ fun t ts m1 Z1 ρ1 H1 v e1 hi e F1 r hR => ?_))
      rw [e0] at e1; cases e1
      have e2 : us = ts := by simpa [items] using hi
      subst e2
      unfold Rep at r
      obtain ⟨a, vs, rfl, q, rs⟩ := r
      exact ⟨a, rfl, ⟨vs, .of (F1.rel.zin _ _ q)⟩, hR _ (wk_list (.of q) rs)⟩
    | rls us =>
      refine .inl (.inl (key _ fun t ts m1 Z1 ρ1 H1 v e1 hi e F1 r hR => ?_))
      rw [e0] at e1; cases e1
      have e2 : us = ts := by simpa [items] using hi
      subst e2
      unfold Rep at r
      obtain ⟨a, vs, rfl, q, rs⟩ := r
      exact ⟨a, rfl, ⟨vs, F1.rel.same.seq q⟩, hR _ (wk_list q rs)⟩
    | tup us =>
      refine .inl (.inr (key _ fun t ts m1 Z1 ρ1 H1 v e1 hi e F1 r hR => ?_))
      rw [e0] at e1; cases e1
      have e2 : us = ts := by simpa [items] using hi
      subst e2
      unfold Rep at r
      obtain ⟨a, vs, rfl, q, rs⟩ := r
      exact ⟨a, rfl, ⟨vs, Same.sqt F1.rel.same q⟩, hR _ (wk_tup q rs)⟩
    | str y =>
      refine .inr (key _ fun t ts m1 Z1 ρ1 H1 v e1 hi e F1 r hR => ?_)
      rw [e0] at e1; cases e1
      have e2 : ts = y.cps.toList.map fun c => .str ⟨#[c]⟩ := by simpa [items] using hi.symm
      subst e2
      unfold Rep at r
      subst r
      exact ⟨y, rfl, hR _ wk_str⟩
    | _ => unfold iVal at p; rw [e0] at p; exact (show False from p).elim
theorem wk_range {K : PySem.W.Frag} {Z : Hp} {ρ : List Addr} {lo : Int} {n : Nat} : Wk K Z ρ (Itr lo n) ((List.range n).map fun i => .int (lo + (i : Nat))) := fun Φ Z1 ρ1 H m i e r => by
  refine ⟨fun hi => by show n ≤ i; rw [hi]; simp, fun t ht => ?_⟩
  rw [List.getElem?_map] at ht
  obtain ⟨c, h1, h2⟩ := Option.map_eq_some_iff.mp ht
  have hl := (List.getElem?_eq_some_iff.mp h1).1
  have hc : c = i := by
    rw [List.getElem?_range (by simpa using hl)] at h1; exact (Option.some.inj h1).symm
  subst hc; subst h2
  refine ⟨by show c < n; simpa using hl, fun y H' ⟨e1, e2⟩ => ?_⟩
  subst e1; subst e2
  exact ⟨Z1, Ext.refl, r, rep_int⟩
def rng (lo hi : Int) : List T := (List.range (hi - lo).toNat).map fun i => .int (lo + (i : Nat))
def iRange (fs : LF) : LF := fun env m => (fs env m).bind fun ts m1 => match ts with
  | [.int n] => if -1000000 ≤ n ∧ n ≤ 1000000 then .ok (rng 0 n) m1 else .no
  | _ => .no
def iRange2 (fs : LF) : LF := fun env m => (fs env m).bind fun ts m1 => match ts with
  | [.int a, .int b] => if -1000000 ≤ a ∧ a ≤ 1000000 ∧ -1000000 ≤ b ∧ b ≤ 1000000 then .ok (rng a b) m1 else .no
  | _ => .no
theorem si_range1 {tg a : Expr} {fs : LF} {p pos : Pos} (ha : SA X W [a] fs) (hm : X.mg "range" = none) (hg : Gl X "range" := by rfl) (hs : starEach [a] X.env = [(false, eval a X.env)] := by rfl) :
    SI X W tg (.Call (.Name "range" p) [a] [] pos) (iRange fs) := by
  refine ⟨_, pi_range1 hg hm ha.pa hs, fun Φ Z ρ σ H env m R F p => ?_⟩
  refine trL_bind (P := PostI X.K W Φ Z ρ σ R) F (fun ts m1 Z1 ρ1 H1 vs e0 e1 F1 r p1 => ?_) (fun _ _ _ _ h => h) (fun h => h) p
  split at p1
  · rename_i n
    split at p1
    · rename_i hb
      unfold Reps at r
      obtain ⟨v, us, rfl, r1, r2⟩ := r
      unfold Reps at r2
      subst r2
      unfold Rep at r1
      subst r1
      refine ⟨n, rfl, by omega, by omega, p1 _ _ _ _ e1 F1.rel ?_⟩
      have : rng 0 n = (List.range n.toNat).map fun i => T.int (0 + (i : Nat)) := by unfold rng; simp
      rw [this]
      exact wk_range
    · exact p1.elim
  · exact p1.elim
theorem si_range2 {tg a b : Expr} {fs : LF} {p pos : Pos} (ha : SA X W [a, b] fs) (hm : X.mg "range" = none) (hg : Gl X "range" := by rfl) (hs : starEach [a, b] X.env = [(false, eval a X.env), (false, eval b X.env)] := by rfl) (hs2 : starEach [b] X.env = [(false, eval b X.env)] := by rfl) :
    SI X W tg (.Call (.Name "range" p) [a, b] [] pos) (iRange2 fs) := by
  refine ⟨_, pi_range2 hg hm ha.pa hs hs2, fun Φ Z ρ σ H env m R F p => ?_⟩
  refine trL_bind (P := PostI X.K W Φ Z ρ σ R) F (fun ts m1 Z1 ρ1 H1 vs e0 e1 F1 r p1 => ?_) (fun _ _ _ _ h => h) (fun h => h) p
  split at p1
  · rename_i n k
    split at p1
    · rename_i hb
      unfold Reps at r
      obtain ⟨v, us, rfl, r1, r2⟩ := r
      unfold Reps at r2
      obtain ⟨v2, us2, rfl, r3, r4⟩ := r2
      unfold Reps at r4
      subst r4
      unfold Rep at r1 r3
      subst r1; subst r3
      exact ⟨n, k, rfl, by omega, p1 _ _ _ _ e1 F1.rel wk_range⟩
    · exact p1.elim
  · exact p1.elim
end
/-! ### targets -/
abbrev GF := T → Env → Option Env
def KG (K : PySem.W.Frag) (sl : List Nat) (gt : GF) (g : TG) : Prop := ∀ (Φ Z : Hp) (ρ : List Addr) (σ : St) (H : Hp) (env env1 : Env) (m : Mem) (t : T) (v : V) (Q : St → Hp → Prop), Fits K Φ Z ρ σ H env m → Rep K Z ρ t v → gt t env = some env1 →
    (∀ σ', Fits K Φ Z ρ σ' H env1 m → σ'.length = σ.length → (∀ vs : List Nat, (∀ i ∈ sl, i ∈ vs) → wipe σ' vs = wipe σ vs) → Q σ' H) → g v σ H Q
structure SG (X : Cx) (tg : Expr) (sl : List Nat) (gt : GF) (g : TG) : Prop where
  pg : PG X tg g
  kg : KG X.K sl gt g
def KGs (K : PySem.W.Frag) (sl : List Nat) (gt : List T → Env → Option Env) (g : TGs) : Prop := ∀ (Φ Z : Hp) (ρ : List Addr) (σ : St) (H : Hp) (env env1 : Env) (m : Mem) (ts : List T) (vs : List V) (Q : St → Hp → Prop), Fits K Φ Z ρ σ H env m → Reps K Z ρ ts vs → gt ts env = some env1 →
    (∀ σ', Fits K Φ Z ρ σ' H env1 m → σ'.length = σ.length → (∀ ws : List Nat, (∀ i ∈ sl, i ∈ ws) → wipe σ' ws = wipe σ ws) → Q σ' H) → g vs σ H Q
structure SGs (X : Cx) (tgs : List Expr) (sl : List Nat) (gt : List T → Env → Option Env) (g : TGs) : Prop where
  pg : PGs X tgs g
  kg : KGs X.K sl gt g
theorem wipe_get (σ : St) (i : Nat) : ∀ vs : List Nat, (wipe σ vs)[i]? = if i ∈ vs ∧ i < σ.length then some none else σ[i]?
  | [] => by simp [wipe]
  | v :: vs => by
    unfold wipe
    rw [List.getElem?_set, wipe_get σ i vs, wipe_length]
    by_cases h1 : v = i
    · subst h1
      by_cases h2 : v < σ.length
      · simp [h2]
      · simp [h2]
    · have h3 : ¬ i = v := fun z => h1 z.symm
      simp [h1, h3]
theorem wipe_set {σ : St} {i : Nat} {x : Option V} {vs : List Nat} (h : i ∈ vs) : wipe (σ.set i x) vs = wipe σ vs := by
  refine List.ext_getElem? fun j => ?_
  rw [wipe_get, wipe_get, List.length_set, List.getElem?_set]
  by_cases hj : i = j
  · subst hj
    by_cases hl : i < σ.length
    · simp [h, hl]
    · simp [hl]
  · simp [hj]
def gN (i : Nat) : GF := fun t env => some (env.set i (some t))
def gsNil : List T → Env → Option Env
  | [], env => some env
  | _, _ => none
def gsCons (g : GF) (gs : List T → Env → Option Env) : List T → Env → Option Env
  | t :: ts, env => (g t env).bind fun env1 => gs ts env1
  | _, _ => none
/-- a tuple taken apart -/
def gT (n : Nat) (gs : List T → Env → Option Env) : GF := fun t env => match t with
  | .tup ts => if ts.length = n then gs ts env else none
  | _ => none
/-- a tuple or a list taken apart -/
def gTL (n : Nat) (gs : List T → Env → Option Env) : GF := fun t env => match t with
  | .tup ts => if ts.length = n then gs ts env else none
  | .lst ts => if ts.length = n then gs ts env else none
  | .rls ts => if ts.length = n then gs ts env else none
  | _ => none
section
variable {X : Cx} {W : WX}
theorem sg_name (i : Nat) {x : Str} {pos : Pos} (nd : X.N.Nodup) (hi : X.N[i]? = some x := by rfl) (hx : Loc X.env.scope x := by first | exact Or.inl rfl | exact Or.inr rfl) (hf : X.fn x = true ∨ X.env.scope.names.lookup x = some .local := by first | exact .inl rfl | exact .inr rfl) : SG X (.Name x pos) [i] (gN i) (gName i) := by
  refine ⟨pg_name nd hi hx hf, fun Φ Z ρ σ H env env1 m t v Q F r e h => ?_⟩
  cases e
  exact h _ ⟨F.rel, F.env.set i r⟩ (by simp) fun vs hv => wipe_set (hv i (by simp))
theorem sgs_nil : SGs X [] [] gsNil gNil := by
  refine ⟨pgs_nil, fun Φ Z ρ σ H env env1 m ts vs Q F r e h => ?_⟩
  cases ts with
  | nil =>
    unfold Reps at r
    cases e
    exact ⟨r, h σ F rfl fun _ _ => rfl⟩
  | cons t ts => cases e
theorem sgs_cons {e : Expr} {es : List Expr} {s1 s2 : List Nat} {g : GF} {gs : List T → Env → Option Env} {w1 : TG} {w2 : TGs} (h1 : SG X e s1 g w1) (h2 : SGs X es s2 gs w2)
    (hs : (assignEach (e :: es) X.env).map (·.2) = assign e X.env :: (assignEach es X.env).map (·.2) := by rfl) : SGs X (e :: es) (s1 ++ s2) (gsCons g gs) (gCons w1 w2) := by
  obtain ⟨p1, k1⟩ := h1
  obtain ⟨p2, k2⟩ := h2
  refine ⟨pgs_cons p1 p2 hs, fun Φ Z ρ σ H env env1 m ts vs Q F r e h => ?_⟩
  cases ts with
  | nil => cases e
  | cons t ts =>
    unfold Reps at r
    obtain ⟨v, us, rfl, r1, rs⟩ := r
    unfold gsCons at e
    obtain ⟨envA, ea, eb⟩ := Option.bind_eq_some_iff.mp e
    refine ⟨v, us, rfl, k1 Φ Z ρ σ H env envA m t v _ F r1 ea fun σ1 F1 l1 w1' => ?_⟩
    refine k2 Φ Z ρ σ1 H envA env1 m ts us _ F1 rs eb fun σ2 F2 l2 w2' => h σ2 F2 (l2.trans l1) fun ws hw => ?_
    exact (w2' ws fun i hi => hw i (List.mem_append_right _ hi)).trans (w1' ws fun i hi => hw i (List.mem_append_left _ hi))
theorem pg_or {tg : Expr} {g1 g2 : TG} (h1 : PG X tg g1) (h2 : PG X tg g2) : PG X tg (fun v σ H Q => g1 v σ H Q ∨ g2 v σ H Q) :=
  ⟨fun pins s σ H v u Q I r h => h.elim (h1.run pins s σ H v u Q I r) (h2.run pins s σ H v u Q I r)⟩
theorem sg_tup {es : List Expr} {kk n : Nat} {pos : Pos} {sl : List Nat} {gs : List T → Env → Option Env} {w : TGs} (hc : X.calm = true) (h : SGs X es sl gs w)
    (hn : (assignEach es X.env).length = n := by rfl) (hst : (assignEach es X.env).findIdx? (·.1) = none := by rfl) : SG X (.Tuple es kk pos) sl (gT n gs) (gTup X.K n w) := by
  obtain ⟨p, k⟩ := h
  refine ⟨pg_tup hc p hn hst, fun Φ Z ρ σ H env env1 m t v Q F r e h => ?_⟩
  unfold gT at e
  split at e
  · rename_i ts
    split at e
    · rename_i hl
      unfold Rep at r
      obtain ⟨a, vs, rfl, q, rs⟩ := r
      exact ⟨a, vs, rfl, Same.sqt F.rel.same q, by rw [← rs.length]; exact hl, k Φ Z ρ σ H env env1 m ts vs Q F rs e h⟩
    · cases e
  · cases e
theorem sg_tupL {es : List Expr} {kk n : Nat} {pos : Pos} {sl : List Nat} {gs : List T → Env → Option Env} {w : TGs} (hc : X.calm = true) (h : SGs X es sl gs w)
    (hn : (assignEach es X.env).length = n := by rfl) (hst : (assignEach es X.env).findIdx? (·.1) = none := by rfl) : SG X (.Tuple es kk pos) sl (gTL n gs) (fun v σ H Q => gTup X.K n w v σ H Q ∨ gLst X.K n w v σ H Q) := by
  obtain ⟨p, k⟩ := h
  refine ⟨pg_or (pg_tup hc p hn hst) (pg_lst hc p hn hst), fun Φ Z ρ σ H env env1 m t v Q F r e h => ?_⟩
  unfold gTL at e
  split at e
  · rename_i ts
    split at e
    · rename_i hl
      unfold Rep at r
      obtain ⟨a, vs, rfl, q, rs⟩ := r
      exact .inl ⟨a, vs, rfl, Same.sqt F.rel.same q, by rw [← rs.length]; exact hl, k Φ Z ρ σ H env env1 m ts vs Q F rs e h⟩
    · cases e
  · rename_i ts
    split at e
    · rename_i hl
      unfold Rep at r
      obtain ⟨a, vs, rfl, q, rs⟩ := r
      exact .inr ⟨a, vs, rfl, .of (F.rel.zin _ _ q), by rw [← rs.length]; exact hl, k Φ Z ρ σ H env env1 m ts vs Q F rs e h⟩
    · cases e
  · rename_i ts
    split at e
    · rename_i hl
      unfold Rep at r
      obtain ⟨a, vs, rfl, q, rs⟩ := r
      exact .inr ⟨a, vs, rfl, F.rel.same.seq q, by rw [← rs.length]; exact hl, k Φ Z ρ σ H env env1 m ts vs Q F rs e h⟩
    · cases e
  · cases e
/-- a plain assignment to any target -/
def sAsg (f : EF) (g : GF) : SF := sOf f fun t env m => match g t env with
  | some env1 => .nx env1 m
  | none => .no
theorem ss_asg {tg e : Expr} {sl : List Nat} {f : EF} {g : GF} {w : TG} {pos : Pos} (he : SE X W e f) (hg : SG X tg sl g w) (hs : swapsWithSole [tg] e pos.line X.env = pure false := by rfl) (hw : swappedStores [tg] e X.env = pure none := by rfl)
    (h1 : (assignEach [tg] X.env).map (·.2) = [assign tg X.env] := by rfl) : SS X W (.Assign [tg] e pos) (sAsg f g) := by
  obtain ⟨p, k⟩ := hg
  refine ⟨ps_imp (ps_asg he.pe p hs hw h1) fun D σ H h => trS_bind (k := fun t env m => match g t env with
    | some env1 => .nx env1 m
    | none => .no) (fun Φ Z1 ρ1 H1 env m1 t v F r p => ?_) h⟩
  cases e : g t env with
  | none => rw [e] at p; exact (show False from p).elim
  | some env1 =>
    rw [e] at p
    exact k Φ Z1 ρ1 σ H1 env env1 m1 t v D.nx F r e fun σ' F' hl _ => p _ _ _ _ Ext.refl F' hl
/-! ### for -/
def loop (g : GF) (body : SF) : List T → Env → Mem → SOut
  | [], env, m => .nx env m
  | t :: ts, env, m => match g t env with
    | none => .no
    | some env1 => match body env1 m with
      | .nx env2 m2 => loop g body ts env2 m2
      | .ct env2 m2 => loop g body ts env2 m2
      | .bk env2 m2 => .nx env2 m2
      | .rt t m2 => .rt t m2
      | .ex C ns vs env2 m2 => .ex C ns vs env2 m2
      | .no => .no
def sFor (fi : LF) (g : GF) (body : SF) : SF := fun env m => match fi env m with
  | .ok ts m1 => loop g body ts env m1
  | .ex C ns vs m1 => .ex C ns vs env m1
  | .no => .no
theorem ss_for {k : Nat} {tg iter : Expr} {body : List Stmt} {sl : List Nat} {fi : LF} {g : GF} {fb : SF} {wg : TG} {pos : Pos} (c : Cok X W k) (hi : SI X W tg iter fi) (hg : SG X tg sl g wg) (hb : SSs X W body fb)
    (hs : ∀ x, foldedSetIterable iter X.env x = pure x := by intro _; rfl) : SS X W (.For tg iter body [] pos) (sFor fi g fb) := by
  obtain ⟨wi, pi, ki⟩ := hi.ex
  obtain ⟨pg, kg⟩ := hg
  refine ⟨ps_imp (ps_for c.pass c.calm pi pg hb.ps hs) fun D σ H ⟨Φ, Z, ρ, env, m, F, p⟩ => ki Φ Z ρ σ H env m _ F ?_⟩
  unfold sFor at p
  cases e0 : fi env m with
  | no => rw [e0] at p; exact p
  | ex C ns us m1 =>
    rw [e0] at p
    exact fun Z1 ρ1 H1 d us e1 r1 rs hl hd => p Z1 ρ1 H1 σ d us e1 ⟨r1, F.env.ext e1⟩ rs hl hd
  | ok ts m1 =>
    rw [e0] at p
    intro Z1 ρ1 H1 J e1 r1 wk
    let Pv : Nat → Nat → St → Hp → Prop := fun i k σ2 H2 => k = ts.length - i ∧ i ≤ ts.length ∧ σ2.length = σ.length ∧ ∃ Z2 ρ2 env2 m2, Ext Z1 Z2 ρ1 ρ2 ∧ Fits X.K Φ Z2 ρ2 σ2 H2 env2 m2 ∧ PostS X.K W Φ Z2 ρ2 σ.length D (loop g fb (ts.drop i) env2 m2)
    refine ⟨Pv, ⟨ts.length, by simp, Nat.zero_le _, rfl, Z1, ρ1, env, m1, Ext.refl, ⟨r1, F.env.ext e1⟩, by simpa using PostS.ext (o := loop g fb ts env m1) p e1⟩, ?_⟩
    rintro i k σ2 H2 ⟨hk, hi, hl2, Z2, ρ2, env2, m2, e2, F2, p2⟩
    obtain ⟨w1, w2⟩ := wk Φ Z2 ρ2 H2 m2 i e2 F2.rel
    by_cases hlt : i < ts.length
    · have hti : ts[i]? = some ts[i] := by simp [hlt]
      obtain ⟨go, yld⟩ := w2 _ hti
      rw [List.drop_eq_getElem_cons hlt] at p2
      refine .inr ⟨go, fun σ' H' => Pv (i + 1) (ts.length - (i + 1)) σ' H', fun σ' H' h' => ⟨_, by omega, h'⟩, fun x H3 y => ?_⟩
      obtain ⟨Z3, e3, r3, rep⟩ := yld x H3 y
      unfold loop at p2
      cases eg : g ts[i] env2 with
      | none => rw [eg] at p2; exact p2.elim
      | some env3 =>
        rw [eg] at p2
        refine kg Φ Z3 ρ2 σ2 H3 env2 env3 m2 ts[i] x _ ⟨r3, F2.env.ext e3⟩ rep eg fun σ4 F4 hl4 _ => ⟨Φ, Z3, ρ2, env3, m2, F4, ?_⟩
        have fin : ∀ env5 m5, PostS X.K W Φ Z2 ρ2 σ.length D (loop g fb (ts.drop (i + 1)) env5 m5) → ∀ Z' ρ' H' σ', Ext Z3 Z' ρ2 ρ' → Fits X.K Φ Z' ρ' σ' H' env5 m5 → σ'.length = σ4.length → Pv (i + 1) (ts.length - (i + 1)) σ' H' :=
          fun env5 m5 q Z' ρ' H' σ' e' F' hl' => ⟨rfl, hlt, by rw [hl', hl4, hl2], Z', ρ', env5, m5, (e2.trans e3).trans e', F', q.ext (e3.trans e')⟩
        cases eb : fb env3 m2 with
        | nx env5 m5 => simp only [eb] at p2; exact fin env5 m5 p2
        | ct env5 m5 => simp only [eb] at p2; exact fin env5 m5 p2
        | bk env5 m5 =>
          simp only [eb] at p2
          exact fun Z' ρ' H' σ' e' F' hl' => p2 Z' ρ' H' σ' (e3.trans e') F' (by rw [hl', hl4, hl2])
        | rt t m5 =>
          simp only [eb] at p2
          exact fun Z' ρ' H' v e' => p2 Z' ρ' H' v (e3.trans e')
        | ex C ns us env5 m5 =>
          simp only [eb] at p2
          exact fun Z' ρ' H' σ' d vs e' => p2 Z' ρ' H' σ' d vs (e3.trans e')
        | no => simp only [eb] at p2; exact p2.elim
    · have hi' : i = ts.length := by omega
      refine .inl ⟨w1 hi', ?_⟩
      rw [List.drop_eq_nil_of_le (by omega)] at p2
      exact p2 _ _ _ _ Ext.refl F2 hl2
/-! ### comprehensions -/
def wipeE (env : Env) : List Nat → Env
  | [] => env
  | v :: vs => (wipeE env vs).set v none
theorem envs_wipe {K : PySem.W.Frag} {Z : Hp} {ρ : List Addr} {env : Env} {σ : St} (r : Envs K Z ρ env σ) : ∀ vs : List Nat, Envs K Z ρ (wipeE env vs) (wipe σ vs)
  | [] => r
  | v :: vs => by
    have ih := envs_wipe r vs
    unfold wipeE wipe
    refine ⟨by simp [ih.len], fun i t e => ?_⟩
    by_cases hi : v = i
    · subst hi
      rw [List.getElem?_set] at e
      simp only [if_true] at e
      split at e <;> cases e
    · rw [List.getElem?_set_ne hi] at e ⊢
      exact ih.get i t e
def cLoop (g : GF) (tt : BF) (fe : EF) (env0 : Env) : List T → Mem → Out (List T)
  | [], m => .ok [] m
  | t :: ts, m => match g t env0 with
    | none => .no
    | some env1 => match tt env1 m with
      | .ok true m1 => match fe env1 m1 with
        | .ok y m2 => match cLoop g tt fe env0 ts m2 with
          | .ok ys m3 => .ok (y :: ys) m3
          | _ => .no
        | _ => .no
      | .ok false m1 => cLoop g tt fe env0 ts m1
      | _ => .no
def bYes : BF := fun _ m => .ok true m
def eComp (mu : Bool) (sl : List Nat) (fi : LF) (g : GF) (tt : BF) (fe : EF) : EF := fun env m => (fi env m).bind fun ts m1 =>
  if ts.length ≤ lim then match cLoop g tt fe (wipeE env sl) ts m1 with
    | .ok ys m2 => mk mu ys m2
    | _ => .no
  else .no
structure STs (X : Cx) (W : WX) (ifs : List Expr) (tt : BF) : Prop where
  pts : PTs X ifs (trB X.K W tt)
theorem sts_nil : STs X W [] bYes := ⟨⟨fun pins s σ H Q I ⟨Φ, Z, ρ, env, m, F, p⟩ => pts_nil.run pins s σ H Q I (p _ _ _ Ext.refl F.rel)⟩⟩
theorem sts_one {c : Expr} {f : BF} (h : SB X W c f) : STs X W [c] f := ⟨pts_one h.pt⟩
theorem tr_comp {K : PySem.W.Frag} {σ : St} {H : Hp} {Q : VK} {mu : Bool} {sl : List Nat} {fi : LF} {g : GF} {tt : BF} {fe : EF} {wi : TI} {wg : TG}
    (ki : ∀ (Φ Z : Hp) (ρ : List Addr) (σ : St) (H : Hp) (env : Env) (m : Mem) (R : It → Hp → Prop), Fits K Φ Z ρ σ H env m → PostI K W Φ Z ρ σ R (fi env m) → wi σ H R)
    (kg : KG K sl g wg)
    (h : tr K W (eComp mu sl fi g tt fe) σ H Q) : tLc wi wg (trB K W0 tt) (tr K W0 fe) sl σ H Q := by
  obtain ⟨Φ, Z, ρ, env, m, F, p⟩ := h
  refine ki Φ Z ρ σ H env m _ F ?_
  unfold eComp at p
  cases e0 : fi env m with
  | no => rw [e0] at p; exact p
  | ex C ns us m1 => rw [e0] at p; exact p
  | ok ts m1 =>
    rw [e0] at p
    simp only [Out.bind] at p
    split at p
    rotate_left
    · exact p.elim
    rename_i hlim
    intro Z1 ρ1 H1 J e1 r1 wk D hD
    have env1 : Envs K Z1 ρ1 env σ := F.env.ext e1
    -- the loop's word: what is made so far
    let Pv : Nat → Nat → Hp → Prop := fun i k H2 => k = ts.length - i ∧ i ≤ ts.length ∧ ∃ Z2 ρ2 m2 acc vs, Ext Z1 Z2 ρ1 ρ2 ∧ Rel K (upd Φ D (.lst vs)) Z2 ρ2 H2 m2 ∧ Reps K Z2 ρ2 acc vs ∧ acc.length ≤ i ∧
      Post K W Φ Z2 ρ2 σ Q (match cLoop g tt fe (wipeE env sl) (ts.drop i) m2 with
        | .ok ys m3 => mk mu (acc ++ ys) m3
        | _ => .no)
    have hΦD : Φ D = none := by
      cases e : Φ D with
      | none => rfl
      | some u => rw [(r1.fin D u e).1] at hD; cases hD
    refine ⟨Pv, ⟨ts.length, by simp, Nat.zero_le _, Z1, ρ1, m1, [], [], Ext.refl, r1.aside hD _, .nil, Nat.le_refl _, by
      simp only [List.drop_zero, List.nil_append]
      exact Post.ext p e1⟩, ?_⟩
    rintro i k H2 ⟨hk, hi, Z2, ρ2, m2, acc, vs, e2, r2, ra, hacc, p2⟩
    have hDv : (upd Φ D (.lst vs)) D = some (.lst vs) := upd_same
    obtain ⟨w1, w2⟩ := wk _ Z2 ρ2 H2 m2 i e2 r2
    by_cases hlt : i < ts.length
    · have hti : ts[i]? = some ts[i] := by simp [hlt]
      obtain ⟨go, yld⟩ := w2 _ hti
      rw [List.drop_eq_getElem_cons hlt] at p2
      refine .inr ⟨go, fun H' => Pv (i + 1) (ts.length - (i + 1)) H', fun H' h' => ⟨_, by omega, h'⟩, fun x H3 y => ?_⟩
      obtain ⟨Z3, e3, r3, rep⟩ := yld x H3 y
      unfold cLoop at p2
      cases eg : g ts[i] (wipeE env sl) with
      | none => rw [eg] at p2; exact p2.elim
      | some env3 =>
        rw [eg] at p2
        refine kg _ Z3 ρ2 (wipe σ sl) H3 (wipeE env sl) env3 m2 ts[i] x _ ⟨r3, (envs_wipe env1 sl).ext (e2.trans e3)⟩ rep eg fun σ4 F4 hl4 hw => ⟨?_, _, Z3, ρ2, env3, m2, F4, ?_⟩
        · rw [hw sl fun _ h => h]
          refine List.ext_getElem? fun j => ?_
          rw [wipe_get, wipe_get, wipe_length]
          by_cases hj : j ∈ sl ∧ j < σ.length
          · simp [hj]
          · simp only [hj, if_false]
        · cases et : tt env3 m2 with
          | no => simp only [et] at p2; exact p2.elim
          | ex _ _ _ _ => simp only [et] at p2; exact p2.elim
          | ok b m5 =>
            intro Z5 ρ5 H5 e5 r5
            cases b with
            | false =>
              simp only [et] at p2
              simp only [Bool.false_eq_true, if_false]
              exact ⟨rfl, hlt, Z5, ρ5, m5, acc, vs, (e2.trans e3).trans e5, r5, ra.ext (e3.trans e5), by omega, p2.ext (e3.trans e5)⟩
            | true =>
              simp only [et] at p2
              simp only [if_true]
              refine ⟨_, Z5, ρ5, env3, m5, ⟨r5, F4.env.ext e5⟩, ?_⟩
              cases ee : fe env3 m5 with
              | no => simp only [ee] at p2; exact p2.elim
              | ex _ _ _ _ => simp only [ee] at p2; exact p2.elim
              | ok z m6 =>
                simp only [ee] at p2
                intro Z6 ρ6 H6 v6 e6 r6 rep6
                have hD6 : H6 D = some (.lst vs) := (r6.fin D _ upd_same).1
                refine ⟨vs, hD6, ?_, rfl, hlt, Z6, ρ6, m6, acc ++ [z], vs ++ [v6], ((e2.trans e3).trans e5).trans e6, ?_, (ra.ext ((e3.trans e5).trans e6)).append (.cons rep6 .nil), by simp; omega, ?_⟩
                · rw [← ra.length]; exact lim_lt (by omega)
                · have := r6.aside_set (u := .lst (vs ++ [v6])) (p := D) upd_same
                  rw [upd_upd] at this
                  exact this
                · refine Post.ext ?_ ((e3.trans e5).trans e6)
                  cases el : cLoop g tt fe (wipeE env sl) (ts.drop (i + 1)) m6 with
                  | ok ys m7 =>
                    simp only [el] at p2
                    simpa using p2
                  | ex _ _ _ _ => simp only [el] at p2; exact p2.elim
                  | no => simp only [el] at p2; exact p2.elim
    · have hi' : i = ts.length := by omega
      refine .inl ⟨w1 hi', ?_⟩
      rw [List.drop_eq_nil_of_le (by omega)] at p2
      unfold cLoop at p2
      simp only [List.append_nil] at p2
      have hΨ : ∀ a u, Φ a = some u → (upd Φ D (.lst vs)) a = some u ∧ a ≠ D := fun a u e => by
        have hb := ne_of_none e hΦD
        exact ⟨by rw [upd_ne hb]; exact e, hb⟩
      cases mu with
      | false =>
        obtain ⟨r5, e5⟩ := r2.back (Ψ := Φ) upd_same hΨ
        refine p2 _ _ _ _ e5 r5 ?_
        unfold Rep
        exact ⟨D, vs, rfl, upd_same, ra.ext e5⟩
      | true =>
        obtain ⟨r5, e5⟩ := r2.backC (Ψ := Φ) (u := .lst acc) upd_same hΨ ⟨vs, rfl, ra⟩
        refine p2 _ _ _ _ e5 r5 ?_
        unfold Rep
        exact ⟨D, by rw [← r2.len]; simp, rfl⟩
section
variable {elt tg iter : Expr} {ifs : List Expr} {scope : Scope} {own : List (Str × Nat)} {pos : Pos} {fi : LF} {g : GF} {tt : BF} {fe : EF} {k : Nat} {wg : TG}
theorem Cok.blk (c : Cok X W k) (s : Shared) (H : Hp) (env : PySem.Env) (fp : List Addr) : Cok (X.blk s H scope env fp) W0 k := ⟨takes0, PassesOwn.never, c.calm, c.nd, c.room⟩
/-- what a comprehension's parts are, in its own block -/
structure CompOk (X : Cx) (scope : Scope) (own : List (Str × Nat)) (tg : Expr) (ifs : List Expr) (elt : Expr) (g : GF) (tt : BF) (fe : EF) (wg : TG) : Prop where
  sg : ∀ (s : Shared) (H : Hp) (C : Addr) (cl : List (Str × Addr)) (fp : List Addr), SG (X.blk s H scope (compEnvC scope cl C X.env) fp) tg (own.map (·.2)) g wg
  kg : KG X.K (own.map (·.2)) g wg
  st : ∀ (s : Shared) (H : Hp) (C : Addr) (cl : List (Str × Addr)) (fp : List Addr), STs (X.blk s H scope (compEnvC scope cl C X.env) fp) W0 ifs tt
  se : ∀ (s : Shared) (H : Hp) (C : Addr) (cl : List (Str × Addr)) (fp : List Addr), SE (X.blk s H scope (compEnvC scope cl C X.env) fp) W0 elt fe
theorem se_comp (mu : Bool) (c : Cok X W k) (hi : SI X W tg iter fi) (ok : BlkOk X.N X.env.scope scope own) (hc : CompOk X scope own tg ifs elt g tt fe wg) (hs : ∀ x, foldedSetIterable iter X.env x = pure x := by intro _; rfl) :
    SE X W (.ListComp elt [⟨tg, iter, ifs, 0⟩] scope pos) (eComp mu (own.map (·.2)) fi g tt fe) := by
  obtain ⟨wi, pi, ki⟩ := hi.ex
  have pg := fun s H C cl fp => (hc.sg s H C cl fp).pg
  have kg := hc.kg
  exact ⟨pe_imp (pe_lc c.calm c.nd pi ok pg (fun s H C cl fp => (hc.st s H C cl fp).pts) (fun s H C cl fp => (hc.se s H C cl fp).pe) hs) fun σ H Q h => tr_comp ki kg h⟩
theorem ss_setComp (mu : Bool) (i : Nat) {y : Str} {py spos : Pos} (c : Cok X W k) (hi : SI X W tg iter fi) (ok : BlkOk X.N X.env.scope scope own) (hc : CompOk X scope own tg ifs elt g tt fe wg)
    (hy : X.N[i]? = some y := by rfl) (hyl : X.env.scope.names.lookup y = some .local := by rfl) (hsw : swapsWith (.ListComp elt [⟨tg, iter, ifs, 0⟩] scope pos) (some (.Name y py)) spos.line X.env = pure true := by exact sw_true rfl rfl rfl (by decide +kernel)) (hs : ∀ x, foldedSetIterable iter X.env x = pure x := by intro _; rfl) :
    SS X W (.Assign [.Name y py] (.ListComp elt [⟨tg, iter, ifs, 0⟩] scope pos) spos) (sOf (eComp mu (own.map (·.2)) fi g tt fe) fun t env m => .nx (env.set i (some t)) m) := by
  obtain ⟨wi, pi, ki⟩ := hi.ex
  have pg := fun s H C cl fp => (hc.sg s H C cl fp).pg
  have kg := hc.kg
  exact ⟨ps_imp (ps_setLc c.calm c.nd hy hyl hsw pi ok pg (fun s H C cl fp => (hc.st s H C cl fp).pts) (fun s H C cl fp => (hc.se s H C cl fp).pe) hs) fun D σ H h =>
    tr_comp ki kg (trS_bind (k := fun t env m => .nx (env.set i (some t)) m) (fun Φ Z1 ρ1 H1 env m1 t v F r p => p _ _ _ _ Ext.refl ⟨F.rel, F.env.set i r⟩ (by simp)) h)⟩
end
end
end Ev

namespace Ev
open PySem L2

section
variable {K : PySem.W.Frag} {W : WX} {Φ Z : Hp} {ρ : List Addr} {σ : St} {H : Hp} {m : Mem}

/-! ### arithmetic -/
def small (k : Nat) (i : Int) : Bool := decide (-(2 ^ k) < i) && decide (i < 2 ^ k)
def gAdd (mu : Bool) : T → T → Mem → Out T
  | .int i, .int j, m => .ok (.int (i + j)) m
  | .str i, .str j, m => if i.length + j.length ≤ lim then .ok (.str (i ++ j)) m else .no
  | .tup xs, .tup ys, m => if xs.length + ys.length ≤ lim then .ok (.tup (xs ++ ys)) m else .no
  | x, y, m => match asO m x, asO m y with
    | some xs, some ys => if xs.length + ys.length ≤ lim then mk mu (xs ++ ys) m else .no
    | _, _ => .no
def rAdd (K : PySem.W.Frag) : R2 := fun x y H Q => ((rI0 (fun i j => .int (i + j)) x y H Q ∨ (∃ i j, x = .str i ∧ y = .str j ∧ i.length + j.length ≤ sizeLine ∧ Q (.str (i ++ j)) H)) ∨ rCatA K x y H Q) ∨ rCat x y H Q
theorem op_addA {X : Cx} : OpR X (binaryOp .Add) (rAdd X.K) := ((op_add.or op_add_str).or op_catA).or op_cat
theorem sem_add {mu : Bool} : Sem2 K (gAdd mu) (rAdd K) := by
  intro W Φ Z ρ σ H m Q x y vx vy r rx ry p
  unfold gAdd at p
  split at p
  · unfold Rep at rx ry; subst rx; subst ry
    exact .inl (.inl (.inl ⟨_, _, rfl, rfl, post_ok r rep_int p⟩))
  · unfold Rep at rx ry; subst rx; subst ry
    split at p
    · rename_i h
      exact .inl (.inl (.inr ⟨_, _, rfl, rfl, lim_le h, post_ok r rep_str p⟩))
    · exact p.elim
  · rename_i xs ys
    split at p
    · rename_i h
      obtain ⟨a, vs, rfl, qa, ra⟩ := asT_rep r rx (ts := xs) rfl
      obtain ⟨b, ws, rfl, qb, rb⟩ := asT_rep r ry (ts := ys) rfl
      refine .inl (.inr ⟨a, b, vs, ws, rfl, rfl, qa, qb, by rw [← ra.length, ← rb.length]; exact lim_le h, fun e => ?_, fun e1 e2 => ?_, fun e1 e2 q hq => ?_⟩)
      · have : xs = [] := List.eq_nil_of_length_eq_zero (by rw [ra.length, e]; rfl)
        subst this
        exact post_ok r ry p
      · have : ys = [] := List.eq_nil_of_length_eq_zero (by rw [rb.length, e2]; rfl)
        subst this
        rw [List.append_nil] at p
        exact post_ok r rx p
      · exact post_tup r (ra.append rb) p hq
    · exact p.elim
  · split at p
    · rename_i xs ys hx hy
      split at p
      · rename_i h
        obtain ⟨a, vs, rfl, qa, ra⟩ := asO_rep r rx hx
        obtain ⟨b, ws, rfl, qb, rb⟩ := asO_rep r ry hy
        exact .inr ⟨a, b, vs, ws, rfl, rfl, qa, qb, by rw [← ra.length, ← rb.length]; exact lim_le h, fun q hq => post_mk r (ra.append rb) p hq⟩
      · exact p.elim
    · exact p.elim
def gSub : T → T → Mem → Out T
  | .int i, .int j, m => .ok (.int (i - j)) m
  | _, _, _ => .no
theorem sem_sub : Sem2 K gSub (rI0 fun i j => .int (i - j)) := by
  intro W Φ Z ρ σ H m Q x y vx vy r rx ry p
  unfold gSub at p
  split at p
  · unfold Rep at rx ry; subst rx; subst ry
    exact ⟨_, _, rfl, rfl, post_ok r rep_int p⟩
  · exact p.elim
theorem small_iff {k : Nat} {i : Int} (h : small k i = true) : -(2 ^ k) < i ∧ i < 2 ^ k := by
  unfold small at h
  simpa using h
def gMul (mu : Bool) : T → T → Mem → Out T
  | .int i, .int j, m => if small 64 i || small 64 j then .ok (.int (i * j)) m else .no
  | x, .int j, m => match asO m x with
    | some xs => if small 62 j && decide (xs.length * j.toNat ≤ lim) then mk mu (List.replicate j.toNat xs).flatten m else .no
    | none => .no
  | _, _, _ => .no
def rMul : R2 := fun x y H Q => rI CMul (fun i j => .int (i * j)) x y H Q ∨ rRep x y H Q
theorem op_mulA {X : Cx} : OpR X (binaryOp .Mult) rMul := op_mul.or op_rep
theorem Reps.rep {ts : List T} {vs : List V} (r : Reps K Z ρ ts vs) : ∀ n : Nat, Reps K Z ρ (List.replicate n ts).flatten (List.replicate n vs).flatten
  | 0 => .nil
  | n + 1 => by
    rw [List.replicate_succ, List.replicate_succ, List.flatten_cons, List.flatten_cons]
    exact r.append (Reps.rep r n)
theorem sem_mul {mu : Bool} : Sem2 K (gMul mu) rMul := by
  intro W Φ Z ρ σ H m Q x y vx vy r rx ry p
  unfold gMul at p
  split at p
  · unfold Rep at rx ry; subst rx; subst ry
    split at p
    · rename_i h
      refine .inl ⟨_, _, rfl, rfl, ?_, post_ok r rep_int p⟩
      rw [Bool.or_eq_true] at h
      exact h.imp small_iff small_iff
    · exact p.elim
  · split at p
    · rename_i xs hx
      split at p
      · rename_i h
        rw [Bool.and_eq_true, decide_eq_true_eq] at h
        obtain ⟨a, vs, rfl, qa, ra⟩ := asO_rep r rx hx
        unfold Rep at ry; subst ry
        have h1 := small_iff h.1
        exact .inr ⟨a, _, vs, rfl, rfl, qa, by omega, by omega, by rw [← ra.length]; exact lim_le h.2, fun q hq => post_mk r (ra.rep _) p hq⟩
      · exact p.elim
    · exact p.elim
  · exact p.elim
def gMod : T → T → Mem → Out T
  | .int i, .int j, m => if 0 < j then .ok (.int (i % j)) m else .no
  | _, _, _ => .no
theorem sem_mod : Sem2 K gMod (rI (fun _ j => 0 < j) fun i j => .int (i % j)) := by
  intro W Φ Z ρ σ H m Q x y vx vy r rx ry p
  unfold gMod at p
  split at p
  · unfold Rep at rx ry; subst rx; subst ry
    split at p
    · exact ⟨_, _, rfl, rfl, by assumption, post_ok r rep_int p⟩
    · exact p.elim
  · exact p.elim
def gDiv : T → T → Mem → Out T
  | .int i, .int j, m => if 0 < j ∧ j < 1073741824 then .ok (.int (i / j)) m else .no
  | _, _, _ => .no
theorem sem_div : Sem2 K gDiv (rI CDiv fun i j => .int (i / j)) := by
  intro W Φ Z ρ σ H m Q x y vx vy r rx ry p
  unfold gDiv at p
  split at p
  · unfold Rep at rx ry; subst rx; subst ry
    split at p
    · exact ⟨_, _, rfl, rfl, by assumption, post_ok r rep_int p⟩
    · exact p.elim
  · exact p.elim
def gPow : T → T → Mem → Out T
  | .int i, .int j, m => if 0 ≤ j ∧ j ≤ 100 ∧ i.natAbs < 2 ^ 64 then .ok (.int (i ^ j.toNat)) m else .no
  | _, _, _ => .no
theorem sem_pow : Sem2 K gPow (rI CPow fun i j => .int (i ^ j.toNat)) := by
  intro W Φ Z ρ σ H m Q x y vx vy r rx ry p
  unfold gPow at p
  split at p
  · unfold Rep at rx ry; subst rx; subst ry
    split at p
    · rename_i h
      exact ⟨_, _, rfl, rfl, ⟨h.1, by omega, h.2.2⟩, post_ok r rep_int p⟩
    · exact p.elim
  · exact p.elim

/-! ### order -/
def gOrd (fi : Int → Int → Bool) (fs : List Nat → List Nat → Bool) : T → T → Mem → Out T
  | .int i, .int j, m => .ok (.bl (fi i j)) m
  | .str i, .str j, m => .ok (.bl (fs i.cps.toList j.cps.toList)) m
  | _, _, _ => .no
def rOrd (fi : Int → Int → Bool) (fs : List Nat → List Nat → Bool) : R2 := fun x y H Q => rI0 (fun i j => .bl (fi i j)) x y H Q ∨ ∃ i j, x = .str i ∧ y = .str j ∧ Q (.bl (fs i.cps.toList j.cps.toList)) H
theorem sem_ord {fi : Int → Int → Bool} {fs : List Nat → List Nat → Bool} : Sem2 K (gOrd fi fs) (rOrd fi fs) := by
  intro W Φ Z ρ σ H m Q x y vx vy r rx ry p
  unfold gOrd at p
  split at p
  · unfold Rep at rx ry; subst rx; subst ry
    exact .inl ⟨_, _, rfl, rfl, post_ok r rep_bl p⟩
  · unfold Rep at rx ry; subst rx; subst ry
    exact .inr ⟨_, _, rfl, rfl, post_ok r rep_bl p⟩
  · exact p.elim
def gLt := gOrd (fun i j => decide (i < j)) fun i j => decide (i < j)
def gLe := gOrd (fun i j => decide (i ≤ j)) fun i j => !decide (j < i)
def gGt := gOrd (fun i j => decide (j < i)) fun i j => decide (j < i)
def gGe := gOrd (fun i j => decide (j ≤ i)) fun i j => !decide (i < j)
variable {X : Cx}
theorem op_ltA : OpR X (compareOp .Lt) (rOrd (fun i j => decide (i < j)) fun i j => decide (i < j)) := op_lt.or op_lt_str
theorem op_leA : OpR X (compareOp .LtE) (rOrd (fun i j => decide (i ≤ j)) fun i j => !decide (j < i)) := op_le.or op_le_str
theorem op_gtA : OpR X (compareOp .Gt) (rOrd (fun i j => decide (j < i)) fun i j => decide (j < i)) := op_gt.or op_gt_str
theorem op_geA : OpR X (compareOp .GtE) (rOrd (fun i j => decide (j ≤ i)) fun i j => !decide (i < j)) := op_ge.or op_ge_str
/-! ### equality -/
mutual
def toD (m : Mem) : T → Option PyData
  | .non => some .none
  | .bl b => some (.bool b)
  | .int i => some (.int i)
  | .str x => some (.str x)
  | .tup ts => (toDs m ts).map .tuple
  | .lst ts => (toDs m ts).map .list
  | .rls ts => (toDs m ts).map .list
  | _ => none
def toDs (m : Mem) : List T → Option (List PyData)
  | [] => some []
  | t :: ts => match toD m t, toDs m ts with
    | some d, some ds => some (d :: ds)
    | _, _ => none
end
mutual
theorem toD_ok (r : Rel K Φ Z ρ H m) : ∀ {t : T} {v : V} {d : PyData}, Rep K Z ρ t v → toD m t = some d → Dp K H v d
  | .non, _, _, h, e => by unfold toD at e; cases e; unfold Rep at h; subst h; exact .non
  | .bl _, _, _, h, e => by unfold toD at e; cases e; unfold Rep at h; subst h; exact .bl _
  | .int _, _, _, h, e => by unfold toD at e; cases e; unfold Rep at h; subst h; exact .int _
  | .str _, _, _, h, e => by unfold toD at e; cases e; unfold Rep at h; subst h; exact .str _
  | .tup ts, _, _, h, e => by
    unfold toD at e
    obtain ⟨ds, e1, rfl⟩ := Option.map_eq_some_iff.mp e
    unfold Rep at h
    obtain ⟨a, vs, rfl, q, rs⟩ := h
    exact .tup (Same.sqt r.same q) (toDs_ok r rs e1)
  | .lst ts, _, _, h, e => by
    unfold toD at e
    obtain ⟨ds, e1, rfl⟩ := Option.map_eq_some_iff.mp e
    unfold Rep at h
    obtain ⟨a, vs, rfl, q, rs⟩ := h
    exact .lst (.of (r.zin _ _ q)) (toDs_ok r rs e1)
  | .rls ts, _, _, h, e => by
    unfold toD at e
    obtain ⟨ds, e1, rfl⟩ := Option.map_eq_some_iff.mp e
    unfold Rep at h
    obtain ⟨a, vs, rfl, q, rs⟩ := h
    exact .lst (r.same.seq q) (toDs_ok r rs e1)
  | .ty _, _, _, _, e => by unfold toD at e; cases e
  | .dct _ _, _, _, _, e => by unfold toD at e; cases e
  | .ins _ _ _, _, _, _, e => by unfold toD at e; cases e
  | .loc _, _, _, _, e => by unfold toD at e; cases e
theorem toDs_ok (r : Rel K Φ Z ρ H m) : ∀ {ts : List T} {vs : List V} {ds : List PyData}, Reps K Z ρ ts vs → toDs m ts = some ds → DpAll K H vs ds
  | [], _, _, h, e => by unfold toDs at e; cases e; unfold Reps at h; subst h; exact .nil
  | t :: ts, _, _, h, e => by
    unfold toDs at e
    split at e
    · rename_i d ds e1 e2
      cases e
      unfold Reps at h
      obtain ⟨v, us, rfl, r1, rs⟩ := h
      exact .cons (toD_ok r r1 e1) (toDs_ok r rs e2)
    · cases e
end
/-- a cell's list at the top, else trees -/
def toDT (m : Mem) : T → Option PyData
  | .loc n => match m[n]? with
    | some (some (.lst ts)) => (toDs m ts).map .list
    | _ => none
  | t => toD m t
theorem toDT_ok (r : Rel K Φ Z ρ H m) {t : T} {v : V} {d : PyData} (h : Rep K Z ρ t v) (e : toDT m t = some d) : Dp K H v d := by
  unfold toDT at e
  split at e
  · split at e
    · rename_i n us e1
      obtain ⟨ds, e2, rfl⟩ := Option.map_eq_some_iff.mp e
      obtain ⟨a, vs, rfl, _, q, rs⟩ := cell_lst r h e1
      exact .lst (.of q) (toDs_ok r rs e2)
    · cases e
  · exact toD_ok r h e
def gEqB (neg : Bool) : T → T → Mem → Out T
  | .int i, .int j, m => .ok (.bl (if neg then !decide (i = j) else decide (i = j))) m
  | .str i, .str j, m => .ok (.bl (if neg then !decide (i = j) else decide (i = j))) m
  | x, y, m => match toDT m x, toDT m y with
    | some d, some e => if SeqAt.shaped d && SeqAt.shaped e then .ok (.bl (if neg then !PyData.eqv d e else PyData.eqv d e)) m else .no
    | _, _ => .no
def gEq := gEqB false
def gNe := gEqB true
theorem op_eqA (hu : X.A.units + 64 < cLine) : OpR X (compareOp .Eq) (fun x y H Q => rEq x y H Q ∨ rEqD X.K x y H Q) := op_eq.or (op_eqD hu)
theorem op_neA (hu : X.A.units + 64 < cLine) : OpR X (compareOp .NotEq) (fun x y H Q => rNe x y H Q ∨ rNeD X.K x y H Q) := op_ne.or (op_neD hu)
theorem sem_eq : Sem2 K gEq (fun x y H Q => rEq x y H Q ∨ rEqD K x y H Q) := by
  intro W Φ Z ρ σ H m Q x y vx vy r rx ry p
  unfold gEq gEqB at p
  split at p
  · unfold Rep at rx ry; subst rx; subst ry
    refine .inl ⟨rfl, ?_⟩
    have := post_ok r rep_bl p
    simpa using this
  · unfold Rep at rx ry; subst rx; subst ry
    refine .inl ⟨rfl, ?_⟩
    have := post_ok r rep_bl p
    simpa using this
  · split at p
    · rename_i d e h1 h2
      split at p
      · rename_i h
        rw [Bool.and_eq_true] at h
        refine .inr ⟨d, e, toDT_ok r rx h1, toDT_ok r ry h2, h.1, h.2, ?_⟩
        have := post_ok r rep_bl p
        simpa using this
      · exact p.elim
    · exact p.elim
theorem sem_ne : Sem2 K gNe (fun x y H Q => rNe x y H Q ∨ rNeD K x y H Q) := by
  intro W Φ Z ρ σ H m Q x y vx vy r rx ry p
  unfold gNe gEqB at p
  split at p
  · unfold Rep at rx ry; subst rx; subst ry
    refine .inl ⟨rfl, ?_⟩
    have := post_ok r rep_bl p
    simpa using this
  · unfold Rep at rx ry; subst rx; subst ry
    refine .inl ⟨rfl, ?_⟩
    have := post_ok r rep_bl p
    simpa using this
  · split at p
    · rename_i d e h1 h2
      split at p
      · rename_i h
        rw [Bool.and_eq_true] at h
        refine .inr ⟨d, e, toDT_ok r rx h1, toDT_ok r ry h2, h.1, h.2, ?_⟩
        have := post_ok r rep_bl p
        simpa using this
      · exact p.elim
    · exact p.elim
/-! ### is None -/
def gIsN (neg : Bool) : T → T → Mem → Out T
  | .non, .non, m => .ok (.bl (!neg)) m
  | .loc _, .non, m => .ok (.bl neg) m
  | _, .non, m => .ok (.bl neg) m
  | _, _, _ => .no
theorem rep_non_iff {t : T} {v : V} (h : Rep K Z ρ t v) : (v = .non ↔ t = .non) := by
  cases t <;> unfold Rep at h
  · simp [h]
  · simp [h]
  · simp [h]
  · simp [h]
  · simp [h]
  · obtain ⟨_, _, e, _⟩ := h; simp [e]
  · obtain ⟨_, _, e, _⟩ := h; simp [e]
  · obtain ⟨_, _, e, _⟩ := h; simp [e]
  · obtain ⟨_, _, e, _⟩ := h; simp [e]
  · obtain ⟨_, _, _, _, e, _⟩ := h; simp [e]
  · obtain ⟨_, _, e⟩ := h; simp [e]
theorem sem_isN : Sem2 K (gIsN false) (fun x y H Q => y = .non ∧ Q (.bl (decide (x = .non))) H) := by
  intro W Φ Z ρ σ H m Q x y vx vy r rx ry p
  have h1 := rep_non_iff rx
  cases y with
  | non =>
    unfold Rep at ry
    refine ⟨ry, ?_⟩
    have e : decide (vx = .non) = (match x with | .non => true | _ => false) := by
      cases x <;> simp [h1]
    rw [e]
    cases x <;> exact post_ok r rep_bl p
  | _ => cases x <;> exact (show False from p).elim
theorem sem_notN : Sem2 K (gIsN true) (fun x y H Q => y = .non ∧ Q (.bl (!decide (x = .non))) H) := by
  intro W Φ Z ρ σ H m Q x y vx vy r rx ry p
  have h1 := rep_non_iff rx
  cases y with
  | non =>
    unfold Rep at ry
    refine ⟨ry, ?_⟩
    have e : (!decide (vx = .non)) = (match x with | .non => false | _ => true) := by
      cases x <;> simp [h1]
    rw [e]
    cases x <;> exact post_ok r rep_bl p
  | _ => cases x <;> exact (show False from p).elim
/-! ### an item by its place -/
def gIx : T → T → Mem → Out T
  | .tup ts, .int i, m => match atI ts i with
    | some t => .ok t m
    | none => .no
  | .str z, .int i, m => if z.length ≤ lim then match atI z.cps.toList i with
    | some c => .ok (.str ⟨#[c]⟩) m
    | none => .no else .no
  | x, .int i, m => match asL m x with
    | some ts => match atI ts i with
      | some t => .ok t m
      | none => .no
    | none => .no
  | _, _, _ => .no
theorem Reps.atI {ts : List T} {vs : List V} {i : Int} {t : T} (r : Reps K Z ρ ts vs) (h : L2.atI ts i = some t) : ∃ v, L2.atI vs i = some v ∧ Rep K Z ρ t v := by
  unfold L2.atI at h ⊢
  obtain ⟨j, h1, h2⟩ := Option.bind_eq_some_iff.mp h
  obtain ⟨v, h3, h4⟩ := r.get h2
  exact ⟨v, by rw [← r.length, h1]; exact h3, h4⟩
def rIx3 (K : PySem.W.Frag) : R2 := fun x y H Q => (rIxL K x y H Q ∨ rIxT K x y H Q) ∨ rIxS x y H Q
theorem ix_all : IxR X (rIx3 X.K) := (ix_list.or ix_tup).or ix_str
theorem sem_ix : Sem2 K gIx (rIx3 K) := by
  intro W Φ Z ρ σ H m Q x y vx vy r rx ry p
  unfold gIx at p
  split at p
  · rename_i ts i
    split at p
    · rename_i t h
      obtain ⟨a, vs, rfl, qa, ra⟩ := asT_rep r rx (ts := ts) rfl
      unfold Rep at ry; subst ry
      obtain ⟨v, h1, h2⟩ := ra.atI h
      exact .inl (.inr ⟨a, vs, i, v, rfl, rfl, qa, h1, post_ok r h2 p⟩)
    · exact p.elim
  · rename_i z i
    split at p
    · rename_i hl
      split at p
      · rename_i c h
        unfold Rep at rx ry; subst rx; subst ry
        exact .inr ⟨z, i, c, rfl, rfl, lim_le hl, h, post_ok r rep_str p⟩
      · exact p.elim
    · exact p.elim
  · split at p
    · rename_i ts hx
      split at p
      · rename_i t h
        obtain ⟨a, vs, rfl, qa, ra⟩ := asL_rep r rx hx
        unfold Rep at ry; subst ry
        obtain ⟨v, h1, h2⟩ := ra.atI h
        exact .inl (.inl ⟨a, vs, _, v, rfl, rfl, qa, h1, post_ok r h2 p⟩)
      · exact p.elim
    · exact p.elim
  · exact p.elim
end
end Ev

namespace Ev
open PySem L2

section
variable {K : PySem.W.Frag} {W : WX} {Φ Z : Hp} {ρ : List Addr} {σ : St} {H : Hp} {m : Mem} {X : Cx}

/-! ### methods of built-in types -/
def isTy (n : String) (m : Mem) (t : T) : Bool := match t with
  | .str _ => n == "str"
  | .int _ => n == "int"
  | .dct _ _ => n == "dict"
  | .loc k => match m[k]? with
    | some (some (.lst _)) => n == "list"
    | some (some (.dct _ _)) => n == "dict"
    | _ => false
  | .lst _ => n == "list"
  | .rls _ => n == "list"
  | _ => false
theorem isTy_ok (r : Rel K Φ Z ρ H m) {n : String} {t : T} {v : V} (h : Rep K Z ρ t v) (e : isTy n m t = true) : tyV K n v H := by
  cases t with
  | str x => unfold Rep at h; subst h; exact eq_of_beq e
  | int x => unfold Rep at h; subst h; exact eq_of_beq e
  | dct ks ts =>
    unfold Rep at h
    obtain ⟨a, vs, rfl, q, _⟩ := h
    exact .inr (.inr (.inl ⟨eq_of_beq e, .inl ⟨_, r.zin _ _ q⟩⟩))
  | lst ts =>
    unfold Rep at h
    obtain ⟨a, vs, rfl, q, _⟩ := h
    exact .inl ⟨eq_of_beq e, _, .of (r.zin _ _ q)⟩
  | rls ts =>
    unfold Rep at h
    obtain ⟨a, vs, rfl, q, _⟩ := h
    exact .inl ⟨eq_of_beq e, _, r.same.seq q⟩
  | loc k =>
    unfold Rep at h
    obtain ⟨a, ha, rfl⟩ := h
    unfold isTy at e
    simp only at e
    split at e
    · rename_i ts em
      obtain ⟨_, vs, e2, _⟩ := r.mem k _ a em ha
      exact .inl ⟨eq_of_beq e, _, .of e2⟩
    · rename_i ks ts em
      obtain ⟨_, vs, e2, _⟩ := r.mem k _ a em ha
      exact .inr (.inr (.inl ⟨eq_of_beq e, .inl ⟨_, e2⟩⟩))
    · cases e
  | _ => cases e
def eMeth (n : String) (g : T → List T → Mem → Out T) (fo : EF) (fs : LF) : EF := fun env m => (fo env m).bind fun x m1 => if isTy n m1 x then (fs env m1).bind fun xs m2 => g x xs m2 else .no
def SemM (K : PySem.W.Frag) (g : T → List T → Mem → Out T) (r : V → List V → Hp → VK → Prop) : Prop :=
  ∀ (W : WX) (Φ Z : Hp) (ρ : List Addr) (σ : St) (H : Hp) (m : Mem) (Q : VK) (x : T) (xs : List T) (vx : V) (vs : List V), Rel K Φ Z ρ H m → Rep K Z ρ x vx → Reps K Z ρ xs vs → Post K W Φ Z ρ σ Q (g x xs m) → r vx vs H Q
theorem tr_meth {n : String} {g : T → List T → Mem → Out T} {r : V → List V → Hp → VK → Prop} (hg : SemM K g r) {fo : EF} {fs : LF} {Q : VK} (h : tr K W (eMeth n g fo fs) σ H Q) :
    tr K W fo σ H (fun x H1 => tyV K n x H1 ∧ trL K W fs σ H1 fun xs H2 => r x xs H2 Q) := by
  obtain ⟨Φ, Z, ρ, env, m, F, p⟩ := h
  refine tr_bind (P := Post K W Φ Z ρ σ Q) F (fun x m1 Z1 ρ1 H1 vx _ e1 F1 rx p1 => ?_) (fun _ _ _ _ h => h) (fun h => h) p
  split at p1
  · rename_i ht
    refine ⟨isTy_ok F1.rel rx ht, ?_⟩
    refine trL_bind (P := Post K W Φ Z1 ρ1 σ Q) F1 (fun y m2 Z2 ρ2 H2 vy _ e2 F2 ry p2 => ?_) (fun _ _ _ _ h => h) (fun h => h) (p1.ext e1)
    exact hg W Φ Z2 ρ2 σ H2 m2 Q x y vx vy F2.rel (rx.ext e2) ry (p2.ext e2)
  · exact p1.elim
section
variable {o e : Expr} {es : List Expr} {name : Str} {apos cpos : Pos} {n id : String} {r : V → List V → Hp → VK → Prop} {fo : EF} {fs : LF} {g : T → List T → Mem → Out T}
theorem se_meth (pa : PlainAttrs n) (slot : Slot n name id) (hty : typeOf (.builtin id) = pure (.type "method_descriptor")) (hm : MtR X id r) (hg : SemM X.K g r) (ho : SE X W o fo) (ha : SA X W (e :: es) fs)
    (hbase : attributeBase o name X.env (eval o X.env) = eval o X.env := by rfl)
    (hfew : ((backTo cpos (starEach (e :: es) X.env)).all (fun x => !x.1) && (backToKw cpos (keywordEach [] X.env)).all (fun x => x.1.isSome)
      && decide ((e :: es).length + ([] : List Keyword).length + (if ([] : List Keyword).isEmpty then 0 else 1) < 30)) = true := by rfl)
    (hline : (apos.endLine == cpos.line) = true := by rfl) (hs : starEach (e :: es) X.env = (false, eval e X.env) :: starEach es X.env := by rfl) (hplain : (backTo cpos (starEach es X.env)).any (·.1) = false := by rfl) :
    SE X W (.Call (.Attribute o name apos) (e :: es) [] cpos) (eMeth n g fo fs) :=
  ⟨pe_imp (pe_bm pa slot hty hm ho.pe ha.pa hbase hfew hline hs hplain) fun σ H Q h => tr_meth hg h⟩
theorem se_meth0 (pa : PlainAttrs n) (slot : Slot n name id) (hty : typeOf (.builtin id) = pure (.type "method_descriptor")) (hm : MtR X id r) (hg : SemM X.K g r) (ho : SE X W o fo)
    (hbase : attributeBase o name X.env (eval o X.env) = eval o X.env := by rfl) (hline : (apos.endLine == cpos.line) = true := by rfl) : SE X W (.Call (.Attribute o name apos) [] [] cpos) (eMeth n g fo lNil) :=
  ⟨pe_imp (pe_bm0 pa slot hty hm ho.pe hbase hline) fun σ H Q h => by
    obtain ⟨Φ, Z, ρ, env, m, F, p⟩ := h
    refine tr_bind (P := Post X.K W Φ Z ρ σ Q) F (fun x m1 Z1 ρ1 H1 vx _ e1 F1 rx p1 => ?_) (fun _ _ _ _ h => h) (fun h => h) p
    split at p1
    · rename_i ht
      exact ⟨isTy_ok F1.rel rx ht, hg W Φ Z1 ρ1 σ H1 m1 Q x [] vx [] F1.rel rx .nil (p1.ext e1)⟩
    · exact p1.elim⟩
end
theorem reps1 {t : T} {vs : List V} (h : Reps K Z ρ [t] vs) : ∃ v, vs = [v] ∧ Rep K Z ρ t v := by
  unfold Reps at h
  obtain ⟨v, us, rfl, r, rs⟩ := h
  unfold Reps at rs
  subst rs
  exact ⟨v, rfl, r⟩
theorem reps2 {t u : T} {vs : List V} (h : Reps K Z ρ [t, u] vs) : ∃ v w, vs = [v, w] ∧ Rep K Z ρ t v ∧ Rep K Z ρ u w := by
  unfold Reps at h
  obtain ⟨v, us, rfl, r, rs⟩ := h
  obtain ⟨w, rfl, r2⟩ := reps1 rs
  exact ⟨v, w, rfl, r, r2⟩
def cellL (m : Mem) : T → Option (Nat × List T)
  | .loc n => match m[n]? with
    | some (some (.lst ts)) => some (n, ts)
    | _ => none
  | _ => none
theorem cellL_ok (r : Rel K Φ Z ρ H m) {t : T} {v : V} {n : Nat} {ts : List T} (h : Rep K Z ρ t v) (e : cellL m t = some (n, ts)) : ∃ a vs, v = .ref a ∧ m[n]? = some (some (.lst ts)) ∧ ρ[n]? = some a ∧ H a = some (.lst vs) ∧ Reps K Z ρ ts vs := by
  cases t with
  | loc k =>
    unfold cellL at e
    simp only at e
    split at e
    · rename_i us em
      cases e
      obtain ⟨a, vs, h1, h2, h3, h4⟩ := cell_lst r h em
      exact ⟨a, vs, h1, em, h2, h3, h4⟩
    · cases e
  | _ => cases e
theorem post_write {n : Nat} {a : Addr} {ts ts' : List T} {vs' : List V} {t : T} {v : V} {Q : VK} (r : Rel K Φ Z ρ H m) (hn : m[n]? = some (some (.lst ts))) (ha : ρ[n]? = some a) (rs : Reps K Z ρ ts' vs') (rt : Rep K Z ρ t v)
    (p : Post K W Φ Z ρ σ Q (.ok t (m.set n (some (.lst ts'))))) : Q v (upd H a (.lst vs')) :=
  p _ _ _ _ Ext.refl (r.write hn ha (u := .lst ts') ⟨vs', rfl, rs⟩) rt
def gAppend : T → List T → Mem → Out T := fun x xs m => match cellL m x, xs with
  | some (n, ts), [y] => if ts.length < lim then .ok .non (m.set n (some (.lst (ts ++ [y])))) else .no
  | _, _ => .no
theorem sem_append : SemM K gAppend rAppend := by
  intro W Φ Z ρ σ H m Q x xs vx vs r rx rs p
  unfold gAppend at p
  split at p
  · rename_i n ts y hc
    split at p
    · rename_i hl
      obtain ⟨a, us, rfl, hn, ha, hH, ru⟩ := cellL_ok r rx hc
      obtain ⟨v, rfl, rv⟩ := reps1 rs
      exact ⟨a, us, v, rfl, rfl, hH, by rw [← ru.length]; exact lim_lt (Nat.le_of_lt hl), post_write r hn ha (ru.append (.cons rv .nil)) rep_non p⟩
    · exact p.elim
  · exact p.elim
def gExtend : T → List T → Mem → Out T := fun x xs m => match cellL m x, xs with
  | some (n, ts), [y] => match asO m y with
    | some us => if ts.length + us.length ≤ lim then .ok .non (m.set n (some (.lst (ts ++ us)))) else .no
    | none => .no
  | _, _ => .no
theorem sem_extend : SemM K gExtend rExtend := by
  intro W Φ Z ρ σ H m Q x xs vx vs r rx rs p
  unfold gExtend at p
  split at p
  · rename_i n ts y hc
    split at p
    · rename_i us hy
      split at p
      · rename_i hl
        obtain ⟨a, ws, rfl, hn, ha, hH, ru⟩ := cellL_ok r rx hc
        obtain ⟨v, rfl, rv⟩ := reps1 rs
        obtain ⟨b, zs, rfl, hB, rz⟩ := asO_rep r rv hy
        exact ⟨a, b, ws, zs, rfl, rfl, hH, hB, by rw [← ru.length, ← rz.length]; exact lim_le hl, post_write r hn ha (ru.append rz) rep_non p⟩
      · exact p.elim
    · exact p.elim
  · exact p.elim
theorem Reps.erase : ∀ {ts : List T} {vs : List V} (i : Nat), Reps K Z ρ ts vs → Reps K Z ρ (ts.eraseIdx i) (vs.eraseIdx i)
  | [], _, _, h => by unfold Reps at h; subst h; exact .nil
  | t :: ts, _, 0, h => by
    unfold Reps at h
    obtain ⟨v, vs, rfl, r, rs⟩ := h
    exact rs
  | t :: ts, _, i + 1, h => by
    unfold Reps at h
    obtain ⟨v, vs, rfl, r, rs⟩ := h
    exact .cons r (Reps.erase i rs)
def gPopAt : T → List T → Mem → Out T := fun x xs m => match cellL m x, xs with
  | some (n, ts), [.int i] => if small 62 i then match seqIndex? i ts.length with
    | some k => match ts[k]? with
      | some t => .ok t (m.set n (some (.lst (ts.eraseIdx k))))
      | none => .no
    | none => .no else .no
  | _, _ => .no
theorem sem_popAt : SemM K gPopAt rPopAt := by
  intro W Φ Z ρ σ H m Q x xs vx vs r rx rs p
  unfold gPopAt at p
  split at p
  · rename_i n ts i hc
    split at p
    · rename_i hi
      split at p
      · rename_i k hk
        split at p
        · rename_i t ht
          obtain ⟨a, ws, rfl, hn, ha, hH, ru⟩ := cellL_ok r rx hc
          obtain ⟨v, rfl, rv⟩ := reps1 rs
          unfold Rep at rv
          subst rv
          obtain ⟨w, h1, h2⟩ := ru.get ht
          have hb := small_iff hi
          exact ⟨a, ws, i, k, w, rfl, rfl, hH, by omega, by omega, by rw [← ru.length]; exact hk, h1, post_write r hn ha (ru.erase k) h2 p⟩
        · exact p.elim
      · exact p.elim
    · exact p.elim
  · exact p.elim
theorem Reps.dropLast : ∀ {ts : List T} {vs : List V}, Reps K Z ρ ts vs → Reps K Z ρ ts.dropLast vs.dropLast
  | [], _, h => by unfold Reps at h; subst h; exact .nil
  | [t], _, h => by obtain ⟨v, rfl, _⟩ := reps1 h; exact .nil
  | t :: u :: ts, _, h => by
    unfold Reps at h
    obtain ⟨v, vs, rfl, r, rs⟩ := h
    have ih := Reps.dropLast rs
    unfold Reps at rs
    obtain ⟨w, ws, rfl, r2, rs2⟩ := rs
    exact .cons r ih
def gPop : T → List T → Mem → Out T := fun x xs m => match cellL m x, xs with
  | some (n, ts), [] => match ts[ts.length - 1]? with
    | some t => .ok t (m.set n (some (.lst ts.dropLast)))
    | none => .no
  | _, _ => .no
theorem sem_pop : SemM K gPop rPop := by
  intro W Φ Z ρ σ H m Q x xs vx vs r rx rs p
  unfold gPop at p
  split at p
  · rename_i n ts hc
    split at p
    · rename_i t ht
      obtain ⟨a, ws, rfl, hn, ha, hH, ru⟩ := cellL_ok r rx hc
      unfold Reps at rs
      subst rs
      obtain ⟨w, h1, h2⟩ := ru.get ht
      exact ⟨a, ws, w, rfl, rfl, hH, by rw [← ru.length]; exact h1, post_write r hn ha ru.dropLast h2 p⟩
    · exact p.elim
  · exact p.elim
/-- the texts of a list of texts -/
def txts : List T → Option (List Str)
  | [] => some []
  | .str x :: ts => (txts ts).map (x :: ·)
  | _ :: _ => none
theorem strs_eq : ∀ {ts : List T} {xs : List Str}, txts ts = some xs → ts = xs.map T.str
  | [], _, e => by cases e; rfl
  | t :: ts, _, e => by
    cases t with
    | str x =>
      unfold txts at e
      obtain ⟨ys, e1, rfl⟩ := Option.map_eq_some_iff.mp e
      rw [strs_eq e1]; rfl
    | _ => cases e
theorem strs_map (xs : List Str) : txts (xs.map T.str) = some xs := by
  induction xs with
  | nil => rfl
  | cons x xs ih => unfold txts; simp only [List.map_cons]; rw [ih]; rfl
theorem reps_strs : ∀ {xs : List Str} {vs : List V}, Reps K Z ρ (xs.map T.str) vs → vs = xs.map V.str
  | [], _, h => by unfold Reps at h; exact h
  | x :: xs, _, h => by
    rw [List.map_cons] at h
    unfold Reps at h
    obtain ⟨v, us, rfl, r, rs⟩ := h
    unfold Rep at r
    subst r
    rw [reps_strs rs]; rfl
theorem reps_strs_mk : ∀ {xs : List Str}, Reps K Z ρ (xs.map T.str) (xs.map V.str)
  | [] => .nil
  | x :: xs => .cons rep_str reps_strs_mk
def asSeq (m : Mem) (t : T) : Option (List T) := match asT t with
  | some ts => some ts
  | none => asL m t
theorem asSeq_rep (r : Rel K Φ Z ρ H m) {t : T} {ts : List T} {v : V} (hv : Rep K Z ρ t v) (h : asSeq m t = some ts) : ∃ a vs, v = .ref a ∧ (SqL K H a vs ∨ SqT K H a vs) ∧ Reps K Z ρ ts vs := by
  unfold asSeq at h
  split at h
  · rename_i us e
    cases h
    obtain ⟨a, vs, h1, h2, h3⟩ := asT_rep r hv e
    exact ⟨a, vs, h1, .inr h2, h3⟩
  · obtain ⟨a, vs, h1, h2, h3⟩ := asL_rep r hv h
    exact ⟨a, vs, h1, .inl h2, h3⟩
def gJoin : T → List T → Mem → Out T := fun x xs m => match x, xs with
  | .str a, [y] => match asSeq m y with
    | some ts => match txts ts with
      | some ys => if (ys.map (·.length)).sum + ys.length * a.length ≤ lim then .ok (.str (Txt.join a ys)) m else .no
      | none => .no
    | none => .no
  | _, _ => .no
theorem sem_join : SemM K gJoin (fun x xs H Q => ∃ a p, ∃ ys : List Str, x = .str a ∧ xs = [.ref p] ∧ (SqL K H p (ys.map V.str) ∨ SqT K H p (ys.map V.str)) ∧ (ys.map (·.length)).sum + ys.length * a.length ≤ 16777216 ∧ Q (.str (Txt.join a ys)) H) := by
  intro W Φ Z ρ σ H m Q x xs vx vs r rx rs p
  unfold gJoin at p
  split at p
  · rename_i a y
    split at p
    · rename_i ts hy
      split at p
      · rename_i ys hs
        split at p
        · rename_i hl
          unfold Rep at rx
          subst rx
          obtain ⟨v, rfl, rv⟩ := reps1 rs
          obtain ⟨b, us, rfl, hq, ru⟩ := asSeq_rep r rv hy
          rw [strs_eq hs] at ru
          have := reps_strs ru
          subst this
          exact ⟨a, b, ys, rfl, rfl, hq, Nat.le_trans hl (by decide), post_ok r rep_str p⟩
        · exact p.elim
      · exact p.elim
    · exact p.elim
  · exact p.elim
/-! ### in, not in -/
def flatT : T → Bool
  | .non => true
  | .bl _ => true
  | .int _ => true
  | .str _ => true
  | _ => false
def toV : T → V
  | .bl b => .bl b
  | .int i => .int i
  | .str x => .str x
  | _ => .non
theorem toV_eq {t : T} {v : V} (h : Rep K Z ρ t v) (f : flatT t = true) : v = toV t ∧ flatV v = true := by
  cases t <;> first | (unfold Rep at h; subst h; exact ⟨rfl, rfl⟩) | cases f
theorem toV_all : ∀ {ts : List T} {vs : List V}, Reps K Z ρ ts vs → ts.all flatT = true → vs = ts.map toV ∧ vs.all flatV = true
  | [], _, h, _ => by unfold Reps at h; subst h; exact ⟨rfl, rfl⟩
  | t :: ts, _, h, f => by
    unfold Reps at h
    obtain ⟨v, us, rfl, r, rs⟩ := h
    rw [List.all_cons, Bool.and_eq_true] at f
    obtain ⟨e1, e2⟩ := toV_eq r f.1
    obtain ⟨e3, e4⟩ := toV_all rs f.2
    exact ⟨by rw [e1, e3]; rfl, by rw [List.all_cons, e2, e4]; rfl⟩
def eqT (x y : T) : Bool := match x, y with
  | .str a, .str b => a == b
  | x, y => eqV (toV x) (toV y)
def gIn (neg : Bool) : T → T → Mem → Out T := fun x y m => match asSeq m y with
  | some ts => if flatT x && ts.all flatT then .ok (.bl (if neg then !(ts.any fun t => eqV (toV t) (toV x)) else ts.any fun t => eqV (toV t) (toV x))) m else .no
  | none => .no
theorem sem_in {neg : Bool} : Sem2 K (gIn neg) (rIn K neg) := by
  intro W Φ Z ρ σ H m Q x y vx vy r rx ry p
  unfold gIn at p
  split at p
  · rename_i ts hy
    split at p
    · rename_i hf
      rw [Bool.and_eq_true] at hf
      obtain ⟨b, us, rfl, hq, ru⟩ := asSeq_rep r ry hy
      obtain ⟨e1, e2⟩ := toV_eq rx hf.1
      obtain ⟨e3, e4⟩ := toV_all ru hf.2
      refine ⟨b, us, rfl, hq, e2, e4, ?_⟩
      have e5 : inV vx us = ts.any fun t => eqV (toV t) (toV x) := by
        unfold inV
        rw [e1, e3, List.any_map]
        rfl
      rw [e5]
      exact post_ok r rep_bl p
    · exact p.elim
  · exact p.elim
/-! ### built-ins -/
def gLen : List T → Mem → Out T := fun xs m => match xs with
  | [.str x] => if x.length ≤ lim then .ok (.int x.length) m else .no
  | [y] => match asSeq m y with
    | some ts => .ok (.int ts.length) m
    | none => match y with
      | .dct ks _ => .ok (.int ks.length) m
      | .loc n => match m[n]? with
        | some (some (.dct ks _)) => .ok (.int ks.length) m
        | _ => .no
      | _ => .no
  | _ => .no
def rLen3 (K : PySem.W.Frag) : List V → Hp → VK → Prop := fun xs H Q => ((∃ p ys, xs = [.ref p] ∧ (SqL K H p ys ∨ SqT K H p ys) ∧ Q (.int ys.length) H) ∨ ∃ z, xs = [.str z] ∧ z.length ≤ sizeLine ∧ Q (.int z.length) H) ∨
  ∃ a kvs, xs = [V.ref a] ∧ H a = some (.dK kvs) ∧ Q (.int kvs.length) H
theorem call_len3 : CallR X (.builtin "len") (rLen3 X.K) := (call_len_seq.or call_len_str).or call_lenD
theorem sem_len : SemL K gLen (rLen3 K) := by
  intro W Φ Z ρ σ H m Q xs vs r rs p
  unfold gLen at p
  split at p
  · rename_i x
    split at p
    · rename_i hl
      obtain ⟨v, rfl, rv⟩ := reps1 rs
      unfold Rep at rv
      subst rv
      exact .inl (.inr ⟨x, rfl, lim_le hl, post_ok r rep_int p⟩)
    · exact p.elim
  · rename_i y hy
    obtain ⟨v, rfl, rv⟩ := reps1 rs
    split at p
    · rename_i ts ht
      obtain ⟨b, us, rfl, hq, ru⟩ := asSeq_rep r rv ht
      refine .inl (.inl ⟨b, us, rfl, hq, ?_⟩)
      rw [← ru.length]
      exact post_ok r rep_int p
    · split at p
      · rename_i ks ts _
        unfold Rep at rv
        obtain ⟨a, us, rfl, q, hl, ru⟩ := rv
        refine .inr ⟨a, _, rfl, r.zin _ _ q, ?_⟩
        rw [List.length_zip, ← hl, Nat.min_self]
        exact post_ok r rep_int p
      · rename_i n _
        split at p
        · rename_i ks ts em
          unfold Rep at rv
          obtain ⟨a, ha, rfl⟩ := rv
          obtain ⟨_, us, e2, hl, ru⟩ := r.mem n _ a em ha
          refine .inr ⟨a, _, rfl, e2, ?_⟩
          rw [List.length_zip, ← hl, Nat.min_self]
          exact post_ok r rep_int p
        · exact p.elim
      · exact p.elim
  · exact p.elim
def gInt : List T → Mem → Out T := fun xs m => match xs with
  | [.int i] => .ok (.int i) m
  | _ => .no
theorem sem_int : SemL K gInt (fun xs H Q => (∃ i, xs = [.int i] ∧ Q (.int i) H) ∨ ∃ k, xs = [.bl k] ∧ Q (.int (if k then 1 else 0)) H) := by
  intro W Φ Z ρ σ H m Q xs vs r rs p
  unfold gInt at p
  split at p
  · rename_i i
    obtain ⟨v, rfl, rv⟩ := reps1 rs
    unfold Rep at rv
    subst rv
    exact .inl ⟨i, rfl, post_ok r rep_int p⟩
  · exact p.elim
def gTuple : List T → Mem → Out T := fun xs m => match xs with
  | [.tup ts] => .ok (.tup ts) m
  | [y] => match asL m y with
    | some ts => .ok (.tup ts) m
    | none => .no
  | _ => .no
theorem sem_tuple : SemL K gTuple (fun xs H Q => ∃ p ys, xs = [.ref p] ∧ ((SqL K H p ys ∧ ∀ l, H l = none → Q (.ref l) (upd H l (.tup ys))) ∨ (SqT K H p ys ∧ Q (.ref p) H))) := by
  intro W Φ Z ρ σ H m Q xs vs r rs p
  unfold gTuple at p
  split at p
  · rename_i ts
    obtain ⟨v, rfl, rv⟩ := reps1 rs
    obtain ⟨a, us, rfl, q, ru⟩ := asT_rep r rv (ts := ts) rfl
    exact ⟨a, us, rfl, .inr ⟨q, post_ok r rv p⟩⟩
  · rename_i y hy
    obtain ⟨v, rfl, rv⟩ := reps1 rs
    split at p
    · rename_i ts ht
      obtain ⟨a, us, rfl, q, ru⟩ := asL_rep r rv ht
      exact ⟨a, us, rfl, .inl ⟨q, fun l hl => post_tup r ru p hl⟩⟩
    · exact p.elim
  · exact p.elim
def gList (mu : Bool) : List T → Mem → Out T := fun xs m => match xs with
  | [y] => match asSeq m y with
    | some ts => mk mu ts m
    | none => .no
  | _ => .no
theorem sem_list {mu : Bool} : SemL K (gList mu) (fun xs H Q => ∃ p ys, xs = [.ref p] ∧ (SqL K H p ys ∨ SqT K H p ys) ∧ ∀ l, H l = none → Q (.ref l) (upd H l (.lst ys))) := by
  intro W Φ Z ρ σ H m Q xs vs r rs p
  unfold gList at p
  split at p
  · rename_i y
    obtain ⟨v, rfl, rv⟩ := reps1 rs
    split at p
    · rename_i ts ht
      obtain ⟨a, us, rfl, q, ru⟩ := asSeq_rep r rv ht
      exact ⟨a, us, rfl, q, fun l hl => post_mk r ru p hl⟩
    · exact p.elim
  · exact p.elim
def bools : List T → Option (List Bool)
  | [] => some []
  | .bl x :: ts => (bools ts).map (x :: ·)
  | _ :: _ => none
theorem bools_eq : ∀ {ts : List T} {xs : List Bool}, bools ts = some xs → ts = xs.map T.bl
  | [], _, e => by cases e; rfl
  | t :: ts, _, e => by
    cases t with
    | bl x =>
      unfold bools at e
      obtain ⟨ys, e1, rfl⟩ := Option.map_eq_some_iff.mp e
      rw [bools_eq e1]; rfl
    | _ => cases e
theorem reps_bools : ∀ {xs : List Bool} {vs : List V}, Reps K Z ρ (xs.map T.bl) vs → vs = xs.map V.bl
  | [], _, h => by unfold Reps at h; exact h
  | x :: xs, _, h => by
    rw [List.map_cons] at h
    unfold Reps at h
    obtain ⟨v, us, rfl, r, rs⟩ := h
    unfold Rep at r
    subst r
    rw [reps_bools rs]; rfl
def gAllAny (al : Bool) : List T → Mem → Out T := fun xs m => match xs with
  | [y] => match asL m y with
    | some ts => match bools ts with
      | some bs => .ok (.bl (if al then bs.all id else bs.any id)) m
      | none => .no
    | none => .no
  | _ => .no
theorem sem_all : SemL K (gAllAny true) (rAll K) := by
  intro W Φ Z ρ σ H m Q xs vs r rs p
  unfold gAllAny at p
  split at p
  · rename_i y
    obtain ⟨v, rfl, rv⟩ := reps1 rs
    split at p
    · rename_i ts ht
      split at p
      · rename_i bs hb
        obtain ⟨a, us, rfl, q, ru⟩ := asL_rep r rv ht
        rw [bools_eq hb] at ru
        have := reps_bools ru
        subst this
        exact ⟨a, bs, rfl, q, post_ok r rep_bl p⟩
      · exact p.elim
    · exact p.elim
  · exact p.elim
theorem sem_any : SemL K (gAllAny false) (rAny K) := by
  intro W Φ Z ρ σ H m Q xs vs r rs p
  unfold gAllAny at p
  split at p
  · rename_i y
    obtain ⟨v, rfl, rv⟩ := reps1 rs
    split at p
    · rename_i ts ht
      split at p
      · rename_i bs hb
        obtain ⟨a, us, rfl, q, ru⟩ := asL_rep r rv ht
        rw [bools_eq hb] at ru
        have := reps_bools ru
        subst this
        exact ⟨a, bs, rfl, q, post_ok r rep_bl p⟩
      · exact p.elim
    · exact p.elim
  · exact p.elim
/-! ### an item stored by its place -/
def gSetL : T → T → T → Mem → Option Mem := fun o i v m => match cellL m o, i with
  | some (n, ts), .int k => match ixN ts.length k with
    | some j => some (m.set n (some (.lst (ts.set j v))))
    | none => none
  | _, _ => none
def sSetIx (fe fo fi : EF) : SF := sOf fe fun v env m1 => match fo env m1 with
  | .ok o m2 => match fi env m2 with
    | .ok i m3 => match gSetL o i v m3 with
      | some m4 => .nx env m4
      | none => .no
    | _ => .no
  | _ => .no
theorem ss_setIx {o i e : Expr} {pos pos' : Pos} {fe fo fi : EF} (he : SE X W e fe) (ho : SE X W o fo) (hi : SE X W i fi)
    (ha : ∀ v, assign (.Subscript o i pos') X.env v = (do
      let ov ← holding [v] (eval o X.env)
      let iv ← holding [v, ov] (eval i X.env)
      standAt pos'
      holding [v, ov, iv] (setItem ov iv v)
      release [v, ov, iv] []) := by intro _; rfl)
    (hs : swapsWithSole [.Subscript o i pos'] e pos.line X.env = pure false := by rfl) (hw : swappedStores [.Subscript o i pos'] e X.env = pure none := by rfl)
    (h1 : (assignEach [.Subscript o i pos'] X.env).map (·.2) = [assign (.Subscript o i pos') X.env] := by rfl) : SS X W (.Assign [.Subscript o i pos'] e pos) (sSetIx fe fo fi) := by
  refine ⟨ps_imp (ps_asg he.pe (pg_sub ho.pe hi.pe set_list ha) hs hw h1) fun D σ H h => trS_bind (fun Φ Z1 ρ1 H1 env m1 t v F r p => ?_) h⟩
  show tr X.K W fo σ H1 fun ov H2 => tr X.K W fi σ H2 fun iv H3 => rSetL ov iv v H3 fun H4 => D.nx σ H4
  cases eo : fo env m1 with
  | no => simp only [eo] at p; exact p.elim
  | ex _ _ _ _ => simp only [eo] at p; exact p.elim
  | ok to m2 =>
    simp only [eo] at p
    cases ei : fi env m2 with
    | no => simp only [ei] at p; exact p.elim
    | ex _ _ _ _ => simp only [ei] at p; exact p.elim
    | ok ti m3 =>
      simp only [ei] at p
      refine ⟨Φ, Z1, ρ1, env, m1, F, ?_⟩
      rw [eo]
      intro Z2 ρ2 H2 vo e2 r2 ro
      refine ⟨Φ, Z2, ρ2, env, m2, ⟨r2, F.env.ext e2⟩, ?_⟩
      rw [ei]
      intro Z3 ρ3 H3 vi e3 r3 ri
      unfold gSetL at p
      split at p
      · rename_i m4 e4
        split at e4
        · rename_i n ts k hc
          split at e4
          · rename_i j hj
            cases e4
            obtain ⟨a, us, rfl, hn, ha, hH, ru⟩ := cellL_ok r3 (ro.ext e3) hc
            unfold Rep at ri
            subst ri
            refine ⟨a, us, k, j, rfl, rfl, hH, by rw [← ru.length]; exact hj, ?_⟩
            have rv := (r.ext e2).ext e3
            have r4 := r3.write hn ha (u := .lst (ts.set j t)) (o := .lst (us.set j v)) ⟨_, rfl, ru.set j rv⟩
            exact p _ _ _ _ (e2.trans e3) ⟨r4, (F.env.ext e2).ext e3⟩ rfl
          · cases e4
        · cases e4
      · exact p.elim
end
end Ev

/-! sorted texts -/
namespace Ev
open PySem L2
/-- the order of texts -/
def ltS (a b : Str) : Bool := decide (a.cps.toList < b.cps.toList)
def leS (a b : Str) : Bool := !ltS b a
def insS (x : Str) : List Str → List Str
  | [] => [x]
  | y :: ys => if leS x y then x :: y :: ys else y :: insS x ys
def sortS : List Str → List Str
  | [] => []
  | x :: xs => insS x (sortS xs)
theorem leS_iff {a b : Str} : leS a b = true ↔ a.cps.toList ≤ b.cps.toList := by
  unfold leS ltS
  simp [List.not_lt]
theorem str_ext {a b : Str} (h : a.cps.toList = b.cps.toList) : a = b := by
  obtain ⟨x⟩ := a
  obtain ⟨y⟩ := b
  have : x = y := Array.toList_inj.mp h
  rw [this]
theorem leS_antisymm {a b : Str} (h1 : leS a b = true) (h2 : leS b a = true) : a = b :=
  str_ext (List.le_antisymm (leS_iff.mp h1) (leS_iff.mp h2))
theorem leS_trans {a b c : Str} (h1 : leS a b = true) (h2 : leS b c = true) : leS a c = true :=
  leS_iff.mpr (List.le_trans (leS_iff.mp h1) (leS_iff.mp h2))
theorem leS_total (a b : Str) : leS a b = true ∨ leS b a = true := by
  rw [leS_iff, leS_iff]
  exact List.le_total _ _
theorem insS_perm (x : Str) : ∀ ys : List Str, (insS x ys).Perm (x :: ys)
  | [] => .refl _
  | y :: ys => by
    unfold insS
    split
    · exact .refl _
    · exact ((insS_perm x ys).cons y).trans (.swap x y ys)
theorem sortS_perm : ∀ xs : List Str, (sortS xs).Perm xs
  | [] => .refl _
  | x :: xs => (insS_perm x _).trans ((sortS_perm xs).cons x)
theorem insS_pw (x : Str) : ∀ ys : List Str, ys.Pairwise (fun a b => leS a b = true) → (insS x ys).Pairwise (fun a b => leS a b = true)
  | [], _ => List.pairwise_singleton _ _
  | y :: ys, h => by
    unfold insS
    rw [List.pairwise_cons] at h
    split
    · rename_i hxy
      refine List.pairwise_cons.mpr ⟨fun b hb => ?_, List.pairwise_cons.mpr h⟩
      rcases List.mem_cons.mp hb with e | e
      · rw [e]; exact hxy
      · exact leS_trans hxy (h.1 b e)
    · rename_i hxy
      have hyx : leS y x = true := (leS_total x y).resolve_left hxy
      refine List.pairwise_cons.mpr ⟨fun b hb => ?_, insS_pw x ys h.2⟩
      rcases List.mem_cons.mp ((insS_perm x ys).mem_iff.mp hb) with e | e
      · rw [e]; exact hyx
      · exact h.1 b e
theorem sortS_pw : ∀ xs : List Str, (sortS xs).Pairwise (fun a b => leS a b = true)
  | [] => .nil
  | x :: xs => insS_pw x _ (sortS_pw xs)
theorem rising_pw : ∀ (xs : List Str) (p : Str), PyProof.Rows.risingS p xs = true → (p :: xs).Pairwise (fun a b => leS a b = true)
  | [], p, _ => List.pairwise_singleton _ _
  | x :: xs, p, h => by
    unfold PyProof.Rows.risingS at h
    rw [Bool.and_eq_true] at h
    have h1 : leS p x = true := by
      unfold leS ltS
      rw [PyProof.Rows.lt_meets]
      exact h.1
    have h2 := rising_pw xs x h.2
    refine List.pairwise_cons.mpr ⟨fun b hb => ?_, h2⟩
    rcases List.mem_cons.mp hb with e | e
    · rw [e]; exact h1
    · exact leS_trans h1 ((List.pairwise_cons.mp h2).1 b e)
theorem sorted_eq {ys xs : List Str} (hp : ys.Perm xs) (h : PyProof.Rows.sortedS ys = true) : ys = sortS xs := by
  have hw : ys.Pairwise (fun a b => leS a b = true) := by
    cases ys with
    | nil => exact .nil
    | cons y ys => exact rising_pw ys y h
  exact List.Perm.eq_of_pairwise (fun a b _ _ h1 h2 => leS_antisymm h1 h2) hw (sortS_pw xs) (hp.trans (sortS_perm xs).symm)
end Ev
namespace Ev
open PySem L2 PySem.Spec PyProof.Rows
section
variable {prog : Program} {w : World} {A : Around} {E : Value → Shared → Prop} {s : Shared}
/-- what list(t) collects of a tuple -/
theorem collect_tup {l : Addr} {vs : List Value} {Q : List Value → Shared → Prop} (hl : IsTup s.heap l vs.toArray) (hsz : vs.length ≤ sizeLine)
    (h : Q vs { s with heap := (s.heap.push (seqObj "list" #[] 0)).update s.heap.objs.size (Obj.mapSeq (· ++ vs.toArray)) }) : wpAny (model prog w) A (collect (.ref l)) Q E s := by
  obtain ⟨o, ho, hc, n, hd⟩ := id hl
  unfold collect
  refine wpAny_bind (wpAny_runValue (codeAny_builtin entry_proto_collect' ?_))
  show wpAny _ _ (do again (.builtin "list.__iadd__" ⟨[← newList [], .ref l], []⟩)) _ _ s
  refine wpAny_bind (wpAny_newList (wpAny_pure ⟨Code.quiet_builtin _ (by decide +kernel), codeAny_builtin entry_list_iadd' ?_⟩))
  have ho' : (s.heap.push (seqObj "list" #[] 0)).get? l = some o := Heap.get?_push_of_some _ ho
  have new0 : (s.heap.push (seqObj "list" #[] 0)).get? s.heap.objs.size = some (seqObj "list" #[] 0) := Heap.get?_push_size _ rfl
  have ht1 : (Value.type "tuple" == Value.type "list") = false := by rfl
  have ht2 : (Value.type "tuple" == Value.type "tuple") = true := by rfl
  show wpAny _ _ (Builtin.List.listExtendWith (.ref s.heap.objs.size) (.ref l) (.ref s.heap.objs.size)) _ _ { s with heap := s.heap.push (seqObj "list" #[] 0) }
  unfold Builtin.List.listExtendWith
  refine wpAny_bind (wpAny_typeOf (T := "tuple") ⟨o, ho', hc⟩ ?_)
  rw [if_pos (by rw [ht2]; simp)]
  refine wpAny_bind (listItems_at ho' hd (wpAny_bind (listItems_at (xs := #[]) (n := 0) new0 rfl ?_)))
  rw [if_neg (by simp)]
  have fits : (#[] ++ vs.toArray).size ≤ sizeLine + 1 := by simp only [Array.size_append, List.size_toArray, List.length_nil]; omega
  refine wpAny_bind (listUpdate_at (xs := #[]) (n := 0) new0 rfl (wpAny_pure ?_) (Nat.zero_le _) fits)
  have em : ((#[] : Array Value) ++ vs.toArray).toList = vs := by simp
  show wpAny (model prog w) A (load s.heap.objs.size >>= fun o => match o.data with | .seq xs _ => pure xs.toList | _ => unsupported "internal:collect") Q E _
  refine wpAny_bind (wpAny_load (get?_update_seq new0 _) ?_)
  show wpAny _ _ (pure ((#[] : Array Value) ++ vs.toArray).toList) Q E _
  rw [em]
  exact wpAny_pure h
/-- sorted(t), a tuple of texts -/
theorem sorted_tup_strs {l : Addr} {vs : List Value} {ss : List Str} {Q : Value → Shared → Prop} (hl : IsTup s.heap l vs.toArray) (hS : StrsAre vs ss) (hL : vs.length ≤ sizeLine)
    (h : ∀ (out : Array Value) (ss' : List Str), StrsAre out.toList ss' → ss'.Perm ss → sortedS ss' = true → Q (.ref (s.heap.objs.size + 1)) { s with heap := sortedAll s.heap vs out }) :
    wpAny (model prog w) A (call (.builtin "sorted") [.ref l]) Q E s := by
  refine Calls.call_function_entry kind_sorted plain_sorted entry_sorted (args_sorted1 _) ?_
  unfold Builtin.«sorted»
  refine wpAny_bind (m := checkCount "sorted" 1 1 _) (wpAny_pure (wpAny_bind (collect_tup hl hL (wpAny_bind (wpAny_newList ?_)))))
  have z1 : ((s.heap.push (seqObj "list" #[] 0)).update s.heap.objs.size (Obj.mapSeq (· ++ vs.toArray))).objs.size = s.heap.objs.size + 1 := by rw [Heap.size_update, size_push']
  have z2 : (((s.heap.push (seqObj "list" #[] 0)).update s.heap.objs.size (Obj.mapSeq (· ++ vs.toArray))).push (seqObj "list" vs.toArray 0)).get? (s.heap.objs.size + 1) = some (seqObj "list" vs.toArray 0) := by rw [← z1]; exact Heap.get?_push_size _ rfl
  have z3 : ∀ v₁ v₂ rest, vs = v₁ :: v₂ :: rest → keyKind' (v₁ :: v₂ :: rest).toArray = pure oneType' := fun v₁ v₂ rest e => keyKind_strs (by rw [← e]; exact hS)
  show wpAny _ _ _ _ _ { s with heap := ((s.heap.push (seqObj "list" #[] 0)).update s.heap.objs.size (Obj.mapSeq (· ++ vs.toArray))).push (seqObj "list" vs.toArray 0) }
  rw [z1]
  refine wpAny_bind (wpAny_holding (wpAny_call_entry slot_list_sort ⟨_, z2, rfl⟩ entry_list_sort (list_sort_treeKAny strKind_oneLt z2 hS.keysOf z3 hL fun st' a1 a2 => ⟨_, rfl, wpAny_pure ⟨_, rfl, ?_⟩⟩) (args_list_sort _)))
  obtain ⟨ss', h1, h2, h3⟩ := sorted_out_str hS a1 a2
  exact h _ ss' h1 h2 h3
end
section
variable {K : PySem.W.Frag} {W : WX} {Φ Z : Hp} {ρ : List Addr} {σ : L2.St} {H : Hp} {m : Mem} {X : Cx}
def rSortA (K : PySem.W.Frag) : List V → Hp → VK → Prop := fun vs H Q => ∃ (a : Addr) (xs : List Str), vs = [V.ref a] ∧ (SqL K H a (xs.map V.str) ∨ SqT K H a (xs.map V.str)) ∧ xs.length ≤ sizeLine ∧
  ∀ p, H p = none → Q (.ref p) (upd H p (.lst ((sortS xs).map V.str)))
theorem cr_sortA : CallR X (.builtin "sorted") (rSortA X.K) := by
  intro pins s σ H vs us Q I r h
  obtain ⟨a, xs, rfl, hs, hz, q⟩ := h
  rw [Vals.ref1 r]
  have fin : ∀ (its : List Value) (out : Array Value) (ys : List Str), Vals (xs.map V.str) its → StrsAre out.toList ys → ys.Perm xs → sortedS ys = true → EP X pins σ Q (.ref (s.heap.objs.size + 1)) { s with heap := sortedAll s.heap its out } := by
    intro its out ys rv h1 h2 h3
    obtain ⟨ep, he'⟩ := sortedAll_at s.heap its out
    have e := sorted_eq h2 h3
    subst e
    have hlen : ((sortS xs).map V.str).length ≤ sizeLine := by rw [List.length_map, h2.length_eq]; exact hz
    exact ⟨.ref _, upd H (s.heap.objs.size + 1) (.lst ((sortS xs).map V.str)), I.laid (t' := s.toks) (fun _ _ => sortedAll_old) (Nat.le_succ _) ⟨hlen, out.toList, ep, vals_of_strs h1, he'⟩, rfl, q _ (I.hok.fresh (Nat.le_succ _))⟩
  rcases hs with hs | hs
  · obtain ⟨its, rv, hl, _⟩ := I.list hs
    have hln : its.length ≤ sizeLine := by rw [← rv.length, List.length_map]; exact hz
    exact sorted_strsAny hl.isList rv.strs hln fun out ys h1 h2 h3 => fin its out ys rv h1 h2 h3
  · obtain ⟨its, rv, hl, _⟩ := I.tuple hs
    have hln : its.length ≤ sizeLine := by rw [← rv.length, List.length_map]; exact hz
    exact sorted_tup_strs hl rv.strs hln fun out ys h1 h2 h3 => fin its out ys rv h1 h2 h3
def gSorted (mu : Bool) : List T → Mem → Out T := fun xs m => match xs with
  | [y] => match asSeq m y with
    | some ts => match txts ts with
      | some ys => if ys.length ≤ lim then mk mu ((sortS ys).map T.str) m else .no
      | none => .no
    | none => .no
  | _ => .no
theorem sem_sorted {mu : Bool} : SemL K (gSorted mu) (rSortA K) := by
  intro W Φ Z ρ σ H m Q xs vs r rs p
  unfold gSorted at p
  split at p
  · rename_i y
    obtain ⟨v, rfl, rv⟩ := reps1 rs
    split at p
    · rename_i ts ht
      split at p
      · rename_i ys hy
        split at p
        · rename_i hl
          obtain ⟨a, us, rfl, q, ru⟩ := asSeq_rep r rv ht
          rw [strs_eq hy] at ru
          have := reps_strs ru
          subst this
          exact ⟨a, ys, rfl, q, lim_le hl, fun l hl => post_mk r reps_strs_mk p hl⟩
        · exact p.elim
      · exact p.elim
    · exact p.elim
  · exact p.elim
end
end Ev

namespace Ev
open PySem L2
section
variable {K : PySem.W.Frag} {W : WX} {Φ Z : Hp} {ρ : List Addr} {σ : L2.St} {H : Hp} {m : Mem} {X : Cx}
/-! ### slices -/
abbrev OF := Env → Mem → Out (Option Int)
def PostO (K : PySem.W.Frag) (W : WX) (Φ Z : Hp) (ρ : List Addr) (σ : L2.St) (Q : Option Int → Hp → Prop) : Out (Option Int) → Prop
  | .ok o m => ∀ Z' ρ' H', Ext Z Z' ρ ρ' → Rel K Φ Z' ρ' H' m → Q o H'
  | .ex C ns ts m => ∀ Z' ρ' H' d vs, Ext Z Z' ρ ρ' → Rel K Φ Z' ρ' H' m → Reps K Z' ρ' ts vs → ns.length = vs.length → Z' d = some (.xd (ns.zip vs)) → WR K W C d σ H'
  | .no => False
def trO (K : PySem.W.Frag) (W : WX) (f : OF) : TO := fun σ H Q => ∃ Φ Z ρ env m, Fits K Φ Z ρ σ H env m ∧ PostO K W Φ Z ρ σ Q (f env m)
structure SO (X : Cx) (W : WX) (e : Option Expr) (f : OF) : Prop where
  po : PO X e (trO X.K W f)
def oNone : OF := fun _ m => .ok none m
def oSome (f : EF) : OF := fun env m => (f env m).bind fun t m1 => match t with
  | .int i => .ok (some i) m1
  | _ => .no
theorem so_none : SO X W none oNone := ⟨⟨fun pins s σ H Q I ⟨Φ, Z, ρ, env, m, F, p⟩ => po_none.run pins s σ H Q I (p _ _ _ Ext.refl F.rel)⟩⟩
theorem so_some {e : Expr} {f : EF} (h : SE X W e f) : SO X W (some e) (oSome f) := by
  refine ⟨⟨fun pins s σ H Q I ⟨Φ, Z, ρ, env, m, F, p⟩ => (po_some h.pe).run pins s σ H Q I ?_⟩⟩
  refine tr_bind (P := PostO X.K W Φ Z ρ σ Q) F (fun t m1 Z1 ρ1 H1 v _ e1 F1 r p1 => ?_) (fun _ _ _ _ h => h) (fun h => h) p
  cases t with
  | int i => unfold Rep at r; subst r; exact ⟨i, rfl, p1 _ _ _ e1 F1.rel⟩
  | _ => exact (show False from p1).elim
def cutT (ts : List T) (lo hi : Option Int) : List T := (ts.drop (HT.sIx ts.length 0 lo)).take (HT.sIx ts.length ts.length hi - HT.sIx ts.length 0 lo)
theorem Reps.cut {ts : List T} {vs : List V} (r : Reps K Z ρ ts vs) (lo hi : Option Int) : Reps K Z ρ (cutT ts lo hi) (cutV vs lo hi) := by
  unfold cutT cutV
  rw [r.length]
  exact (r.drop _).take _
def gSlice (mu : Bool) : T → Option Int → Option Int → Mem → Out T := fun x lo hi m => match x with
  | .str z => if z.length ≤ lim then .ok (.str (cutS z lo hi)) m else .no
  | .tup ts => .ok (.tup (cutT ts lo hi)) m
  | y => match asL m y with
    | some ts => mk mu (cutT ts lo hi) m
    | none => .no
def rSlice (K : PySem.W.Frag) : V → Option Int → Option Int → Hp → VK → Prop := fun x lo hi H Q => (rSlL K x lo hi H Q ∨ rSlS x lo hi H Q) ∨ rSlA K x lo hi H Q
theorem sl_all : SlR X (rSlice X.K) := (sl_list.or sl_str).or sl_tupA
theorem cutT_whole {ts : List T} {lo hi : Option Int} (h : HT.sIx ts.length 0 lo = 0 ∧ HT.sIx ts.length ts.length hi = ts.length) : cutT ts lo hi = ts := by
  unfold cutT
  rw [h.1, h.2]
  simp
def eSlice (mu : Bool) (f : EF) (lo hi : OF) : EF := fun env m => (f env m).bind fun x m1 => (lo env m1).bind fun l m2 => (hi env m2).bind fun u m3 => gSlice mu x l u m3
theorem trO_bind {α : Type} {f : OF} {env : Env} {k : Option Int → Mem → Out α} {P : Out α → Prop} {R : Option Int → Hp → Prop} (F : Fits K Φ Z ρ σ H env m)
    (hk : ∀ t m1 Z1 ρ1 H1, f env m = .ok t m1 → Ext Z Z1 ρ ρ1 → Fits K Φ Z1 ρ1 σ H1 env m1 → P (k t m1) → R t H1)
    (hx : ∀ C ns vs m1, P (.ex C ns vs m1) → PostO K W Φ Z ρ σ R (.ex C ns vs m1)) (hn : P .no → False)
    (h : P ((f env m).bind k)) : trO K W f σ H R := by
  refine ⟨Φ, Z, ρ, env, m, F, ?_⟩
  cases e : f env m with
  | ok t m1 =>
    rw [e] at h
    exact fun Z1 ρ1 H1 e1 r1 => hk t m1 Z1 ρ1 H1 e e1 ⟨r1, F.env.ext e1⟩ h
  | ex C ns vs m1 =>
    rw [e] at h
    exact hx C ns vs m1 h
  | no =>
    rw [e] at h
    exact (hn h).elim
theorem sem_slice {mu : Bool} {x : T} {l u : Option Int} {vx : V} {Q : VK} (r : Rel K Φ Z ρ H m) (rx : Rep K Z ρ x vx) (p : Post K W Φ Z ρ σ Q (gSlice mu x l u m)) : rSlice K vx l u H Q := by
  unfold gSlice at p
  split at p
  · rename_i z
    split at p
    · rename_i h
      unfold Rep at rx
      subst rx
      exact .inl (.inr ⟨z, rfl, lim_le h, post_ok r rep_str p⟩)
    · exact p.elim
  · rename_i ts
    obtain ⟨a, vs, rfl, q, ru⟩ := asT_rep r rx (ts := ts) rfl
    refine .inr ⟨a, vs, rfl, q, fun hw => ?_, fun hw pp hp => ?_⟩
    · rw [← ru.length] at hw
      rw [cutT_whole hw] at p
      exact post_ok r rx p
    · exact post_tup r (ru.cut l u) p hp
  · split at p
    · rename_i ts ht
      obtain ⟨a, vs, rfl, q, ru⟩ := asL_rep r rx ht
      exact .inl (.inl ⟨a, vs, rfl, q, fun pp hp => post_mk r (ru.cut l u) p hp⟩)
    · exact p.elim
theorem se_slice (mu : Bool) {e : Expr} {lo hi : Option Expr} {p2 pos : Pos} {f : EF} {fl fh : OF} (he : SE X W e f) (hl : SO X W lo fl) (hh : SO X W hi fh) : SE X W (.Subscript e (.Slice lo hi none p2) pos) (eSlice mu f fl fh) := by
  refine ⟨pe_imp (pe_slice sl_all he.pe hl.po hh.po) fun σ H Q ⟨Φ, Z, ρ, env, m, F, p⟩ => ?_⟩
  refine tr_bind (P := Post X.K W Φ Z ρ σ Q) F (fun x m1 Z1 ρ1 H1 vx _ e1 F1 rx p1 => ?_) (fun _ _ _ _ h => h) (fun h => h) p
  refine trO_bind (P := Post X.K W Φ Z1 ρ1 σ Q) F1 (fun l m2 Z2 ρ2 H2 _ e2 F2 p2 => ?_) (fun _ _ _ _ h => h) (fun h => h) (p1.ext e1)
  refine trO_bind (P := Post X.K W Φ Z2 ρ2 σ Q) F2 (fun u m3 Z3 ρ3 H3 _ e3 F3 p3 => ?_) (fun _ _ _ _ h => h) (fun h => h) (p2.ext e2)
  exact sem_slice F3.rel ((rx.ext e2).ext e3) (p3.ext e3)
/-! ### chains of comparisons -/
def eChain (g g' : T → T → Mem → Out T) (fa fb fc : EF) : EF := fun env m => (fa env m).bind fun x m1 => (fb env m1).bind fun y m2 => (g x y m2).bind fun t m3 => match t with
  | .bl true => (fc env m3).bind fun z m4 => g' y z m4
  | .bl false => .ok (.bl false) m3
  | _ => .no
theorem tr_chain {g g' : T → T → Mem → Out T} {r r' : R2} (hg : Sem2 K g r) (hg' : Sem2 K g' r') {fa fb fc : EF} {Q : VK} (h : tr K W (eChain g g' fa fb fc) σ H Q) : tChain r r' (tr K W fa) (tr K W fb) (tr K W fc) σ H Q := by
  obtain ⟨Φ, Z, ρ, env, m, F, p⟩ := h
  refine tr_bind (P := Post K W Φ Z ρ σ Q) F (fun x m1 Z1 ρ1 H1 vx _ e1 F1 rx p1 => ?_) (fun _ _ _ _ h => h) (fun h => h) p
  refine tr_bind (P := Post K W Φ Z1 ρ1 σ Q) F1 (fun y m2 Z2 ρ2 H2 vy _ e2 F2 ry p2 => ?_) (fun _ _ _ _ h => h) (fun h => h) (p1.ext e1)
  refine hg W Φ Z2 ρ2 σ H2 m2 _ x y vx vy F2.rel (rx.ext e2) ry ?_
  have p2 := p2.ext e2
  cases eg : g x y m2 with
  | no => rw [eg] at p2; exact p2
  | ex _ _ _ _ => rw [eg] at p2; exact p2
  | ok t m3 =>
    rw [eg] at p2
    intro Z3 ρ3 H3 v e3 r3 rt
    have F3 : Fits K Φ Z3 ρ3 σ H3 env m3 := ⟨r3, F2.env.ext e3⟩
    cases t with
    | bl b =>
      unfold Rep at rt
      subst rt
      refine ⟨b, rfl, ?_⟩
      cases b with
      | true =>
        simp only [if_true]
        refine tr_bind (P := Post K W Φ Z2 ρ2 σ Q) F3 (fun z m4 Z4 ρ4 H4 vz _ e4 F4 rz p4 => ?_) (fun _ _ _ _ h => h.ext e3) (fun h => h) p2
        exact hg' W Φ Z4 ρ4 σ H4 m4 Q y z vy vz F4.rel ((ry.ext e3).ext e4) rz (p4.ext (e3.trans e4))
      | false =>
        simp only [Bool.false_eq_true, if_false]
        exact p2 _ _ _ _ e3 r3 rep_bl
    | _ => exact (show False from p2).elim
theorem se_chain {op op' : CmpOp} {a b c : Expr} {pos : Pos} {g g' : T → T → Mem → Out T} {r r' : R2} {fa fb fc : EF} (ho : OpR X (compareOp op) r) (hg : Sem2 X.K g r) (ho' : OpR X (compareOp op') r') (hg' : Sem2 X.K g' r') (ha : SE X W a fa) (hb : SE X W b fb) (hc : SE X W c fc)
    (hm : lastMarks [op, op'] [b, c] = false := by with_unfolding_all rfl) : SE X W (.Compare a [op, op'] [b, c] pos) (eChain g g' fa fb fc) :=
  ⟨pe_imp (pe_chain ho ho' ha.pe hb.pe hc.pe hm) fun _ _ _ h => tr_chain hg hg' h⟩
theorem sb_chain {op op' : CmpOp} {a b c : Expr} {pos : Pos} {g g' : T → T → Mem → Out T} {r r' : R2} {fa fb fc : EF} (ho : OpR X (compareOp op) r) (hg : Sem2 X.K g r) (ho' : OpR X (compareOp op') r') (hg' : Sem2 X.K g' r') (ha : SE X W a fa) (hb : SE X W b fb) (hc : SE X W c fc)
    (hm : lastMarks [op, op'] [b, c] = false := by with_unfolding_all rfl) : SB X W (.Compare a [op, op'] [b, c] pos) (bV (eChain g g' fa fb fc)) :=
  ⟨pt_imp (pt_chain ho ho' ha.pe hb.pe hc.pe hm) fun _ _ _ h => tr_chain hg hg' (tr_bV h)⟩
/-! ### isinstance -/
/-- the built-in type of a value; none where it is not told -/
def tyOf (m : Mem) : T → Option String
  | .non => some "NoneType"
  | .bl _ => some "bool"
  | .int _ => some "int"
  | .str _ => some "str"
  | .tup _ => some "tuple"
  | .lst _ => some "list"
  | .rls _ => some "list"
  | .dct _ _ => some "dict"
  | .loc n => match m[n]? with
    | some (some (.lst _)) => some "list"
    | some (some (.dct _ _)) => some "dict"
    | _ => none
  | _ => none
theorem tyOf_ok (r : Rel K Φ Z ρ H m) {t : T} {v : V} {n : String} (h : Rep K Z ρ t v) (e : tyOf m t = some n) : TyX K H v (.type n) := by
  have sqt : ∀ {a : Addr} {vs : List V}, SqT K H a vs → TyX K H (.ref a) (.type "tuple") := by
    intro a vs q
    rcases q with (q | ⟨o, q⟩) | ⟨o, its, k, q, c, _⟩
    · exact .base (.tup q)
    · exact .fTuple q
    · exact .kTuple q c
  have sql : ∀ {a : Addr} {vs : List V}, SqL K H a vs → TyX K H (.ref a) (.type "list") := by
    intro a vs q
    rcases q with (q | ⟨o, q⟩) | ⟨o, its, k, q, c, _⟩
    · exact .base (.lst q)
    · exact .base (.frz q)
    · exact .kList q c
  cases t with
  | non => unfold Rep at h; subst h; cases e; exact .base .non
  | bl b => unfold Rep at h; subst h; cases e; exact .base (.bl b)
  | int i => unfold Rep at h; subst h; cases e; exact .base (.int i)
  | str x => unfold Rep at h; subst h; cases e; exact .base (.str x)
  | tup ts => unfold Rep at h; obtain ⟨a, vs, rfl, q, _⟩ := h; cases e; exact sqt (Same.sqt r.same q)
  | lst ts => unfold Rep at h; obtain ⟨a, vs, rfl, q, _⟩ := h; cases e; exact sql (.of (r.zin _ _ q))
  | rls ts => unfold Rep at h; obtain ⟨a, vs, rfl, q, _⟩ := h; cases e; exact sql (r.same.seq q)
  | dct ks ts => unfold Rep at h; obtain ⟨a, vs, rfl, q, _⟩ := h; cases e; exact .base (.dK (r.zin _ _ q))
  | loc n =>
    unfold Rep at h
    obtain ⟨a, ha, rfl⟩ := h
    unfold tyOf at e
    simp only at e
    split at e
    · rename_i us em
      cases e
      obtain ⟨_, vs, e2, _⟩ := r.mem n _ a em ha
      exact .base (.lst e2)
    · rename_i ks us em
      cases e
      obtain ⟨_, vs, e2, _⟩ := r.mem n _ a em ha
      exact .base (.dK e2)
    · cases e
  | _ => cases e
def kitAll (a : String) : List String → Option Bool
  | [] => some false
  | b :: bs => match kitB a b with
    | some true => some true
    | some false => kitAll a bs
    | none => none
theorem kitAll_ok {K : PySem.W.Frag} {a : String} : ∀ {bs : List String} {r : Bool}, kitAll a bs = some r → PySem.W.kitAny K (.type a) (bs.map Value.type) = some r
  | [], _, e => by cases e; rfl
  | b :: bs, r, e => by
    unfold kitAll at e
    cases h : kitB a b with
    | none => rw [h] at e; cases e
    | some q =>
      rw [h] at e
      cases q with
      | true =>
        cases e
        exact kitAny_cons (kit_ty h) (fun z => nomatch z) (fun _ => rfl)
      | false => exact kitAny_cons (kit_ty h) (fun _ => kitAll_ok e) (fun z => nomatch z)
def gIsi : List T → Mem → Out T := fun xs m => match xs with
  | [x, .ty n] => match tyOf m x with
    | some a => match kitB a n with
      | some b => .ok (.bl b) m
      | none => .no
    | none => .no
  | _ => .no
theorem sem_isi : SemL K gIsi (rIsi K) := by
  intro W Φ Z ρ σ H m Q xs vs r rs p
  unfold gIsi at p
  split at p
  · rename_i x n
    split at p
    · rename_i a ha
      split at p
      · rename_i b hb
        obtain ⟨v, w, rfl, rv, rw'⟩ := reps2 rs
        unfold Rep at rw'
        subst rw'
        exact ⟨v, .ty n, .type a, .type n, b, rfl, .ty n, tyOf_ok r rv ha, kit_ty hb, post_ok r rep_bl p⟩
      · exact p.elim
    · exact p.elim
  · exact p.elim
/-- isinstance(e, (t1, t2, ..)), the tuple written there -/
def eIsiT (ns : List String) (f : EF) : EF := fun env m => (f env m).bind fun x m1 => match tyOf m1 x with
  | some a => match kitAll a ns with
    | some b => .ok (.bl b) m1
    | none => .no
  | none => .no
/-- names of built-in types, as arguments -/
def TysA (X : Cx) (es : List Expr) (ns : List String) : Prop := PA X es (fun _ H Q => Q (ns.map V.ty) H)
theorem tys_nil : TysA X [] [] := pa_nil
theorem tys_cons {x : Str} {n : String} {ns : List String} {pos : Pos} {es : List Expr} (h : TysA X es ns) (hm : X.mg x = none) (hv : bootBuiltins x = some (.type n) := by decide +kernel) (hg : Gl X x := by rfl) (hn : x ≠ "__name__" := by decide) (hd : (x == ("__debug__" : Str)) = false := by decide)
    (hs : starEach (.Name x pos :: es) X.env = (false, eval (.Name x pos) X.env) :: starEach es X.env := by rfl) : TysA X (.Name x pos :: es) (n :: ns) :=
  pa_imp (pa_cons (pe_bltn (v := .ty n) hg hm hv rfl hn hd) h hs) fun _ _ _ h => h
theorem tys_cls : ∀ ns : List String, Paired ClsV (ns.map V.ty) (ns.map Value.type)
  | [] => .nil
  | n :: ns => .cons (.ty n) (tys_cls ns)
theorem se_isiT {e : Expr} {es : List Expr} {ns : List String} {k : Nat} {p tpos pos : Pos} {f : EF} (he : SE X W e f) (ht : TysA X es ns) (hl : ns.length ≤ 1000) (hm : X.mg "isinstance" = none) (hg : Gl X "isinstance" := by rfl)
    (h1 : starEach [e, .Tuple es k tpos] X.env = (false, eval e X.env) :: starEach [.Tuple es k tpos] X.env := by rfl) (h2 : starEach [.Tuple es k tpos] X.env = (false, eval (.Tuple es k tpos) X.env) :: starEach [] X.env := by rfl)
    (hpl : (backTo pos (starEach [.Tuple es k tpos] X.env)).any (·.1) = false := by rfl) : SE X W (.Call (.Name "isinstance" p) [e, .Tuple es k tpos] [] pos) (eIsiT ns f) := by
  refine ⟨pe_imp (pe_callB call_isiT hg hm (by decide +kernel) (pa_cons he.pe (pa_cons (pe_tup ht) pa_nil h2) h1) (by decide) (by decide) h1 hpl) fun σ H Q ⟨Φ, Z, ρ, env, m, F, p⟩ => ?_⟩
  refine tr_bind (P := Post X.K W Φ Z ρ σ Q) F (fun x m1 Z1 ρ1 H1 vx _ e1 F1 rx p1 => ?_) (fun _ _ _ _ h => h) (fun h => h) p
  refine ⟨by rw [List.length_map]; exact Nat.le_trans hl (by decide), fun t ht => ?_⟩
  obtain ⟨r2, e2⟩ := F1.rel.allocZ ht (.tup (ns.map V.ty))
  split at p1
  · rename_i a ha
    split at p1
    · rename_i b hb
      exact ⟨vx, t, ns.map V.ty, .type a, ns.map Value.type, b, rfl, upd_same, tys_cls ns, tyOf_ok r2 (rx.ext e2) ha, kitAll_ok hb, p1 _ _ _ _ (e1.trans e2) r2 rep_bl⟩
    · exact p1.elim
  · exact p1.elim
/-! ### two names at once -/
def sPar (i j : Nat) (fs : LF) : SF := fun env m => match fs env m with
  | .ok [t, u] m1 => .nx ((env.set i (some t)).set j (some u)) m1
  | .ex C ns vs m1 => .ex C ns vs env m1
  | _ => .no
theorem ss_par {k : Nat} (i j : Nat) {x y : Str} {a b : Expr} {fs : LF} {px py pt pos : Pos} {kt k2 : Nat} {pt2 : Pos} (c : Cok X W k) (ha : SA X W [a, b] fs) (hi : X.N[i]? = some x := by rfl) (hj : X.N[j]? = some y := by rfl) (hij : i ≠ j := by decide)
    (hx : X.env.scope.names.lookup x = some .local := by rfl) (hy : X.env.scope.names.lookup y = some .local := by rfl) (hw : swappedStores [.Tuple [.Name x px, .Name y py] kt pt] (.Tuple [a, b] k2 pt2) X.env = pure (some [x, y]) := by rfl)
    (hs : swapsWithSole [.Tuple [.Name x px, .Name y py] kt pt] (.Tuple [a, b] k2 pt2) pos.line X.env = pure false := by rfl) : SS X W (.Assign [.Tuple [.Name x px, .Name y py] kt pt] (.Tuple [a, b] k2 pt2) pos) (sPar i j fs) := by
  refine ⟨ps_imp (ps_par c.calm c.nd hi hj hij hx hy ha.pa hw hs) fun D σ H ⟨Φ, Z, ρ, env, m, F, p⟩ => ⟨Φ, Z, ρ, env, m, F, ?_⟩⟩
  unfold sPar at p
  cases e : fs env m with
  | no => rw [e] at p; exact p
  | ex C ns vs m1 =>
    rw [e] at p
    exact fun Z1 ρ1 H1 d us e1 r1 rs hl hd => p Z1 ρ1 H1 σ d us e1 ⟨r1, F.env.ext e1⟩ rs hl hd
  | ok ts m1 =>
    rw [e] at p
    intro Z1 ρ1 H1 vs e1 r1 rs
    match ts, p, rs with
    | [t, u], p, rs =>
      obtain ⟨v, w, rfl, rv, rw'⟩ := reps2 rs
      exact ⟨v, w, rfl, p _ _ _ _ e1 ⟨r1, ((F.env.ext e1).set i rv).set j rw'⟩ (by simp)⟩
    | [], p, rs => exact (show False from p).elim
    | [_], p, rs => exact (show False from p).elim
    | _ :: _ :: _ :: _, p, rs => exact (show False from p).elim
/-! ### a name's list stays from here on -/
def frz (i : Nat) (env : Env) (m : Mem) : Option (Env × Mem) := match env[i]? with
  | some (some (.loc n)) => match m[n]? with
    | some (some (.lst ts)) => some (env.set i (some (.lst ts)), m.set n none)
    | _ => none
  | _ => none
def sFrz (i : Nat) (g : SF) : SF := fun env m => match frz i env m with
  | some (env1, m1) => g env1 m1
  | none => .no
theorem fits_frz {env env1 : Env} {m1 : Mem} {i : Nat} (F : Fits K Φ Z ρ σ H env m) (e : frz i env m = some (env1, m1)) : ∃ Z1, Ext Z Z1 ρ ρ ∧ Fits K Φ Z1 ρ σ H env1 m1 := by
  unfold frz at e
  split at e
  · rename_i n e1
    split at e
    · rename_i ts e2
      cases e
      obtain ⟨v, h1, h2⟩ := F.env.get i _ e1
      obtain ⟨a, vs, rfl, ha, hH, rs⟩ := cell_lst F.rel h2 e2
      obtain ⟨r2, e3⟩ := F.rel.freeze e2 ha hH
      refine ⟨_, e3, r2, ?_⟩
      have E2 := F.env.ext e3
      refine ⟨by simp [E2.len], fun j u ej => ?_⟩
      by_cases hj : i = j
      · subst hj
        have hl := (List.getElem?_eq_some_iff.mp e1).1
        rw [List.getElem?_set_self hl] at ej
        have eu : T.lst ts = u := by simpa using ej
        subst eu
        refine ⟨.ref a, h1, ?_⟩
        unfold Rep
        exact ⟨a, vs, rfl, upd_same, rs.ext e3⟩
      · rw [List.getElem?_set_ne hj] at ej
        exact E2.get j u ej
    · cases e
  · cases e
theorem ss_frz (i : Nat) {st : Stmt} {g : SF} (h : SS X W st g) : SS X W st (sFrz i g) := by
  refine ⟨ps_imp h.ps fun D σ H ⟨Φ, Z, ρ, env, m, F, p⟩ => ?_⟩
  unfold sFrz at p
  split at p
  · rename_i env1 m1 e
    obtain ⟨Z1, e1, F1⟩ := fits_frz F e
    exact ⟨Φ, Z1, ρ, env1, m1, F1, p.ext e1⟩
  · exact p.elim
end
end Ev

/-! enumerate over a tuple -/
namespace Ev
open PySem L2 RZ
open AutoSeq1 (wpAny_loadPart')
theorem draws_tup {prog : Program} {w : World} {A : Around} (hh : A.handled = none) (it l : Addr) (hne : l ≠ it) (items : Array Value) :
    Draws prog w A it [it, l] items.size (fun i v => items[i]? = some v) (fun i h => h.IsTupleIter it l i ∧ h.IsTuple l items) where
  live := fun _ _ ⟨⟨o, ho, _⟩, _⟩ => ⟨o, ho⟩
  frame := fun i h h' st hk => by
    obtain ⟨⟨o, ho, r⟩, ⟨u, hu, r2⟩⟩ := st
    exact ⟨⟨o, hk it (by simp) o ho, r⟩, ⟨u, hk l (by simp) u hu, r2⟩⟩
  item := fun i s Q E hi st hQ => nextOf_tuple_item st.1 st.2 (x := items[i]) (by simp [hi]) fun h' a b => hQ _ h' s.toks (by simp [hi]) ⟨a, st.2.extBut b.extBut hne⟩ b
  done := fun s Q E st hE => nextOf_tuple_end hh st.1 st.2 (by simp) hE
theorem meets_enum_tup (l : Addr) (items : Array Value) (n : Nat) (dct : Option Addr) (sl : Array (Option Value)) :
    Meets (Builtin.«enumerate.__new__» ⟨[.type "enumerate", .ref l], []⟩) (fun _ R s => s.heap.get? l = some { cls := .type "tuple", dict := dct, data := .seq items n, slots := sl } ∧
      R (.ok (.ret (.ref (s.heap.push { cls := .type "tuple_iterator", data := .fields #[.ref l, .int 0 0] }).objs.size)))
        { s with heap := (s.heap.push { cls := .type "tuple_iterator", data := .fields #[.ref l, .int 0 0] }).push { cls := .type "enumerate", data := .fields #[.none, .bool false, .ref s.heap.objs.size, rawInt 0, .none, .none] } }) :=
  .of_wp fun prog w A R s h => by
    obtain ⟨hp, g, d, tk, os⟩ := s
    obtain ⟨hl, h⟩ := h
    have hsub := sub_enumerate
    have hT : Heap.IsTuple (Shared.heap ⟨hp, g, d, tk, os⟩) l items := ⟨_, hl, rfl, n, rfl⟩
    wp_walk using wpAny_loadPart' hl
    refine wpAny_stack_any fun st => wpAny_pure ?_
    split
    · rename_i c _ _ _ _ _
      cases (c == Value.type "enumerate") <;> (wp_walk using wpAny_loadPart' hl, wpAny_pyIter_tuple hT; exact ⟨_, rfl, h⟩)
    · wp_walk using wpAny_loadPart' hl, wpAny_pyIter_tuple hT
      exact ⟨_, rfl, h⟩
section
variable {prog : Program} {w : World} {A : Around} {E : Value → Shared → Prop} {s : Shared}
theorem call_enum_tup {l : Addr} {items : Array Value} {Q : Value → Shared → Prop} (hL : s.heap.IsTuple l items)
    (h : ∀ h', IsEnum h' (s.heap.objs.size + 1) s.heap.objs.size 0 .none → h'.IsTupleIter s.heap.objs.size l 0 → h'.objs.size = s.heap.objs.size + 2 →
      (∀ b o, s.heap.get? b = some o → h'.get? b = some o) → Q (.ref (s.heap.objs.size + 1)) { s with heap := h' }) : wpAny (model prog w) A (call (.type "enumerate") [.ref l]) Q E s := by
  obtain ⟨⟨c, dct, dt, sl⟩, hl, hc, n, hd⟩ := hL
  replace hc : c = .type "tuple" := hc
  replace hd : dt = .seq items n := hd
  subst hc
  subst hd
  refine callType_new F.called_enumerate (by decide) (F.typeCall_enumerate_1 _) (F.newCall_enumerate_1 _) (fun obj => F.args_object_init_2 obj _) F.entry_enumerate_new (meets_enum_tup l items n dct sl) ⟨hl, ?_⟩
  generalize h1 : s.heap.push { cls := .type "tuple_iterator", data := .fields #[.ref l, .int 0 0] } = g1
  have hz : g1.objs.size = s.heap.objs.size + 1 := by rw [← h1]; exact Heap.size_push ..
  show _ ∧ _
  have he := Heap.get?_push_size g1 (o := { cls := .type "enumerate", data := .fields #[.none, .bool false, .ref s.heap.objs.size, rawInt 0, .none, .none] }) rfl
  rw [hz] at he ⊢
  have it0 : g1.get? s.heap.objs.size = some { cls := .type "tuple_iterator", data := .fields #[.ref l, .int 0 0] } := by rw [← h1]; exact Heap.get?_push_size _ rfl
  have kp : ∀ b o, s.heap.get? b = some o → g1.get? b = some o := fun b o x => by rw [← h1]; exact Heap.get?_push_of_some _ x
  refine ⟨⟨_, he, rfl⟩, h _ he ⟨_, Heap.get?_push_of_some _ it0, rfl, rfl⟩ (by rw [Heap.size_push, hz]) fun b o x => Heap.get?_push_of_some _ (kp b o x)⟩
end
/-- as Ite, of a tuple -/
def IteT (K : PySem.W.Frag) (a : Addr) : It where
  go := fun i H => ∃ (xs : List V) (x : V), SqT K H a xs ∧ xs[i]? = some x
  yld := fun i H v H' => ∃ t x, v = .ref t ∧ H t = none ∧ H' = upd H t (.tup [.int (i : Nat), x]) ∧ ∀ xs, SqT K H a xs → xs[i]? = some x
  stop := fun i H => ∃ xs : List V, SqT K H a xs ∧ xs.length = i
theorem turn_enumT {P : Program} {w : World} {K : PySem.W.Frag} {elts : List Expr} {kk : Nat} {tpos : Pos} (a e it : Addr) :
    Turn P w K (.Tuple elts kk tpos) (IteT K a) [e, it] e (fun i h => (∃ old, IsEnum h e it ((i : Nat) : Int) old) ∧ h.IsTupleIter it a i ∧ e ≠ it ∧ a ≠ it ∧ a ≠ e) where
  mem := by simp
  obj := fun i h ⟨⟨old, he⟩, ⟨o, ho, hc, hd⟩, _⟩ b hb => by
    rcases (show b = e ∨ b = it by simpa using hb) with z | z
    · rw [z]; exact ⟨_, he, fun v q => nomatch q⟩
    · rw [z]; exact ⟨o, ho, fun v q => by rw [hd] at q; cases q⟩
  keep := fun i h h' ⟨⟨old, he⟩, ⟨o, ho, r⟩, hne⟩ k => ⟨⟨old, k e (by simp) _ he⟩, ⟨o, k it (by simp) _ ho, r⟩, hne⟩
  item := by
    intro X hP hw hK hc i pins s σ H E I hf ⟨⟨old, he⟩, hit, hne, hai, hae⟩ ⟨xs, x, hq, hx⟩
    subst hP hw hK
    obtain ⟨its, rv, p, hz⟩ := I.tuple hq
    obtain ⟨u, hu, ru⟩ := rv.get hx
    have hel : e < s.heap.objs.size := Heap.lt_size he
    have hil : it < s.heap.objs.size := by obtain ⟨_, q, _⟩ := hit; exact Heap.lt_size q
    have hlt : i < its.toArray.size := by
      have := (List.getElem?_eq_some_iff.mp hu).1
      simpa using this
    have hh : X.A.in1.handled = none := I.ok.hd hc
    refine wpAny_pyNext_enum_itemD (draws_tup hh it a hai its.toArray) he ⟨hit, p⟩ hlt hne (by simp [hne, hae.symm]) fun y h' tk hy ho st hT hsz hk => ⟨_, rfl, ?_⟩
    have ey : y = u := by
      have hu' : its.toArray[i]? = some u := by simpa using hu
      rw [hu'] at hy; exact (Option.some.inj hy).symm
    subst ey
    refine wpAny_letOwnedTupleGo_enum (s := { s with heap := h', toks := tk + 1 }) ho fun h'' he' sb => ?_
    have hT2 : h''.get? s.heap.objs.size = some { cls := .type "tuple", data := .seq #[.int i tk, y] } := (sb.2 _ (Nat.ne_of_gt hel)).trans hT
    have new : ObjOk X.prog X.w (upd H s.heap.objs.size (.tup [.int (i : Nat), x])) h'' s.heap.objs.size (.tup [.int (i : Nat), x]) :=
      ⟨by show 2 ≤ sizeLine; decide, [.int i tk, y], .cons ⟨_, rfl⟩ (.cons ru .nil), ⟨_, hT2, rfl, _, rfl⟩⟩
    have kp : ∀ b ob, b ∉ [e, it] → s.heap.get? b = some ob → h''.get? b = some ob := fun b ob hb q =>
      (sb.2 b (fun z => hb (by simp [z]))).trans (hk b ob (fun z => hb (by simp [z])) (fun z => hb (by simp [z])) q)
    refine ⟨.ref s.heap.objs.size, _, I.turnedNew (t' := tk + 1) kp hf (Nat.le_refl _) new, rfl, ⟨_, x, rfl, I.hok.fresh (Nat.le_refl _), rfl, fun ys hy => by rw [I.tuple_inj hy hq]; exact hx⟩, ⟨⟨y, ?_⟩, ?_, hne, hai, hae⟩, fun b hb => ?_⟩
    · have e1 : ((i + 1 : Nat) : Int) = (i : Int) + 1 := by omega
      rw [e1]; exact he'
    · obtain ⟨⟨o1, ho1, r1⟩, _⟩ := st
      exact ⟨o1, (sb.2 it (Ne.symm hne)).trans ho1, r1⟩
    · have hb' : b < s.heap.objs.size := by
        rcases (show b = e ∨ b = it by simpa using hb) with z | z
        · rw [z]; exact hel
        · rw [z]; exact hil
      rw [upd_ne (Nat.ne_of_lt hb')]
      exact (hf b hb).1
  done := by
    intro X hP hw hK hc i pins s σ H E I hf ⟨⟨old, he⟩, hit, hne, hai, hae⟩ ⟨xs, hq, hx⟩
    subst hP hw hK
    obtain ⟨its, rv, p, hz⟩ := I.tuple hq
    obtain ⟨f0, f1, f2, f3, f4, f5⟩ := hf it (by simp)
    have hh : X.A.in1.handled = none := I.ok.hd hc
    have hn : its.toArray.size = i := by rw [List.size_toArray, ← rv.length]; exact hx
    refine wpAny_pyNext_enum_endD (draws_tup hh it a hai its.toArray) he ⟨by rw [hn]; exact hit, p⟩ fun h' eb => ⟨rfl, I.turned (t' := s.toks) (fun b o hb q => eb b o hb q) f0 f1 f3 f4 f5⟩
  self := fun A i s Q E st h => let ⟨⟨_, he⟩, _⟩ := st; wpAny_pyIter_enum he h
/-- enumerate(t) over a list or a tuple -/
def iEnumT (K : PySem.W.Frag) (ta : TA) : TI := fun σ H R => ta σ H fun vs H1 => ∃ a xs, vs = [.ref a] ∧ SqT K H1 a xs ∧ R (IteT K a) H1
section
variable {X : Cx} {W : WX}
theorem pi_enumT {e : Expr} {ta : TA} {p pos tpos : Pos} {elts : List Expr} {kk : Nat} (hg : Gl X "enumerate") (hm : X.mg "enumerate" = none) (ha : PA X [e] ta) (hs : starEach [e] X.env = [(false, eval e X.env)]) :
    PI X (.Tuple elts kk tpos) (.Call (.Name "enumerate" p) [e] [] pos) (iEnumT X.K ta) := by
  refine ⟨fun pins s σ H R I h => PyProof.Rows.Call_ (ld_blt I hg hm PyProof.Rows.boot_enumerate (PyProof.Rows.callWith_type1 (thn (ha.run pos pins s σ H _ I h) fun us s1 ⟨vs, H1, I1, r1, a, xs, ex, hq, q⟩ => ?_) hs rfl))⟩
  subst ex
  rw [Vals.ref1 r1]
  obtain ⟨its, rv, p', hz⟩ := I1.tuple hq
  have hal : a < s1.heap.objs.size := p'.lt
  refine call_enum_tup p' fun h' he hit hsz hk => wpAny_pyIter_enum he ?_
  have I2 : Inv X pins σ H1 { s1 with heap := h' } := I1.kept (t' := s1.toks) hk
  refine ⟨s1.heap.objs.size + 1, [s1.heap.objs.size + 1, s1.heap.objs.size], _, _, H1, rfl, I2, turn_enumT a (s1.heap.objs.size + 1) s1.heap.objs.size, ⟨⟨.none, he⟩, hit, Nat.succ_ne_self _, Nat.ne_of_lt hal, Nat.ne_of_lt (Nat.lt_succ_of_lt hal)⟩, fun b hb => ?_, q⟩
  have hle : s1.heap.objs.size ≤ b := by
    rcases (show b = s1.heap.objs.size + 1 ∨ b = s1.heap.objs.size by simpa using hb) with z | z
    · rw [z]; exact Nat.le_add_right _ _
    · rw [z]; exact Nat.le_refl _
  exact I1.fpOk hle (I1.hok.fresh hle)
def enumT (n : Nat) : List T → List T
  | [] => []
  | t :: ts => .tup [.int (n : Nat), t] :: enumT (n + 1) ts
theorem enumT_get : ∀ (ts : List T) (n i : Nat), (enumT n ts)[i]? = ts[i]?.map fun t => .tup [.int ((n + i : Nat) : Int), t]
  | [], n, i => by simp [enumT]
  | t :: ts, n, 0 => by simp [enumT]
  | t :: ts, n, i + 1 => by
    rw [enumT, List.getElem?_cons_succ, List.getElem?_cons_succ, enumT_get ts (n + 1) i]
    have e : n + 1 + i = n + (i + 1) := by omega
    rw [e]
theorem enumT_len : ∀ (ts : List T) (n : Nat), (enumT n ts).length = ts.length
  | [], _ => rfl
  | t :: ts, n => by simp [enumT, enumT_len ts]
theorem wk_new {K : PySem.W.Frag} {Φ Z1 : Hp} {ρ1 : List Addr} {H : Hp} {m : Mem} (r : Rel K Φ Z1 ρ1 H m) {p : Addr} (hp : H p = none) {ts : List T} {vs : List V} (rs : Reps K Z1 ρ1 ts vs) :
    ∃ Z2, Ext Z1 Z2 ρ1 ρ1 ∧ Rel K Φ Z2 ρ1 (upd H p (.tup vs)) m ∧ Rep K Z2 ρ1 (.tup ts) (.ref p) := by
  obtain ⟨r2, e2⟩ := r.allocZ hp (.tup vs)
  refine ⟨_, e2, r2, ?_⟩
  unfold Rep
  exact ⟨p, vs, rfl, .of upd_same, rs.ext e2⟩
theorem wk_enumL {K : PySem.W.Frag} {Z : Hp} {ρ : List Addr} {a : Addr} {vs : List V} {ts : List T} (h : SqL K Z a vs) (rs : Reps K Z ρ ts vs) : Wk K Z ρ (Ite K a) (enumT 0 ts) := fun Φ Z1 ρ1 H m i e r => by
  have q : SqL K H a vs := r.same.seq (e.z.seq h)
  refine ⟨fun hi => ⟨vs, q, by rw [hi, enumT_len, rs.length]; exact Nat.le_refl _⟩, fun t ht => ?_⟩
  rw [enumT_get] at ht
  obtain ⟨u, hu, rfl⟩ := Option.map_eq_some_iff.mp ht
  obtain ⟨v, h1, h2⟩ := rs.get hu
  refine ⟨⟨vs, v, q, h1⟩, fun x H' ⟨p, y, e1, hp, e3, hy⟩ => ?_⟩
  have ey : v = y := by have := hy vs q; rw [h1] at this; exact Option.some.inj this
  subst ey; subst e1; subst e3
  have := wk_new r hp (ts := [.int ((0 + i : Nat) : Int), u]) (vs := [.int (i : Nat), v]) (.cons (by rw [Nat.zero_add]; exact rep_int) (.cons (h2.ext e) .nil))
  exact this
theorem wk_enumT {K : PySem.W.Frag} {Z : Hp} {ρ : List Addr} {a : Addr} {vs : List V} {ts : List T} (h : SqT K Z a vs) (rs : Reps K Z ρ ts vs) : Wk K Z ρ (IteT K a) (enumT 0 ts) := fun Φ Z1 ρ1 H m i e r => by
  have q : SqT K H a vs := Same.sqt r.same (Same.sqt e.z h)
  refine ⟨fun hi => ⟨vs, q, by rw [hi, enumT_len, rs.length]⟩, fun t ht => ?_⟩
  rw [enumT_get] at ht
  obtain ⟨u, hu, rfl⟩ := Option.map_eq_some_iff.mp ht
  obtain ⟨v, h1, h2⟩ := rs.get hu
  refine ⟨⟨vs, v, q, h1⟩, fun x H' ⟨p, y, e1, hp, e3, hy⟩ => ?_⟩
  have ey : v = y := by have := hy vs q; rw [h1] at this; exact Option.some.inj this
  subst ey; subst e1; subst e3
  exact wk_new r hp (ts := [.int ((0 + i : Nat) : Int), u]) (vs := [.int (i : Nat), v]) (.cons (by rw [Nat.zero_add]; exact rep_int) (.cons (h2.ext e) .nil))
def gEn : List T → Mem → Out (List T) := fun ts m1 => match ts with
  | [.lst us] => .ok (enumT 0 us) m1
  | [.rls us] => .ok (enumT 0 us) m1
  | [.tup us] => .ok (enumT 0 us) m1
  | _ => .no
def iEnumA (fs : LF) : LF := fun env m => (fs env m).bind gEn
theorem si_enum {e : Expr} {fs : LF} {p pos tpos : Pos} {elts : List Expr} {kk : Nat} (ha : SA X W [e] fs) (hm : X.mg "enumerate" = none) (hg : Gl X "enumerate" := by rfl) (hs : starEach [e] X.env = [(false, eval e X.env)] := by rfl) :
    SI X W (.Tuple elts kk tpos) (.Call (.Name "enumerate" p) [e] [] pos) (iEnumA fs) := by
  refine ⟨_, pi_or (pi_enum hg hm ha.pa hs) (pi_enumT hg hm ha.pa hs), fun Φ Z ρ σ H env m R F p => ?_⟩
  have key : ∀ (R' : List V → Hp → Prop), (∀ ts m1 Z1 ρ1 H1 vs, fs env m = .ok ts m1 → Ext Z Z1 ρ ρ1 → Fits X.K Φ Z1 ρ1 σ H1 env m1 → Reps X.K Z1 ρ1 ts vs → PostI X.K W Φ Z1 ρ1 σ R (gEn ts m1) → R' vs H1) → trL X.K W fs σ H R' := by
    intro R' hk
    refine trL_bind (P := PostI X.K W Φ Z ρ σ R) F (fun ts m1 Z1 ρ1 H1 vs e0 e1 F1 r p1 => hk ts m1 Z1 ρ1 H1 vs e0 e1 F1 r ?_) (fun _ _ _ _ h => h) (fun h => h) p
    cases hi : gEn ts m1 with
    | ok us m2 => rw [hi] at p1; exact fun Z2 ρ2 H2 J e2 => p1 Z2 ρ2 H2 J (e1.trans e2)
    | ex _ _ _ _ => rw [hi] at p1; exact fun Z2 ρ2 H2 d us e2 => p1 Z2 ρ2 H2 d us (e1.trans e2)
    | no => rw [hi] at p1; exact p1
  cases e0 : fs env m with
  | no => unfold iEnumA at p; rw [e0] at p; exact p.elim
  | ex C ns vs m1 => exact .inl (key _ fun ts m1 Z1 ρ1 H1 vs e1 => by rw [e0] at e1; cases e1)
  | ok ts m1 =>
    have hp : PostI X.K W Φ Z ρ σ R (gEn ts m1) := by unfold iEnumA at p; rw [e0] at p; exact p
    match ts, e0, hp with
    | [.lst us], e0, _ =>
      refine .inl (key _ fun ts m1 Z1 ρ1 H1 vs e1 e F1 r p1 => ?_)
      rw [e0] at e1; cases e1
      obtain ⟨v, rfl, rv⟩ := reps1 r
      unfold Rep at rv
      obtain ⟨a, ws, rfl, q, rs⟩ := rv
      exact ⟨a, ws, rfl, .of (F1.rel.zin _ _ q), p1 _ _ _ _ Ext.refl F1.rel (wk_enumL (.of q) rs)⟩
    | [.rls us], e0, _ =>
      refine .inl (key _ fun ts m1 Z1 ρ1 H1 vs e1 e F1 r p1 => ?_)
      rw [e0] at e1; cases e1
      obtain ⟨v, rfl, rv⟩ := reps1 r
      unfold Rep at rv
      obtain ⟨a, ws, rfl, q, rs⟩ := rv
      exact ⟨a, ws, rfl, F1.rel.same.seq q, p1 _ _ _ _ Ext.refl F1.rel (wk_enumL q rs)⟩
    | [.tup us], e0, _ =>
      refine .inr (key _ fun ts m1 Z1 ρ1 H1 vs e1 e F1 r p1 => ?_)
      rw [e0] at e1; cases e1
      obtain ⟨v, rfl, rv⟩ := reps1 r
      unfold Rep at rv
      obtain ⟨a, ws, rfl, q, rs⟩ := rv
      exact ⟨a, ws, rfl, Same.sqt F1.rel.same q, p1 _ _ _ _ Ext.refl F1.rel (wk_enumT q rs)⟩
    | [], e0, hp => exact (show False from hp).elim
    | [.non], e0, hp => exact (show False from hp).elim
    | [.bl _], e0, hp => exact (show False from hp).elim
    | [.int _], e0, hp => exact (show False from hp).elim
    | [.str _], e0, hp => exact (show False from hp).elim
    | [.ty _], e0, hp => exact (show False from hp).elim
    | [.dct _ _], e0, hp => exact (show False from hp).elim
    | [.ins _ _ _], e0, hp => exact (show False from hp).elim
    | [.loc _], e0, hp => exact (show False from hp).elim
    | a :: b :: c, e0, hp => cases a <;> exact (show False from hp).elim
end
end Ev

/-! own classes: attributes, methods, properties, new instances -/
namespace Ev
open PySem L2
section
variable {K : PySem.W.Frag} {W : WX} {Φ Z : Hp} {ρ : List Addr} {σ : L2.St} {H : Hp} {m : Mem} {X : Cx}
/-- the attribute f among the names -/
def fld (f : Str) : List Str → List T → Option T
  | n :: ns, t :: ts => if f = n then some t else fld f ns ts
  | _, _ => none
theorem fld_ok {f : Str} : ∀ {ns : List Str} {ts : List T} {vs : List V} {t : T}, Reps K Z ρ ts vs → fld f ns ts = some t → ∃ v, (ns.zip vs).lookup f = some v ∧ Rep K Z ρ t v
  | [], _, _, _, _, e => by cases e
  | _ :: _, [], _, _, _, e => by cases e
  | n :: ns, t :: ts, _, u, h, e => by
    unfold Reps at h
    obtain ⟨v, vs, rfl, r, rs⟩ := h
    unfold fld at e
    rw [List.zip_cons_cons, List.lookup_cons]
    split at e
    · rename_i h
      cases e
      subst h
      exact ⟨v, by simp, r⟩
    · rename_i h
      have : (f == n) = false := beq_eq_false_iff_ne.mpr h
      rw [this]
      exact fld_ok rs e
theorem fld_no {f : Str} : ∀ {ns : List Str} {vs : List V}, f ∉ ns → (ns.zip vs).lookup f = none
  | [], _, _ => rfl
  | _ :: _, [], _ => rfl
  | n :: ns, v :: vs, h => by
    rw [List.zip_cons_cons, List.lookup_cons]
    have : (f == n) = false := beq_eq_false_iff_ne.mpr fun z => h (by rw [z]; exact List.mem_cons_self)
    rw [this]
    exact fld_no fun z => h (List.mem_cons_of_mem _ z)
/-- an instance's class and attributes -/
def asIns (m : Mem) : T → Option (Str × List Str × List T)
  | .ins c ns ts => some (c, ns, ts)
  | .loc n => match m[n]? with
    | some (some (.ins c ns ts)) => some (c, ns, ts)
    | _ => none
  | _ => none
theorem asIns_ok (r : Rel K Φ Z ρ H m) {t : T} {v : V} {c : Str} {ns : List Str} {ts : List T} (h : Rep K Z ρ t v) (e : asIns m t = some (c, ns, ts)) :
    ∃ a C dx vs, v = .ref a ∧ CAt K c C ∧ H a = some (.ins C dx (ns.zip vs)) ∧ ns.length = vs.length ∧ Reps K Z ρ ts vs := by
  cases t with
  | ins c' ns' ts' =>
    cases e
    unfold Rep at h
    obtain ⟨a, C, dx, vs, rfl, k, q, hl, rs⟩ := h
    exact ⟨a, C, dx, vs, rfl, k, r.zin _ _ q, hl, rs⟩
  | loc n =>
    unfold Rep at h
    obtain ⟨a, ha, rfl⟩ := h
    unfold asIns at e
    simp only at e
    split at e
    · rename_i c' ns' ts' em
      cases e
      obtain ⟨_, C, dx, vs, q, k, hl, rs⟩ := r.mem n _ a em ha
      exact ⟨a, C, dx, vs, rfl, k, q, hl, rs⟩
    · cases e
  | _ => cases e
/-- what is known of a class of the program -/
structure ClsT (K : PySem.W.Frag) (c : Str) : Prop where
  ex : ∃ C, CAt K c C ∧ Cls K C
def NoA (K : PySem.W.Frag) (c : Str) (f : Str) : Prop := ∀ C, CAt K c C → NoAttr K C f
/-- e.f, an attribute of an instance of the class c -/
def eFld (c f : Str) (fe : EF) : EF := fun env m => (fe env m).bind fun x m1 => match asIns m1 x with
  | some (d, ns, ts) => if d = c then match fld f ns ts with
    | some t => .ok t m1
    | none => .no else .no
  | none => .no
theorem se_fld {c f : Str} {e : Expr} {fe : EF} {pos : Pos} (hc : ClsT X.K c) (hn : NoA X.K c f) (he : SE X W e fe) (hb : attributeBase e f X.env (eval e X.env) = eval e X.env := by rfl) : SE X W (.Attribute e f pos) (eFld c f fe) := by
  refine ⟨pe_imp (pe_fld he.pe hb) fun σ H Q ⟨Φ, Z, ρ, env, m, F, p⟩ => ?_⟩
  refine tr_bind (P := Post X.K W Φ Z ρ σ Q) F (fun x m1 Z1 ρ1 H1 vx _ e1 F1 rx p1 => ?_) (fun _ _ _ _ h => h) (fun h => h) p
  split at p1
  · rename_i d ns ts hi
    split at p1
    · rename_i hd
      subst hd
      split at p1
      · rename_i t ht
        obtain ⟨a, C, dx, vs, rfl, k, q, hl, rs⟩ := asIns_ok F1.rel rx hi
        obtain ⟨v, h1, h2⟩ := fld_ok rs ht
        obtain ⟨C', k', hcl⟩ := hc.ex
        have := k.inj k'
        subst this
        exact ⟨a, C, dx, _, v, rfl, q, hcl, hn C k, h1, p1 _ _ _ _ e1 F1.rel h2⟩
      · exact p1.elim
    · exact p1.elim
  · exact p1.elim
/-- self.f = e -/
def putN (f : Str) (t : T) : List Str → List T → List Str × List T
  | n :: ns, u :: us => if f = n then (n :: ns, t :: us) else let (a, b) := putN f t ns us; (n :: a, u :: b)
  | _, _ => ([f], [t])
theorem putN_ok {f : Str} {t : T} {v : V} (rt : Rep K Z ρ t v) : ∀ {ns : List Str} {ts : List T} {vs : List V}, ns.length = vs.length → Reps K Z ρ ts vs →
    ∃ ws, putF f v (ns.zip vs) = (putN f t ns ts).1.zip ws ∧ (putN f t ns ts).1.length = ws.length ∧ Reps K Z ρ (putN f t ns ts).2 ws
  | [], ts, vs, hl, rs => by
    cases vs with
    | nil =>
      have := rs.length
      cases ts with
      | nil => exact ⟨[v], rfl, rfl, .cons rt .nil⟩
      | cons _ _ => cases this
    | cons _ _ => cases hl
  | n :: ns, ts, vs, hl, rs => by
    cases vs with
    | nil => cases hl
    | cons w ws =>
      cases ts with
      | nil => have := rs.length; cases this
      | cons u us =>
        have rs0 := rs
        unfold Reps at rs
        obtain ⟨v', ws', e0, r, rs⟩ := rs
        cases e0
        unfold putN
        show ∃ zs, (if n = f then (n, v) :: ns.zip ws else (n, w) :: putF f v (ns.zip ws)) = _ ∧ _
        by_cases h : f = n
        · subst h
          simp only [if_true]
          exact ⟨v :: ws, rfl, by simpa using hl, .cons rt rs⟩
        · rw [if_neg (fun z => h z.symm), if_neg h]
          obtain ⟨zs, h1, h2, h3⟩ := putN_ok rt (ns := ns) (by simpa using hl) rs
          exact ⟨w :: zs, by rw [h1]; rfl, by simpa using h2, .cons r h3⟩
def sFldT (c f : Str) (fe fo : EF) : SF := sOf fe fun t env m1 => match fo env m1 with
  | .ok (.loc n) m2 => match m2[n]? with
    | some (some (.ins d ns ts)) => if d = c ∧ ns.length < 900 then .nx env (m2.set n (some (.ins d (putN f t ns ts).1 (putN f t ns ts).2))) else .no
    | _ => .no
  | _ => .no
theorem ss_fld {c f : Str} {o e : Expr} {fe fo : EF} {pos pos' : Pos} (hc : ClsT X.K c) (hn : NoA X.K c f) (he : SE X W e fe) (ho : SE X W o fo) (hs : swapsWith e (some (.Attribute o f pos')) pos.line X.env = pure false := by rfl) : SS X W (.Assign [.Attribute o f pos'] e pos) (sFldT c f fe fo) := by
  refine ⟨ps_imp (ps_fld ho.pe he.pe hs) fun D σ H h => trS_bind (fun Φ Z1 ρ1 H1 env m1 t v F r p => ?_) h⟩
  show tr X.K W fo σ H1 fun ov H2 => ∃ a C dx fs, ov = V.ref a ∧ H2 a = some (.ins C dx fs) ∧ Cls X.K C ∧ NoAttr X.K C f ∧ fs.length < 1000 ∧ D.nx σ (upd H2 a (.ins C dx (putF f v fs)))
  cases eo : fo env m1 with
  | no => simp only [eo] at p; exact p.elim
  | ex _ _ _ _ => simp only [eo] at p; exact p.elim
  | ok to m2 =>
    simp only [eo] at p
    refine ⟨Φ, Z1, ρ1, env, m1, F, ?_⟩
    rw [eo]
    intro Z2 ρ2 H2 vo e2 r2 ro
    cases to with
    | loc n =>
      simp only at p
      split at p
      · rename_i d ns ts em
        split at p
        · rename_i hd
          obtain ⟨rfl, hl9⟩ := hd
          unfold Rep at ro
          obtain ⟨a, ha, rfl⟩ := ro
          obtain ⟨hz, C, dx, vs, q, k, hl, rs⟩ := r2.mem n _ a em ha
          obtain ⟨C', k', hcl⟩ := hc.ex
          have := k.inj k'
          subst this
          obtain ⟨ws, w1, w2, w3⟩ := putN_ok (f := f) (r.ext e2) hl rs
          refine ⟨a, C, dx, _, rfl, q, hcl, hn C k, by rw [List.length_zip, ← hl, Nat.min_self]; omega, ?_⟩
          rw [w1]
          exact p _ _ _ _ e2 ⟨r2.write em ha (u := .ins d _ _) ⟨C, dx, ws, rfl, k, w2, w3⟩, F.env.ext e2⟩ rfl
        · exact p.elim
      · exact p.elim
    | _ => exact (show False from p).elim
/-! ### methods -/
structure MethOk (P : Program) (w : World) (K : PySem.W.Frag) (mg : Str → Option Value) (base : Heap) (n k : Nat) (c mn : Str) (F : FS) : Prop where
  ok : ∃ (C f : Addr) (fd : FuncData) (ps : List Str), ps.length = n ∧ CAt K c C ∧ Cls K C ∧ Meth K C mn f ∧ FnOk P w K mg base (L2.CX P w) k f fd ps (spF K n F) ∧ Binds K fd ps []
def eMethO (c mn : Str) (n : Nat) (F : FS) (fo : EF) (fs : LF) : EF := fun env m => (fo env m).bind fun x m1 => match asIns m1 x with
  | some (d, ns, _) => if d = c ∧ mn ∉ ns then (fs env m1).bind fun ts m2 => if ts.length + 1 = n then F (x :: ts) m2 else .no else .no
  | none => .no
theorem pe_methS {CX : CXT} {k : Nat} {f C : Addr} {fd : FuncData} {ps : List Str} {sp : Sp} {E : L2.St → XK} {mn : Str} {pos apos : Pos} {e o : Expr} {es : List Expr} {ta : TE} {t : TA} {pl : Sem Bool} (he : PE X o ta) (c : Cls X.K C) (hm : Meth X.K C mn f)
    (F : FnOk X.prog X.w X.K X.mg X.base CX k f fd ps sp) (hr : Room k X.A) (hb : Binds X.K fd ps []) (hx : ∀ σ, PassesAt CX X σ (E σ)) (ha : PA X (e :: es) t)
    (hst : starEach (e :: es) X.env = (false, eval e X.env) :: starEach es X.env) (hpl : (backTo pos (starEach es X.env)).any (·.1) = false)
    (ht : eval (.Call (.Attribute o mn apos) (e :: es) [] pos) X.env = (do let ov ← eval o X.env; standAt apos.atName; let (f, first) ← holding [ov] (getMethod ov mn pl); callWith pos f first (backTo pos (starEach (e :: es) X.env)) (backToKw pos (keywordEach [] X.env)))) :
    PE X (.Call (.Attribute o mn apos) (e :: es) [] pos) (fun σ H Q => ta σ H fun x H1 => ∃ a dx fs, x = .ref a ∧ H1 a = some (.ins C dx fs) ∧ fs.lookup mn = none ∧ t σ H1 fun vs H2 => sp (x :: vs) H2 Q (E σ)) := by
  refine ⟨fun pins s σ H Q I h => PySem.W.methodCall_KW (pl := pl) (thn (he.run pins s σ H _ I h) fun u s1 ⟨x, H1, I1, rx, a, dx, fs, ex, ea, l, q⟩ => ?_) ht⟩
  subst ex
  obtain rfl : u = Value.ref a := rx
  refine getmeth_ok I1 ea c hm l (PySem.W.callWith_K (first := [.ref a]) (h₀ := X.base) I.ok.mod.kin hm.kp (thn (ha.run pos pins s1 σ H1 _ I1 q) fun us s2 ⟨vs, H2, I2, r, q2⟩ => ⟨I2.kIn, ?_⟩) hst hpl)
  exact run_fnS (us := .ref a :: us) (vs := .ref a :: vs) F hr hb (hx σ) I2 (.cons rfl r) q2
theorem se_methO {k j n : Nat} {c mn : Str} {F : FS} {o e : Expr} {es : List Expr} {fo : EF} {fs : LF} {apos pos : Pos} {pl : Sem Bool} (ck : Cok X W k) (D : MethOk X.prog X.w X.K X.mg X.base n j c mn F) (ho : SE X W o fo) (ha : SA X W (e :: es) fs) (hj : j ≤ k := by decide)
    (hst : starEach (e :: es) X.env = (false, eval e X.env) :: starEach es X.env := by rfl) (hpl : (backTo pos (starEach es X.env)).any (·.1) = false := by rfl)
    (ht : eval (.Call (.Attribute o mn apos) (e :: es) [] pos) X.env = (do let ov ← eval o X.env; standAt apos.atName; let (f, first) ← holding [ov] (getMethod ov mn pl); callWith pos f first (backTo pos (starEach (e :: es) X.env)) (backToKw pos (keywordEach [] X.env))) := by rfl) :
    SE X W (.Call (.Attribute o mn apos) (e :: es) [] pos) (eMethO c mn n F fo fs) := by
  obtain ⟨C, f, fd, ps, hn, hC, hcl, hm, hF, hb⟩ := D.ok
  refine ⟨pe_imp (pe_methS ho.pe hcl hm hF (ck.room.mono hj) hb (fun σ => passAt ck.tk σ) ha.pa hst hpl ht) fun σ H Q ⟨Φ, Z, ρ, env, m, Fi, p⟩ => ?_⟩
  refine tr_bind (P := Post X.K W Φ Z ρ σ Q) Fi (fun x m1 Z1 ρ1 H1 vx _ e1 F1 rx p1 => ?_) (fun _ _ _ _ h => h) (fun h => h) p
  split at p1
  · rename_i d ns ts0 hi
    split at p1
    · rename_i hd
      obtain ⟨rfl, hno⟩ := hd
      obtain ⟨a, C', dx, us, rfl, k', q, hl, rs⟩ := asIns_ok F1.rel rx hi
      have := k'.inj hC
      subst this
      refine ⟨a, dx, _, rfl, q, fld_no hno, ?_⟩
      refine trL_bind (P := Post X.K W Φ Z1 ρ1 σ Q) F1 (fun ts m2 Z2 ρ2 H2 vs _ e2 F2 rts p2 => ?_) (fun _ _ _ _ h => h) (fun h => h) (p1.ext e1)
      split at p2
      · rename_i hlen
        have rxs : Reps X.K Z2 ρ2 (x :: ts) (.ref a :: vs) := .cons (rx.ext e2) rts
        exact ⟨Φ, Z2, ρ2, m2, x :: ts, F2.rel, rxs, by rw [← rxs.length]; exact hlen, post_w (p2.ext e2)⟩
      · exact p2.elim
    · exact p1.elim
  · exact p1.elim
theorem pe_methS0 {CX : CXT} {k : Nat} {f C : Addr} {fd : FuncData} {ps : List Str} {sp : Sp} {E : L2.St → XK} {mn : Str} {pos apos : Pos} {o : Expr} {ta : TE} {pl : Sem Bool} (he : PE X o ta) (c : Cls X.K C) (hm : Meth X.K C mn f)
    (F : FnOk X.prog X.w X.K X.mg X.base CX k f fd ps sp) (hr : Room k X.A) (hb : Binds X.K fd ps []) (hx : ∀ σ, PassesAt CX X σ (E σ))
    (ht : eval (.Call (.Attribute o mn apos) [] [] pos) X.env = (do let ov ← eval o X.env; standAt apos.atName; let (f, first) ← holding [ov] (getMethod ov mn pl); callWith pos f first (backTo pos (starEach [] X.env)) (backToKw pos (keywordEach [] X.env)))) :
    PE X (.Call (.Attribute o mn apos) [] [] pos) (fun σ H Q => ta σ H fun x H1 => ∃ a dx fs, x = .ref a ∧ H1 a = some (.ins C dx fs) ∧ fs.lookup mn = none ∧ sp [x] H1 Q (E σ)) := by
  refine ⟨fun pins s σ H Q I h => PySem.W.methodCall_KW (pl := pl) (thn (he.run pins s σ H _ I h) fun u s1 ⟨x, H1, I1, rx, a, dx, fs, ex, ea, l, q⟩ => ?_) ht⟩
  subst ex
  obtain rfl : u = Value.ref a := rx
  exact getmeth_ok I1 ea c hm l (PySem.W.callWith_K0 (first := [.ref a]) I1.kIn hm.kp (run_fnS (us := [.ref a]) (vs := [.ref a]) F hr hb (hx σ) I1 (.cons rfl .nil) q))
theorem se_methO0 {k j n : Nat} {c mn : Str} {F : FS} {o : Expr} {fo : EF} {apos pos : Pos} {pl : Sem Bool} (ck : Cok X W k) (D : MethOk X.prog X.w X.K X.mg X.base n j c mn F) (ho : SE X W o fo) (hj : j ≤ k := by decide)
    (ht : eval (.Call (.Attribute o mn apos) [] [] pos) X.env = (do let ov ← eval o X.env; standAt apos.atName; let (f, first) ← holding [ov] (getMethod ov mn pl); callWith pos f first (backTo pos (starEach [] X.env)) (backToKw pos (keywordEach [] X.env))) := by rfl) :
    SE X W (.Call (.Attribute o mn apos) [] [] pos) (eMethO c mn n F fo lNil) := by
  obtain ⟨C, f, fd, ps, hn, hC, hcl, hm, hF, hb⟩ := D.ok
  refine ⟨pe_imp (pe_methS0 ho.pe hcl hm hF (ck.room.mono hj) hb (fun σ => passAt ck.tk σ) ht) fun σ H Q ⟨Φ, Z, ρ, env, m, Fi, p⟩ => ?_⟩
  refine tr_bind (P := Post X.K W Φ Z ρ σ Q) Fi (fun x m1 Z1 ρ1 H1 vx _ e1 F1 rx p1 => ?_) (fun _ _ _ _ h => h) (fun h => h) p
  split at p1
  · rename_i d ns ts0 hi
    split at p1
    · rename_i hd
      obtain ⟨rfl, hno⟩ := hd
      obtain ⟨a, C', dx, us, rfl, k', q, hl, rs⟩ := asIns_ok F1.rel rx hi
      have := k'.inj hC
      subst this
      refine ⟨a, dx, _, rfl, q, fld_no hno, ?_⟩
      have p2 : Post X.K W Φ Z ρ σ Q (if ([] : List T).length + 1 = n then F [x] m1 else .no) := p1
      split at p2
      · rename_i hlen
        have rxs : Reps X.K Z1 ρ1 [x] [.ref a] := .cons rx .nil
        exact ⟨Φ, Z1, ρ1, m1, [x], F1.rel, rxs, by rw [← rxs.length]; exact hlen, post_w (p2.ext e1)⟩
      · exact p2.elim
    · exact p1.elim
  · exact p1.elim
/-! ### a property -/
structure PropOk (P : Program) (w : World) (K : PySem.W.Frag) (mg : Str → Option Value) (base : Heap) (k : Nat) (c f : Str) (F : FS) : Prop where
  ok : ∃ (C p g : Addr) (fd : FuncData) (ps : List Str), ps.length = 1 ∧ CAt K c C ∧ Cls K C ∧ PropOf K C f p g ∧ FnOk P w K mg base (L2.CX P w) k g fd ps (spF K 1 F) ∧ Binds K fd ps []
def eProp (c : Str) (F : FS) (fo : EF) : EF := fun env m => (fo env m).bind fun x m1 => match asIns m1 x with
  | some (d, _, _) => if d = c then match F [x] m1 with
    | .ok t m2 => .ok t m2
    | _ => .no else .no
  | none => .no
theorem se_prop {k j : Nat} {c f : Str} {F : FS} {o : Expr} {fo : EF} {pos : Pos} (ck : Cok X W k) (D : PropOk X.prog X.w X.K X.mg X.base j c f F) (ho : SE X W o fo) (hj : j + 1 ≤ k := by decide) (hab : attributeBase o f X.env (eval o X.env) = eval o X.env := by rfl) :
    SE X W (.Attribute o f pos) (eProp c F fo) := by
  obtain ⟨C, p, g, fd, ps, hn, hC, hcl, hp, hF, hb⟩ := D.ok
  refine ⟨pe_imp (pe_prop ho.pe hcl hp hF (ck.room.mono hj) hb .nil passL hab) fun σ H Q ⟨Φ, Z, ρ, env, m, Fi, p⟩ => ?_⟩
  refine tr_bind (P := Post X.K W Φ Z ρ σ Q) Fi (fun x m1 Z1 ρ1 H1 vx _ e1 F1 rx p1 => ?_) (fun _ _ _ _ h => h) (fun h => h) p
  split at p1
  · rename_i d ns ts0 hi
    split at p1
    · rename_i hd
      subst hd
      obtain ⟨a, C', dx, us, rfl, k', q, hl, rs⟩ := asIns_ok F1.rel rx hi
      have := k'.inj hC
      subst this
      refine ⟨a, dx, _, rfl, q, Φ, Z1, ρ1, m1, [x], F1.rel, .cons rx .nil, rfl, ?_⟩
      cases e : F [x] m1 with
      | ok t m2 =>
        rw [e] at p1
        exact fun Z2 ρ2 H2 v e2 => p1 Z2 ρ2 H2 v (e1.trans e2)
      | ex _ _ _ _ => rw [e] at p1; exact p1.elim
      | no => rw [e] at p1; exact p1.elim
    · exact p1.elim
  · exact p1.elim
/-! ### a new instance -/
structure InitOk (P : Program) (w : World) (K : PySem.W.Frag) (mg : Str → Option Value) (base : Heap) (n k : Nat) (c : Str) (F : FS) : Prop where
  ok : ∃ (C f : Addr) (fd : FuncData) (ps : List Str), ps.length = n + 1 ∧ CAt K c C ∧ mg c = some (.ref C) ∧ Mk K C f ∧ FnOk P w K mg base (L2.CX P w) k f fd ps (spF K (n + 1) F) ∧ Binds K fd ps []
def eMake (fz : Bool) (c : Str) (n : Nat) (F : FS) (fs : LF) : EF := fun env m => (fs env m).bind fun ts m1 => if ts.length = n then match F (.loc m1.length :: ts) (m1 ++ [some (.ins c [] [])]) with
  | .ok .non m2 => if fz then match m2[m1.length]? with
      | some (some (.ins d ns us)) => .ok (.ins d ns us) (m2.set m1.length none)
      | _ => .no
    else .ok (.loc m1.length) m2
  | .ex C ns vs m2 => .ex C ns vs m2
  | _ => .no else .no
theorem pe_makeS {CX : CXT} {k : Nat} {f C : Addr} {fd : FuncData} {ps : List Str} {sp : Sp} {E : L2.St → XK} {x : Str} {p pos : Pos} {e : Expr} {es : List Expr} {t : TA} (M : Mk X.K C f) (F : FnOk X.prog X.w X.K X.mg X.base CX k f fd ps sp) (hr : Room (k + 1) X.A)
    (hg : Gl X x) (hm : X.mg x = some (.ref C)) (hb : Binds X.K fd ps []) (hx : ∀ σ, PassesAt CX X σ (E σ)) (ha : PA X (e :: es) t) (hdb : (x == ("__debug__" : Str)) = false) (he : starEach (e :: es) X.env = (false, eval e X.env) :: starEach es X.env)
    (hpl : (backTo pos (starEach es X.env)).any (·.1) = false) : PE X (.Call (.Name x p) (e :: es) [] pos) (fun σ H Q => t σ H fun vs H1 => ∀ y dx, H1 y = none → H1 dx = none → dx ≠ y →
      sp (.ref y :: vs) (upd (upd H1 dx (.own y)) y (.ins C dx [])) (fun v H2 => v = .non ∧ Q (.ref y) H2) (E σ)) := by
  refine ⟨fun pins s σ H Q I h => wpAny_Call_Name_kw (ld_glob I hg hm (PySem.W.callWith_K (h₀ := X.base) I.ok.mod.kin M.kp (thn (ha.run pos pins s σ H _ I h) fun us s1 ⟨vs, H1, I1, r, q⟩ => ⟨I1.kIn, ?_⟩) he hpl) hdb)⟩
  generalize hy : s1.heap.objs.size = y0
  have hq := q (y0 + 1) y0 (I1.hok.fresh (by rw [hy]; exact Nat.le_succ _)) (I1.hok.fresh (Nat.le_of_eq hy)) (Nat.ne_of_lt (Nat.lt_succ_self _))
  have I2 := Inv.made (C := C) I1
  rw [hy] at I2
  have r2 : Vals (V.ref (y0 + 1) :: vs) (Value.ref (y0 + 1) :: us) := .cons rfl r
  have hl : (Value.ref (y0 + 1) :: us).length = ps.length := by rw [← r2.length]; exact F.len _ _ _ _ hq
  have hB := hb _ (Value.ref (y0 + 1) :: us) I2.kIn (by rw [List.append_nil]; exact hl)
  rw [List.append_nil] at hB
  subst hy
  refine wpAny_call (make_map (f := f) I1.kIn M.makes M.init (beq_iff_eq.mp M.fn) (codeAny_mono (F.run _ X.stack _ _ ⟨Value.ref (s1.heap.objs.size + 1) :: us, []⟩ (Value.ref (s1.heap.objs.size + 1) :: us) _ _ (E σ) (hr.make C us []) (I2.env0.make C us []) hB r2 hq) fun r s' hq' => ?_))
  match r, hq' with
  | .error e, hq' => exact hx σ pins _ _ e s' I2 hq'
  | .ok (.ret u), hq' =>
    obtain ⟨v, H', I3, rv, ev, q3⟩ := I2.after hq'
    subst ev
    exact ⟨rv, ⟨V.ref (s1.heap.objs.size + 1), H', I3, rfl, q3⟩⟩
  | .ok .next, hq' => exact False.elim hq'
  | .ok .brk, hq' => exact False.elim hq'
  | .ok .cont, hq' => exact False.elim hq'
theorem Rel.junk (r : Rel K Φ Z ρ H m) {p : Addr} (hp : H p = none) (o : HO) : Rel K Φ Z ρ (upd H p o) m := by
  have hz := r.zn hp
  refine ⟨fun a u h => ?_, fun a u h => ?_, r.len, r.nd, fun a ha => ?_, fun i w a h1 h2 => ?_⟩
  · have hb : a ≠ p := fun z => by subst z; rw [hz] at h; cases h
    rw [upd_ne hb]; exact r.zin a u h
  · obtain ⟨h1, h2, h3⟩ := r.fin a u h
    exact ⟨by rw [upd_ne (ne_of_none h1 hp)]; exact h1, h2, h3⟩
  · have hb : a ≠ p := fun z => r.rn hp (z ▸ ha)
    rw [upd_ne hb]; exact r.trk a ha
  · have hb : a ≠ p := fun z => r.rn hp (z ▸ List.mem_of_getElem? h2)
    rw [upd_ne hb]; exact r.mem i w a h1 h2
theorem se_make {k j n : Nat} {c : Str} {F : FS} {e : Expr} {es : List Expr} {fs : LF} {p pos : Pos} (fz : Bool) (ck : Cok X W k) (D : InitOk X.prog X.w X.K X.mg X.base n j c F) (ha : SA X W (e :: es) fs) (hj : j + 1 ≤ k := by decide)
    (hg : Gl X c := by rfl) (hdb : (c == ("__debug__" : Str)) = false := by decide) (he : starEach (e :: es) X.env = (false, eval e X.env) :: starEach es X.env := by rfl) (hpl : (backTo pos (starEach es X.env)).any (·.1) = false := by rfl) :
    SE X W (.Call (.Name c p) (e :: es) [] pos) (eMake fz c n F fs) := by
  obtain ⟨C, f, fd, ps, hn, hC, hm, M, hF, hb⟩ := D.ok
  refine ⟨pe_imp (pe_makeS M hF (ck.room.mono hj) hg hm hb (fun σ => passAt ck.tk σ) ha.pa hdb he hpl) fun σ H Q ⟨Φ, Z, ρ, env, m, Fi, p⟩ => ?_⟩
  refine trL_bind (P := Post X.K W Φ Z ρ σ Q) Fi (fun ts m1 Z1 ρ1 H1 vs _ e1 F1 rs p1 => ?_) (fun _ _ _ _ h => h) (fun h => h) p
  split at p1
  rotate_left
  · exact p1.elim
  rename_i hl
  intro y dx hy hdx hne
  have r2 := F1.rel.junk hdx (.own y)
  have hy2 : (upd H1 dx (.own y)) y = none := by rw [upd_ne (Ne.symm hne)]; exact hy
  obtain ⟨r3, e3⟩ := r2.allocC hy2 (o := .ins C dx []) (u := .ins c [] []) ⟨C, dx, [], rfl, hC, rfl, .nil⟩
  have rself : Rep X.K Z1 (ρ1 ++ [y]) (.loc m1.length) (.ref y) := by
    unfold Rep
    exact ⟨y, by rw [← F1.rel.len]; simp, rfl⟩
  have rxs : Reps X.K Z1 (ρ1 ++ [y]) (.loc m1.length :: ts) (.ref y :: vs) := .cons rself (rs.ext e3)
  refine ⟨Φ, Z1, ρ1 ++ [y], _, _, r3, rxs, by rw [← rxs.length]; simp [hl], ?_⟩
  have p1 := p1.ext (e1.trans e3)
  cases er : F (.loc m1.length :: ts) (m1 ++ [some (.ins c [] [])]) with
  | no => rw [er] at p1; exact p1.elim
  | ex C' ns us m2 => rw [er] at p1; exact p1
  | ok t m2 =>
    rw [er] at p1
    intro Z4 ρ4 H4 v e4 r4 rt
    cases t with
    | non =>
      unfold Rep at rt
      refine ⟨rt, ?_⟩
      cases fz with
      | false =>
        simp only [Bool.false_eq_true, if_false] at p1
        exact p1 _ _ _ _ e4 r4 (rself.ext e4)
      | true =>
        simp only [if_true] at p1
        split at p1
        · rename_i d ns us em
          have rs4 := rself.ext e4
          unfold Rep at rs4
          obtain ⟨a, ha, ea⟩ := rs4
          cases ea
          obtain ⟨hz, C2, dx2, ws, q, k2, hl2, rw2⟩ := r4.mem _ _ _ em ha
          obtain ⟨r5, e5⟩ := r4.freeze em ha q
          refine p1 _ _ _ _ (e4.trans e5) r5 ?_
          unfold Rep
          exact ⟨y, C2, dx2, ws, rfl, k2, upd_same, hl2, rw2.ext e5⟩
        · exact p1.elim
    | _ => exact (show False from p1).elim
end
end Ev

/-! small further rules -/
namespace Ev
open PySem L2
section
variable {X : Cx} {W : WX} {K : PySem.W.Frag}
/-! ### targets, whatever the context -/
theorem kg_name (i : Nat) : KG K [i] (gN i) (gName i) := by
  intro Φ Z ρ σ H env env1 m t v Q F r e h
  cases e
  exact h _ ⟨F.rel, F.env.set i r⟩ (by simp) fun vs hv => wipe_set (hv i (by simp))
theorem kgs_nil : KGs K [] gsNil gNil := by
  intro Φ Z ρ σ H env env1 m ts vs Q F r e h
  cases ts with
  | nil =>
    unfold Reps at r
    cases e
    exact ⟨r, h σ F rfl fun _ _ => rfl⟩
  | cons t ts => cases e
theorem kgs_cons {s1 s2 : List Nat} {g : GF} {gs : List T → Env → Option Env} {w1 : TG} {w2 : TGs} (k1 : KG K s1 g w1) (k2 : KGs K s2 gs w2) : KGs K (s1 ++ s2) (gsCons g gs) (gCons w1 w2) := by
  intro Φ Z ρ σ H env env1 m ts vs Q F r e h
  cases ts with
  | nil => cases e
  | cons t ts =>
    unfold Reps at r
    obtain ⟨v, us, rfl, r1, rs⟩ := r
    unfold gsCons at e
    obtain ⟨envA, ea, eb⟩ := Option.bind_eq_some_iff.mp e
    refine ⟨v, us, rfl, k1 Φ Z ρ σ H env envA m t v _ F r1 ea fun σ1 F1 l1 w1' => k2 Φ Z ρ σ1 H envA env1 m ts us _ F1 rs eb fun σ2 F2 l2 w2' => h σ2 F2 (l2.trans l1) fun ws hw => ?_⟩
    exact (w2' ws fun i hi => hw i (List.mem_append_right _ hi)).trans (w1' ws fun i hi => hw i (List.mem_append_left _ hi))
theorem kg_tup {n : Nat} {sl : List Nat} {gs : List T → Env → Option Env} {w : TGs} (k : KGs K sl gs w) : KG K sl (gT n gs) (gTup K n w) := by
  intro Φ Z ρ σ H env env1 m t v Q F r e h
  unfold gT at e
  split at e
  · rename_i ts
    split at e
    · rename_i hl
      unfold Rep at r
      obtain ⟨a, vs, rfl, q, rs⟩ := r
      exact ⟨a, vs, rfl, Same.sqt F.rel.same q, by rw [← rs.length]; exact hl, k Φ Z ρ σ H env env1 m ts vs Q F rs e h⟩
    · cases e
  · cases e
/-! ### calls without arguments, ints of the module, list(range(n)), -n -/
theorem se_call0 {k j : Nat} {F : FS} {x : Str} {p pos : Pos} (c : Cok X W k) (D : DefOk X.prog X.w X.K X.mg X.base 0 j x F) (hj : j ≤ k := by decide) (hg : Gl X x := by rfl) (hdb : (x == ("__debug__" : Str)) = false := by decide) :
    SE X W (.Call (.Name x p) [] [] pos) (eCall 0 F lNil) := by
  obtain ⟨f, fd, ps, hn, hF, hm, hk, hb⟩ := D.ok
  refine ⟨⟨fun pins s σ H Q I ⟨Φ, Z, ρ, env, m, Fi, p⟩ => ?_⟩⟩
  refine wpAny_Call_Name_kw (ld_glob I hg hm (PySem.W.callWith_K0 I.kIn hk (run_fnS (us := []) (vs := []) (E := fun σ => WE W σ) hF (c.room.mono hj) hb (passAt c.tk σ) I .nil ?_)) hdb)
  exact ⟨Φ, Z, ρ, m, [], Fi.rel, .nil, rfl, post_w p⟩
/-- the module's name holds an int -/
def GI (mg : Str → Option Value) (x : Str) (i : Int) : Prop := ∃ t, mg x = some (.int i t)
def GS (mg : Str → Option Value) (x : Str) (z : Str) : Prop := ∃ t, mg x = some (.str z t)
theorem se_gi {x : Str} {i : Int} {pos : Pos} (h : GI X.mg x i) (hg : Gl X x := by rfl) (hd : (x == ("__debug__" : Str)) = false := by decide) : SE X W (.Name x pos) (eC (.int i)) := by
  obtain ⟨t, h⟩ := h
  exact se_glob (v := .int i) h ⟨t, rfl⟩ (fun _ _ => rep_int) hg hd
theorem se_gs {x z : Str} {pos : Pos} (h : GS X.mg x z) (hg : Gl X x := by rfl) (hd : (x == ("__debug__" : Str)) = false := by decide) : SE X W (.Name x pos) (eC (.str z)) := by
  obtain ⟨t, h⟩ := h
  exact se_glob (v := .str z) h ⟨t, rfl⟩ (fun _ _ => rep_str) hg hd
def eNeg (f : EF) : EF := fun env m => (f env m).bind fun t m1 => match t with
  | .int i => .ok (.int (-i)) m1
  | _ => .no
theorem se_neg {a : Expr} {f : EF} {pos : Pos} (ha : SE X W a f) : SE X W (.UnaryOp .USub a pos) (eNeg f) :=
  ⟨pe_imp (pe_un un_neg ha.pe) fun σ H Q ⟨Φ, Z, ρ, env, m, F, p⟩ =>
    tr_bind (P := Post X.K W Φ Z ρ σ Q) F (fun t m1 Z1 ρ1 H1 v _ e1 F1 r p1 => by
      cases t with
      | int i => unfold Rep at r; subst r; exact ⟨i, rfl, p1 _ _ _ _ e1 F1.rel rep_int⟩
      | _ => exact (show False from p1).elim) (fun _ _ _ _ h => h) (fun h => h) p⟩
theorem reps_rng {Z : Hp} {ρ : List Addr} (n : Int) : Reps K Z ρ (rng 0 n) (rgV 0 n) := by
  unfold rng rgV
  generalize (n - 0).toNat = k
  have : ∀ l : List Nat, Reps K Z ρ (l.map fun i => T.int (0 + (i : Nat))) (l.map fun i => V.int (0 + (i : Nat))) := by
    intro l
    induction l with
    | nil => exact .nil
    | cons a l ih => exact .cons rep_int ih
  exact this _
/-- list(range(n)) -/
def eListRange (mu : Bool) (f : EF) : EF := fun env m => (f env m).bind fun t m1 => match t with
  | .int n => if -1000000 ≤ n ∧ n ≤ 1000000 then mk mu (rng 0 n) m1 else .no
  | _ => .no
theorem se_listRange (mu : Bool) {k : Nat} {a : Expr} {f : EF} {p p2 pos pos2 : Pos} (c : Cok X W k) (ha : SE X W a f) (hm : X.mg "list" = none) (hm2 : X.mg "range" = none) (hg : Gl X "list" := by rfl) (hg2 : Gl X "range" := by rfl)
    (na : starEach [a] X.env = (false, eval a X.env) :: starEach [] X.env := by rfl) (nb : starEach [.Call (.Name "range" p2) [a] [] pos2] X.env = (false, eval (.Call (.Name "range" p2) [a] [] pos2) X.env) :: starEach [] X.env := by rfl) :
    SE X W (.Call (.Name "list" p) [.Call (.Name "range" p2) [a] [] pos2] [] pos) (eListRange mu f) :=
  ⟨pe_imp (pe_listRg c.calm hg hm (prg_1 hg2 hm2 ha.pe na) nb) fun σ H Q ⟨Φ, Z, ρ, env, m, F, p⟩ =>
    tr_bind (P := Post X.K W Φ Z ρ σ Q) F (fun t m1 Z1 ρ1 H1 v _ e1 F1 r p1 => by
      cases t with
      | int n =>
        simp only at p1
        split at p1
        · rename_i hb
          unfold Rep at r
          subst r
          refine ⟨n, rfl, ⟨by omega, by omega, by omega, by omega, by omega⟩, fun q hq => post_mk F1.rel (reps_rng n) (p1.ext e1) hq⟩
        · exact p1.elim
      | _ => exact (show False from p1).elim) (fun _ _ _ _ h => h) (fun h => h) p⟩
end
end Ev

/-! sets of texts, made of a list or a tuple -/
namespace EvS
open PySem PySem.Spec PyProof.Rows
/-- how many different texts stand among the first i -/
def ucnt (xs : List Str) : Nat → Nat
  | 0 => 0
  | i + 1 => if (xs.take i).any (· == xs.getD i Str.empty) then ucnt xs i else ucnt xs i + 1
theorem ucnt_le (xs : List Str) : ∀ i, ucnt xs i ≤ i
  | 0 => Nat.le_refl _
  | i + 1 => by
    have := ucnt_le xs i
    unfold ucnt
    split <;> omega
theorem take_any (xs : List Str) (i : Nat) (hi : i < xs.length) (k : Str) : (xs.take (i + 1)).any (· == k) = ((xs.take i).any (· == k) || decide (k = xs.getD i Str.empty)) := by
  have e : xs.getD i Str.empty = xs[i] := by rw [List.getD_eq_getElem?_getD, List.getElem?_eq_getElem hi]; rfl
  have e2 : xs.take (i + 1) = xs.take i ++ [xs[i]] := (List.take_append_getElem hi).symm
  have e3 : (xs[i] == k) = decide (k = xs[i]) := by
    by_cases h : k = xs[i]
    · rw [← h]; rw [decide_eq_true rfl]; exact beq_self_eq_true k
    · rw [decide_eq_false h]; exact beq_eq_false_iff_ne.mpr fun z => h z.symm
  rw [e, e2, List.any_append, List.any_cons, List.any_nil, Bool.or_false, e3]
abbrev set0 (led : Bool) : Obj := { cls := .type "set", dict := none, data := .set #[] 0 (.fresh 0 0 led) }
section
variable {prog : Program} {w : World} {A : Around} {R : Result → Shared → Prop} {I : Addr} {fp wr : List Addr} {G : Array GenState → Array GenState → Prop} {n : Nat} {P : Nat → Value → Prop} {St : Nat → Shared → Prop}
theorem fill (V : WalksS prog w A.in1 I fp wr G n P St) (S : Addr) (hS : S ∉ fp) (xs : List Str) (hx : xs.length = n) (hb : n + 1 < scanBound) (hv : ∀ i v, P i v → ∃ t, v = .str (xs.getD i Str.empty) t) :
    ∀ (k i : Nat) (s : Shared), n - i = k → i ≤ n → St i s → s.heap.SetOf (PySem.strKind prog w) S (fun z => (xs.take i).any (· == z)) (ucnt xs i) →
      (∀ s', Moved (S :: wr) G s s' → s'.heap.SetOf (PySem.strKind prog w) S (fun z => (xs.take n).any (· == z)) (ucnt xs n) → R (.ok (.ret .none)) s') →
      codeAny (model prog w) A (.builtin "set.update.loop" ⟨[.ref S, .ref I], []⟩) R s := by
  have hw : S ∉ wr := fun h => hS (V.sub _ h)
  have up : ∀ b ∈ wr, b ∈ S :: wr := fun b hb => List.mem_cons_of_mem _ hb
  have keep : ∀ {s s' : Shared} {f : Str → Bool} {c : Nat}, Moved wr G s s' → s.heap.SetOf (PySem.strKind prog w) S f c → s'.heap.SetOf (PySem.strKind prog w) S f c := fun hm ⟨o, es, ep, t, ho, r⟩ => ⟨o, es, ep, t, hm.heap S _ hw ho, r⟩
  intro k
  induction k with
  | zero =>
    intro i s hk hi st hs hR
    obtain rfl : i = n := by omega
    refine codeAny_builtin F.entry_set_update_loop ?_
    rw [Around.under_plainId F.plain_set_update_loop _]
    show wpAny _ A.in1 (pyNext (.ref I) >>= _) _ _ s
    exact wpAny_bind (V.done s _ _ st fun s' hm => (show wpAny _ A.in1 (ret Value.none) _ _ s' from wpAny_pure (hR s' (hm.mono up) (keep hm hs))))
  | succ k ih =>
    intro i s hk hi st hs hR
    have hlt : i < n := by omega
    have hc := ucnt_le xs i
    refine codeAny_builtin F.entry_set_update_loop ?_
    rw [Around.under_plainId F.plain_set_update_loop _]
    show wpAny _ A.in1 (pyNext (.ref I) >>= _) _ _ s
    refine wpAny_bind (V.item i s _ _ hlt st fun v s' hP st' hm => ?_)
    obtain ⟨t, rfl⟩ := hv i v hP
    have hs' := keep hm hs
    show wpAny _ A.in1 (holding [Value.str (xs.getD i Str.empty) t] (setAdd S (.str (xs.getD i Str.empty) t)) >>= _) _ _ s'
    refine wpAny_bind (wpAny_holding ?_)
    unfold setAdd
    refine wpAny_holding (wpAny_bind ((PySem.strKind prog w).pyHash (k := xs.getD i Str.empty) (strKind_is _ _ _ _) ?_))
    refine wpAny_setAddHashed_of (knd := PySem.strKind prog w) (s := { s' with toks := s'.toks + 1 }) (strKind_is _ _ _ _) rfl hs' (by omega) fun h' sb h2 => ?_
    have h3 : h'.SetOf (PySem.strKind prog w) S (fun z => (xs.take (i + 1)).any (· == z)) (ucnt xs (i + 1)) := SetOf_congr h2 (fun z => (take_any xs i (by omega) z).symm) rfl
    refine wpAny_pure ⟨plainId_quiet F.plain_set_update_loop _, ih (i + 1) _ (by omega) hlt (V.frame _ s' _ _ st' (Nat.le_succ _) fun b hb o e => ?_) h3 fun s2 hm2 h4 => ?_⟩
    · rw [sb.2 b (fun z : b = S => hS (by rw [← z]; exact hb))]
      exact e
    · refine hR s2 (Moved.trans V.gtrans ((hm.mono up).then_heap (Nat.le_succ _) fun b o hb e => ?_) hm2) h4
      rw [sb.2 b (fun z : b = S => hb (by rw [z]; exact List.mem_cons_self))]
      exact e
end
section
variable {prog : Program} {w : World} {A : Around} {E : Value → Shared → Prop} {s : Shared}

set_option maxHeartbeats 3200000 in
theorem call_set_list {l : Addr} {items : Array Value} {xs : List Str} {Q : Value → Shared → Prop} (hh : A.handled = none) (hl : s.heap.IsList l items) (hi : StrsAre items.toList xs) (hb : xs.length + 1 < scanBound)
    (h : ∀ (h' : Heap) (tk : Nat), h'.SetOf (PySem.strKind prog w) s.heap.objs.size (fun z => (xs.take xs.length).any (· == z)) (ucnt xs xs.length) → (∀ b o, b < s.heap.objs.size → s.heap.get? b = some o → h'.get? b = some o) → Q (.ref s.heap.objs.size) { s with heap := h', toks := tk }) :
    wpAny (model prog w) A (call (.type "set") [.ref l]) Q E s := by
  obtain ⟨c, tl, hmro⟩ := PySem.F.called_set.mro
  have hmade := PySem.F.called_set.made
  have hsub := PySem.F.called_set.sub
  refine wpAny_call (codeAny_of_tree (show wpAny _ _ (callAny (.type "set") _) _ _ _ from wpAny_pure ⟨Code.quiet_builtin _ (by decide +kernel), codeAny_builtin PySem.F.entry_type_call ?_⟩))
  rw [Around.under_plain (weight_type_call_type "set" [.ref l] []) rfl]
  have h1 := PySem.F.called_set.notType
  have h2 := PySem.F.called_set.canCreate
  have hct := PySem.F.typeCall_set_1 (.ref l)
  repeat (any_goals (first | assumption | wp_step))
  refine codeAny_mono (code_set_new_1 (.ref l) (E := E) (Q₁ := fun obj s₁ => ∃ led : Bool, obj = .ref s.heap.objs.size ∧ s₁ = { s with heap := s.heap.push (set0 led) }) fun led => ⟨led, rfl, rfl⟩) fun r s₁ hr => ?_
  match r, hr with
  | .error e, hr => exact hr
  | .ok .next, hr => exact hr.elim
  | .ok .brk, hr => exact hr.elim
  | .ok .cont, hr => exact hr.elim
  | .ok (.ret obj), hr =>
    obtain ⟨led, rfl, rfl⟩ := hr
    have hS : (s.heap.push (set0 led)).get? s.heap.objs.size = some (set0 led) := Heap.get?_push_size _ rfl
    have hT : Shared.TypeIs { s with heap := s.heap.push (set0 led) } (.ref s.heap.objs.size) "set" := ⟨_, hS, rfl⟩
    have hli := PySem.F.called_set.init.lookup
    have hbi := PySem.F.called_set.init.bind (.ref s.heap.objs.size)
    repeat (any_goals (first | assumption | wp_step))
    refine codeAny_mono (codeAny_call_builtin (R := wants (fun r s₂ => r = .none ∧ ∃ h' tk, s₂ = { s with heap := h', toks := tk } ∧ h'.SetOf (PySem.strKind prog w) s.heap.objs.size (fun z => (xs.take xs.length).any (· == z)) (ucnt xs xs.length) ∧
      (∀ b o, b < s.heap.objs.size → s.heap.get? b = some o → h'.get? b = some o)) E) PySem.F.called_set.init.plain PySem.F.entry_set_init (check_set_init_1 hT ?_)) fun r₂ s₂ hr₂ => ?_
    · obtain ⟨⟨oc, od, dt, sl⟩, hol, hc1, nl, hd1⟩ := hl
      replace hc1 : oc = .type "list" := hc1
      replace hd1 : dt = .seq items nl := hd1
      subst hc1
      subst hd1
      have hol' : (s.heap.push (set0 led)).get? l = some { cls := .type "list", dict := od, data := .seq items nl, slots := sl } := Heap.get?_push_of_some _ hol
      have q1 := PySem.F.sub_list_set
      have q2 := PySem.F.sub_list_frozenset
      have q3 : (Value.type "list" == Value.type "dict") = false := by decide
      have hl1 : (s.heap.push (set0 led)).IsList l items := ⟨_, hol', rfl, nl, rfl⟩
      unfold Builtin.«set.__init__» noKeywords Builtin.Frozenset.updateFrom
      generalize hPI : pyIter = PI
      wp_walk
      subst hPI
      refine wpAny_pyIter_list hl1 (wpAny_bind (wpAny_runValue ?_))
      have hlS : l < s.heap.objs.size := Heap.lt_size hol
      have hz : (s.heap.push (set0 led)).objs.size = s.heap.objs.size + 1 := Heap.size_push ..
      have a1 : A.in1.in1.in1.handled = none := by simp [hh]
      have a2 : l ≠ (s.heap.push (set0 led)).objs.size := by rw [hz]; exact Nat.ne_of_lt (Nat.lt_succ_of_lt hlS)
      have a3 : s.heap.objs.size ∉ [(s.heap.push (set0 led)).objs.size, l] := by
        rw [hz]
        simp only [List.mem_cons, List.not_mem_nil, or_false, not_or]
        exact ⟨Nat.ne_of_lt (Nat.lt_succ_self _), Nat.ne_of_gt hlS⟩
      have a4 : xs.length = items.size := by rw [← StrsAre.len_eq hi, Array.length_toList]
      have a5 : ∀ (i : Nat) (v : Value), items[i]? = some v → ∃ t, v = .str (xs.getD i Str.empty) t := fun i v hv => SS.strs_at hi i v (by rw [Array.getElem?_toList]; exact hv)
      refine fill ((Walks.list a1 _ l a2 items).toS) s.heap.objs.size a3 xs a4 (by omega) a5 (items.size - 0) 0 _ (by omega) (Nat.zero_le _) ⟨⟨_, Heap.get?_push_size _ rfl, rfl, rfl⟩, (hl1.push _)⟩ ?_ fun s' hm h9 => ?_
      · have hg : ((s.heap.push (set0 led)).push { cls := .type "list_iterator", data := .fields #[.ref l, .int 0 0] }).get? s.heap.objs.size = some (set0 led) := Heap.get?_push_of_some _ hS
        exact SetOf_congr ((setObjOf_fresh (knd := PySem.strKind prog w) led).setOf hg (by unfold scanBound; omega)) (fun _ => rfl) rfl
      · obtain ⟨h', g', d', tk', os'⟩ := s'
        obtain rfl : g' = s.gens := hm.gens
        obtain rfl : d' = s.drawn := hm.drawn
        obtain rfl : os' = s.os := hm.os
        rw [← a4] at h9
        refine wpAny_pure (show wpAny _ _ (ret Value.none) _ _ _ from wpAny_pure ⟨rfl, h', tk', rfl, h9, fun b o hb e => hm.heap b o ?_ (Heap.get?_push_of_some _ (Heap.get?_push_of_some _ e))⟩)
        simp only [List.mem_cons, List.not_mem_nil, or_false, not_or]
        exact ⟨Nat.ne_of_lt hb, by rw [hz]; exact Nat.ne_of_lt (Nat.lt_succ_of_lt hb)⟩
    · match r₂, hr₂ with
      | .error e, hr₂ => exact hr₂
      | .ok .next, hr₂ => exact hr₂.elim
      | .ok .brk, hr₂ => exact hr₂.elim
      | .ok .cont, hr₂ => exact hr₂.elim
      | .ok (.ret r), hr₂ =>
        obtain ⟨rfl, h', tk, rfl, hs', hk'⟩ := hr₂
        repeat (any_goals (first | assumption | wp_step))
        exact h _ _ hs' hk'

set_option maxHeartbeats 3200000 in
theorem call_set_tuple {l : Addr} {items : Array Value} {xs : List Str} {Q : Value → Shared → Prop} (hh : A.handled = none) (hl : s.heap.IsTuple l items) (hi : StrsAre items.toList xs) (hb : xs.length + 1 < scanBound)
    (h : ∀ (h' : Heap) (tk : Nat), h'.SetOf (PySem.strKind prog w) s.heap.objs.size (fun z => (xs.take xs.length).any (· == z)) (ucnt xs xs.length) → (∀ b o, b < s.heap.objs.size → s.heap.get? b = some o → h'.get? b = some o) → Q (.ref s.heap.objs.size) { s with heap := h', toks := tk }) :
    wpAny (model prog w) A (call (.type "set") [.ref l]) Q E s := by
  obtain ⟨c, tl, hmro⟩ := PySem.F.called_set.mro
  have hmade := PySem.F.called_set.made
  have hsub := PySem.F.called_set.sub
  refine wpAny_call (codeAny_of_tree (show wpAny _ _ (callAny (.type "set") _) _ _ _ from wpAny_pure ⟨Code.quiet_builtin _ (by decide +kernel), codeAny_builtin PySem.F.entry_type_call ?_⟩))
  rw [Around.under_plain (weight_type_call_type "set" [.ref l] []) rfl]
  have h1 := PySem.F.called_set.notType
  have h2 := PySem.F.called_set.canCreate
  have hct := PySem.F.typeCall_set_1 (.ref l)
  repeat (any_goals (first | assumption | wp_step))
  refine codeAny_mono (code_set_new_1 (.ref l) (E := E) (Q₁ := fun obj s₁ => ∃ led : Bool, obj = .ref s.heap.objs.size ∧ s₁ = { s with heap := s.heap.push (set0 led) }) fun led => ⟨led, rfl, rfl⟩) fun r s₁ hr => ?_
  match r, hr with
  | .error e, hr => exact hr
  | .ok .next, hr => exact hr.elim
  | .ok .brk, hr => exact hr.elim
  | .ok .cont, hr => exact hr.elim
  | .ok (.ret obj), hr =>
    obtain ⟨led, rfl, rfl⟩ := hr
    have hS : (s.heap.push (set0 led)).get? s.heap.objs.size = some (set0 led) := Heap.get?_push_size _ rfl
    have hT : Shared.TypeIs { s with heap := s.heap.push (set0 led) } (.ref s.heap.objs.size) "set" := ⟨_, hS, rfl⟩
    have hli := PySem.F.called_set.init.lookup
    have hbi := PySem.F.called_set.init.bind (.ref s.heap.objs.size)
    repeat (any_goals (first | assumption | wp_step))
    refine codeAny_mono (codeAny_call_builtin (R := wants (fun r s₂ => r = .none ∧ ∃ h' tk, s₂ = { s with heap := h', toks := tk } ∧ h'.SetOf (PySem.strKind prog w) s.heap.objs.size (fun z => (xs.take xs.length).any (· == z)) (ucnt xs xs.length) ∧
      (∀ b o, b < s.heap.objs.size → s.heap.get? b = some o → h'.get? b = some o)) E) PySem.F.called_set.init.plain PySem.F.entry_set_init (check_set_init_1 hT ?_)) fun r₂ s₂ hr₂ => ?_
    · obtain ⟨⟨oc, od, dt, sl⟩, hol, hc1, nl, hd1⟩ := hl
      replace hc1 : oc = .type "tuple" := hc1
      replace hd1 : dt = .seq items nl := hd1
      subst hc1
      subst hd1
      have hol' : (s.heap.push (set0 led)).get? l = some { cls := .type "tuple", dict := od, data := .seq items nl, slots := sl } := Heap.get?_push_of_some _ hol
      have q1 := PySem.F.sub_tuple_set
      have q2 := PySem.F.sub_tuple_frozenset
      have q3 : (Value.type "tuple" == Value.type "dict") = false := by decide
      have hl1 : (s.heap.push (set0 led)).IsTuple l items := ⟨_, hol', rfl, nl, rfl⟩
      unfold Builtin.«set.__init__» noKeywords Builtin.Frozenset.updateFrom
      generalize hPI : pyIter = PI
      wp_walk
      subst hPI
      refine wpAny_pyIter_tuple hl1 (wpAny_bind (wpAny_runValue ?_))
      have hlS : l < s.heap.objs.size := Heap.lt_size hol
      have hz : (s.heap.push (set0 led)).objs.size = s.heap.objs.size + 1 := Heap.size_push ..
      have a1 : A.in1.in1.in1.handled = none := by simp [hh]
      have a2 : l ≠ (s.heap.push (set0 led)).objs.size := by rw [hz]; exact Nat.ne_of_lt (Nat.lt_succ_of_lt hlS)
      have a3 : s.heap.objs.size ∉ [(s.heap.push (set0 led)).objs.size, l] := by
        rw [hz]
        simp only [List.mem_cons, List.not_mem_nil, or_false, not_or]
        exact ⟨Nat.ne_of_lt (Nat.lt_succ_self _), Nat.ne_of_gt hlS⟩
      have a4 : xs.length = items.size := by rw [← StrsAre.len_eq hi, Array.length_toList]
      have a5 : ∀ (i : Nat) (v : Value), items[i]? = some v → ∃ t, v = .str (xs.getD i Str.empty) t := fun i v hv => SS.strs_at hi i v (by rw [Array.getElem?_toList]; exact hv)
      refine fill ((Walks.tuple a1 _ l a2 items).toS) s.heap.objs.size a3 xs a4 (by omega) a5 (items.size - 0) 0 _ (by omega) (Nat.zero_le _) ⟨⟨_, Heap.get?_push_size _ rfl, rfl, rfl⟩, (hl1.push _)⟩ ?_ fun s' hm h9 => ?_
      · have hg : ((s.heap.push (set0 led)).push { cls := .type "tuple_iterator", data := .fields #[.ref l, .int 0 0] }).get? s.heap.objs.size = some (set0 led) := Heap.get?_push_of_some _ hS
        exact SetOf_congr ((setObjOf_fresh (knd := PySem.strKind prog w) led).setOf hg (by unfold scanBound; omega)) (fun _ => rfl) rfl
      · obtain ⟨h', g', d', tk', os'⟩ := s'
        obtain rfl : g' = s.gens := hm.gens
        obtain rfl : d' = s.drawn := hm.drawn
        obtain rfl : os' = s.os := hm.os
        rw [← a4] at h9
        refine wpAny_pure (show wpAny _ _ (ret Value.none) _ _ _ from wpAny_pure ⟨rfl, h', tk', rfl, h9, fun b o hb e => hm.heap b o ?_ (Heap.get?_push_of_some _ (Heap.get?_push_of_some _ e))⟩)
        simp only [List.mem_cons, List.not_mem_nil, or_false, not_or]
        exact ⟨Nat.ne_of_lt hb, by rw [hz]; exact Nat.ne_of_lt (Nat.lt_succ_of_lt hb)⟩
    · match r₂, hr₂ with
      | .error e, hr₂ => exact hr₂
      | .ok .next, hr₂ => exact hr₂.elim
      | .ok .brk, hr₂ => exact hr₂.elim
      | .ok .cont, hr₂ => exact hr₂.elim
      | .ok (.ret r), hr₂ =>
        obtain ⟨rfl, h', tk, rfl, hs', hk'⟩ := hr₂
        repeat (any_goals (first | assumption | wp_step))
        exact h _ _ hs' hk'

end
end EvS

namespace Ev
open PySem L2
section
variable {X : Cx} {W : WX}
def tLenS (K : PySem.W.Frag) (ta : TE) : TE := fun σ H Q => ta σ H fun x H1 => ∃ l, ∃ xs : List Str, x = .ref l ∧ (SqL K H1 l (xs.map V.str) ∨ SqT K H1 l (xs.map V.str)) ∧ xs.length ≤ 4000 ∧ Q (.int (EvS.ucnt xs xs.length : Nat)) H1
theorem pe_lenS {a : Expr} {ta : TE} {p p2 q pos : Pos} (hc : X.calm = true) (hg : Gl X "len") (hm : X.mg "len" = none) (hg2 : Gl X "set") (hm2 : X.mg "set" = none) (ha : PE X a ta)
    (na : starEach [a] X.env = (false, eval a X.env) :: starEach [] X.env) : PE X (.Call (.Name "len" p) [.Call (.Name "set" p2) [a] [] q] [] pos) (tLenS X.K ta) := by
  refine ⟨fun pins s σ H Q I h => PyProof.Rows.Call_ (ld_blt I hg hm PySem.boot_len ?_)⟩
  refine PyProof.Rows.callWith_builtin1 (PyProof.Rows.args_cons (PyProof.Rows.Call_ (ld_blt I hg2 hm2 PyProof.Rows.boot_set ?_)) rfl) rfl rfl
  refine PyProof.Rows.callWith_type1 (PyProof.Rows.args_cons (thn (ha.run pins s σ H _ I h) fun v s1 ⟨x, H1, I1, r1, l, xs, e1, hq, h1, q1⟩ => PyProof.Rows.args_nil ?_) na) na rfl
  subst e1
  cases r1
  have fin : ∀ (its : List Value), Vals (xs.map V.str) its → ∀ (h' : Heap) (tk : Nat), h'.SetOf (PySem.strKind X.prog X.w) s1.heap.objs.size (fun z => (xs.take xs.length).any (· == z)) (EvS.ucnt xs xs.length) → (∀ b o, b < s1.heap.objs.size → s1.heap.get? b = some o → h'.get? b = some o) →
      wpAny (model X.prog X.w) X.A (spliced (backTo pos (starEach [] X.env))) (fun vs s₂ => wpAny (model X.prog X.w) X.A (call (.builtin "len") (Value.ref s1.heap.objs.size :: vs)) (EP X pins σ Q) X.xe s₂) X.xe { s1 with heap := h', toks := tk } := fun its r h' tk hS hk => by
    refine PyProof.Rows.args_nil ?_
    have hu := EvS.ucnt_le xs xs.length
    obtain ⟨o, es, ep, t, ho, hex, hd, _, _, _, hf, hn⟩ := hS
    have I2 : Inv X pins σ H1 { s1 with heap := h', toks := tk } := I1.kept fun b o e => hk b o (Heap.lt_size e) e
    exact PySem.call_len_set ho hex hd hf (by rw [hn] <;> omega) ⟨.int (EvS.ucnt xs xs.length : Nat), H1, I2.tok _, ⟨_, by rw [hn]⟩, q1⟩
  have hb : xs.length + 1 < scanBound := by unfold scanBound; omega
  rcases hq with hq | hq
  · obtain ⟨its, r, pl, hz⟩ := I1.list hq
    exact EvS.call_set_list (I1.ok.hd hc) pl.isList (by simpa using strsAre_of r) hb fun h' tk hS hk => fin its r h' tk hS hk
  · obtain ⟨its, r, pl, hz⟩ := I1.tuple hq
    exact EvS.call_set_tuple (I1.ok.hd hc) pl (by simpa using strsAre_of r) hb fun h' tk hS hk => fin its r h' tk hS hk
/-- len(set(t)), texts -/
def eLenSet (f : EF) : EF := fun env m => (f env m).bind fun t m1 => match asSeq m1 t with
  | some ts => match txts ts with
    | some xs => if xs.length ≤ 4000 then .ok (.int (EvS.ucnt xs xs.length : Nat)) m1 else .no
    | none => .no
  | none => .no
theorem se_lenSet {k : Nat} {a : Expr} {f : EF} {p p2 q pos : Pos} (c : Cok X W k) (ha : SE X W a f) (hm : X.mg "len" = none) (hm2 : X.mg "set" = none) (hg : Gl X "len" := by rfl) (hg2 : Gl X "set" := by rfl)
    (na : starEach [a] X.env = (false, eval a X.env) :: starEach [] X.env := by rfl) : SE X W (.Call (.Name "len" p) [.Call (.Name "set" p2) [a] [] q] [] pos) (eLenSet f) := by
  refine ⟨pe_imp (pe_lenS c.calm hg hm hg2 hm2 ha.pe na) fun σ H Q ⟨Φ, Z, ρ, env, m, F, p⟩ => ?_⟩
  refine tr_bind (P := Post X.K W Φ Z ρ σ Q) F (fun x m1 Z1 ρ1 H1 vx _ e1 F1 rx p1 => ?_) (fun _ _ _ _ h => h) (fun h => h) p
  split at p1
  · rename_i ts ht
    split at p1
    · rename_i xs hx
      split at p1
      · rename_i hl
        obtain ⟨l, us, rfl, hq, ru⟩ := asSeq_rep F1.rel rx ht
        rw [strs_eq hx] at ru
        have := reps_strs ru
        subst this
        exact ⟨l, xs, rfl, hq, hl, p1 _ _ _ _ e1 F1.rel rep_int⟩
      · exact p1.elim
    · exact p1.elim
  · exact p1.elim
end
end Ev

namespace Ev
open PySem L2
theorem fn_okE {P : Program} {w : World} {K : PySem.W.Frag} {mg : Str → Option Value} {base : Heap} {x qual : Str} {st : Stmt} {f : Addr} {fd : FuncData} {N ps : List Str} {k : Nat} {g : SF} (Fn : Fun K x qual st f fd) (S : FnScope N ps (defScope st))
    (hbody : ∀ (cdv : Value) (A : Around) (outer : List PySem.Env) (s : Shared) (H : Hp) (E : XK), Cok (cxOf (L2.CX P w) P w K mg base N qual (defScope st) f cdv A outer s H E) (fun cls d _ H => E cls d H) k →
      SSs (cxOf (L2.CX P w) P w K mg base N qual (defScope st) f cdv A outer s H E) (fun cls d _ H => E cls d H) (defBody st) g) : FnOk P w K mg base (L2.CX P w) (k + 1) f fd ps (spF K ps.length (fnOf N.length g)) := by
  refine Fn.okX S (fun vs H Q E ⟨Φ, Z, ρ, m, ts, _, _, hl, _⟩ => hl) (fun cdv A outer s H vs Q E hr ⟨Φ, Z, ρ, m, ts, r, rs, hl, p⟩ => ?_)
  have c : Cok (cxOf (L2.CX P w) P w K mg base N qual (defScope st) f cdv A outer s H E) (fun cls d _ H => E cls d H) k := ⟨takes_of rfl rfl rfl rfl, passes_of rfl, rfl, S.nd, hr⟩
  refine ⟨_, (hbody cdv A outer s H E c).ps, Φ, Z, ρ, _, m, ⟨r, envs_start N rs⟩, ?_⟩
  unfold fnOf at p
  cases e : g (ts.map some ++ List.replicate (N.length - ts.length) none) m with
  | nx env1 m1 => rw [e] at p; exact fun Z1 ρ1 H1 σ1 e1 F1 _ => p Z1 ρ1 H1 .non e1 F1.rel rep_non
  | rt t m1 => rw [e] at p; exact p
  | ex C ns us env1 m1 => rw [e] at p; exact fun Z1 ρ1 H1 σ1 d us e1 F1 rs hl hd => p Z1 ρ1 H1 d us e1 F1.rel rs hl hd
  | bk _ _ => rw [e] at p; exact (show False from p).elim
  | ct _ _ => rw [e] at p; exact (show False from p).elim
  | no => rw [e] at p; exact p
end Ev

/-! The text of the program by places, and what each def of it means on values. -/
namespace G
open PySem L2 Ev
def top (i : Nat) : Stmt := PySem.Challenge.pw_partstold_k06_clauses_that_count.main.body.getD i (.Pass ⟨0, 0, 0, 0⟩)
abbrev s_is_list : Stmt := top 8
abbrev s_is_name : Stmt := top 9
abbrev s_are_names : Stmt := top 10
abbrev s_is_digit : Stmt := top 11
abbrev s_is_condition : Stmt := top 12
abbrev s_is_clause : Stmt := top 13
abbrev s_are_clauses : Stmt := top 14
abbrev s_copied_clause : Stmt := top 17
abbrev s_Kind___init__ : Stmt := inClass (top 16) 0
abbrev s_holds : Stmt := top 18
abbrev s_Kind_counting : Stmt := inClass (top 16) 7
abbrev s_Kind_told : Stmt := inClass (top 16) 6
abbrev s__law_draw : Stmt := top 21
abbrev s__law_order : Stmt := top 23
abbrev s__law_some : Stmt := top 27
abbrev s__law_condition : Stmt := top 28
abbrev s__law_index : Stmt := top 30
abbrev s__law_lists : Stmt := top 32
abbrev s__law_name : Stmt := top 25
abbrev s__law_names : Stmt := top 26
abbrev s__law_pick : Stmt := top 22
abbrev s__law_subset : Stmt := top 24
abbrev s__law_rules : Stmt := top 29
abbrev s__law_source : Stmt := top 20
abbrev s__law_told : Stmt := top 31
abbrev s_law : Stmt := top 33
def B_is_list : SF := (sOf (eIsiT ["list", "tuple"] (eVar 0)) fun t _ m => .rt t m)
def F_is_list : FS := fnOf 1 B_is_list
def B_is_name : SF := (sSeq (sIf (bOr (bNot (bV (eOfL gIsi (lCons (eVar 0) (lCons (eC (.ty "str")) lNil))))) (bNot (bV (eChain gLe gLe (eC (.int 1)) (eOfL gLen (lCons (eVar 0) lNil)) (eC (.int 8)))))) (sOf (eC (.bl false)) fun t _ m => .rt t m) sNil)
    (sOf (eOfL (gAllAny true) (lCons (eComp false [1] (iVal (eVar 0)) (gN 1) bYes (eChain gLe gLe (eC (.str "a")) (eVar 1) (eC (.str "z")))) lNil)) fun t _ m => .rt t m))
def F_is_name : FS := fnOf 2 B_is_name
def B_are_names : SF := (sSeq (sIf (bOr (bNot (bV (eCall 1 F_is_list (lCons (eVar 0) lNil)))) (bNot (bV (eOfL (gAllAny true) (lCons (eComp false [1] (iVal (eVar 0)) (gN 1) bYes (eCall 1 F_is_name (lCons (eVar 1) lNil))) lNil))))) (sOf (eC (.bl false)) fun t _ m => .rt t m) sNil)
    (sOf (e2 gEq (eLenSet (eVar 0)) (eOfL gLen (lCons (eVar 0) lNil))) fun t _ m => .rt t m))
def F_are_names : FS := fnOf 2 B_are_names
def B_is_digit : SF := (sOf (eAnd (eOfL gIsi (lCons (eVar 0) (lCons (eC (.ty "int")) lNil))) (eAnd (eNot (eOfL gIsi (lCons (eVar 0) (lCons (eC (.ty "bool")) lNil)))) (eChain gLe gLe (eC (.int 0)) (eVar 0) (eC (.int 9))))) fun t _ m => .rt t m)
def F_is_digit : FS := fnOf 1 B_is_digit
def B_is_condition : SF := (sSeq (sIf (bOr (bNot (bV (eCall 1 F_is_list (lCons (eVar 0) lNil)))) (bV (e2 gNe (eOfL gLen (lCons (eVar 0) lNil)) (eC (.int 3))))) (sOf (eC (.bl false)) fun t _ m => .rt t m) sNil)
    (sSeq (sAsg (eVar 0) (gTL 3 (gsCons (gN 1) (gsCons (gN 2) (gsCons (gN 3) gsNil)))))
    (sSeq (sIf (bOr (bNot (bV (eCall 1 F_is_digit (lCons (eVar 1) lNil)))) (bNot (bOr (bV (e2 (gIsN false) (eVar 2) (eC .non))) (bV (eCall 1 F_is_digit (lCons (eVar 2) lNil)))))) (sOf (eC (.bl false)) fun t _ m => .rt t m) sNil)
    (sOf (eAnd (eCall 1 F_are_names (lCons (eVar 3) lNil)) (e2 gGt (eOfL gLen (lCons (eVar 3) lNil)) (eC (.int 0)))) fun t _ m => .rt t m))))
def F_is_condition : FS := fnOf 4 B_is_condition
def B_is_clause : SF := (sSeq (sIf (bOr (bNot (bV (eCall 1 F_is_list (lCons (eVar 0) lNil)))) (bV (e2 gNe (eOfL gLen (lCons (eVar 0) lNil)) (eC (.int 2))))) (sOf (eC (.bl false)) fun t _ m => .rt t m) sNil)
    (sSeq (sAsg (eVar 0) (gTL 2 (gsCons (gN 1) (gsCons (gN 2) gsNil))))
    (sSeq (sIf (bOr (bNot (bV (eCall 1 F_is_name (lCons (eVar 1) lNil)))) (bOr (bNot (bV (eCall 1 F_is_list (lCons (eVar 2) lNil)))) (bV (e2 gGt (eOfL gLen (lCons (eVar 2) lNil)) (eC (.int 4)))))) (sOf (eC (.bl false)) fun t _ m => .rt t m) sNil)
    (sOf (eOfL (gAllAny true) (lCons (eComp false [3] (iVal (eVar 2)) (gN 3) bYes (eCall 1 F_is_condition (lCons (eVar 3) lNil))) lNil)) fun t _ m => .rt t m))))
def F_is_clause : FS := fnOf 4 B_is_clause
def B_are_clauses : SF := (sSeq (sIf (bOr (bNot (bV (eCall 1 F_is_list (lCons (eVar 0) lNil)))) (bV (e2 gGt (eOfL gLen (lCons (eVar 0) lNil)) (eC (.int 6))))) (sOf (eC (.bl false)) fun t _ m => .rt t m) sNil)
    (sOf (eOfL (gAllAny true) (lCons (eComp false [1] (iVal (eVar 0)) (gN 1) bYes (eCall 1 F_is_clause (lCons (eVar 1) lNil))) lNil)) fun t _ m => .rt t m))
def F_are_clauses : FS := fnOf 2 B_are_clauses
def B_copied_clause : SF := (sSeq (sAsg (eVar 0) (gTL 2 (gsCons (gN 1) (gsCons (gN 2) gsNil))))
    (sOf (eOfL gTupL (lCons (eVar 1) (lCons (eOfL gTuple (lCons (eComp false [3, 4, 5] (iVal (eVar 2)) (gT 3 (gsCons (gN 3) (gsCons (gN 4) (gsCons (gN 5) gsNil)))) bYes (eOfL gTupL (lCons (eVar 3) (lCons (eVar 4) (lCons (eOfL gTuple (lCons (eOfL (gSorted false) (lCons (eVar 5) lNil)) lNil)) lNil))))) lNil)) lNil))) fun t _ m => .rt t m))
def F_copied_clause : FS := fnOf 6 B_copied_clause
def B_Kind___init__ : SF := (sSeq (sIf (bNot (bV (eCall 1 F_are_names (lCons (eVar 1) lNil)))) sNo sNil)
    (sSeq (sIf (bOr (bNot (bV (eCall 1 F_are_names (lCons (eVar 2) lNil)))) (bV (e2 gEq (e2 (gAdd false) (eOfL gLen (lCons (eVar 1) lNil)) (eOfL gLen (lCons (eVar 2) lNil))) (eC (.int 0))))) sNo sNil)
    (sSeq (sIf (bNot (bV (eCall 1 F_are_clauses (lCons (eVar 3) lNil)))) sNo sNil)
    (sSeq (sIf (bNot (bV (eCall 1 F_is_name (lCons (eVar 4) lNil)))) sNo sNil)
    (sSeq (sFldT "Kind" "hand_states" (eOfL gTuple (lCons (eOfL (gSorted false) (lCons (eVar 1) lNil)) lNil)) (eVar 0))
    (sSeq (sFldT "Kind" "part_kinds" (eOfL gTuple (lCons (eOfL (gSorted false) (lCons (eVar 2) lNil)) lNil)) (eVar 0))
    (sSeq (sFldT "Kind" "clause_row" (eOfL gTuple (lCons (eComp false [5] (iVal (eVar 3)) (gN 5) bYes (eCall 1 F_copied_clause (lCons (eVar 5) lNil))) lNil)) (eVar 0))
    (sFldT "Kind" "last_state" (eVar 4) (eVar 0)))))))))
def F_Kind___init__ : FS := fnOf 6 B_Kind___init__
def B_holds : SF := (sSeq (sAsg (eVar 0) (gTL 3 (gsCons (gN 2) (gsCons (gN 3) (gsCons (gN 4) gsNil)))))
    (sSeq (sOf (eOfL gLen (lCons (eComp false [6] (iVal (eVar 1)) (gN 6) (bV (e2 (gIn false) (eVar 6) (eVar 4))) (eVar 6)) lNil)) fun t env m => .nx (env.set 5 (some t)) m)
    (sOf (eAnd (e2 gLe (eVar 2) (eVar 5)) (eOr (e2 (gIsN false) (eVar 3) (eC .non)) (e2 gLe (eVar 5) (eVar 3)))) fun t _ m => .rt t m)))
def F_holds : FS := fnOf 7 B_holds
def B_Kind_counting : SF := (sSeq (sFor (iEnumA (lCons (eFld "Kind" "clause_row" (eVar 0)) lNil)) (gT 2 (gsCons (gN 2) (gsCons (gT 2 (gsCons (gN 3) (gsCons (gN 4) gsNil))) gsNil))) (sIf (bV (eOfL (gAllAny true) (lCons (eComp false [5] (iVal (eVar 4)) (gN 5) bYes (eCall 2 F_holds (lCons (eVar 5) (lCons (eVar 1) lNil)))) lNil))) (sOf (eVar 2) fun t _ m => .rt t m) sNil))
    (sOf (eOfL gLen (lCons (eFld "Kind" "clause_row" (eVar 0)) lNil)) fun t _ m => .rt t m))
def F_Kind_counting : FS := fnOf 6 B_Kind_counting
def B_Kind_told : SF := (sSeq (sOf (eMethO "Kind" "counting" 2 F_Kind_counting (eVar 0) (lCons (eVar 1) lNil)) fun t env m => .nx (env.set 2 (some t)) m)
    (sSeq (sIf (bV (e2 gEq (eVar 2) (eOfL gLen (lCons (eFld "Kind" "clause_row" (eVar 0)) lNil)))) (sOf (eFld "Kind" "last_state" (eVar 0)) fun t _ m => .rt t m) sNil)
    (sOf (e2 gIx (e2 gIx (eFld "Kind" "clause_row" (eVar 0)) (eVar 2)) (eC (.int 0))) fun t _ m => .rt t m)))
def F_Kind_told : FS := fnOf 3 B_Kind_told
def B__law_draw : SF := (sSeq (sSetIx (e2 (gAdd false) (e2 gIx (eVar 0) (eC (.int 2))) (eC (.int 1))) (eVar 0) (eC (.int 2)))
    (sSeq (sIf (bV (e2 gGt (e2 gIx (eVar 0) (eC (.int 0))) (eC (.int 1)))) (sSeq (sOf (e2 gMod (eOfL gInt (lCons (e2 gIx (eVar 0) (eC (.int 0))) lNil)) (eVar 1)) fun t env m => .nx (env.set 2 (some t)) m)
    (sSeq (sSetIx (e2 gDiv (e2 gIx (eVar 0) (eC (.int 0))) (eVar 1)) (eVar 0) (eC (.int 0)))
    (sOf (eVar 2) fun t _ m => .rt t m))) sNil)
    (sSeq (sOf (e2 gMod (e2 gPow (e2 (gAdd false) (e2 gIx (eVar 0) (eC (.int 1))) (e2 (gMul false) (eC (.int 7919)) (e2 gIx (eVar 0) (eC (.int 2))))) (eC (.int 5))) (eC (.int 2147483629))) fun t env m => .nx (env.set 3 (some t)) m)
    (sOf (e2 gMod (e2 gMod (e2 gPow (e2 (gAdd false) (e2 (gAdd false) (e2 (gMul false) (eVar 3) (eC (.int 48271))) (e2 (gMul false) (e2 (gMul false) (eC (.int 16807)) (e2 gIx (eVar 0) (eC (.int 2)))) (e2 gIx (eVar 0) (eC (.int 2))))) (eC (.int 11))) (eC (.int 3))) (eC (.int 1000000007))) (eVar 1)) fun t _ m => .rt t m))))
def F__law_draw : FS := fnOf 4 B__law_draw
def B__law_order : SF := (sSeq (sOf (eListRange true (eVar 1)) fun t env m => .nx (env.set 2 (some t)) m)
    (sOf (eComp false [3] (iRange (lCons (eVar 1) lNil)) (gN 3) bYes (eMeth "list" gPopAt (eVar 2) (lCons (eCall 2 F__law_draw (lCons (eVar 0) (lCons (eOfL gLen (lCons (eVar 2) lNil)) lNil))) lNil))) fun t _ m => .rt t m))
def F__law_order : FS := fnOf 4 B__law_order
def B__law_some : SF := (sSeq (sOf (eComp false [3] (iVal (eCall 2 F__law_order (lCons (eVar 0) (lCons (eOfL gLen (lCons (eVar 1) lNil)) lNil)))) (gN 3) bYes (e2 gIx (eVar 1) (eVar 3))) fun t env m => .nx (env.set 2 (some t)) m)
    (sOf (eSlice false (eVar 2) oNone (oSome (e2 (gAdd false) (eC (.int 1)) (eCall 2 F__law_draw (lCons (eVar 0) (lCons (eOfL gLen (lCons (eVar 2) lNil)) lNil)))))) fun t _ m => .rt t m))
def F__law_some : FS := fnOf 4 B__law_some
def B__law_condition : SF := (sSeq (sOf (eCall 2 F__law_draw (lCons (eVar 0) (lCons (eC (.int 3)) lNil))) fun t env m => .nx (env.set 2 (some t)) m)
    (sSeq (sOf (eIf (bV (e2 gEq (eCall 2 F__law_draw (lCons (eVar 0) (lCons (eC (.int 2)) lNil))) (eC (.int 0)))) (eC .non) (e2 (gAdd false) (eVar 2) (eCall 2 F__law_draw (lCons (eVar 0) (lCons (eC (.int 2)) lNil))))) fun t env m => .nx (env.set 3 (some t)) m)
    (sSeq (sIf (bV (e2 gEq (eCall 2 F__law_draw (lCons (eVar 0) (lCons (eC (.int 4)) lNil))) (eC (.int 0)))) (sAsg (eOfL gTupL (lCons (eC (.int 0)) (lCons (eC (.int 0)) lNil))) (gT 2 (gsCons (gN 2) (gsCons (gN 3) gsNil)))) sNil)
    (sOf (eOfL gTupL (lCons (eVar 2) (lCons (eVar 3) (lCons (eOfL gTuple (lCons (eCall 2 F__law_some (lCons (eVar 0) (lCons (eVar 1) lNil))) lNil)) lNil)))) fun t _ m => .rt t m))))
def F__law_condition : FS := fnOf 4 B__law_condition
def B__law_index : SF := (sSeq (sFor (iEnumA (lCons (e2 gIx (eVar 0) (eC (.int 2))) lNil)) (gT 2 (gsCons (gN 2) (gsCons (gT 2 (gsCons (gN 3) (gsCons (gN 4) gsNil))) gsNil))) (sSeq (sOf (eOfL (gLstL true) lNil) fun t env m => .nx (env.set 5 (some t)) m)
    (sSeq (sFor (iVal (eVar 4)) (gT 3 (gsCons (gN 6) (gsCons (gN 7) (gsCons (gN 8) gsNil)))) (sSeq (sOf (eOfL gLen (lCons (eComp false [10] (iVal (eVar 1)) (gN 10) (bV (e2 (gIn false) (eVar 10) (eVar 8))) (eVar 10)) lNil)) fun t env m => .nx (env.set 9 (some t)) m)
    (sOf (eMeth "list" gAppend (eVar 5) (lCons (eAnd (e2 gLe (eVar 6) (eVar 9)) (eOr (e2 (gIsN false) (eVar 7) (eC .non)) (e2 gLe (eVar 9) (eVar 7)))) lNil)) fun _ env m => .nx env m)))
    (sIf (bV (eOfL (gAllAny true) (lCons (eVar 5) lNil))) (sOf (eVar 2) fun t _ m => .rt t m) sNil))))
    (sOf (eOfL gLen (lCons (e2 gIx (eVar 0) (eC (.int 2))) lNil)) fun t _ m => .rt t m))
def F__law_index : FS := fnOf 11 B__law_index
def B__law_lists : SF := (sSeq (sPar 2 3 (lCons (eOfL (gLstL false) lNil) (lCons (eOfL (gLstL false) (lCons (eOfL (gLstL false) lNil) lNil)) lNil)))
    (sSeq (sFor (iRange (lCons (eVar 1) lNil)) (gN 4) (sSeq (sOf (eOfL (gLstL true) lNil) fun t env m => .nx (env.set 5 (some t)) m)
    (sSeq (sFor (iVal (eVar 3)) (gN 6) (sOf (eMeth "list" gExtend (eVar 5) (lCons (eComp false [7] (iVal (eVar 0)) (gN 7) (bOr (bV (e2 gEq (eVar 6) (eOfL (gLstL false) lNil))) (bV (e2 gLe (e2 gIx (eVar 6) (eNeg (eC (.int 1)))) (eVar 7)))) (e2 (gAdd false) (eVar 6) (eOfL (gLstL false) (lCons (eVar 7) lNil)))) lNil)) fun _ env m => .nx env m))
    (sFrz 5 (sPar 2 3 (lCons (e2 (gAdd false) (eVar 2) (eVar 5)) (lCons (eVar 5) lNil)))))))
    (sOf (eVar 2) fun t _ m => .rt t m)))
def F__law_lists : FS := fnOf 8 B__law_lists
def B__law_name : SF := (sSeq (sOf (e2 gIx (eOfL (gLstL false) (lCons (eC (.int 8)) (lCons (eC (.int 4)) (lCons (eC (.int 5)) (lCons (eC (.int 6)) (lCons (eC (.int 7)) (lCons (eC (.int 1)) (lCons (eC (.int 2)) (lCons (eC (.int 3)) (lCons (eC (.int 1)) (lCons (eC (.int 2)) (lCons (eC (.int 3)) (lCons (eC (.int 1)) (lCons (eC (.int 2)) lNil)))))))))))))) (eCall 2 F__law_draw (lCons (eVar 0) (lCons (eC (.int 13)) lNil)))) fun t env m => .nx (env.set 2 (some t)) m)
    (sSeq (sOf (eMeth "str" gJoin (eC (.str "")) (lCons (eComp false [4] (iRange (lCons (eVar 2) lNil)) (gN 4) bYes (e2 gIx (eC (.str "abcdefghijklmnopqrstuvwxyz")) (eCall 2 F__law_draw (lCons (eVar 0) (lCons (eC (.int 26)) lNil))))) lNil)) fun t env m => .nx (env.set 3 (some t)) m)
    (sSeq (sIf (bV (eChain gLt gLt (eC (.int 3)) (eVar 2) (eC (.int 8)))) (sOf (e2 gIx (eOfL (gLstL false) (lCons (eC (.str "kind")) (lCons (eC (.str "hand")) (lCons (eC (.str "parts")) (lCons (eC (.str "else")) (lCons (eC (.str "soft")) (lCons (eC (.str "held")) (lCons (e2 (gAdd false) (eC (.str "q")) (eSlice false (eVar 3) (oSome (eC (.int 1))) oNone)) lNil)))))))) (eCall 2 F__law_draw (lCons (eVar 0) (lCons (eC (.int 7)) lNil)))) fun t env m => .nx (env.set 3 (some t)) m) sNil)
    (sSeq (sIf (bV (e2 (gIn true) (eVar 3) (eVar 1))) (sOf (eVar 3) fun t _ m => .rt t m) sNil)
    (sOf (e2 gIx (eComp false [5] (iVal (eComp false [6] (iVal (eC (.str "abcdefghijklmnopqrstuvwxyz"))) (gN 6) bYes (e2 (gAdd false) (eC (.str "z")) (eVar 6)))) (gN 5) (bV (e2 (gIn true) (eVar 5) (eVar 1))) (eVar 5)) (eC (.int 0))) fun t _ m => .rt t m)))))
def F__law_name : FS := fnOf 7 B__law_name
def B__law_names : SF := (sSeq (sOf (eOfL (gLstL true) lNil) fun t env m => .nx (env.set 2 (some t)) m)
    (sSeq (sFor (iRange (lCons (eVar 1) lNil)) (gN 3) (sOf (eMeth "list" gAppend (eVar 2) (lCons (eCall 2 F__law_name (lCons (eVar 0) (lCons (eVar 2) lNil))) lNil)) fun _ env m => .nx env m))
    (sFrz 2 (sOf (eVar 2) fun t _ m => .rt t m))))
def F__law_names : FS := fnOf 4 B__law_names
def B__law_pick : SF := (sOf (e2 gIx (eVar 1) (eCall 2 F__law_draw (lCons (eVar 0) (lCons (eOfL gLen (lCons (eVar 1) lNil)) lNil)))) fun t _ m => .rt t m)
def F__law_pick : FS := fnOf 2 B__law_pick
def B__law_subset : SF := (sOf (eComp false [2] (iVal (eVar 1)) (gN 2) (bV (e2 gEq (eCall 2 F__law_draw (lCons (eVar 0) (lCons (eC (.int 2)) lNil))) (eC (.int 1)))) (eVar 2)) fun t _ m => .rt t m)
def F__law_subset : FS := fnOf 3 B__law_subset
def B__law_rules : SF := (sSeq (sPar 3 4 (lCons (eCall 2 F__law_subset (lCons (eVar 0) (lCons (eVar 1) lNil))) (lCons (eCall 2 F__law_subset (lCons (eVar 0) (lCons (eVar 2) lNil))) lNil)))
    (sSeq (sIf (bAnd (bV (e2 gEq (eVar 3) (eOfL (gLstL false) lNil))) (bOr (bV (e2 gEq (eVar 4) (eOfL (gLstL false) lNil))) (bV (e2 gGt (eCall 2 F__law_draw (lCons (eVar 0) (lCons (eC (.int 3)) lNil))) (eC (.int 0)))))) (sOf (eOfL (gLstL false) (lCons (eCall 2 F__law_pick (lCons (eVar 0) (lCons (eVar 1) lNil))) lNil)) fun t env m => .nx (env.set 3 (some t)) m) sNil)
    (sSeq (sOf (eOfL (gLstL true) lNil) fun t env m => .nx (env.set 5 (some t)) m)
    (sSeq (sFor (iRange (lCons (eCall 2 F__law_draw (lCons (eVar 0) (lCons (eC (.int 4)) lNil))) lNil)) (gN 6) (sSeq (sOf (eComp false [8] (iRange (lCons (eCall 2 F__law_draw (lCons (eVar 0) (lCons (eC (.int 3)) lNil))) lNil)) (gN 8) bYes (eCall 2 F__law_condition (lCons (eVar 0) (lCons (eVar 1) lNil)))) fun t env m => .nx (env.set 7 (some t)) m)
    (sOf (eMeth "list" gAppend (eVar 5) (lCons (eOfL gTupL (lCons (eCall 2 F__law_pick (lCons (eVar 0) (lCons (eVar 1) lNil))) (lCons (eOfL gTuple (lCons (eVar 7) lNil)) lNil))) lNil)) fun _ env m => .nx env m)))
    (sFrz 5 (sOf (eOfL gTupL (lCons (eVar 3) (lCons (eVar 4) (lCons (eVar 5) (lCons (eCall 2 F__law_pick (lCons (eVar 0) (lCons (eVar 1) lNil))) lNil))))) fun t _ m => .rt t m))))))
def F__law_rules : FS := fnOf 9 B__law_rules
def B__law_source : SF := (sSeq (sAsg (eOfL gTupL (lCons (eC (.int 0)) (lCons (eC (.int 17)) lNil))) (gT 2 (gsCons (gN 1) (gsCons (gN 2) gsNil))))
    (sSeq (sFor (iVal (eVar 0)) (gN 3) (sSeq (sIf (bAnd (bV (e2 gEq (eVar 1) (eC (.int 0)))) (bV (e2 gGe (eVar 3) (e2 gPow (eC (.int 10)) (eC (.int 18)))))) (sOf (eVar 3) fun t env m => .nx (env.set 1 (some t)) m) sNil)
    (sOf (e2 gMod (eOfL gInt (lCons (e2 (gAdd false) (e2 (gAdd false) (e2 (gMul false) (eVar 2) (eC (.int 31))) (eVar 3)) (eC (.int 7))) lNil)) (eC (.int 2147483647))) fun t env m => .nx (env.set 2 (some t)) m)))
    (sOf (eOfL (gLstL true) (lCons (eVar 1) (lCons (eVar 2) (lCons (eC (.int 0)) lNil)))) fun t _ m => .rt t m)))
def F__law_source : FS := fnOf 4 B__law_source
def B__law_told : SF := (sSeq (sOf (eCall 2 F__law_index (lCons (eVar 0) (lCons (eVar 1) lNil))) fun t env m => .nx (env.set 2 (some t)) m)
    (sOf (eIf (bV (e2 gEq (eVar 2) (eOfL gLen (lCons (e2 gIx (eVar 0) (eC (.int 2))) lNil)))) (e2 gIx (eVar 0) (eC (.int 3))) (e2 gIx (e2 gIx (e2 gIx (eVar 0) (eC (.int 2))) (eVar 2)) (eC (.int 0)))) fun t _ m => .rt t m))
def F__law_told : FS := fnOf 3 B__law_told
def B_law : SF := (sSeq (sOf (eCall 1 F__law_source (lCons (eVar 0) lNil)) fun t env m => .nx (env.set 1 (some t)) m)
    (sSeq (sOf (eCall 2 F__law_names (lCons (eVar 1) (lCons (e2 (gAdd false) (eC (.int 2)) (eCall 2 F__law_draw (lCons (eVar 1) (lCons (eC (.int 3)) lNil)))) lNil))) fun t env m => .nx (env.set 2 (some t)) m)
    (sSeq (sAsg (eCall 3 F__law_rules (lCons (eVar 1) (lCons (eVar 2) (lCons (eOfL (gLstL false) (lCons (eC (.str "a")) lNil)) lNil)))) (gTL 4 (gsCons (gN 3) (gsCons (gN 4) (gsCons (gN 5) (gsCons (gN 6) gsNil))))))
    (sSeq (sIf (bV (e2 gEq (eCall 2 F__law_draw (lCons (eVar 1) (lCons (eC (.int 2)) lNil))) (eC (.int 0)))) (sSeq (sOf (eComp false [14] (iRange (lCons (e2 (gAdd false) (eC (.int 3)) (eCall 2 F__law_draw (lCons (eVar 1) (lCons (eC (.int 2)) lNil)))) lNil)) (gN 14) bYes (eCall 2 F__law_condition (lCons (eVar 1) (lCons (eVar 2) lNil)))) fun t env m => .nx (env.set 7 (some t)) m)
    (sOf (e2 (gAdd false) (e2 (gAdd false) (eSlice false (eVar 5) oNone (oSome (eC (.int 2)))) (eOfL (gLstL false) (lCons (eOfL gTupL (lCons (eCall 2 F__law_pick (lCons (eVar 1) (lCons (eVar 2) lNil))) (lCons (eOfL gTuple (lCons (eVar 7) lNil)) lNil))) lNil))) (eSlice false (eVar 5) (oSome (eC (.int 2))) oNone)) fun t env m => .nx (env.set 5 (some t)) m)) sNil)
    (sSeq (sIf (bV (e2 gEq (eCall 2 F__law_draw (lCons (eVar 1) (lCons (eC (.int 4)) lNil))) (eC (.int 0)))) (sSeq (sOf (e2 (gAdd false) (eC (.int 4)) (eCall 2 F__law_draw (lCons (eVar 1) (lCons (eC (.int 6)) lNil)))) fun t env m => .nx (env.set 8 (some t)) m)
    (sOf (e2 (gAdd false) (eOfL (gLstL false) (lCons (eOfL gTupL (lCons (eCall 2 F__law_pick (lCons (eVar 1) (lCons (eVar 2) lNil))) (lCons (eOfL gTupL (lCons (eOfL gTupL (lCons (eCall 2 F__law_draw (lCons (eVar 1) (lCons (eC (.int 10)) lNil))) (lCons (eVar 8) (lCons (eOfL gTupL (lCons (e2 gIx (eVar 2) (eC (.int 0))) lNil)) lNil)))) lNil)) lNil))) lNil)) (eVar 5)) fun t env m => .nx (env.set 5 (some t)) m)) sNil)
    (sSeq (sOf (eOfL gTupL (lCons (eVar 3) (lCons (eVar 4) (lCons (eVar 5) (lCons (eVar 6) lNil))))) fun t env m => .nx (env.set 9 (some t)) m)
    (sSeq (sOf (eMake true "Kind" 4 F_Kind___init__ (lCons (e2 gIx (eVar 9) (eC (.int 0))) (lCons (e2 gIx (eVar 9) (eC (.int 1))) (lCons (e2 gIx (eVar 9) (eC (.int 2))) (lCons (e2 gIx (eVar 9) (eC (.int 3))) lNil))))) fun t env m => .nx (env.set 10 (some t)) m)
    (sSeq (sFor (iVal (eCall 2 F__law_lists (lCons (e2 (gAdd false) (eOfL (gSorted false) (lCons (eVar 2) lNil)) (eOfL (gLstL false) (lCons (eC (.str "zzzzzz")) lNil))) (lCons (eC (.int 4)) lNil)))) (gN 11) (sSeq (sOf (eComp false [14] (iVal (eCall 2 F__law_order (lCons (eVar 1) (lCons (eOfL gLen (lCons (eVar 11) lNil)) lNil)))) (gN 14) bYes (e2 gIx (eVar 11) (eVar 14))) fun t env m => .nx (env.set 12 (some t)) m)
    (sIf (bOr (bV (e2 gNe (eMethO "Kind" "counting" 2 F_Kind_counting (eVar 10) (lCons (eVar 12) lNil)) (eCall 2 F__law_index (lCons (eVar 9) (lCons (eVar 11) lNil))))) (bV (e2 gNe (eMethO "Kind" "told" 2 F_Kind_told (eVar 10) (lCons (eOfL gTuple (lCons (eVar 12) lNil)) lNil)) (eCall 2 F__law_told (lCons (eVar 9) (lCons (eVar 11) lNil)))))) (sOf (eC (.bl false)) fun t _ m => .rt t m) sNil)))
    (sSeq (sFor (iRange2 (lCons (eC (.int 3)) (lCons (eC (.int 11)) lNil))) (gN 13) (sSeq (sOf (e2 (gAdd false) (e2 (gMul false) (eOfL (gLstL false) (lCons (e2 gIx (eVar 2) (eC (.int 0))) lNil)) (eVar 13)) (eComp false [14] (iRange (lCons (eCall 2 F__law_draw (lCons (eVar 1) (lCons (eC (.int 3)) lNil))) lNil)) (gN 14) bYes (eCall 2 F__law_pick (lCons (eVar 1) (lCons (eVar 2) lNil))))) fun t env m => .nx (env.set 7 (some t)) m)
    (sIf (bOr (bV (e2 gNe (eMethO "Kind" "told" 2 F_Kind_told (eVar 10) (lCons (eVar 7) lNil)) (eCall 2 F__law_told (lCons (eVar 9) (lCons (eVar 7) lNil))))) (bV (e2 gNe (eMethO "Kind" "counting" 2 F_Kind_counting (eVar 10) (lCons (eVar 7) lNil)) (eCall 2 F__law_index (lCons (eVar 9) (lCons (eVar 7) lNil)))))) (sOf (eC (.bl false)) fun t _ m => .rt t m) sNil)))
    (sSeq (sOf (eComp false [14] (iRange (lCons (eC (.int 40)) lNil)) (gN 14) bYes (eCall 2 F__law_pick (lCons (eVar 1) (lCons (eVar 2) lNil)))) fun t env m => .nx (env.set 7 (some t)) m)
    (sOf (eAnd (e2 gEq (eMethO "Kind" "told" 2 F_Kind_told (eVar 10) (lCons (eVar 7) lNil)) (eCall 2 F__law_told (lCons (eVar 9) (lCons (eVar 7) lNil)))) (e2 gEq (eMethO "Kind" "counting" 2 F_Kind_counting (eVar 10) (lCons (eVar 7) lNil)) (eCall 2 F__law_index (lCons (eVar 9) (lCons (eVar 7) lNil))))) fun t _ m => .rt t m)))))))))))
def F_law : FS := fnOf 15 B_law
structure Txt (K : PySem.W.Frag) (mg : Str → Option Value) : Prop where
  n_all : mg "all" = none
  n_bool : mg "bool" = none
  n_enumerate : mg "enumerate" = none
  n_int : mg "int" = none
  n_isinstance : mg "isinstance" = none
  n_len : mg "len" = none
  n_list : mg "list" = none
  n_range : mg "range" = none
  n_set : mg "set" = none
  n_sorted : mg "sorted" = none
  n_str : mg "str" = none
  n_tuple : mg "tuple" = none
  c_MOST_CLAUSES : GI mg "MOST_CLAUSES" 6
  c_MOST_CONDITIONS : GI mg "MOST_CONDITIONS" 4
  c_MOST_DIGIT : GI mg "MOST_DIGIT" 9
  c_MOST_LETTERS : GI mg "MOST_LETTERS" 8
  k_Kind : ClsT K "Kind"
  a_Kind_clause_row : NoA K "Kind" "clause_row"
  a_Kind_hand_states : NoA K "Kind" "hand_states"
  a_Kind_last_state : NoA K "Kind" "last_state"
  a_Kind_part_kinds : NoA K "Kind" "part_kinds"
section
variable {P : Program} {w : World} {K : PySem.W.Frag} {mg : Str → Option Value} {base : Heap}
abbrev N_is_list : List Str := ["thing"]
theorem sc_is_list : FnScope N_is_list ["thing"] (defScope s_is_list) := ⟨rfl, rfl, rfl, by decide +kernel, rfl, by decide +kernel, by decide +kernel⟩
theorem fn_is_list {f : Addr} {fd : FuncData} (Fn : Fun K "is_list" "is_list" s_is_list f fd) (T : Txt K mg)  : FnOk P w K mg base (L2.CX P w) 1 f fd ["thing"] (spF K 1 F_is_list) :=
  fn_okE Fn sc_is_list (fun cdv A outer s H E c => (show SSs _ _ _ B_is_list from (sss_one (ss_ret (se_isiT (se_var 0) (tys_cons (tys_cons tys_nil T.n_tuple) T.n_list) (by decide) T.n_isinstance)))))
theorem bd_is_list {f : Addr} {fd : FuncData} (Fn : Fun K "is_list" "is_list" s_is_list f fd) : Binds K fd ["thing"] [] := Fn.binds fun _ _ _ _ _ _ us hl => match us, hl with | [_], _ => rfl
abbrev N_is_name : List Str := ["thing", "letter"]
theorem sc_is_name : FnScope N_is_name ["thing"] (defScope s_is_name) := ⟨rfl, rfl, rfl, by decide +kernel, rfl, by decide +kernel, by decide +kernel⟩
theorem fn_is_name {f : Addr} {fd : FuncData} (Fn : Fun K "is_name" "is_name" s_is_name f fd) (T : Txt K mg)  : FnOk P w K mg base (L2.CX P w) 1 f fd ["thing"] (spF K 1 F_is_name) :=
  fn_okE Fn sc_is_name (fun cdv A outer s H E c => (show SSs _ _ _ B_is_name from (sss_cons (ss_if (SW.sb (sw_or (sb_not (sb_val (se_callB call_isi sem_isi T.n_isinstance (sa_cons (se_var 0) (sa_cons (se_ty T.n_str (by decide +kernel)) sa_nil))))) (sw_or1 (sb_not (sb_chain op_leA sem_ord op_leA sem_ord se_int (se_callB call_len3 sem_len T.n_len (sa_cons (se_var 0) sa_nil)) (se_gi T.c_MOST_LETTERS)))))) (sss_one (ss_ret se_bl)) sss_nil)
    (sss_one (ss_ret (se_callB (cr_all c.calm) sem_all T.n_all (sa_cons (se_comp (own := [("letter", 1)]) false c (si_val (se_var 0)) (blkOk_by (N := N_is_name) (sc := defScope s_is_name) (by decide +kernel)) ⟨fun _ _ _ _ _ => (sg_name 1 (c.blk _ _ _ _).nd), (kg_name 1), fun _ _ _ _ _ => sts_nil, fun _ _ _ _ _ => (se_chain op_leA sem_ord op_leA sem_ord se_str (se_var 1) se_str)⟩) sa_nil)))))))
theorem bd_is_name {f : Addr} {fd : FuncData} (Fn : Fun K "is_name" "is_name" s_is_name f fd) : Binds K fd ["thing"] [] := Fn.binds fun _ _ _ _ _ _ us hl => match us, hl with | [_], _ => rfl
abbrev N_are_names : List Str := ["thing", "name"]
theorem sc_are_names : FnScope N_are_names ["thing"] (defScope s_are_names) := ⟨rfl, rfl, rfl, by decide +kernel, rfl, by decide +kernel, by decide +kernel⟩
theorem fn_are_names {f : Addr} {fd : FuncData} (Fn : Fun K "are_names" "are_names" s_are_names f fd) (T : Txt K mg) (D_is_list : DefOk P w K mg base 1 1 "is_list" F_is_list) (D_is_name : DefOk P w K mg base 1 1 "is_name" F_is_name) : FnOk P w K mg base (L2.CX P w) 2 f fd ["thing"] (spF K 1 F_are_names) :=
  fn_okE Fn sc_are_names (fun cdv A outer s H E c => (show SSs _ _ _ B_are_names from (sss_cons (ss_if (SW.sb (sw_or (sb_not (sb_val (se_call c D_is_list (sa_cons (se_var 0) sa_nil)))) (sw_or1 (sb_not (sb_val (se_callB (cr_all c.calm) sem_all T.n_all (sa_cons (se_comp (own := [("name", 1)]) false c (si_val (se_var 0)) (blkOk_by (N := N_are_names) (sc := defScope s_are_names) (by decide +kernel)) ⟨fun _ _ _ _ _ => (sg_name 1 (c.blk _ _ _ _).nd), (kg_name 1), fun _ _ _ _ _ => sts_nil, fun _ _ _ _ _ => (se_call (c.blk _ _ _ _) D_is_name (sa_cons (se_var 1) sa_nil))⟩) sa_nil))))))) (sss_one (ss_ret se_bl)) sss_nil)
    (sss_one (ss_ret (se_cmp (op_eqA c.room.units) sem_eq (se_lenSet c (se_var 0) T.n_len T.n_set) (se_callB call_len3 sem_len T.n_len (sa_cons (se_var 0) sa_nil))))))))
theorem bd_are_names {f : Addr} {fd : FuncData} (Fn : Fun K "are_names" "are_names" s_are_names f fd) : Binds K fd ["thing"] [] := Fn.binds fun _ _ _ _ _ _ us hl => match us, hl with | [_], _ => rfl
abbrev N_is_digit : List Str := ["thing"]
theorem sc_is_digit : FnScope N_is_digit ["thing"] (defScope s_is_digit) := ⟨rfl, rfl, rfl, by decide +kernel, rfl, by decide +kernel, by decide +kernel⟩
theorem fn_is_digit {f : Addr} {fd : FuncData} (Fn : Fun K "is_digit" "is_digit" s_is_digit f fd) (T : Txt K mg)  : FnOk P w K mg base (L2.CX P w) 1 f fd ["thing"] (spF K 1 F_is_digit) :=
  fn_okE Fn sc_is_digit (fun cdv A outer s H E c => (show SSs _ _ _ B_is_digit from (sss_one (ss_ret (se_and (se_callB call_isi sem_isi T.n_isinstance (sa_cons (se_var 0) (sa_cons (se_ty T.n_int (by decide +kernel)) sa_nil))) (se_and (se_not (se_callB call_isi sem_isi T.n_isinstance (sa_cons (se_var 0) (sa_cons (se_ty T.n_bool (by decide +kernel)) sa_nil)))) (se_one (se_chain op_leA sem_ord op_leA sem_ord se_int (se_var 0) (se_gi T.c_MOST_DIGIT)))))))))
theorem bd_is_digit {f : Addr} {fd : FuncData} (Fn : Fun K "is_digit" "is_digit" s_is_digit f fd) : Binds K fd ["thing"] [] := Fn.binds fun _ _ _ _ _ _ us hl => match us, hl with | [_], _ => rfl
abbrev N_is_condition : List Str := ["thing", "least", "most", "states"]
theorem sc_is_condition : FnScope N_is_condition ["thing"] (defScope s_is_condition) := ⟨rfl, rfl, rfl, by decide +kernel, rfl, by decide +kernel, by decide +kernel⟩
theorem fn_is_condition {f : Addr} {fd : FuncData} (Fn : Fun K "is_condition" "is_condition" s_is_condition f fd) (T : Txt K mg) (D_are_names : DefOk P w K mg base 1 2 "are_names" F_are_names) (D_is_digit : DefOk P w K mg base 1 1 "is_digit" F_is_digit) (D_is_list : DefOk P w K mg base 1 1 "is_list" F_is_list) : FnOk P w K mg base (L2.CX P w) 3 f fd ["thing"] (spF K 1 F_is_condition) :=
  fn_okE Fn sc_is_condition (fun cdv A outer s H E c => (show SSs _ _ _ B_is_condition from (sss_cons (ss_if (SW.sb (sw_or (sb_not (sb_val (se_call c D_is_list (sa_cons (se_var 0) sa_nil)))) (sw_or1 (sb_cmp (op_neA c.room.units) sem_ne (se_callB call_len3 sem_len T.n_len (sa_cons (se_var 0) sa_nil)) se_int)))) (sss_one (ss_ret se_bl)) sss_nil)
    (sss_cons (ss_asg (se_var 0) (sg_tupL c.calm (sgs_cons (sg_name 1 c.nd) (sgs_cons (sg_name 2 c.nd) (sgs_cons (sg_name 3 c.nd) sgs_nil)))))
    (sss_cons (ss_if (SW.sb (sw_or (sb_not (sb_val (se_call c D_is_digit (sa_cons (se_var 1) sa_nil)))) (sw_or1 (sb_not (SW.sb (sw_or (sb_cmp op_isN sem_isN (se_var 2) se_non) (sw_or1 (sb_val (se_call c D_is_digit (sa_cons (se_var 2) sa_nil)))))))))) (sss_one (ss_ret se_bl)) sss_nil)
    (sss_one (ss_ret (se_and (se_call c D_are_names (sa_cons (se_var 3) sa_nil)) (se_one (se_cmp op_gtA sem_ord (se_callB call_len3 sem_len T.n_len (sa_cons (se_var 3) sa_nil)) se_int))))))))))
theorem bd_is_condition {f : Addr} {fd : FuncData} (Fn : Fun K "is_condition" "is_condition" s_is_condition f fd) : Binds K fd ["thing"] [] := Fn.binds fun _ _ _ _ _ _ us hl => match us, hl with | [_], _ => rfl
abbrev N_is_clause : List Str := ["thing", "state", "conditions", "condition"]
theorem sc_is_clause : FnScope N_is_clause ["thing"] (defScope s_is_clause) := ⟨rfl, rfl, rfl, by decide +kernel, rfl, by decide +kernel, by decide +kernel⟩
theorem fn_is_clause {f : Addr} {fd : FuncData} (Fn : Fun K "is_clause" "is_clause" s_is_clause f fd) (T : Txt K mg) (D_is_condition : DefOk P w K mg base 1 3 "is_condition" F_is_condition) (D_is_list : DefOk P w K mg base 1 1 "is_list" F_is_list) (D_is_name : DefOk P w K mg base 1 1 "is_name" F_is_name) : FnOk P w K mg base (L2.CX P w) 4 f fd ["thing"] (spF K 1 F_is_clause) :=
  fn_okE Fn sc_is_clause (fun cdv A outer s H E c => (show SSs _ _ _ B_is_clause from (sss_cons (ss_if (SW.sb (sw_or (sb_not (sb_val (se_call c D_is_list (sa_cons (se_var 0) sa_nil)))) (sw_or1 (sb_cmp (op_neA c.room.units) sem_ne (se_callB call_len3 sem_len T.n_len (sa_cons (se_var 0) sa_nil)) se_int)))) (sss_one (ss_ret se_bl)) sss_nil)
    (sss_cons (ss_asg (se_var 0) (sg_tupL c.calm (sgs_cons (sg_name 1 c.nd) (sgs_cons (sg_name 2 c.nd) sgs_nil))))
    (sss_cons (ss_if (SW.sb (sw_or (sb_not (sb_val (se_call c D_is_name (sa_cons (se_var 1) sa_nil)))) (sw_or (sb_not (sb_val (se_call c D_is_list (sa_cons (se_var 2) sa_nil)))) (sw_or1 (sb_cmp op_gtA sem_ord (se_callB call_len3 sem_len T.n_len (sa_cons (se_var 2) sa_nil)) (se_gi T.c_MOST_CONDITIONS)))))) (sss_one (ss_ret se_bl)) sss_nil)
    (sss_one (ss_ret (se_callB (cr_all c.calm) sem_all T.n_all (sa_cons (se_comp (own := [("condition", 3)]) false c (si_val (se_var 2)) (blkOk_by (N := N_is_clause) (sc := defScope s_is_clause) (by decide +kernel)) ⟨fun _ _ _ _ _ => (sg_name 3 (c.blk _ _ _ _).nd), (kg_name 3), fun _ _ _ _ _ => sts_nil, fun _ _ _ _ _ => (se_call (c.blk _ _ _ _) D_is_condition (sa_cons (se_var 3) sa_nil))⟩) sa_nil)))))))))
theorem bd_is_clause {f : Addr} {fd : FuncData} (Fn : Fun K "is_clause" "is_clause" s_is_clause f fd) : Binds K fd ["thing"] [] := Fn.binds fun _ _ _ _ _ _ us hl => match us, hl with | [_], _ => rfl
abbrev N_are_clauses : List Str := ["thing", "clause"]
theorem sc_are_clauses : FnScope N_are_clauses ["thing"] (defScope s_are_clauses) := ⟨rfl, rfl, rfl, by decide +kernel, rfl, by decide +kernel, by decide +kernel⟩
theorem fn_are_clauses {f : Addr} {fd : FuncData} (Fn : Fun K "are_clauses" "are_clauses" s_are_clauses f fd) (T : Txt K mg) (D_is_clause : DefOk P w K mg base 1 4 "is_clause" F_is_clause) (D_is_list : DefOk P w K mg base 1 1 "is_list" F_is_list) : FnOk P w K mg base (L2.CX P w) 5 f fd ["thing"] (spF K 1 F_are_clauses) :=
  fn_okE Fn sc_are_clauses (fun cdv A outer s H E c => (show SSs _ _ _ B_are_clauses from (sss_cons (ss_if (SW.sb (sw_or (sb_not (sb_val (se_call c D_is_list (sa_cons (se_var 0) sa_nil)))) (sw_or1 (sb_cmp op_gtA sem_ord (se_callB call_len3 sem_len T.n_len (sa_cons (se_var 0) sa_nil)) (se_gi T.c_MOST_CLAUSES))))) (sss_one (ss_ret se_bl)) sss_nil)
    (sss_one (ss_ret (se_callB (cr_all c.calm) sem_all T.n_all (sa_cons (se_comp (own := [("clause", 1)]) false c (si_val (se_var 0)) (blkOk_by (N := N_are_clauses) (sc := defScope s_are_clauses) (by decide +kernel)) ⟨fun _ _ _ _ _ => (sg_name 1 (c.blk _ _ _ _).nd), (kg_name 1), fun _ _ _ _ _ => sts_nil, fun _ _ _ _ _ => (se_call (c.blk _ _ _ _) D_is_clause (sa_cons (se_var 1) sa_nil))⟩) sa_nil)))))))
theorem bd_are_clauses {f : Addr} {fd : FuncData} (Fn : Fun K "are_clauses" "are_clauses" s_are_clauses f fd) : Binds K fd ["thing"] [] := Fn.binds fun _ _ _ _ _ _ us hl => match us, hl with | [_], _ => rfl
abbrev N_copied_clause : List Str := ["clause", "state", "conditions", "least", "most", "names"]
theorem sc_copied_clause : FnScope N_copied_clause ["clause"] (defScope s_copied_clause) := ⟨rfl, rfl, rfl, by decide +kernel, rfl, by decide +kernel, by decide +kernel⟩
theorem fn_copied_clause {f : Addr} {fd : FuncData} (Fn : Fun K "copied_clause" "copied_clause" s_copied_clause f fd) (T : Txt K mg)  : FnOk P w K mg base (L2.CX P w) 1 f fd ["clause"] (spF K 1 F_copied_clause) :=
  fn_okE Fn sc_copied_clause (fun cdv A outer s H E c => (show SSs _ _ _ B_copied_clause from (sss_cons (ss_asg (se_var 0) (sg_tupL c.calm (sgs_cons (sg_name 1 c.nd) (sgs_cons (sg_name 2 c.nd) sgs_nil))))
    (sss_one (ss_ret (se_tup (sa_cons (se_var 1) (sa_cons (se_callTy call_tuple_of sem_tuple T.n_tuple (sa_cons (se_comp (own := [("least", 3), ("most", 4), ("names", 5)]) false c (si_val (se_var 2)) (blkOk_by (N := N_copied_clause) (sc := defScope s_copied_clause) (by decide +kernel)) ⟨fun _ _ _ _ _ => (sg_tup (c.blk _ _ _ _).calm (sgs_cons (sg_name 3 (c.blk _ _ _ _).nd) (sgs_cons (sg_name 4 (c.blk _ _ _ _).nd) (sgs_cons (sg_name 5 (c.blk _ _ _ _).nd) sgs_nil)))), (kg_tup (kgs_cons (kg_name 3) (kgs_cons (kg_name 4) (kgs_cons (kg_name 5) kgs_nil)))), fun _ _ _ _ _ => sts_nil, fun _ _ _ _ _ => (se_tup (sa_cons (se_var 3) (sa_cons (se_var 4) (sa_cons (se_callTy call_tuple_of sem_tuple T.n_tuple (sa_cons (se_callB cr_sortA sem_sorted T.n_sorted (sa_cons (se_var 5) sa_nil)) sa_nil)) sa_nil))))⟩) sa_nil)) sa_nil))))))))
theorem bd_copied_clause {f : Addr} {fd : FuncData} (Fn : Fun K "copied_clause" "copied_clause" s_copied_clause f fd) : Binds K fd ["clause"] [] := Fn.binds fun _ _ _ _ _ _ us hl => match us, hl with | [_], _ => rfl
abbrev N_Kind___init__ : List Str := ["self", "hand", "parts", "clauses", "last", "clause"]
theorem sc_Kind___init__ : FnScope N_Kind___init__ ["self", "hand", "parts", "clauses", "last"] (defScope s_Kind___init__) := ⟨rfl, rfl, rfl, by decide +kernel, rfl, by decide +kernel, by decide +kernel⟩
theorem fn_Kind___init__ {f : Addr} {fd : FuncData} (Fn : Fun K "__init__" "Kind.__init__" s_Kind___init__ f fd) (T : Txt K mg) (D_are_clauses : DefOk P w K mg base 1 5 "are_clauses" F_are_clauses) (D_are_names : DefOk P w K mg base 1 2 "are_names" F_are_names) (D_copied_clause : DefOk P w K mg base 1 1 "copied_clause" F_copied_clause) (D_is_name : DefOk P w K mg base 1 1 "is_name" F_is_name) : FnOk P w K mg base (L2.CX P w) 6 f fd ["self", "hand", "parts", "clauses", "last"] (spF K 5 F_Kind___init__) :=
  fn_okE Fn sc_Kind___init__ (fun cdv A outer s H E c => (show SSs _ _ _ B_Kind___init__ from (sss_cons (ss_if (sb_not (sb_val (se_call c D_are_names (sa_cons (se_var 1) sa_nil)))) (sss_one ss_no) sss_nil)
    (sss_cons (ss_if (SW.sb (sw_or (sb_not (sb_val (se_call c D_are_names (sa_cons (se_var 2) sa_nil)))) (sw_or1 (sb_cmp (op_eqA c.room.units) sem_eq (se_op op_addA sem_add (se_callB call_len3 sem_len T.n_len (sa_cons (se_var 1) sa_nil)) (se_callB call_len3 sem_len T.n_len (sa_cons (se_var 2) sa_nil))) se_int)))) (sss_one ss_no) sss_nil)
    (sss_cons (ss_if (sb_not (sb_val (se_call c D_are_clauses (sa_cons (se_var 3) sa_nil)))) (sss_one ss_no) sss_nil)
    (sss_cons (ss_if (sb_not (sb_val (se_call c D_is_name (sa_cons (se_var 4) sa_nil)))) (sss_one ss_no) sss_nil)
    (sss_cons (ss_fld T.k_Kind T.a_Kind_hand_states (se_callTy call_tuple_of sem_tuple T.n_tuple (sa_cons (se_callB cr_sortA sem_sorted T.n_sorted (sa_cons (se_var 1) sa_nil)) sa_nil)) (se_var 0))
    (sss_cons (ss_fld T.k_Kind T.a_Kind_part_kinds (se_callTy call_tuple_of sem_tuple T.n_tuple (sa_cons (se_callB cr_sortA sem_sorted T.n_sorted (sa_cons (se_var 2) sa_nil)) sa_nil)) (se_var 0))
    (sss_cons (ss_fld T.k_Kind T.a_Kind_clause_row (se_callTy call_tuple_of sem_tuple T.n_tuple (sa_cons (se_comp (own := [("clause", 5)]) false c (si_val (se_var 3)) (blkOk_by (N := N_Kind___init__) (sc := defScope s_Kind___init__) (by decide +kernel)) ⟨fun _ _ _ _ _ => (sg_name 5 (c.blk _ _ _ _).nd), (kg_name 5), fun _ _ _ _ _ => sts_nil, fun _ _ _ _ _ => (se_call (c.blk _ _ _ _) D_copied_clause (sa_cons (se_var 5) sa_nil))⟩) sa_nil)) (se_var 0))
    (sss_one (ss_fld T.k_Kind T.a_Kind_last_state (se_var 4) (se_var 0))))))))))))
theorem bd_Kind___init__ {f : Addr} {fd : FuncData} (Fn : Fun K "__init__" "Kind.__init__" s_Kind___init__ f fd) : Binds K fd ["self", "hand", "parts", "clauses", "last"] [] := Fn.binds fun _ _ _ _ _ _ us hl => match us, hl with | [_, _, _, _, _], _ => rfl
abbrev N_holds : List Str := ["condition", "states", "least", "most", "wanted", "many", "state"]
theorem sc_holds : FnScope N_holds ["condition", "states"] (defScope s_holds) := ⟨rfl, rfl, rfl, by decide +kernel, rfl, by decide +kernel, by decide +kernel⟩
theorem fn_holds {f : Addr} {fd : FuncData} (Fn : Fun K "holds" "holds" s_holds f fd) (T : Txt K mg)  : FnOk P w K mg base (L2.CX P w) 1 f fd ["condition", "states"] (spF K 2 F_holds) :=
  fn_okE Fn sc_holds (fun cdv A outer s H E c => (show SSs _ _ _ B_holds from (sss_cons (ss_asg (se_var 0) (sg_tupL c.calm (sgs_cons (sg_name 2 c.nd) (sgs_cons (sg_name 3 c.nd) (sgs_cons (sg_name 4 c.nd) sgs_nil)))))
    (sss_cons (ss_set 5 c (se_callB call_len3 sem_len T.n_len (sa_cons (se_comp (own := [("state", 6)]) false c (si_val (se_var 1)) (blkOk_by (N := N_holds) (sc := defScope s_holds) (by decide +kernel)) ⟨fun _ _ _ _ _ => (sg_name 6 (c.blk _ _ _ _).nd), (kg_name 6), fun _ _ _ _ _ => (sts_one (sb_cmp op_in_seq sem_in (se_var 6) (se_var 4))), fun _ _ _ _ _ => (se_var 6)⟩) sa_nil)))
    (sss_one (ss_ret (se_and (se_cmp op_leA sem_ord (se_var 2) (se_var 5)) (se_one (se_or (se_cmp op_isN sem_isN (se_var 3) se_non) (se_one (se_cmp op_leA sem_ord (se_var 5) (se_var 3))))))))))))
theorem bd_holds {f : Addr} {fd : FuncData} (Fn : Fun K "holds" "holds" s_holds f fd) : Binds K fd ["condition", "states"] [] := Fn.binds fun _ _ _ _ _ _ us hl => match us, hl with | [_, _], _ => rfl
abbrev N_Kind_counting : List Str := ["self", "states", "index", "state", "conditions", "condition"]
theorem sc_Kind_counting : FnScope N_Kind_counting ["self", "states"] (defScope s_Kind_counting) := ⟨rfl, rfl, rfl, by decide +kernel, rfl, by decide +kernel, by decide +kernel⟩
theorem fn_Kind_counting {f : Addr} {fd : FuncData} (Fn : Fun K "counting" "Kind.counting" s_Kind_counting f fd) (T : Txt K mg) (D_holds : DefOk P w K mg base 2 1 "holds" F_holds) : FnOk P w K mg base (L2.CX P w) 2 f fd ["self", "states"] (spF K 2 F_Kind_counting) :=
  fn_okE Fn sc_Kind_counting (fun cdv A outer s H E c => (show SSs _ _ _ B_Kind_counting from (sss_cons (ss_for c (si_enum (sa_cons (se_fld T.k_Kind T.a_Kind_clause_row (se_var 0)) sa_nil) T.n_enumerate) (sg_tup c.calm (sgs_cons (sg_name 2 c.nd) (sgs_cons (sg_tup c.calm (sgs_cons (sg_name 3 c.nd) (sgs_cons (sg_name 4 c.nd) sgs_nil))) sgs_nil))) (sss_one (ss_if (sb_val (se_callB (cr_all c.calm) sem_all T.n_all (sa_cons (se_comp (own := [("condition", 5)]) false c (si_val (se_var 4)) (blkOk_by (N := N_Kind_counting) (sc := defScope s_Kind_counting) (by decide +kernel)) ⟨fun _ _ _ _ _ => (sg_name 5 (c.blk _ _ _ _).nd), (kg_name 5), fun _ _ _ _ _ => sts_nil, fun _ _ _ _ _ => (se_call (c.blk _ _ _ _) D_holds (sa_cons (se_var 5) (sa_cons (se_var 1) sa_nil)))⟩) sa_nil))) (sss_one (ss_ret (se_var 2))) sss_nil)))
    (sss_one (ss_ret (se_callB call_len3 sem_len T.n_len (sa_cons (se_fld T.k_Kind T.a_Kind_clause_row (se_var 0)) sa_nil)))))))
theorem bd_Kind_counting {f : Addr} {fd : FuncData} (Fn : Fun K "counting" "Kind.counting" s_Kind_counting f fd) : Binds K fd ["self", "states"] [] := Fn.binds fun _ _ _ _ _ _ us hl => match us, hl with | [_, _], _ => rfl
abbrev N_Kind_told : List Str := ["self", "states", "index"]
theorem sc_Kind_told : FnScope N_Kind_told ["self", "states"] (defScope s_Kind_told) := ⟨rfl, rfl, rfl, by decide +kernel, rfl, by decide +kernel, by decide +kernel⟩
theorem fn_Kind_told {f : Addr} {fd : FuncData} (Fn : Fun K "told" "Kind.told" s_Kind_told f fd) (T : Txt K mg) (D_Kind_counting : MethOk P w K mg base 2 2 "Kind" "counting" F_Kind_counting) : FnOk P w K mg base (L2.CX P w) 3 f fd ["self", "states"] (spF K 2 F_Kind_told) :=
  fn_okE Fn sc_Kind_told (fun cdv A outer s H E c => (show SSs _ _ _ B_Kind_told from (sss_cons (ss_set 2 c (se_methO c D_Kind_counting (se_var 0) (sa_cons (se_var 1) sa_nil)))
    (sss_cons (ss_if (sb_cmp (op_eqA c.room.units) sem_eq (se_var 2) (se_callB call_len3 sem_len T.n_len (sa_cons (se_fld T.k_Kind T.a_Kind_clause_row (se_var 0)) sa_nil))) (sss_one (ss_ret (se_fld T.k_Kind T.a_Kind_last_state (se_var 0)))) sss_nil)
    (sss_one (ss_ret (se_ix ix_all sem_ix (se_ix ix_all sem_ix (se_fld T.k_Kind T.a_Kind_clause_row (se_var 0)) (se_var 2)) se_int)))))))
theorem bd_Kind_told {f : Addr} {fd : FuncData} (Fn : Fun K "told" "Kind.told" s_Kind_told f fd) : Binds K fd ["self", "states"] [] := Fn.binds fun _ _ _ _ _ _ us hl => match us, hl with | [_, _], _ => rfl
abbrev N__law_draw : List Str := ["_law_source_here", "_law_many", "_law_digit", "_law_mixed"]
theorem sc__law_draw : FnScope N__law_draw ["_law_source_here", "_law_many"] (defScope s__law_draw) := ⟨rfl, rfl, rfl, by decide +kernel, rfl, by decide +kernel, by decide +kernel⟩
theorem fn__law_draw {f : Addr} {fd : FuncData} (Fn : Fun K "_law_draw" "_law_draw" s__law_draw f fd) (T : Txt K mg)  : FnOk P w K mg base (L2.CX P w) 1 f fd ["_law_source_here", "_law_many"] (spF K 2 F__law_draw) :=
  fn_okE Fn sc__law_draw (fun cdv A outer s H E c => (show SSs _ _ _ B__law_draw from (sss_cons (ss_setIx (se_op op_addA sem_add (se_ix ix_all sem_ix (se_var 0) se_int) se_int) (se_var 0) se_int)
    (sss_cons (ss_if (sb_cmp op_gtA sem_ord (se_ix ix_all sem_ix (se_var 0) se_int) se_int) (sss_cons (ss_set 2 c (se_op op_mod sem_mod (se_callTy call_int1 sem_int T.n_int (sa_cons (se_ix ix_all sem_ix (se_var 0) se_int) sa_nil)) (se_var 1)))
    (sss_cons (ss_setIx (se_op op_fdiv sem_div (se_ix ix_all sem_ix (se_var 0) se_int) (se_var 1)) (se_var 0) se_int)
    (sss_one (ss_ret (se_var 2))))) sss_nil)
    (sss_cons (ss_set 3 c (se_op op_mod sem_mod (se_op op_pow sem_pow (se_op op_addA sem_add (se_ix ix_all sem_ix (se_var 0) se_int) (se_op op_mulA sem_mul se_int (se_ix ix_all sem_ix (se_var 0) se_int))) se_int) se_int))
    (sss_one (ss_ret (se_op op_mod sem_mod (se_op op_mod sem_mod (se_op op_pow sem_pow (se_op op_addA sem_add (se_op op_addA sem_add (se_op op_mulA sem_mul (se_var 3) se_int) (se_op op_mulA sem_mul (se_op op_mulA sem_mul se_int (se_ix ix_all sem_ix (se_var 0) se_int)) (se_ix ix_all sem_ix (se_var 0) se_int))) se_int) se_int) se_int) (se_var 1)))))))))
theorem bd__law_draw {f : Addr} {fd : FuncData} (Fn : Fun K "_law_draw" "_law_draw" s__law_draw f fd) : Binds K fd ["_law_source_here", "_law_many"] [] := Fn.binds fun _ _ _ _ _ _ us hl => match us, hl with | [_, _], _ => rfl
abbrev N__law_order : List Str := ["_law_source_here", "_law_many", "_law_left", "_law_k"]
theorem sc__law_order : FnScope N__law_order ["_law_source_here", "_law_many"] (defScope s__law_order) := ⟨rfl, rfl, rfl, by decide +kernel, rfl, by decide +kernel, by decide +kernel⟩
theorem fn__law_order {f : Addr} {fd : FuncData} (Fn : Fun K "_law_order" "_law_order" s__law_order f fd) (T : Txt K mg) (D__law_draw : DefOk P w K mg base 2 1 "_law_draw" F__law_draw) : FnOk P w K mg base (L2.CX P w) 2 f fd ["_law_source_here", "_law_many"] (spF K 2 F__law_order) :=
  fn_okE Fn sc__law_order (fun cdv A outer s H E c => (show SSs _ _ _ B__law_order from (sss_cons (ss_set 2 c (se_listRange true c (se_var 1) T.n_list T.n_range))
    (sss_one (ss_ret (se_comp (own := [("_law_k", 3)]) false c (si_range1 (sa_cons (se_var 1) sa_nil) T.n_range) (blkOk_by (N := N__law_order) (sc := defScope s__law_order) (by decide +kernel)) ⟨fun _ _ _ _ _ => (sg_name 3 (c.blk _ _ _ _).nd), (kg_name 3), fun _ _ _ _ _ => sts_nil, fun _ _ _ _ _ => (se_meth PySem.F.plainAttrs_list PySem.F.slot_list_pop PySem.F.type_list_pop mt_popAt sem_popAt (se_var 2) (sa_cons (se_call (c.blk _ _ _ _) D__law_draw (sa_cons (se_var 0) (sa_cons (se_callB call_len3 sem_len T.n_len (sa_cons (se_var 2) sa_nil)) sa_nil))) sa_nil))⟩))))))
theorem bd__law_order {f : Addr} {fd : FuncData} (Fn : Fun K "_law_order" "_law_order" s__law_order f fd) : Binds K fd ["_law_source_here", "_law_many"] [] := Fn.binds fun _ _ _ _ _ _ us hl => match us, hl with | [_, _], _ => rfl
abbrev N__law_some : List Str := ["_law_source_here", "_law_things", "_law_found", "_law_k"]
theorem sc__law_some : FnScope N__law_some ["_law_source_here", "_law_things"] (defScope s__law_some) := ⟨rfl, rfl, rfl, by decide +kernel, rfl, by decide +kernel, by decide +kernel⟩
theorem fn__law_some {f : Addr} {fd : FuncData} (Fn : Fun K "_law_some" "_law_some" s__law_some f fd) (T : Txt K mg) (D__law_draw : DefOk P w K mg base 2 1 "_law_draw" F__law_draw) (D__law_order : DefOk P w K mg base 2 2 "_law_order" F__law_order) : FnOk P w K mg base (L2.CX P w) 3 f fd ["_law_source_here", "_law_things"] (spF K 2 F__law_some) :=
  fn_okE Fn sc__law_some (fun cdv A outer s H E c => (show SSs _ _ _ B__law_some from (sss_cons (ss_setComp (own := [("_law_k", 3)]) false 2 c (si_val (se_call c D__law_order (sa_cons (se_var 0) (sa_cons (se_callB call_len3 sem_len T.n_len (sa_cons (se_var 1) sa_nil)) sa_nil)))) (blkOk_by (N := N__law_some) (sc := defScope s__law_some) (by decide +kernel)) ⟨fun _ _ _ _ _ => (sg_name 3 (c.blk _ _ _ _).nd), (kg_name 3), fun _ _ _ _ _ => sts_nil, fun _ _ _ _ _ => (se_ix ix_all sem_ix (se_var 1) (se_var 3))⟩)
    (sss_one (ss_ret (se_slice false (se_var 2) so_none (so_some (se_op op_addA sem_add se_int (se_call c D__law_draw (sa_cons (se_var 0) (sa_cons (se_callB call_len3 sem_len T.n_len (sa_cons (se_var 2) sa_nil)) sa_nil)))))))))))
theorem bd__law_some {f : Addr} {fd : FuncData} (Fn : Fun K "_law_some" "_law_some" s__law_some f fd) : Binds K fd ["_law_source_here", "_law_things"] [] := Fn.binds fun _ _ _ _ _ _ us hl => match us, hl with | [_, _], _ => rfl
abbrev N__law_condition : List Str := ["_law_source_here", "_law_states", "_law_low", "_law_most"]
theorem sc__law_condition : FnScope N__law_condition ["_law_source_here", "_law_states"] (defScope s__law_condition) := ⟨rfl, rfl, rfl, by decide +kernel, rfl, by decide +kernel, by decide +kernel⟩
theorem fn__law_condition {f : Addr} {fd : FuncData} (Fn : Fun K "_law_condition" "_law_condition" s__law_condition f fd) (T : Txt K mg) (D__law_draw : DefOk P w K mg base 2 1 "_law_draw" F__law_draw) (D__law_some : DefOk P w K mg base 2 3 "_law_some" F__law_some) : FnOk P w K mg base (L2.CX P w) 4 f fd ["_law_source_here", "_law_states"] (spF K 2 F__law_condition) :=
  fn_okE Fn sc__law_condition (fun cdv A outer s H E c => (show SSs _ _ _ B__law_condition from (sss_cons (ss_set 2 c (se_call c D__law_draw (sa_cons (se_var 0) (sa_cons se_int sa_nil))))
    (sss_cons (ss_set 3 c (se_if (sb_cmp (op_eqA c.room.units) sem_eq (se_call c D__law_draw (sa_cons (se_var 0) (sa_cons se_int sa_nil))) se_int) se_non (se_op op_addA sem_add (se_var 2) (se_call c D__law_draw (sa_cons (se_var 0) (sa_cons se_int sa_nil))))))
    (sss_cons (ss_if (sb_cmp (op_eqA c.room.units) sem_eq (se_call c D__law_draw (sa_cons (se_var 0) (sa_cons se_int sa_nil))) se_int) (sss_one (ss_asg (se_tup (sa_cons se_int (sa_cons se_int sa_nil))) (sg_tup c.calm (sgs_cons (sg_name 2 c.nd) (sgs_cons (sg_name 3 c.nd) sgs_nil))))) sss_nil)
    (sss_one (ss_ret (se_tup (sa_cons (se_var 2) (sa_cons (se_var 3) (sa_cons (se_callTy call_tuple_of sem_tuple T.n_tuple (sa_cons (se_call c D__law_some (sa_cons (se_var 0) (sa_cons (se_var 1) sa_nil))) sa_nil)) sa_nil)))))))))))
theorem bd__law_condition {f : Addr} {fd : FuncData} (Fn : Fun K "_law_condition" "_law_condition" s__law_condition f fd) : Binds K fd ["_law_source_here", "_law_states"] [] := Fn.binds fun _ _ _ _ _ _ us hl => match us, hl with | [_, _], _ => rfl
abbrev N__law_index : List Str := ["_law_rules_here", "_law_states", "_law_index_here", "_law_result", "_law_conditions", "_law_fits", "_law_low", "_law_most", "_law_some_here", "_law_number", "_law_state"]
theorem sc__law_index : FnScope N__law_index ["_law_rules_here", "_law_states"] (defScope s__law_index) := ⟨rfl, rfl, rfl, by decide +kernel, rfl, by decide +kernel, by decide +kernel⟩
theorem fn__law_index {f : Addr} {fd : FuncData} (Fn : Fun K "_law_index" "_law_index" s__law_index f fd) (T : Txt K mg)  : FnOk P w K mg base (L2.CX P w) 1 f fd ["_law_rules_here", "_law_states"] (spF K 2 F__law_index) :=
  fn_okE Fn sc__law_index (fun cdv A outer s H E c => (show SSs _ _ _ B__law_index from (sss_cons (ss_for c (si_enum (sa_cons (se_ix ix_all sem_ix (se_var 0) se_int) sa_nil) T.n_enumerate) (sg_tup c.calm (sgs_cons (sg_name 2 c.nd) (sgs_cons (sg_tup c.calm (sgs_cons (sg_name 3 c.nd) (sgs_cons (sg_name 4 c.nd) sgs_nil))) sgs_nil))) (sss_cons (ss_set 5 c (se_lst true sa_nil))
    (sss_cons (ss_for c (si_val (se_var 4)) (sg_tup c.calm (sgs_cons (sg_name 6 c.nd) (sgs_cons (sg_name 7 c.nd) (sgs_cons (sg_name 8 c.nd) sgs_nil)))) (sss_cons (ss_set 9 c (se_callB call_len3 sem_len T.n_len (sa_cons (se_comp (own := [("_law_state", 10)]) false c (si_val (se_var 1)) (blkOk_by (N := N__law_index) (sc := defScope s__law_index) (by decide +kernel)) ⟨fun _ _ _ _ _ => (sg_name 10 (c.blk _ _ _ _).nd), (kg_name 10), fun _ _ _ _ _ => (sts_one (sb_cmp op_in_seq sem_in (se_var 10) (se_var 8))), fun _ _ _ _ _ => (se_var 10)⟩) sa_nil)))
    (sss_one (ss_expr (se_meth PySem.F.plainAttrs_list PySem.F.slot_list_append PySem.F.type_list_append mt_append sem_append (se_var 5) (sa_cons (se_and (se_cmp op_leA sem_ord (se_var 6) (se_var 9)) (se_one (se_or (se_cmp op_isN sem_isN (se_var 7) se_non) (se_one (se_cmp op_leA sem_ord (se_var 9) (se_var 7)))))) sa_nil))))))
    (sss_one (ss_if (sb_val (se_callB (cr_all c.calm) sem_all T.n_all (sa_cons (se_var 5) sa_nil))) (sss_one (ss_ret (se_var 2))) sss_nil)))))
    (sss_one (ss_ret (se_callB call_len3 sem_len T.n_len (sa_cons (se_ix ix_all sem_ix (se_var 0) se_int) sa_nil)))))))
theorem bd__law_index {f : Addr} {fd : FuncData} (Fn : Fun K "_law_index" "_law_index" s__law_index f fd) : Binds K fd ["_law_rules_here", "_law_states"] [] := Fn.binds fun _ _ _ _ _ _ us hl => match us, hl with | [_, _], _ => rfl
abbrev N__law_lists : List Str := ["_law_states", "_law_most", "_law_found", "_law_level", "_law_k", "_law_longer", "_law_row", "_law_state"]
theorem sc__law_lists : FnScope N__law_lists ["_law_states", "_law_most"] (defScope s__law_lists) := ⟨rfl, rfl, rfl, by decide +kernel, rfl, by decide +kernel, by decide +kernel⟩
theorem fn__law_lists {f : Addr} {fd : FuncData} (Fn : Fun K "_law_lists" "_law_lists" s__law_lists f fd) (T : Txt K mg)  : FnOk P w K mg base (L2.CX P w) 1 f fd ["_law_states", "_law_most"] (spF K 2 F__law_lists) :=
  fn_okE Fn sc__law_lists (fun cdv A outer s H E c => (show SSs _ _ _ B__law_lists from (sss_cons (ss_par 2 3 c (sa_cons (se_lst false sa_nil) (sa_cons (se_lst false (sa_cons (se_lst false sa_nil) sa_nil)) sa_nil)))
    (sss_cons (ss_for c (si_range1 (sa_cons (se_var 1) sa_nil) T.n_range) (sg_name 4 c.nd) (sss_cons (ss_set 5 c (se_lst true sa_nil))
    (sss_cons (ss_for c (si_val (se_var 3)) (sg_name 6 c.nd) (sss_one (ss_expr (se_meth PySem.F.plainAttrs_list PySem.F.slot_list_extend PySem.F.type_list_extend mt_extend sem_extend (se_var 5) (sa_cons (se_comp (own := [("_law_state", 7)]) false c (si_val (se_var 0)) (blkOk_by (N := N__law_lists) (sc := defScope s__law_lists) (by decide +kernel)) ⟨fun _ _ _ _ _ => (sg_name 7 (c.blk _ _ _ _).nd), (kg_name 7), fun _ _ _ _ _ => (sts_one (SW.sb (sw_or (sb_cmp (op_eqA (c.blk _ _ _ _).room.units) sem_eq (se_var 6) (se_lst false sa_nil)) (sw_or1 (sb_cmp op_leA sem_ord (se_ix ix_all sem_ix (se_var 6) (se_neg se_int)) (se_var 7)))))), fun _ _ _ _ _ => (se_op op_addA sem_add (se_var 6) (se_lst false (sa_cons (se_var 7) sa_nil)))⟩) sa_nil)))))
    (sss_one (ss_frz 5 (ss_par 2 3 c (sa_cons (se_op op_addA sem_add (se_var 2) (se_var 5)) (sa_cons (se_var 5) sa_nil))))))))
    (sss_one (ss_ret (se_var 2)))))))
theorem bd__law_lists {f : Addr} {fd : FuncData} (Fn : Fun K "_law_lists" "_law_lists" s__law_lists f fd) : Binds K fd ["_law_states", "_law_most"] [] := Fn.binds fun _ _ _ _ _ _ us hl => match us, hl with | [_, _], _ => rfl
abbrev N__law_name : List Str := ["_law_source_here", "_law_taken", "_law_heft", "_law_name_here", "_law_k", "_law_one", "_law_sign"]
theorem sc__law_name : FnScope N__law_name ["_law_source_here", "_law_taken"] (defScope s__law_name) := ⟨rfl, rfl, rfl, by decide +kernel, rfl, by decide +kernel, by decide +kernel⟩
theorem fn__law_name {f : Addr} {fd : FuncData} (Fn : Fun K "_law_name" "_law_name" s__law_name f fd) (T : Txt K mg) (D__law_draw : DefOk P w K mg base 2 1 "_law_draw" F__law_draw) : FnOk P w K mg base (L2.CX P w) 2 f fd ["_law_source_here", "_law_taken"] (spF K 2 F__law_name) :=
  fn_okE Fn sc__law_name (fun cdv A outer s H E c => (show SSs _ _ _ B__law_name from (sss_cons (ss_set 2 c (se_ix ix_all sem_ix (se_lst false (sa_cons se_int (sa_cons se_int (sa_cons se_int (sa_cons se_int (sa_cons se_int (sa_cons se_int (sa_cons se_int (sa_cons se_int (sa_cons se_int (sa_cons se_int (sa_cons se_int (sa_cons se_int (sa_cons se_int sa_nil)))))))))))))) (se_call c D__law_draw (sa_cons (se_var 0) (sa_cons se_int sa_nil)))))
    (sss_cons (ss_set 3 c (se_meth PySem.F.plainAttrs_str PySem.F.slot_str_join PySem.F.type_str_join mt_join sem_join se_str (sa_cons (se_comp (own := [("_law_k", 4)]) false c (si_range1 (sa_cons (se_var 2) sa_nil) T.n_range) (blkOk_by (N := N__law_name) (sc := defScope s__law_name) (by decide +kernel)) ⟨fun _ _ _ _ _ => (sg_name 4 (c.blk _ _ _ _).nd), (kg_name 4), fun _ _ _ _ _ => sts_nil, fun _ _ _ _ _ => (se_ix ix_all sem_ix se_str (se_call (c.blk _ _ _ _) D__law_draw (sa_cons (se_var 0) (sa_cons se_int sa_nil))))⟩) sa_nil)))
    (sss_cons (ss_if (sb_chain op_ltA sem_ord op_ltA sem_ord se_int (se_var 2) se_int) (sss_one (ss_set 3 c (se_ix ix_all sem_ix (se_lst false (sa_cons se_str (sa_cons se_str (sa_cons se_str (sa_cons se_str (sa_cons se_str (sa_cons se_str (sa_cons (se_op op_addA sem_add se_str (se_slice false (se_var 3) (so_some se_int) so_none)) sa_nil)))))))) (se_call c D__law_draw (sa_cons (se_var 0) (sa_cons se_int sa_nil)))))) sss_nil)
    (sss_cons (ss_if (sb_cmp op_notIn_seq sem_in (se_var 3) (se_var 1)) (sss_one (ss_ret (se_var 3))) sss_nil)
    (sss_one (ss_ret (se_ix ix_all sem_ix (se_comp (own := [("_law_one", 5)]) false c (si_val (se_comp (own := [("_law_sign", 6)]) false c (si_val se_str) (blkOk_by (N := N__law_name) (sc := defScope s__law_name) (by decide +kernel)) ⟨fun _ _ _ _ _ => (sg_name 6 (c.blk _ _ _ _).nd), (kg_name 6), fun _ _ _ _ _ => sts_nil, fun _ _ _ _ _ => (se_op op_addA sem_add se_str (se_var 6))⟩)) (blkOk_by (N := N__law_name) (sc := defScope s__law_name) (by decide +kernel)) ⟨fun _ _ _ _ _ => (sg_name 5 (c.blk _ _ _ _).nd), (kg_name 5), fun _ _ _ _ _ => (sts_one (sb_cmp op_notIn_seq sem_in (se_var 5) (se_var 1))), fun _ _ _ _ _ => (se_var 5)⟩) se_int)))))))))
theorem bd__law_name {f : Addr} {fd : FuncData} (Fn : Fun K "_law_name" "_law_name" s__law_name f fd) : Binds K fd ["_law_source_here", "_law_taken"] [] := Fn.binds fun _ _ _ _ _ _ us hl => match us, hl with | [_, _], _ => rfl
abbrev N__law_names : List Str := ["_law_source_here", "_law_many", "_law_names_here", "_law_k"]
theorem sc__law_names : FnScope N__law_names ["_law_source_here", "_law_many"] (defScope s__law_names) := ⟨rfl, rfl, rfl, by decide +kernel, rfl, by decide +kernel, by decide +kernel⟩
theorem fn__law_names {f : Addr} {fd : FuncData} (Fn : Fun K "_law_names" "_law_names" s__law_names f fd) (T : Txt K mg) (D__law_name : DefOk P w K mg base 2 2 "_law_name" F__law_name) : FnOk P w K mg base (L2.CX P w) 3 f fd ["_law_source_here", "_law_many"] (spF K 2 F__law_names) :=
  fn_okE Fn sc__law_names (fun cdv A outer s H E c => (show SSs _ _ _ B__law_names from (sss_cons (ss_set 2 c (se_lst true sa_nil))
    (sss_cons (ss_for c (si_range1 (sa_cons (se_var 1) sa_nil) T.n_range) (sg_name 3 c.nd) (sss_one (ss_expr (se_meth PySem.F.plainAttrs_list PySem.F.slot_list_append PySem.F.type_list_append mt_append sem_append (se_var 2) (sa_cons (se_call c D__law_name (sa_cons (se_var 0) (sa_cons (se_var 2) sa_nil))) sa_nil)))))
    (sss_one (ss_frz 2 (ss_ret (se_var 2))))))))
theorem bd__law_names {f : Addr} {fd : FuncData} (Fn : Fun K "_law_names" "_law_names" s__law_names f fd) : Binds K fd ["_law_source_here", "_law_many"] [] := Fn.binds fun _ _ _ _ _ _ us hl => match us, hl with | [_, _], _ => rfl
abbrev N__law_pick : List Str := ["_law_source_here", "_law_things"]
theorem sc__law_pick : FnScope N__law_pick ["_law_source_here", "_law_things"] (defScope s__law_pick) := ⟨rfl, rfl, rfl, by decide +kernel, rfl, by decide +kernel, by decide +kernel⟩
theorem fn__law_pick {f : Addr} {fd : FuncData} (Fn : Fun K "_law_pick" "_law_pick" s__law_pick f fd) (T : Txt K mg) (D__law_draw : DefOk P w K mg base 2 1 "_law_draw" F__law_draw) : FnOk P w K mg base (L2.CX P w) 2 f fd ["_law_source_here", "_law_things"] (spF K 2 F__law_pick) :=
  fn_okE Fn sc__law_pick (fun cdv A outer s H E c => (show SSs _ _ _ B__law_pick from (sss_one (ss_ret (se_ix ix_all sem_ix (se_var 1) (se_call c D__law_draw (sa_cons (se_var 0) (sa_cons (se_callB call_len3 sem_len T.n_len (sa_cons (se_var 1) sa_nil)) sa_nil))))))))
theorem bd__law_pick {f : Addr} {fd : FuncData} (Fn : Fun K "_law_pick" "_law_pick" s__law_pick f fd) : Binds K fd ["_law_source_here", "_law_things"] [] := Fn.binds fun _ _ _ _ _ _ us hl => match us, hl with | [_, _], _ => rfl
abbrev N__law_subset : List Str := ["_law_source_here", "_law_row", "_law_one"]
theorem sc__law_subset : FnScope N__law_subset ["_law_source_here", "_law_row"] (defScope s__law_subset) := ⟨rfl, rfl, rfl, by decide +kernel, rfl, by decide +kernel, by decide +kernel⟩
theorem fn__law_subset {f : Addr} {fd : FuncData} (Fn : Fun K "_law_subset" "_law_subset" s__law_subset f fd) (T : Txt K mg) (D__law_draw : DefOk P w K mg base 2 1 "_law_draw" F__law_draw) : FnOk P w K mg base (L2.CX P w) 2 f fd ["_law_source_here", "_law_row"] (spF K 2 F__law_subset) :=
  fn_okE Fn sc__law_subset (fun cdv A outer s H E c => (show SSs _ _ _ B__law_subset from (sss_one (ss_ret (se_comp (own := [("_law_one", 2)]) false c (si_val (se_var 1)) (blkOk_by (N := N__law_subset) (sc := defScope s__law_subset) (by decide +kernel)) ⟨fun _ _ _ _ _ => (sg_name 2 (c.blk _ _ _ _).nd), (kg_name 2), fun _ _ _ _ _ => (sts_one (sb_cmp (op_eqA (c.blk _ _ _ _).room.units) sem_eq (se_call (c.blk _ _ _ _) D__law_draw (sa_cons (se_var 0) (sa_cons se_int sa_nil))) se_int)), fun _ _ _ _ _ => (se_var 2)⟩)))))
theorem bd__law_subset {f : Addr} {fd : FuncData} (Fn : Fun K "_law_subset" "_law_subset" s__law_subset f fd) : Binds K fd ["_law_source_here", "_law_row"] [] := Fn.binds fun _ _ _ _ _ _ us hl => match us, hl with | [_, _], _ => rfl
abbrev N__law_rules : List Str := ["_law_source_here", "_law_states", "_law_kinds", "_law_hand", "_law_parts", "_law_clauses", "_law_k", "_law_table", "_law_j"]
theorem sc__law_rules : FnScope N__law_rules ["_law_source_here", "_law_states", "_law_kinds"] (defScope s__law_rules) := ⟨rfl, rfl, rfl, by decide +kernel, rfl, by decide +kernel, by decide +kernel⟩
theorem fn__law_rules {f : Addr} {fd : FuncData} (Fn : Fun K "_law_rules" "_law_rules" s__law_rules f fd) (T : Txt K mg) (D__law_condition : DefOk P w K mg base 2 4 "_law_condition" F__law_condition) (D__law_draw : DefOk P w K mg base 2 1 "_law_draw" F__law_draw) (D__law_pick : DefOk P w K mg base 2 2 "_law_pick" F__law_pick) (D__law_subset : DefOk P w K mg base 2 2 "_law_subset" F__law_subset) : FnOk P w K mg base (L2.CX P w) 5 f fd ["_law_source_here", "_law_states", "_law_kinds"] (spF K 3 F__law_rules) :=
  fn_okE Fn sc__law_rules (fun cdv A outer s H E c => (show SSs _ _ _ B__law_rules from (sss_cons (ss_par 3 4 c (sa_cons (se_call c D__law_subset (sa_cons (se_var 0) (sa_cons (se_var 1) sa_nil))) (sa_cons (se_call c D__law_subset (sa_cons (se_var 0) (sa_cons (se_var 2) sa_nil))) sa_nil)))
    (sss_cons (ss_if (SW.sb (sw_and (sb_cmp (op_eqA c.room.units) sem_eq (se_var 3) (se_lst false sa_nil)) (sw_and1 (SW.sb (sw_or (sb_cmp (op_eqA c.room.units) sem_eq (se_var 4) (se_lst false sa_nil)) (sw_or1 (sb_cmp op_gtA sem_ord (se_call c D__law_draw (sa_cons (se_var 0) (sa_cons se_int sa_nil))) se_int))))))) (sss_one (ss_set 3 c (se_lst false (sa_cons (se_call c D__law_pick (sa_cons (se_var 0) (sa_cons (se_var 1) sa_nil))) sa_nil)))) sss_nil)
    (sss_cons (ss_set 5 c (se_lst true sa_nil))
    (sss_cons (ss_for c (si_range1 (sa_cons (se_call c D__law_draw (sa_cons (se_var 0) (sa_cons se_int sa_nil))) sa_nil) T.n_range) (sg_name 6 c.nd) (sss_cons (ss_setComp (own := [("_law_j", 8)]) false 7 c (si_range1 (sa_cons (se_call c D__law_draw (sa_cons (se_var 0) (sa_cons se_int sa_nil))) sa_nil) T.n_range) (blkOk_by (N := N__law_rules) (sc := defScope s__law_rules) (by decide +kernel)) ⟨fun _ _ _ _ _ => (sg_name 8 (c.blk _ _ _ _).nd), (kg_name 8), fun _ _ _ _ _ => sts_nil, fun _ _ _ _ _ => (se_call (c.blk _ _ _ _) D__law_condition (sa_cons (se_var 0) (sa_cons (se_var 1) sa_nil)))⟩)
    (sss_one (ss_expr (se_meth PySem.F.plainAttrs_list PySem.F.slot_list_append PySem.F.type_list_append mt_append sem_append (se_var 5) (sa_cons (se_tup (sa_cons (se_call c D__law_pick (sa_cons (se_var 0) (sa_cons (se_var 1) sa_nil))) (sa_cons (se_callTy call_tuple_of sem_tuple T.n_tuple (sa_cons (se_var 7) sa_nil)) sa_nil))) sa_nil))))))
    (sss_one (ss_frz 5 (ss_ret (se_tup (sa_cons (se_var 3) (sa_cons (se_var 4) (sa_cons (se_var 5) (sa_cons (se_call c D__law_pick (sa_cons (se_var 0) (sa_cons (se_var 1) sa_nil))) sa_nil))))))))))))))
theorem bd__law_rules {f : Addr} {fd : FuncData} (Fn : Fun K "_law_rules" "_law_rules" s__law_rules f fd) : Binds K fd ["_law_source_here", "_law_states", "_law_kinds"] [] := Fn.binds fun _ _ _ _ _ _ us hl => match us, hl with | [_, _, _], _ => rfl
abbrev N__law_source : List Str := ["_law_script", "_law_great", "_law_seed", "_law_cell"]
theorem sc__law_source : FnScope N__law_source ["_law_script"] (defScope s__law_source) := ⟨rfl, rfl, rfl, by decide +kernel, rfl, by decide +kernel, by decide +kernel⟩
theorem fn__law_source {f : Addr} {fd : FuncData} (Fn : Fun K "_law_source" "_law_source" s__law_source f fd) (T : Txt K mg)  : FnOk P w K mg base (L2.CX P w) 1 f fd ["_law_script"] (spF K 1 F__law_source) :=
  fn_okE Fn sc__law_source (fun cdv A outer s H E c => (show SSs _ _ _ B__law_source from (sss_cons (ss_asg (se_tup (sa_cons se_int (sa_cons se_int sa_nil))) (sg_tup c.calm (sgs_cons (sg_name 1 c.nd) (sgs_cons (sg_name 2 c.nd) sgs_nil))))
    (sss_cons (ss_for c (si_val (se_var 0)) (sg_name 3 c.nd) (sss_cons (ss_if (SW.sb (sw_and (sb_cmp (op_eqA c.room.units) sem_eq (se_var 1) se_int) (sw_and1 (sb_cmp op_geA sem_ord (se_var 3) (se_op op_pow sem_pow se_int se_int))))) (sss_one (ss_set 1 c (se_var 3))) sss_nil)
    (sss_one (ss_set 2 c (se_op op_mod sem_mod (se_callTy call_int1 sem_int T.n_int (sa_cons (se_op op_addA sem_add (se_op op_addA sem_add (se_op op_mulA sem_mul (se_var 2) se_int) (se_var 3)) se_int) sa_nil)) se_int)))))
    (sss_one (ss_ret (se_lst true (sa_cons (se_var 1) (sa_cons (se_var 2) (sa_cons se_int sa_nil))))))))))
theorem bd__law_source {f : Addr} {fd : FuncData} (Fn : Fun K "_law_source" "_law_source" s__law_source f fd) : Binds K fd ["_law_script"] [] := Fn.binds fun _ _ _ _ _ _ us hl => match us, hl with | [_], _ => rfl
abbrev N__law_told : List Str := ["_law_rules_here", "_law_states", "_law_index_here"]
theorem sc__law_told : FnScope N__law_told ["_law_rules_here", "_law_states"] (defScope s__law_told) := ⟨rfl, rfl, rfl, by decide +kernel, rfl, by decide +kernel, by decide +kernel⟩
theorem fn__law_told {f : Addr} {fd : FuncData} (Fn : Fun K "_law_told" "_law_told" s__law_told f fd) (T : Txt K mg) (D__law_index : DefOk P w K mg base 2 1 "_law_index" F__law_index) : FnOk P w K mg base (L2.CX P w) 2 f fd ["_law_rules_here", "_law_states"] (spF K 2 F__law_told) :=
  fn_okE Fn sc__law_told (fun cdv A outer s H E c => (show SSs _ _ _ B__law_told from (sss_cons (ss_set 2 c (se_call c D__law_index (sa_cons (se_var 0) (sa_cons (se_var 1) sa_nil))))
    (sss_one (ss_ret (se_if (sb_cmp (op_eqA c.room.units) sem_eq (se_var 2) (se_callB call_len3 sem_len T.n_len (sa_cons (se_ix ix_all sem_ix (se_var 0) se_int) sa_nil))) (se_ix ix_all sem_ix (se_var 0) se_int) (se_ix ix_all sem_ix (se_ix ix_all sem_ix (se_ix ix_all sem_ix (se_var 0) se_int) (se_var 2)) se_int)))))))
theorem bd__law_told {f : Addr} {fd : FuncData} (Fn : Fun K "_law_told" "_law_told" s__law_told f fd) : Binds K fd ["_law_rules_here", "_law_states"] [] := Fn.binds fun _ _ _ _ _ _ us hl => match us, hl with | [_, _], _ => rfl
abbrev N_law : List Str := ["_law_script", "_law_source_here", "_law_states", "_law_hand", "_law_parts", "_law_clauses", "_law_last", "_law_wide", "_law_most", "_law_rules_here", "_law_kind", "_law_row", "_law_mixed", "_law_many", "_law_k"]
theorem sc_law : FnScope N_law ["_law_script"] (defScope s_law) := ⟨rfl, rfl, rfl, by decide +kernel, rfl, by decide +kernel, by decide +kernel⟩
theorem fn_law {f : Addr} {fd : FuncData} (Fn : Fun K "law" "law" s_law f fd) (T : Txt K mg) (D_Kind___init__ : InitOk P w K mg base 4 6 "Kind" F_Kind___init__) (D_Kind_counting : MethOk P w K mg base 2 2 "Kind" "counting" F_Kind_counting) (D_Kind_told : MethOk P w K mg base 2 3 "Kind" "told" F_Kind_told) (D__law_condition : DefOk P w K mg base 2 4 "_law_condition" F__law_condition) (D__law_draw : DefOk P w K mg base 2 1 "_law_draw" F__law_draw) (D__law_index : DefOk P w K mg base 2 1 "_law_index" F__law_index) (D__law_lists : DefOk P w K mg base 2 1 "_law_lists" F__law_lists) (D__law_names : DefOk P w K mg base 2 3 "_law_names" F__law_names) (D__law_order : DefOk P w K mg base 2 2 "_law_order" F__law_order) (D__law_pick : DefOk P w K mg base 2 2 "_law_pick" F__law_pick) (D__law_rules : DefOk P w K mg base 3 5 "_law_rules" F__law_rules) (D__law_source : DefOk P w K mg base 1 1 "_law_source" F__law_source) (D__law_told : DefOk P w K mg base 2 2 "_law_told" F__law_told) : FnOk P w K mg base (L2.CX P w) 8 f fd ["_law_script"] (spF K 1 F_law) :=
  fn_okE Fn sc_law (fun cdv A outer s H E c => (show SSs _ _ _ B_law from (sss_cons (ss_set 1 c (se_call c D__law_source (sa_cons (se_var 0) sa_nil)))
    (sss_cons (ss_set 2 c (se_call c D__law_names (sa_cons (se_var 1) (sa_cons (se_op op_addA sem_add se_int (se_call c D__law_draw (sa_cons (se_var 1) (sa_cons se_int sa_nil)))) sa_nil))))
    (sss_cons (ss_asg (se_call c D__law_rules (sa_cons (se_var 1) (sa_cons (se_var 2) (sa_cons (se_lst false (sa_cons se_str sa_nil)) sa_nil)))) (sg_tupL c.calm (sgs_cons (sg_name 3 c.nd) (sgs_cons (sg_name 4 c.nd) (sgs_cons (sg_name 5 c.nd) (sgs_cons (sg_name 6 c.nd) sgs_nil))))))
    (sss_cons (ss_if (sb_cmp (op_eqA c.room.units) sem_eq (se_call c D__law_draw (sa_cons (se_var 1) (sa_cons se_int sa_nil))) se_int) (sss_cons (ss_setComp (own := [("_law_k", 14)]) false 7 c (si_range1 (sa_cons (se_op op_addA sem_add se_int (se_call c D__law_draw (sa_cons (se_var 1) (sa_cons se_int sa_nil)))) sa_nil) T.n_range) (blkOk_by (N := N_law) (sc := defScope s_law) (by decide +kernel)) ⟨fun _ _ _ _ _ => (sg_name 14 (c.blk _ _ _ _).nd), (kg_name 14), fun _ _ _ _ _ => sts_nil, fun _ _ _ _ _ => (se_call (c.blk _ _ _ _) D__law_condition (sa_cons (se_var 1) (sa_cons (se_var 2) sa_nil)))⟩)
    (sss_one (ss_set 5 c (se_op op_addA sem_add (se_op op_addA sem_add (se_slice false (se_var 5) so_none (so_some se_int)) (se_lst false (sa_cons (se_tup (sa_cons (se_call c D__law_pick (sa_cons (se_var 1) (sa_cons (se_var 2) sa_nil))) (sa_cons (se_callTy call_tuple_of sem_tuple T.n_tuple (sa_cons (se_var 7) sa_nil)) sa_nil))) sa_nil))) (se_slice false (se_var 5) (so_some se_int) so_none))))) sss_nil)
    (sss_cons (ss_if (sb_cmp (op_eqA c.room.units) sem_eq (se_call c D__law_draw (sa_cons (se_var 1) (sa_cons se_int sa_nil))) se_int) (sss_cons (ss_set 8 c (se_op op_addA sem_add se_int (se_call c D__law_draw (sa_cons (se_var 1) (sa_cons se_int sa_nil)))))
    (sss_one (ss_set 5 c (se_op op_addA sem_add (se_lst false (sa_cons (se_tup (sa_cons (se_call c D__law_pick (sa_cons (se_var 1) (sa_cons (se_var 2) sa_nil))) (sa_cons (se_tup (sa_cons (se_tup (sa_cons (se_call c D__law_draw (sa_cons (se_var 1) (sa_cons se_int sa_nil))) (sa_cons (se_var 8) (sa_cons (se_tup (sa_cons (se_ix ix_all sem_ix (se_var 2) se_int) sa_nil)) sa_nil)))) sa_nil)) sa_nil))) sa_nil)) (se_var 5))))) sss_nil)
    (sss_cons (ss_set 9 c (se_tup (sa_cons (se_var 3) (sa_cons (se_var 4) (sa_cons (se_var 5) (sa_cons (se_var 6) sa_nil))))))
    (sss_cons (ss_set 10 c (se_make true c D_Kind___init__ (sa_cons (se_ix ix_all sem_ix (se_var 9) se_int) (sa_cons (se_ix ix_all sem_ix (se_var 9) se_int) (sa_cons (se_ix ix_all sem_ix (se_var 9) se_int) (sa_cons (se_ix ix_all sem_ix (se_var 9) se_int) sa_nil))))))
    (sss_cons (ss_for c (si_val (se_call c D__law_lists (sa_cons (se_op op_addA sem_add (se_callB cr_sortA sem_sorted T.n_sorted (sa_cons (se_var 2) sa_nil)) (se_lst false (sa_cons se_str sa_nil))) (sa_cons se_int sa_nil)))) (sg_name 11 c.nd) (sss_cons (ss_setComp (own := [("_law_k", 14)]) false 12 c (si_val (se_call c D__law_order (sa_cons (se_var 1) (sa_cons (se_callB call_len3 sem_len T.n_len (sa_cons (se_var 11) sa_nil)) sa_nil)))) (blkOk_by (N := N_law) (sc := defScope s_law) (by decide +kernel)) ⟨fun _ _ _ _ _ => (sg_name 14 (c.blk _ _ _ _).nd), (kg_name 14), fun _ _ _ _ _ => sts_nil, fun _ _ _ _ _ => (se_ix ix_all sem_ix (se_var 11) (se_var 14))⟩)
    (sss_one (ss_if (SW.sb (sw_or (sb_cmp (op_neA c.room.units) sem_ne (se_methO c D_Kind_counting (se_var 10) (sa_cons (se_var 12) sa_nil)) (se_call c D__law_index (sa_cons (se_var 9) (sa_cons (se_var 11) sa_nil)))) (sw_or1 (sb_cmp (op_neA c.room.units) sem_ne (se_methO c D_Kind_told (se_var 10) (sa_cons (se_callTy call_tuple_of sem_tuple T.n_tuple (sa_cons (se_var 12) sa_nil)) sa_nil)) (se_call c D__law_told (sa_cons (se_var 9) (sa_cons (se_var 11) sa_nil))))))) (sss_one (ss_ret se_bl)) sss_nil))))
    (sss_cons (ss_for c (si_range2 (sa_cons se_int (sa_cons se_int sa_nil)) T.n_range) (sg_name 13 c.nd) (sss_cons (ss_set 7 c (se_op op_addA sem_add (se_op op_mulA sem_mul (se_lst false (sa_cons (se_ix ix_all sem_ix (se_var 2) se_int) sa_nil)) (se_var 13)) (se_comp (own := [("_law_k", 14)]) false c (si_range1 (sa_cons (se_call c D__law_draw (sa_cons (se_var 1) (sa_cons se_int sa_nil))) sa_nil) T.n_range) (blkOk_by (N := N_law) (sc := defScope s_law) (by decide +kernel)) ⟨fun _ _ _ _ _ => (sg_name 14 (c.blk _ _ _ _).nd), (kg_name 14), fun _ _ _ _ _ => sts_nil, fun _ _ _ _ _ => (se_call (c.blk _ _ _ _) D__law_pick (sa_cons (se_var 1) (sa_cons (se_var 2) sa_nil)))⟩)))
    (sss_one (ss_if (SW.sb (sw_or (sb_cmp (op_neA c.room.units) sem_ne (se_methO c D_Kind_told (se_var 10) (sa_cons (se_var 7) sa_nil)) (se_call c D__law_told (sa_cons (se_var 9) (sa_cons (se_var 7) sa_nil)))) (sw_or1 (sb_cmp (op_neA c.room.units) sem_ne (se_methO c D_Kind_counting (se_var 10) (sa_cons (se_var 7) sa_nil)) (se_call c D__law_index (sa_cons (se_var 9) (sa_cons (se_var 7) sa_nil))))))) (sss_one (ss_ret se_bl)) sss_nil))))
    (sss_cons (ss_setComp (own := [("_law_k", 14)]) false 7 c (si_range1 (sa_cons se_int sa_nil) T.n_range) (blkOk_by (N := N_law) (sc := defScope s_law) (by decide +kernel)) ⟨fun _ _ _ _ _ => (sg_name 14 (c.blk _ _ _ _).nd), (kg_name 14), fun _ _ _ _ _ => sts_nil, fun _ _ _ _ _ => (se_call (c.blk _ _ _ _) D__law_pick (sa_cons (se_var 1) (sa_cons (se_var 2) sa_nil)))⟩)
    (sss_one (ss_ret (se_and (se_cmp (op_eqA c.room.units) sem_eq (se_methO c D_Kind_told (se_var 10) (sa_cons (se_var 7) sa_nil)) (se_call c D__law_told (sa_cons (se_var 9) (sa_cons (se_var 7) sa_nil)))) (se_one (se_cmp (op_eqA c.room.units) sem_eq (se_methO c D_Kind_counting (se_var 10) (sa_cons (se_var 7) sa_nil)) (se_call c D__law_index (sa_cons (se_var 9) (sa_cons (se_var 7) sa_nil))))))))))))))))))))
theorem bd_law {f : Addr} {fd : FuncData} (Fn : Fun K "law" "law" s_law f fd) : Binds K fd ["_law_script"] [] := Fn.binds fun _ _ _ _ _ _ us hl => match us, hl with | [_], _ => rfl
end
end G

namespace G
open PySem L2 Ev
def spLaw (K : PySem.W.Frag) : Sp := fun vs H Q _ => ∃ (a : Addr) (ns : List Int), vs = [.ref a] ∧ SqL K H a (ns.map V.int) ∧ ns.length ≤ 63 ∧ ∀ H', Q (.bl true) H'
theorem reps_ints {K : PySem.W.Frag} {Z : Hp} {ρ : List Addr} : ∀ ns : List Int, Reps K Z ρ (ns.map T.int) (ns.map V.int)
  | [] => .nil
  | n :: ns => .cons rep_int (reps_ints ns)
theorem law_imp {K : PySem.W.Frag} (law_true : ∀ ns : List Int, ns.length ≤ 63 → ∃ m, F_law [.rls (ns.map T.int)] [] = .ok (.bl true) m) : ∀ vs H Q E, spLaw K vs H Q E → spF K 1 F_law vs H Q E := by
  rintro vs H Q E ⟨a, ns, rfl, hs, hl, hQ⟩
  obtain ⟨m, e⟩ := law_true ns hl
  refine ⟨fun _ => none, H, [], [], [.rls (ns.map T.int)], ⟨fun _ _ h => h, (fun _ _ h => nomatch h), rfl, List.nodup_nil, (fun _ h => nomatch h), (fun _ _ _ h => nomatch h)⟩, .cons ?_ .nil, rfl, ?_⟩
  · unfold Rep
    exact ⟨a, _, rfl, hs, reps_ints ns⟩
  · rw [e]
    intro Z ρ H1 v _ _ r
    unfold Rep at r
    subst r
    exact hQ _
theorem all_mk {l : PySem.W.OpenLaw} {w : World} {K : PySem.W.Frag} {h : Heap} {mg : Str → Option Value} {fa : Addr} (law_true : ∀ ns : List Int, ns.length ≤ 63 → ∃ m, F_law [.rls (ns.map T.int)] [] = .ok (.bl true) m) (X : K.In h) (G : h.Ns mainGlobals mg) (hfa : mg "law" = some (.ref fa))
    {C_Kind f_is_list f_is_name f_are_names f_is_digit f_is_condition f_is_clause f_are_clauses f_copied_clause f_Kind___init__ f_holds f_Kind_counting f_Kind_told f__law_draw f__law_order f__law_some f__law_condition f__law_index f__law_lists f__law_name f__law_names f__law_pick f__law_subset f__law_rules f__law_source f__law_told f_law : Addr}
    {oc_is_list kV_is_list dc_is_list pm_is_list cd_is_list ct_is_list : Value} {od_is_list an_is_list : Option Addr} {sl_is_list : Array (Option Value)}
    {oc_is_name kV_is_name dc_is_name pm_is_name cd_is_name ct_is_name : Value} {od_is_name an_is_name : Option Addr} {sl_is_name : Array (Option Value)}
    {oc_are_names kV_are_names dc_are_names pm_are_names cd_are_names ct_are_names : Value} {od_are_names an_are_names : Option Addr} {sl_are_names : Array (Option Value)}
    {oc_is_digit kV_is_digit dc_is_digit pm_is_digit cd_is_digit ct_is_digit : Value} {od_is_digit an_is_digit : Option Addr} {sl_is_digit : Array (Option Value)}
    {oc_is_condition kV_is_condition dc_is_condition pm_is_condition cd_is_condition ct_is_condition : Value} {od_is_condition an_is_condition : Option Addr} {sl_is_condition : Array (Option Value)}
    {oc_is_clause kV_is_clause dc_is_clause pm_is_clause cd_is_clause ct_is_clause : Value} {od_is_clause an_is_clause : Option Addr} {sl_is_clause : Array (Option Value)}
    {oc_are_clauses kV_are_clauses dc_are_clauses pm_are_clauses cd_are_clauses ct_are_clauses : Value} {od_are_clauses an_are_clauses : Option Addr} {sl_are_clauses : Array (Option Value)}
    {oc_copied_clause kV_copied_clause dc_copied_clause pm_copied_clause cd_copied_clause ct_copied_clause : Value} {od_copied_clause an_copied_clause : Option Addr} {sl_copied_clause : Array (Option Value)}
    {oc_Kind___init__ kV_Kind___init__ dc_Kind___init__ pm_Kind___init__ cd_Kind___init__ ct_Kind___init__ : Value} {od_Kind___init__ an_Kind___init__ : Option Addr} {sl_Kind___init__ : Array (Option Value)}
    {oc_holds kV_holds dc_holds pm_holds cd_holds ct_holds : Value} {od_holds an_holds : Option Addr} {sl_holds : Array (Option Value)}
    {oc_Kind_counting kV_Kind_counting dc_Kind_counting pm_Kind_counting cd_Kind_counting ct_Kind_counting : Value} {od_Kind_counting an_Kind_counting : Option Addr} {sl_Kind_counting : Array (Option Value)}
    {oc_Kind_told kV_Kind_told dc_Kind_told pm_Kind_told cd_Kind_told ct_Kind_told : Value} {od_Kind_told an_Kind_told : Option Addr} {sl_Kind_told : Array (Option Value)}
    {oc__law_draw kV__law_draw dc__law_draw pm__law_draw cd__law_draw ct__law_draw : Value} {od__law_draw an__law_draw : Option Addr} {sl__law_draw : Array (Option Value)}
    {oc__law_order kV__law_order dc__law_order pm__law_order cd__law_order ct__law_order : Value} {od__law_order an__law_order : Option Addr} {sl__law_order : Array (Option Value)}
    {oc__law_some kV__law_some dc__law_some pm__law_some cd__law_some ct__law_some : Value} {od__law_some an__law_some : Option Addr} {sl__law_some : Array (Option Value)}
    {oc__law_condition kV__law_condition dc__law_condition pm__law_condition cd__law_condition ct__law_condition : Value} {od__law_condition an__law_condition : Option Addr} {sl__law_condition : Array (Option Value)}
    {oc__law_index kV__law_index dc__law_index pm__law_index cd__law_index ct__law_index : Value} {od__law_index an__law_index : Option Addr} {sl__law_index : Array (Option Value)}
    {oc__law_lists kV__law_lists dc__law_lists pm__law_lists cd__law_lists ct__law_lists : Value} {od__law_lists an__law_lists : Option Addr} {sl__law_lists : Array (Option Value)}
    {oc__law_name kV__law_name dc__law_name pm__law_name cd__law_name ct__law_name : Value} {od__law_name an__law_name : Option Addr} {sl__law_name : Array (Option Value)}
    {oc__law_names kV__law_names dc__law_names pm__law_names cd__law_names ct__law_names : Value} {od__law_names an__law_names : Option Addr} {sl__law_names : Array (Option Value)}
    {oc__law_pick kV__law_pick dc__law_pick pm__law_pick cd__law_pick ct__law_pick : Value} {od__law_pick an__law_pick : Option Addr} {sl__law_pick : Array (Option Value)}
    {oc__law_subset kV__law_subset dc__law_subset pm__law_subset cd__law_subset ct__law_subset : Value} {od__law_subset an__law_subset : Option Addr} {sl__law_subset : Array (Option Value)}
    {oc__law_rules kV__law_rules dc__law_rules pm__law_rules cd__law_rules ct__law_rules : Value} {od__law_rules an__law_rules : Option Addr} {sl__law_rules : Array (Option Value)}
    {oc__law_source kV__law_source dc__law_source pm__law_source cd__law_source ct__law_source : Value} {od__law_source an__law_source : Option Addr} {sl__law_source : Array (Option Value)}
    {oc__law_told kV__law_told dc__law_told pm__law_told cd__law_told ct__law_told : Value} {od__law_told an__law_told : Option Addr} {sl__law_told : Array (Option Value)}
    {oc_law kV_law dc_law pm_law cd_law ct_law : Value} {od_law an_law : Option Addr} {sl_law : Array (Option Value)}
    {tk_MOST_CLAUSES : Tok}
    {tk_MOST_CONDITIONS : Tok}
    {tk_MOST_DIGIT : Tok}
    {tk_MOST_LETTERS : Tok}
    (aC_Kind : PySem.W.nsIn K mainGlobals "Kind" = some (some (.ref C_Kind)))
    (pg_Kind : PySem.W.plainGet K C_Kind Str.empty = true)
    (hd_Kind : PySem.W.hasDictIn K C_Kind = true)
    (po_Kind : PySem.W.plainOver K C_Kind = true)
    (sa_Kind : PySem.W.findIn K (.ref C_Kind) "__setattr__" = some (some (.builtin "object.__setattr__")))
    (mk_Kind : PySem.W.makesIn K C_Kind = true)
    (kc_Kind : PySem.W.keepIn K (.ref C_Kind) = true)
    (a_is_list : PySem.W.nsIn K mainGlobals "is_list" = some (some (.ref f_is_list)))
    (l_is_list : K.lookup f_is_list = some ⟨oc_is_list, od_is_list, .func (PySem.W.fnOf "is_list" "is_list" (defArgs s_is_list) (defBody s_is_list) (defScope s_is_list) .none kV_is_list dc_is_list pm_is_list an_is_list cd_is_list ct_is_list), sl_is_list⟩)
    (c_is_list : PySem.W.codeIn K cd_is_list "is_list" = true)
    (k_is_list : PySem.W.keepIn K (.ref f_is_list) = true)
    (a_is_name : PySem.W.nsIn K mainGlobals "is_name" = some (some (.ref f_is_name)))
    (l_is_name : K.lookup f_is_name = some ⟨oc_is_name, od_is_name, .func (PySem.W.fnOf "is_name" "is_name" (defArgs s_is_name) (defBody s_is_name) (defScope s_is_name) .none kV_is_name dc_is_name pm_is_name an_is_name cd_is_name ct_is_name), sl_is_name⟩)
    (c_is_name : PySem.W.codeIn K cd_is_name "is_name" = true)
    (k_is_name : PySem.W.keepIn K (.ref f_is_name) = true)
    (a_are_names : PySem.W.nsIn K mainGlobals "are_names" = some (some (.ref f_are_names)))
    (l_are_names : K.lookup f_are_names = some ⟨oc_are_names, od_are_names, .func (PySem.W.fnOf "are_names" "are_names" (defArgs s_are_names) (defBody s_are_names) (defScope s_are_names) .none kV_are_names dc_are_names pm_are_names an_are_names cd_are_names ct_are_names), sl_are_names⟩)
    (c_are_names : PySem.W.codeIn K cd_are_names "are_names" = true)
    (k_are_names : PySem.W.keepIn K (.ref f_are_names) = true)
    (a_is_digit : PySem.W.nsIn K mainGlobals "is_digit" = some (some (.ref f_is_digit)))
    (l_is_digit : K.lookup f_is_digit = some ⟨oc_is_digit, od_is_digit, .func (PySem.W.fnOf "is_digit" "is_digit" (defArgs s_is_digit) (defBody s_is_digit) (defScope s_is_digit) .none kV_is_digit dc_is_digit pm_is_digit an_is_digit cd_is_digit ct_is_digit), sl_is_digit⟩)
    (c_is_digit : PySem.W.codeIn K cd_is_digit "is_digit" = true)
    (k_is_digit : PySem.W.keepIn K (.ref f_is_digit) = true)
    (a_is_condition : PySem.W.nsIn K mainGlobals "is_condition" = some (some (.ref f_is_condition)))
    (l_is_condition : K.lookup f_is_condition = some ⟨oc_is_condition, od_is_condition, .func (PySem.W.fnOf "is_condition" "is_condition" (defArgs s_is_condition) (defBody s_is_condition) (defScope s_is_condition) .none kV_is_condition dc_is_condition pm_is_condition an_is_condition cd_is_condition ct_is_condition), sl_is_condition⟩)
    (c_is_condition : PySem.W.codeIn K cd_is_condition "is_condition" = true)
    (k_is_condition : PySem.W.keepIn K (.ref f_is_condition) = true)
    (a_is_clause : PySem.W.nsIn K mainGlobals "is_clause" = some (some (.ref f_is_clause)))
    (l_is_clause : K.lookup f_is_clause = some ⟨oc_is_clause, od_is_clause, .func (PySem.W.fnOf "is_clause" "is_clause" (defArgs s_is_clause) (defBody s_is_clause) (defScope s_is_clause) .none kV_is_clause dc_is_clause pm_is_clause an_is_clause cd_is_clause ct_is_clause), sl_is_clause⟩)
    (c_is_clause : PySem.W.codeIn K cd_is_clause "is_clause" = true)
    (k_is_clause : PySem.W.keepIn K (.ref f_is_clause) = true)
    (a_are_clauses : PySem.W.nsIn K mainGlobals "are_clauses" = some (some (.ref f_are_clauses)))
    (l_are_clauses : K.lookup f_are_clauses = some ⟨oc_are_clauses, od_are_clauses, .func (PySem.W.fnOf "are_clauses" "are_clauses" (defArgs s_are_clauses) (defBody s_are_clauses) (defScope s_are_clauses) .none kV_are_clauses dc_are_clauses pm_are_clauses an_are_clauses cd_are_clauses ct_are_clauses), sl_are_clauses⟩)
    (c_are_clauses : PySem.W.codeIn K cd_are_clauses "are_clauses" = true)
    (k_are_clauses : PySem.W.keepIn K (.ref f_are_clauses) = true)
    (a_copied_clause : PySem.W.nsIn K mainGlobals "copied_clause" = some (some (.ref f_copied_clause)))
    (l_copied_clause : K.lookup f_copied_clause = some ⟨oc_copied_clause, od_copied_clause, .func (PySem.W.fnOf "copied_clause" "copied_clause" (defArgs s_copied_clause) (defBody s_copied_clause) (defScope s_copied_clause) .none kV_copied_clause dc_copied_clause pm_copied_clause an_copied_clause cd_copied_clause ct_copied_clause), sl_copied_clause⟩)
    (c_copied_clause : PySem.W.codeIn K cd_copied_clause "copied_clause" = true)
    (k_copied_clause : PySem.W.keepIn K (.ref f_copied_clause) = true)
    (a_Kind___init__ : PySem.W.findIn K (.ref C_Kind) "__init__" = some (some (.ref f_Kind___init__)))
    (i_Kind___init__ : PySem.W.isFn K (.ref f_Kind___init__) = true)
    (l_Kind___init__ : K.lookup f_Kind___init__ = some ⟨oc_Kind___init__, od_Kind___init__, .func (PySem.W.fnOf "__init__" "Kind.__init__" (defArgs s_Kind___init__) (defBody s_Kind___init__) (defScope s_Kind___init__) .none kV_Kind___init__ dc_Kind___init__ pm_Kind___init__ an_Kind___init__ cd_Kind___init__ ct_Kind___init__), sl_Kind___init__⟩)
    (c_Kind___init__ : PySem.W.codeIn K cd_Kind___init__ "Kind.__init__" = true)
    (k_Kind___init__ : PySem.W.keepIn K (.ref f_Kind___init__) = true)
    (a_holds : PySem.W.nsIn K mainGlobals "holds" = some (some (.ref f_holds)))
    (l_holds : K.lookup f_holds = some ⟨oc_holds, od_holds, .func (PySem.W.fnOf "holds" "holds" (defArgs s_holds) (defBody s_holds) (defScope s_holds) .none kV_holds dc_holds pm_holds an_holds cd_holds ct_holds), sl_holds⟩)
    (c_holds : PySem.W.codeIn K cd_holds "holds" = true)
    (k_holds : PySem.W.keepIn K (.ref f_holds) = true)
    (a_Kind_counting : PySem.W.findIn K (.ref C_Kind) "counting" = some (some (.ref f_Kind_counting)))
    (i_Kind_counting : PySem.W.isFn K (.ref f_Kind_counting) = true)
    (l_Kind_counting : K.lookup f_Kind_counting = some ⟨oc_Kind_counting, od_Kind_counting, .func (PySem.W.fnOf "counting" "Kind.counting" (defArgs s_Kind_counting) (defBody s_Kind_counting) (defScope s_Kind_counting) .none kV_Kind_counting dc_Kind_counting pm_Kind_counting an_Kind_counting cd_Kind_counting ct_Kind_counting), sl_Kind_counting⟩)
    (c_Kind_counting : PySem.W.codeIn K cd_Kind_counting "Kind.counting" = true)
    (k_Kind_counting : PySem.W.keepIn K (.ref f_Kind_counting) = true)
    (a_Kind_told : PySem.W.findIn K (.ref C_Kind) "told" = some (some (.ref f_Kind_told)))
    (i_Kind_told : PySem.W.isFn K (.ref f_Kind_told) = true)
    (l_Kind_told : K.lookup f_Kind_told = some ⟨oc_Kind_told, od_Kind_told, .func (PySem.W.fnOf "told" "Kind.told" (defArgs s_Kind_told) (defBody s_Kind_told) (defScope s_Kind_told) .none kV_Kind_told dc_Kind_told pm_Kind_told an_Kind_told cd_Kind_told ct_Kind_told), sl_Kind_told⟩)
    (c_Kind_told : PySem.W.codeIn K cd_Kind_told "Kind.told" = true)
    (k_Kind_told : PySem.W.keepIn K (.ref f_Kind_told) = true)
    (a__law_draw : PySem.W.nsIn K mainGlobals "_law_draw" = some (some (.ref f__law_draw)))
    (l__law_draw : K.lookup f__law_draw = some ⟨oc__law_draw, od__law_draw, .func (PySem.W.fnOf "_law_draw" "_law_draw" (defArgs s__law_draw) (defBody s__law_draw) (defScope s__law_draw) .none kV__law_draw dc__law_draw pm__law_draw an__law_draw cd__law_draw ct__law_draw), sl__law_draw⟩)
    (c__law_draw : PySem.W.codeIn K cd__law_draw "_law_draw" = true)
    (k__law_draw : PySem.W.keepIn K (.ref f__law_draw) = true)
    (a__law_order : PySem.W.nsIn K mainGlobals "_law_order" = some (some (.ref f__law_order)))
    (l__law_order : K.lookup f__law_order = some ⟨oc__law_order, od__law_order, .func (PySem.W.fnOf "_law_order" "_law_order" (defArgs s__law_order) (defBody s__law_order) (defScope s__law_order) .none kV__law_order dc__law_order pm__law_order an__law_order cd__law_order ct__law_order), sl__law_order⟩)
    (c__law_order : PySem.W.codeIn K cd__law_order "_law_order" = true)
    (k__law_order : PySem.W.keepIn K (.ref f__law_order) = true)
    (a__law_some : PySem.W.nsIn K mainGlobals "_law_some" = some (some (.ref f__law_some)))
    (l__law_some : K.lookup f__law_some = some ⟨oc__law_some, od__law_some, .func (PySem.W.fnOf "_law_some" "_law_some" (defArgs s__law_some) (defBody s__law_some) (defScope s__law_some) .none kV__law_some dc__law_some pm__law_some an__law_some cd__law_some ct__law_some), sl__law_some⟩)
    (c__law_some : PySem.W.codeIn K cd__law_some "_law_some" = true)
    (k__law_some : PySem.W.keepIn K (.ref f__law_some) = true)
    (a__law_condition : PySem.W.nsIn K mainGlobals "_law_condition" = some (some (.ref f__law_condition)))
    (l__law_condition : K.lookup f__law_condition = some ⟨oc__law_condition, od__law_condition, .func (PySem.W.fnOf "_law_condition" "_law_condition" (defArgs s__law_condition) (defBody s__law_condition) (defScope s__law_condition) .none kV__law_condition dc__law_condition pm__law_condition an__law_condition cd__law_condition ct__law_condition), sl__law_condition⟩)
    (c__law_condition : PySem.W.codeIn K cd__law_condition "_law_condition" = true)
    (k__law_condition : PySem.W.keepIn K (.ref f__law_condition) = true)
    (a__law_index : PySem.W.nsIn K mainGlobals "_law_index" = some (some (.ref f__law_index)))
    (l__law_index : K.lookup f__law_index = some ⟨oc__law_index, od__law_index, .func (PySem.W.fnOf "_law_index" "_law_index" (defArgs s__law_index) (defBody s__law_index) (defScope s__law_index) .none kV__law_index dc__law_index pm__law_index an__law_index cd__law_index ct__law_index), sl__law_index⟩)
    (c__law_index : PySem.W.codeIn K cd__law_index "_law_index" = true)
    (k__law_index : PySem.W.keepIn K (.ref f__law_index) = true)
    (a__law_lists : PySem.W.nsIn K mainGlobals "_law_lists" = some (some (.ref f__law_lists)))
    (l__law_lists : K.lookup f__law_lists = some ⟨oc__law_lists, od__law_lists, .func (PySem.W.fnOf "_law_lists" "_law_lists" (defArgs s__law_lists) (defBody s__law_lists) (defScope s__law_lists) .none kV__law_lists dc__law_lists pm__law_lists an__law_lists cd__law_lists ct__law_lists), sl__law_lists⟩)
    (c__law_lists : PySem.W.codeIn K cd__law_lists "_law_lists" = true)
    (k__law_lists : PySem.W.keepIn K (.ref f__law_lists) = true)
    (a__law_name : PySem.W.nsIn K mainGlobals "_law_name" = some (some (.ref f__law_name)))
    (l__law_name : K.lookup f__law_name = some ⟨oc__law_name, od__law_name, .func (PySem.W.fnOf "_law_name" "_law_name" (defArgs s__law_name) (defBody s__law_name) (defScope s__law_name) .none kV__law_name dc__law_name pm__law_name an__law_name cd__law_name ct__law_name), sl__law_name⟩)
    (c__law_name : PySem.W.codeIn K cd__law_name "_law_name" = true)
    (k__law_name : PySem.W.keepIn K (.ref f__law_name) = true)
    (a__law_names : PySem.W.nsIn K mainGlobals "_law_names" = some (some (.ref f__law_names)))
    (l__law_names : K.lookup f__law_names = some ⟨oc__law_names, od__law_names, .func (PySem.W.fnOf "_law_names" "_law_names" (defArgs s__law_names) (defBody s__law_names) (defScope s__law_names) .none kV__law_names dc__law_names pm__law_names an__law_names cd__law_names ct__law_names), sl__law_names⟩)
    (c__law_names : PySem.W.codeIn K cd__law_names "_law_names" = true)
    (k__law_names : PySem.W.keepIn K (.ref f__law_names) = true)
    (a__law_pick : PySem.W.nsIn K mainGlobals "_law_pick" = some (some (.ref f__law_pick)))
    (l__law_pick : K.lookup f__law_pick = some ⟨oc__law_pick, od__law_pick, .func (PySem.W.fnOf "_law_pick" "_law_pick" (defArgs s__law_pick) (defBody s__law_pick) (defScope s__law_pick) .none kV__law_pick dc__law_pick pm__law_pick an__law_pick cd__law_pick ct__law_pick), sl__law_pick⟩)
    (c__law_pick : PySem.W.codeIn K cd__law_pick "_law_pick" = true)
    (k__law_pick : PySem.W.keepIn K (.ref f__law_pick) = true)
    (a__law_subset : PySem.W.nsIn K mainGlobals "_law_subset" = some (some (.ref f__law_subset)))
    (l__law_subset : K.lookup f__law_subset = some ⟨oc__law_subset, od__law_subset, .func (PySem.W.fnOf "_law_subset" "_law_subset" (defArgs s__law_subset) (defBody s__law_subset) (defScope s__law_subset) .none kV__law_subset dc__law_subset pm__law_subset an__law_subset cd__law_subset ct__law_subset), sl__law_subset⟩)
    (c__law_subset : PySem.W.codeIn K cd__law_subset "_law_subset" = true)
    (k__law_subset : PySem.W.keepIn K (.ref f__law_subset) = true)
    (a__law_rules : PySem.W.nsIn K mainGlobals "_law_rules" = some (some (.ref f__law_rules)))
    (l__law_rules : K.lookup f__law_rules = some ⟨oc__law_rules, od__law_rules, .func (PySem.W.fnOf "_law_rules" "_law_rules" (defArgs s__law_rules) (defBody s__law_rules) (defScope s__law_rules) .none kV__law_rules dc__law_rules pm__law_rules an__law_rules cd__law_rules ct__law_rules), sl__law_rules⟩)
    (c__law_rules : PySem.W.codeIn K cd__law_rules "_law_rules" = true)
    (k__law_rules : PySem.W.keepIn K (.ref f__law_rules) = true)
    (a__law_source : PySem.W.nsIn K mainGlobals "_law_source" = some (some (.ref f__law_source)))
    (l__law_source : K.lookup f__law_source = some ⟨oc__law_source, od__law_source, .func (PySem.W.fnOf "_law_source" "_law_source" (defArgs s__law_source) (defBody s__law_source) (defScope s__law_source) .none kV__law_source dc__law_source pm__law_source an__law_source cd__law_source ct__law_source), sl__law_source⟩)
    (c__law_source : PySem.W.codeIn K cd__law_source "_law_source" = true)
    (k__law_source : PySem.W.keepIn K (.ref f__law_source) = true)
    (a__law_told : PySem.W.nsIn K mainGlobals "_law_told" = some (some (.ref f__law_told)))
    (l__law_told : K.lookup f__law_told = some ⟨oc__law_told, od__law_told, .func (PySem.W.fnOf "_law_told" "_law_told" (defArgs s__law_told) (defBody s__law_told) (defScope s__law_told) .none kV__law_told dc__law_told pm__law_told an__law_told cd__law_told ct__law_told), sl__law_told⟩)
    (c__law_told : PySem.W.codeIn K cd__law_told "_law_told" = true)
    (k__law_told : PySem.W.keepIn K (.ref f__law_told) = true)
    (a_law : PySem.W.nsIn K mainGlobals "law" = some (some (.ref f_law)))
    (l_law : K.lookup f_law = some ⟨oc_law, od_law, .func (PySem.W.fnOf "law" "law" (defArgs s_law) (defBody s_law) (defScope s_law) .none kV_law dc_law pm_law an_law cd_law ct_law), sl_law⟩)
    (c_law : PySem.W.codeIn K cd_law "law" = true)
    (k_law : PySem.W.keepIn K (.ref f_law) = true)
    (z_all : PySem.W.nsIn K mainGlobals "all" = some none)
    (z_bool : PySem.W.nsIn K mainGlobals "bool" = some none)
    (z_enumerate : PySem.W.nsIn K mainGlobals "enumerate" = some none)
    (z_int : PySem.W.nsIn K mainGlobals "int" = some none)
    (z_isinstance : PySem.W.nsIn K mainGlobals "isinstance" = some none)
    (z_len : PySem.W.nsIn K mainGlobals "len" = some none)
    (z_list : PySem.W.nsIn K mainGlobals "list" = some none)
    (z_range : PySem.W.nsIn K mainGlobals "range" = some none)
    (z_set : PySem.W.nsIn K mainGlobals "set" = some none)
    (z_sorted : PySem.W.nsIn K mainGlobals "sorted" = some none)
    (z_str : PySem.W.nsIn K mainGlobals "str" = some none)
    (z_tuple : PySem.W.nsIn K mainGlobals "tuple" = some none)
    (v_MOST_CLAUSES : PySem.W.nsIn K mainGlobals "MOST_CLAUSES" = some (some (.int 6 tk_MOST_CLAUSES)))
    (v_MOST_CONDITIONS : PySem.W.nsIn K mainGlobals "MOST_CONDITIONS" = some (some (.int 4 tk_MOST_CONDITIONS)))
    (v_MOST_DIGIT : PySem.W.nsIn K mainGlobals "MOST_DIGIT" = some (some (.int 9 tk_MOST_DIGIT)))
    (v_MOST_LETTERS : PySem.W.nsIn K mainGlobals "MOST_LETTERS" = some (some (.int 8 tk_MOST_LETTERS)))
    (n_Kind_clause_row : PySem.W.findIn K (.ref C_Kind) "clause_row" = some none)
    (n_Kind_hand_states : PySem.W.findIn K (.ref C_Kind) "hand_states" = some none)
    (n_Kind_last_state : PySem.W.findIn K (.ref C_Kind) "last_state" = some none)
    (n_Kind_part_kinds : PySem.W.findIn K (.ref C_Kind) "part_kinds" = some none)
    : ∃ fd : FuncData, (∀ (s : Shared) (v : Value), BindsTo s fd ⟨[v], []⟩ [("_law_script", v)]) ∧ ∀ base : Heap, K.In base → base.Ns mainGlobals mg → FnOk l.prog w K mg base (L2.CX l.prog w) 8 fa fd ["_law_script"] (spLaw K) := by
  have e := hfa.symm.trans (PySem.W.mg_of X G a_law)
  cases e
  have cat_Kind : CAt K "Kind" C_Kind := aC_Kind
  have cl_Kind : Cls K C_Kind := ⟨pg_Kind, hd_Kind, po_Kind, sa_Kind⟩
  have T : Txt K mg := ⟨PySem.W.mg_none_of X G z_all, PySem.W.mg_none_of X G z_bool, PySem.W.mg_none_of X G z_enumerate, PySem.W.mg_none_of X G z_int, PySem.W.mg_none_of X G z_isinstance, PySem.W.mg_none_of X G z_len, PySem.W.mg_none_of X G z_list, PySem.W.mg_none_of X G z_range, PySem.W.mg_none_of X G z_set, PySem.W.mg_none_of X G z_sorted, PySem.W.mg_none_of X G z_str, PySem.W.mg_none_of X G z_tuple, ⟨_, PySem.W.mg_of X G v_MOST_CLAUSES⟩, ⟨_, PySem.W.mg_of X G v_MOST_CONDITIONS⟩, ⟨_, PySem.W.mg_of X G v_MOST_DIGIT⟩, ⟨_, PySem.W.mg_of X G v_MOST_LETTERS⟩, ⟨_, cat_Kind, cl_Kind⟩, fun C h => by cases h.inj cat_Kind; exact n_Kind_clause_row, fun C h => by cases h.inj cat_Kind; exact n_Kind_hand_states, fun C h => by cases h.inj cat_Kind; exact n_Kind_last_state, fun C h => by cases h.inj cat_Kind; exact n_Kind_part_kinds⟩
  have Fn_is_list := fun_mk (st := s_is_list) l_is_list c_is_list k_is_list
  have Fn_is_name := fun_mk (st := s_is_name) l_is_name c_is_name k_is_name
  have Fn_are_names := fun_mk (st := s_are_names) l_are_names c_are_names k_are_names
  have Fn_is_digit := fun_mk (st := s_is_digit) l_is_digit c_is_digit k_is_digit
  have Fn_is_condition := fun_mk (st := s_is_condition) l_is_condition c_is_condition k_is_condition
  have Fn_is_clause := fun_mk (st := s_is_clause) l_is_clause c_is_clause k_is_clause
  have Fn_are_clauses := fun_mk (st := s_are_clauses) l_are_clauses c_are_clauses k_are_clauses
  have Fn_copied_clause := fun_mk (st := s_copied_clause) l_copied_clause c_copied_clause k_copied_clause
  have Fn_Kind___init__ := fun_mk (st := s_Kind___init__) l_Kind___init__ c_Kind___init__ k_Kind___init__
  have Fn_holds := fun_mk (st := s_holds) l_holds c_holds k_holds
  have Fn_Kind_counting := fun_mk (st := s_Kind_counting) l_Kind_counting c_Kind_counting k_Kind_counting
  have Fn_Kind_told := fun_mk (st := s_Kind_told) l_Kind_told c_Kind_told k_Kind_told
  have Fn__law_draw := fun_mk (st := s__law_draw) l__law_draw c__law_draw k__law_draw
  have Fn__law_order := fun_mk (st := s__law_order) l__law_order c__law_order k__law_order
  have Fn__law_some := fun_mk (st := s__law_some) l__law_some c__law_some k__law_some
  have Fn__law_condition := fun_mk (st := s__law_condition) l__law_condition c__law_condition k__law_condition
  have Fn__law_index := fun_mk (st := s__law_index) l__law_index c__law_index k__law_index
  have Fn__law_lists := fun_mk (st := s__law_lists) l__law_lists c__law_lists k__law_lists
  have Fn__law_name := fun_mk (st := s__law_name) l__law_name c__law_name k__law_name
  have Fn__law_names := fun_mk (st := s__law_names) l__law_names c__law_names k__law_names
  have Fn__law_pick := fun_mk (st := s__law_pick) l__law_pick c__law_pick k__law_pick
  have Fn__law_subset := fun_mk (st := s__law_subset) l__law_subset c__law_subset k__law_subset
  have Fn__law_rules := fun_mk (st := s__law_rules) l__law_rules c__law_rules k__law_rules
  have Fn__law_source := fun_mk (st := s__law_source) l__law_source c__law_source k__law_source
  have Fn__law_told := fun_mk (st := s__law_told) l__law_told c__law_told k__law_told
  have Fn_law := fun_mk (st := s_law) l_law c_law k_law
  refine ⟨PySem.W.fnOf "law" "law" (defArgs s_law) (defBody s_law) (defScope s_law) .none kV_law dc_law pm_law an_law cd_law ct_law, fun s v => .of_eq rfl, fun base _ _ => ?_⟩
  have D_is_list : DefOk l.prog w K mg base 1 1 "is_list" F_is_list := ⟨⟨f_is_list, _, _, rfl, fn_is_list Fn_is_list T , PySem.W.mg_of X G a_is_list, k_is_list, bd_is_list Fn_is_list⟩⟩
  have D_is_name : DefOk l.prog w K mg base 1 1 "is_name" F_is_name := ⟨⟨f_is_name, _, _, rfl, fn_is_name Fn_is_name T , PySem.W.mg_of X G a_is_name, k_is_name, bd_is_name Fn_is_name⟩⟩
  have D_are_names : DefOk l.prog w K mg base 1 2 "are_names" F_are_names := ⟨⟨f_are_names, _, _, rfl, fn_are_names Fn_are_names T D_is_list D_is_name, PySem.W.mg_of X G a_are_names, k_are_names, bd_are_names Fn_are_names⟩⟩
  have D_is_digit : DefOk l.prog w K mg base 1 1 "is_digit" F_is_digit := ⟨⟨f_is_digit, _, _, rfl, fn_is_digit Fn_is_digit T , PySem.W.mg_of X G a_is_digit, k_is_digit, bd_is_digit Fn_is_digit⟩⟩
  have D_is_condition : DefOk l.prog w K mg base 1 3 "is_condition" F_is_condition := ⟨⟨f_is_condition, _, _, rfl, fn_is_condition Fn_is_condition T D_are_names D_is_digit D_is_list, PySem.W.mg_of X G a_is_condition, k_is_condition, bd_is_condition Fn_is_condition⟩⟩
  have D_is_clause : DefOk l.prog w K mg base 1 4 "is_clause" F_is_clause := ⟨⟨f_is_clause, _, _, rfl, fn_is_clause Fn_is_clause T D_is_condition D_is_list D_is_name, PySem.W.mg_of X G a_is_clause, k_is_clause, bd_is_clause Fn_is_clause⟩⟩
  have D_are_clauses : DefOk l.prog w K mg base 1 5 "are_clauses" F_are_clauses := ⟨⟨f_are_clauses, _, _, rfl, fn_are_clauses Fn_are_clauses T D_is_clause D_is_list, PySem.W.mg_of X G a_are_clauses, k_are_clauses, bd_are_clauses Fn_are_clauses⟩⟩
  have D_copied_clause : DefOk l.prog w K mg base 1 1 "copied_clause" F_copied_clause := ⟨⟨f_copied_clause, _, _, rfl, fn_copied_clause Fn_copied_clause T , PySem.W.mg_of X G a_copied_clause, k_copied_clause, bd_copied_clause Fn_copied_clause⟩⟩
  have D_Kind___init__ : InitOk l.prog w K mg base 4 6 "Kind" F_Kind___init__ := ⟨⟨C_Kind, f_Kind___init__, _, _, rfl, cat_Kind, PySem.W.mg_of X G aC_Kind, ⟨mk_Kind, a_Kind___init__, i_Kind___init__, kc_Kind⟩, fn_Kind___init__ Fn_Kind___init__ T D_are_clauses D_are_names D_copied_clause D_is_name, bd_Kind___init__ Fn_Kind___init__⟩⟩
  have D_holds : DefOk l.prog w K mg base 2 1 "holds" F_holds := ⟨⟨f_holds, _, _, rfl, fn_holds Fn_holds T , PySem.W.mg_of X G a_holds, k_holds, bd_holds Fn_holds⟩⟩
  have D_Kind_counting : MethOk l.prog w K mg base 2 2 "Kind" "counting" F_Kind_counting := ⟨⟨C_Kind, f_Kind_counting, _, _, rfl, cat_Kind, cl_Kind, ⟨a_Kind_counting, i_Kind_counting, k_Kind_counting⟩, fn_Kind_counting Fn_Kind_counting T D_holds, bd_Kind_counting Fn_Kind_counting⟩⟩
  have D_Kind_told : MethOk l.prog w K mg base 2 3 "Kind" "told" F_Kind_told := ⟨⟨C_Kind, f_Kind_told, _, _, rfl, cat_Kind, cl_Kind, ⟨a_Kind_told, i_Kind_told, k_Kind_told⟩, fn_Kind_told Fn_Kind_told T D_Kind_counting, bd_Kind_told Fn_Kind_told⟩⟩
  have D__law_draw : DefOk l.prog w K mg base 2 1 "_law_draw" F__law_draw := ⟨⟨f__law_draw, _, _, rfl, fn__law_draw Fn__law_draw T , PySem.W.mg_of X G a__law_draw, k__law_draw, bd__law_draw Fn__law_draw⟩⟩
  have D__law_order : DefOk l.prog w K mg base 2 2 "_law_order" F__law_order := ⟨⟨f__law_order, _, _, rfl, fn__law_order Fn__law_order T D__law_draw, PySem.W.mg_of X G a__law_order, k__law_order, bd__law_order Fn__law_order⟩⟩
  have D__law_some : DefOk l.prog w K mg base 2 3 "_law_some" F__law_some := ⟨⟨f__law_some, _, _, rfl, fn__law_some Fn__law_some T D__law_draw D__law_order, PySem.W.mg_of X G a__law_some, k__law_some, bd__law_some Fn__law_some⟩⟩
  have D__law_condition : DefOk l.prog w K mg base 2 4 "_law_condition" F__law_condition := ⟨⟨f__law_condition, _, _, rfl, fn__law_condition Fn__law_condition T D__law_draw D__law_some, PySem.W.mg_of X G a__law_condition, k__law_condition, bd__law_condition Fn__law_condition⟩⟩
  have D__law_index : DefOk l.prog w K mg base 2 1 "_law_index" F__law_index := ⟨⟨f__law_index, _, _, rfl, fn__law_index Fn__law_index T , PySem.W.mg_of X G a__law_index, k__law_index, bd__law_index Fn__law_index⟩⟩
  have D__law_lists : DefOk l.prog w K mg base 2 1 "_law_lists" F__law_lists := ⟨⟨f__law_lists, _, _, rfl, fn__law_lists Fn__law_lists T , PySem.W.mg_of X G a__law_lists, k__law_lists, bd__law_lists Fn__law_lists⟩⟩
  have D__law_name : DefOk l.prog w K mg base 2 2 "_law_name" F__law_name := ⟨⟨f__law_name, _, _, rfl, fn__law_name Fn__law_name T D__law_draw, PySem.W.mg_of X G a__law_name, k__law_name, bd__law_name Fn__law_name⟩⟩
  have D__law_names : DefOk l.prog w K mg base 2 3 "_law_names" F__law_names := ⟨⟨f__law_names, _, _, rfl, fn__law_names Fn__law_names T D__law_name, PySem.W.mg_of X G a__law_names, k__law_names, bd__law_names Fn__law_names⟩⟩
  have D__law_pick : DefOk l.prog w K mg base 2 2 "_law_pick" F__law_pick := ⟨⟨f__law_pick, _, _, rfl, fn__law_pick Fn__law_pick T D__law_draw, PySem.W.mg_of X G a__law_pick, k__law_pick, bd__law_pick Fn__law_pick⟩⟩
  have D__law_subset : DefOk l.prog w K mg base 2 2 "_law_subset" F__law_subset := ⟨⟨f__law_subset, _, _, rfl, fn__law_subset Fn__law_subset T D__law_draw, PySem.W.mg_of X G a__law_subset, k__law_subset, bd__law_subset Fn__law_subset⟩⟩
  have D__law_rules : DefOk l.prog w K mg base 3 5 "_law_rules" F__law_rules := ⟨⟨f__law_rules, _, _, rfl, fn__law_rules Fn__law_rules T D__law_condition D__law_draw D__law_pick D__law_subset, PySem.W.mg_of X G a__law_rules, k__law_rules, bd__law_rules Fn__law_rules⟩⟩
  have D__law_source : DefOk l.prog w K mg base 1 1 "_law_source" F__law_source := ⟨⟨f__law_source, _, _, rfl, fn__law_source Fn__law_source T , PySem.W.mg_of X G a__law_source, k__law_source, bd__law_source Fn__law_source⟩⟩
  have D__law_told : DefOk l.prog w K mg base 2 2 "_law_told" F__law_told := ⟨⟨f__law_told, _, _, rfl, fn__law_told Fn__law_told T D__law_index, PySem.W.mg_of X G a__law_told, k__law_told, bd__law_told Fn__law_told⟩⟩
  exact (fn_law Fn_law T D_Kind___init__ D_Kind_counting D_Kind_told D__law_condition D__law_draw D__law_index D__law_lists D__law_names D__law_order D__law_pick D__law_rules D__law_source D__law_told).imp (law_imp law_true)
theorem walk {l : PySem.W.OpenLaw} {q : Program} {loose : List Str} {XP : (Str → Option Value) → Heap → Prop} {YP : World → Heap → Prop} {d : DefRec} {K : Params → PySem.W.Frag} (hn : l.most = some 63) (hdf : d.params.defaults = []) (hY : ∀ (w : World) (h : Heap), YP w h → (K w.params).In h)
    (F : ∀ (w : World) (mg : Str → Option Value) (fa : Addr) (h : Heap), (K w.params).In h → h.Ns mainGlobals mg → mg d.name = some (.ref fa) → ∃ fd : FuncData, (∀ (s : Shared) (u : Value), BindsTo s fd ⟨[u], []⟩ [("_law_script", u)]) ∧ ∀ base : Heap, (K w.params).In base → base.Ns mainGlobals mg → FnOk l.prog w (K w.params) mg base (L2.CX l.prog w) 8 fa fd ["_law_script"] (spLaw (K w.params))) :
    PySem.W.WalkO q loose XP YP l.row.toRowW d [] (fun f vs => PySem.call f vs) :=
  L2.walk_of (n := 63) (k := 8) (x := "_law_script") (CX := fun w => L2.CX l.prog w) (sp := fun w => spLaw (K w.params)) hn (by decide) hdf ⟨rfl, by decide, by decide⟩ hY F (fun _ _ a ns hl _ hS => ⟨a, ns, rfl, hS, hl, fun _ => rfl⟩) fun _ _ _ _ _ z => by
    obtain ⟨_, _, _, _, _, _, _, _, _, _, _, _, z⟩ := z
    exact z
end G

namespace M
open PySem L2 Ev G
/-- the draws' cell at s: the great number, the seed, how often was drawn (at most c times) -/
def Src (m : Mem) (s : Nat) (c : Nat) : Prop := ∃ g sd k : Int, m[s]? = some (some (.lst [.int g, .int sd, .int k])) ∧ 0 ≤ sd ∧ sd < 2147483647 ∧ 0 ≤ k ∧ k ≤ c
/-- all but the cell s is as it was -/
structure Fr (s : Nat) (m m' : Mem) : Prop where
  len : m.length ≤ m'.length
  get : ∀ i, i < m.length → i ≠ s → m'[i]? = m[i]?
theorem Fr.refl {s : Nat} {m : Mem} : Fr s m m := ⟨Nat.le_refl _, fun _ _ _ => rfl⟩
theorem Fr.trans {s : Nat} {m m1 m2 : Mem} (a : Fr s m m1) (b : Fr s m1 m2) : Fr s m m2 :=
  ⟨Nat.le_trans a.len b.len, fun i h n => (b.get i (Nat.lt_of_lt_of_le h a.len) n).trans (a.get i h n)⟩
theorem Fr.cell {s j : Nat} {m m' : Mem} {o : MO} (f : Fr s m m') (h : m[j]? = some (some o)) (n : j ≠ s) : m'[j]? = some (some o) := by
  rw [f.get j (List.getElem?_eq_some_iff.mp h).1 n]; exact h
theorem Src.mono {m : Mem} {s c d : Nat} (h : Src m s c) (hd : c ≤ d) : Src m s d := by
  obtain ⟨g, sd, k, a, b, e, f, i⟩ := h
  exact ⟨g, sd, k, a, b, e, f, by omega⟩
theorem Src.app {m : Mem} {s c : Nat} (h : Src m s c) (t : Mem) : Src (m ++ t) s c := by
  obtain ⟨g, sd, k, a, b⟩ := h
  exact ⟨g, sd, k, by rw [List.getElem?_append_left (List.getElem?_eq_some_iff.mp a).1]; exact a, b⟩
theorem Src.set {m : Mem} {s c j : Nat} (h : Src m s c) (n : j ≠ s) (o : Option MO) : Src (m.set j o) s c := by
  obtain ⟨g, sd, k, a, b⟩ := h
  exact ⟨g, sd, k, by rw [List.getElem?_set_ne n]; exact a, b⟩
theorem Src.lt {m : Mem} {s c : Nat} (h : Src m s c) : s < m.length := by
  obtain ⟨g, sd, k, a, b⟩ := h
  exact (List.getElem?_eq_some_iff.mp a).1
theorem Fr.app {s : Nat} {m : Mem} (t : Mem) : Fr s m (m ++ t) := ⟨by simp, fun i h _ => List.getElem?_append_left h⟩
theorem at0 {α : Type} {a : α} {ts : List α} : atI (a :: ts) 0 = some a := by
  unfold atI ixN
  rw [if_pos (by decide), if_pos (by simp only [List.length_cons]; omega)]; rfl
theorem at1 {α : Type} {a b : α} {ts : List α} : atI (a :: b :: ts) 1 = some b := by
  unfold atI ixN
  rw [if_pos (by decide), if_pos (by simp only [List.length_cons]; omega)]; rfl
theorem at2 {α : Type} {a b c : α} {ts : List α} : atI (a :: b :: c :: ts) 2 = some c := by
  unfold atI ixN
  rw [if_pos (by decide), if_pos (by simp only [List.length_cons]; omega)]; rfl
theorem at3 {α : Type} {a b c d : α} {ts : List α} : atI (a :: b :: c :: d :: ts) 3 = some d := by
  unfold atI ixN
  rw [if_pos (by decide), if_pos (by simp only [List.length_cons]; omega)]; rfl
theorem ix30 : ixN 3 0 = some 0 := by decide
theorem ix31 : ixN 3 1 = some 1 := by decide
theorem ix32 : ixN 3 2 = some 2 := by decide
theorem atN {α : Type} {ts : List α} {k : Nat} {t : α} (h : ts[k]? = some t) : atI ts (k : Int) = some t := by
  have hl := (List.getElem?_eq_some_iff.mp h).1
  unfold atI ixN
  rw [if_pos (by omega), if_pos (by omega)]
  simp [h]
theorem atB {α : Type} {ts : List α} {i : Int} (h0 : 0 ≤ i) (h1 : i < ts.length) : ∃ t, atI ts i = some t ∧ ts[i.toNat]? = some t ∧ t ∈ ts := by
  have hl : i.toNat < ts.length := by omega
  refine ⟨ts[i.toNat], ?_, List.getElem?_eq_getElem hl, List.getElem_mem hl⟩
  have := atN (ts := ts) (List.getElem?_eq_getElem hl)
  rwa [Int.toNat_of_nonneg h0] at this
theorem small_of {k : Nat} {i : Int} (h0 : 0 ≤ i) (h1 : i < 2 ^ k) : small k i = true := by
  unfold small
  simp only [Bool.and_eq_true, decide_eq_true_eq]
  have : (0 : Int) < 2 ^ k := by omega
  omega
theorem draw_spec {m : Mem} {s c : Nat} {many : Int} (h : Src m s c) (hc : c < 900000) (h0 : 0 < many) (h1 : many < 1073741824) : ∃ d m', F__law_draw [.loc s, .int many] m = .ok (.int d) m' ∧ 0 ≤ d ∧ d < many ∧ Src m' s (c + 1) ∧ Fr s m m' := by
  obtain ⟨g, sd, k, hm, s0, s1, k0, kc⟩ := h
  have hl := (List.getElem?_eq_some_iff.mp hm).1
  unfold F__law_draw B__law_draw
  simp only [fnOf, sSeq, sOf, sIf, sAsg, sNil, sNo, sSetIx, sFor, sPar, e2, e1, eVar, eC, eOfL, lNil, lCons, eCall, bV, bAnd, bOr, bNot, eAnd, eOr, eNot, eIf, eMeth, eComp, iVal, iRange, iRange2, eListRange, eSlice, oNone, oSome, eChain, gN, gT, gTL, gsCons, gsNil, frz, sFrz, bYes, Out.bind, gAdd, Ev.gSub, gMul, gMod, gDiv, gPow, gIx, gLt, gLe, gGt, gGe, gOrd, gEq, gNe, gEqB, gIsN, gInt, gLen, gTuple, gList, gTupL, gLstL, gAllAny, gAppend, gExtend, gPop, gPopAt, gJoin, gSetL, gSlice, gSorted, gIsi, mk, asL, asO, asT, asSeq, cellL, isTy, items, gEn, iEnumA, eIsiT, tyOf, wipeE, eNeg, List.map_cons, List.map_nil, List.cons_append, List.nil_append, List.append_nil, List.length_cons, List.length_nil, List.replicate_succ, List.replicate_zero, List.getElem?_cons_zero, List.getElem?_cons_succ, List.set_cons_zero, List.set_cons_succ, Option.bind_some, if_true, if_false, Bool.false_eq_true, Bool.not_true, Bool.not_false, reduceIte, Nat.reduceSub, Nat.reduceAdd, Nat.reduceEqDiff, Int.reduceSub, Int.reduceAdd, Int.reduceMul, Int.reduceLE, Int.reduceLT, Int.reduceNeg, Nat.reduceLeDiff, Nat.reduceLT, reduceCtorEq, decide_true, decide_false, beq_self_eq_true, String.reduceBEq, and_self, true_and, and_true, at0, at1, at2, at3, ix30, ix31, ix32, hm, List.getElem?_set_self hl]
  by_cases hg : 1 < g
  · simp only [fnOf, sSeq, sOf, sIf, sAsg, sNil, sNo, sSetIx, sFor, sPar, e2, e1, eVar, eC, eOfL, lNil, lCons, eCall, bV, bAnd, bOr, bNot, eAnd, eOr, eNot, eIf, eMeth, eComp, iVal, iRange, iRange2, eListRange, eSlice, oNone, oSome, eChain, gN, gT, gTL, gsCons, gsNil, frz, sFrz, bYes, Out.bind, gAdd, Ev.gSub, gMul, gMod, gDiv, gPow, gIx, gLt, gLe, gGt, gGe, gOrd, gEq, gNe, gEqB, gIsN, gInt, gLen, gTuple, gList, gTupL, gLstL, gAllAny, gAppend, gExtend, gPop, gPopAt, gJoin, gSetL, gSlice, gSorted, gIsi, mk, asL, asO, asT, asSeq, cellL, isTy, items, gEn, iEnumA, eIsiT, tyOf, wipeE, eNeg, List.map_cons, List.map_nil, List.cons_append, List.nil_append, List.append_nil, List.length_cons, List.length_nil, List.replicate_succ, List.replicate_zero, List.getElem?_cons_zero, List.getElem?_cons_succ, List.set_cons_zero, List.set_cons_succ, Option.bind_some, if_true, if_false, Bool.false_eq_true, Bool.not_true, Bool.not_false, reduceIte, Nat.reduceSub, Nat.reduceAdd, Nat.reduceEqDiff, Int.reduceSub, Int.reduceAdd, Int.reduceMul, Int.reduceLE, Int.reduceLT, Int.reduceNeg, Nat.reduceLeDiff, Nat.reduceLT, reduceCtorEq, decide_true, decide_false, beq_self_eq_true, String.reduceBEq, and_self, true_and, and_true, at0, at1, at2, at3, ix30, ix31, ix32, hg, h0, h1, List.getElem?_set_self hl, List.set_set, List.length_set]
    refine ⟨g % many, _, rfl, Int.emod_nonneg _ (by omega), Int.emod_lt_of_pos _ h0, ⟨g / many, sd, k + 1, by simp [hl], s0, s1, by omega, by omega⟩, ⟨by simp, fun i _ n => by rw [List.getElem?_set_ne (by omega)]⟩⟩
  · have b1 : (small 64 7919 || small 64 (k + 1)) = true := by rw [show small 64 7919 = true by decide]; rfl
    have b2 : (small 64 16807 || small 64 (k + 1)) = true := by rw [show small 64 16807 = true by decide]; rfl
    have b4 : (small 64 (16807 * (k + 1)) || small 64 (k + 1)) = true := by rw [small_of (i := k + 1) (by omega) (by omega)]; simp
    have p1 : ((0 : Int) ≤ 5 ∧ (5 : Int) ≤ 100 ∧ (sd + 7919 * (k + 1)).natAbs < 2 ^ 64) := ⟨by decide, by decide, by omega⟩
    simp only [fnOf, sSeq, sOf, sIf, sAsg, sNil, sNo, sSetIx, sFor, sPar, e2, e1, eVar, eC, eOfL, lNil, lCons, eCall, bV, bAnd, bOr, bNot, eAnd, eOr, eNot, eIf, eMeth, eComp, iVal, iRange, iRange2, eListRange, eSlice, oNone, oSome, eChain, gN, gT, gTL, gsCons, gsNil, frz, sFrz, bYes, Out.bind, gAdd, Ev.gSub, gMul, gMod, gDiv, gPow, gIx, gLt, gLe, gGt, gGe, gOrd, gEq, gNe, gEqB, gIsN, gInt, gLen, gTuple, gList, gTupL, gLstL, gAllAny, gAppend, gExtend, gPop, gPopAt, gJoin, gSetL, gSlice, gSorted, gIsi, mk, asL, asO, asT, asSeq, cellL, isTy, items, gEn, iEnumA, eIsiT, tyOf, wipeE, eNeg, List.map_cons, List.map_nil, List.cons_append, List.nil_append, List.append_nil, List.length_cons, List.length_nil, List.replicate_succ, List.replicate_zero, List.getElem?_cons_zero, List.getElem?_cons_succ, List.set_cons_zero, List.set_cons_succ, Option.bind_some, if_true, if_false, Bool.false_eq_true, Bool.not_true, Bool.not_false, reduceIte, Nat.reduceSub, Nat.reduceAdd, Nat.reduceEqDiff, Int.reduceSub, Int.reduceAdd, Int.reduceMul, Int.reduceLE, Int.reduceLT, Int.reduceNeg, Nat.reduceLeDiff, Nat.reduceLT, reduceCtorEq, decide_true, decide_false, beq_self_eq_true, String.reduceBEq, and_self, true_and, and_true, at0, at1, at2, at3, ix30, ix31, ix32, hg, List.getElem?_set_self hl, b1, b2, b4, p1.2.2]
    generalize hf : (sd + 7919 * (k + 1)) ^ (5 : Int).toNat % 2147483629 = f
    have f0 : 0 ≤ f := by rw [← hf]; exact Int.emod_nonneg _ (by decide)
    have f1 : f < 2147483629 := by rw [← hf]; exact Int.emod_lt_of_pos _ (by decide)
    have b3 : (small 64 f || small 64 48271) = true := by rw [show small 64 48271 = true by decide]; simp
    have q : (k + 1) * (k + 1) ≤ 900000 * 900000 := Int.mul_le_mul (by omega) (by omega) (by omega) (by omega)
    have q0 : 0 ≤ (k + 1) * (k + 1) := Int.mul_nonneg (by omega) (by omega)
    have p2 : ((0 : Int) ≤ 3 ∧ (3 : Int) ≤ 100 ∧ (f * 48271 + 16807 * (k + 1) * (k + 1) + 11).natAbs < 2 ^ 64) := ⟨by decide, by decide, by rw [Int.mul_assoc]; omega⟩
    simp only [fnOf, sSeq, sOf, sIf, sAsg, sNil, sNo, sSetIx, sFor, sPar, e2, e1, eVar, eC, eOfL, lNil, lCons, eCall, bV, bAnd, bOr, bNot, eAnd, eOr, eNot, eIf, eMeth, eComp, iVal, iRange, iRange2, eListRange, eSlice, oNone, oSome, eChain, gN, gT, gTL, gsCons, gsNil, frz, sFrz, bYes, Out.bind, gAdd, Ev.gSub, gMul, gMod, gDiv, gPow, gIx, gLt, gLe, gGt, gGe, gOrd, gEq, gNe, gEqB, gIsN, gInt, gLen, gTuple, gList, gTupL, gLstL, gAllAny, gAppend, gExtend, gPop, gPopAt, gJoin, gSetL, gSlice, gSorted, gIsi, mk, asL, asO, asT, asSeq, cellL, isTy, items, gEn, iEnumA, eIsiT, tyOf, wipeE, eNeg, List.map_cons, List.map_nil, List.cons_append, List.nil_append, List.append_nil, List.length_cons, List.length_nil, List.replicate_succ, List.replicate_zero, List.getElem?_cons_zero, List.getElem?_cons_succ, List.set_cons_zero, List.set_cons_succ, Option.bind_some, if_true, if_false, Bool.false_eq_true, Bool.not_true, Bool.not_false, reduceIte, Nat.reduceSub, Nat.reduceAdd, Nat.reduceEqDiff, Int.reduceSub, Int.reduceAdd, Int.reduceMul, Int.reduceLE, Int.reduceLT, Int.reduceNeg, Nat.reduceLeDiff, Nat.reduceLT, reduceCtorEq, decide_true, decide_false, beq_self_eq_true, String.reduceBEq, and_self, true_and, and_true, at0, at1, at2, at3, ix30, ix31, ix32, List.getElem?_set_self hl, b2, b4, b3, p2.2.2, h0]
    refine ⟨_, m.set s (some (.lst [.int g, .int sd, .int (k + 1)])), rfl, Int.emod_nonneg _ (by omega), Int.emod_lt_of_pos _ h0, ⟨g, sd, k + 1, by simp [hl], s0, s1, by omega, by omega⟩, ⟨by simp, fun i _ n => by rw [List.getElem?_set_ne (by omega)]⟩⟩
end M

namespace M
open PySem hiding Env
open L2 Ev G
/-! ### what a piece of code brings about -/
def Ok {α : Type} (o : Out α) (P : α → Mem → Prop) : Prop := ∃ a m, o = .ok a m ∧ P a m
def Nx (o : SOut) (P : Env → Mem → Prop) : Prop := ∃ e m, o = .nx e m ∧ P e m
def Rt (o : SOut) (P : T → Mem → Prop) : Prop := ∃ t m, o = .rt t m ∧ P t m
def Bl (t : T) (m : Mem) (PB : Bool → Mem → Prop) : Prop := ∃ x, t = .bl x ∧ PB x m
def It (t : T) (m : Mem) (PL : List T → Mem → Prop) : Prop := ∃ ts, items t = some ts ∧ PL ts m
def Rg (ts : List T) (m : Mem) (PL : List T → Mem → Prop) : Prop := ∃ n, ts = [.int n] ∧ -1000000 ≤ n ∧ n ≤ 1000000 ∧ PL (rng 0 n) m
def Calls (n : Nat) (F : FS) (xs : List T) (m : Mem) (P : T → Mem → Prop) : Prop := xs.length = n ∧ Ok (F xs m) P
def En (ts : List T) (m : Mem) (PL : List T → Mem → Prop) : Prop := ∃ us, (ts = [.lst us] ∨ ts = [.tup us]) ∧ PL (enumT 0 us) m
section
variable {env : Env} {m : Mem} {P : T → Mem → Prop} {PB : Bool → Mem → Prop} {PL : List T → Mem → Prop} {PE : Env → Mem → Prop} {fa fb fc : EF} {fs : LF} {f g : SF} {b c : BF}
theorem Ok.imp {α : Type} {o : Out α} {P Q : α → Mem → Prop} (h : Ok o P) (i : ∀ a m, P a m → Q a m) : Ok o Q := let ⟨a, m, e, p⟩ := h; ⟨a, m, e, i a m p⟩
theorem Nx.imp {o : SOut} {P Q : Env → Mem → Prop} (h : Nx o P) (i : ∀ a m, P a m → Q a m) : Nx o Q := let ⟨a, m, e, p⟩ := h; ⟨a, m, e, i a m p⟩
theorem Ok.of {α : Type} {o : Out α} {P : α → Mem → Prop} {a : α} {m : Mem} (e : o = .ok a m) (p : P a m) : Ok o P := ⟨a, m, e, p⟩
theorem Ok.bind {α β : Type} {o : Out α} {k : α → Mem → Out β} {P : β → Mem → Prop} (h : Ok o fun a m => Ok (k a m) P) : Ok (o.bind k) P := by
  obtain ⟨a, m, rfl, p⟩ := h
  exact p
theorem ok_fn {n : Nat} {ts : List T} (h : Rt (g (ts.map some ++ List.replicate (n - ts.length) none) m) P) : Ok (fnOf n g ts m) P := by
  obtain ⟨t, m', e, p⟩ := h
  exact ⟨t, m', by unfold fnOf; rw [e], p⟩
theorem ok_fnN {n : Nat} {ts : List T} (h : Nx (g (ts.map some ++ List.replicate (n - ts.length) none) m) fun _ m1 => P .non m1) : Ok (fnOf n g ts m) P := by
  obtain ⟨t, m', e, p⟩ := h
  exact ⟨_, m', by unfold fnOf; rw [e], p⟩
theorem nx_seq (h : Nx (f env m) fun e1 m1 => Nx (g e1 m1) PE) : Nx (sSeq f g env m) PE := by
  obtain ⟨t, m', e, p⟩ := h
  unfold sSeq; rw [e]; exact p
theorem rt_seq (h : Nx (f env m) fun e1 m1 => Rt (g e1 m1) P) : Rt (sSeq f g env m) P := by
  obtain ⟨t, m', e, p⟩ := h
  unfold sSeq; rw [e]; exact p
theorem rt_seq0 (h : Rt (f env m) P) : Rt (sSeq f g env m) P := by
  obtain ⟨t, m', e, p⟩ := h
  unfold sSeq; rw [e]; exact ⟨t, m', rfl, p⟩
theorem nx_nil (h : PE env m) : Nx (sNil env m) PE := ⟨_, _, rfl, h⟩
theorem nx_nx (h : PE env m) : Nx (.nx env m) PE := ⟨_, _, rfl, h⟩
theorem rt_rt {t : T} (h : P t m) : Rt (.rt t m) P := ⟨_, _, rfl, h⟩
theorem nx_of {k : T → Env → Mem → SOut} (h : Ok (fa env m) fun t m1 => Nx (k t env m1) PE) : Nx (sOf fa k env m) PE := by
  obtain ⟨t, m', e, p⟩ := h
  unfold sOf; rw [e]; exact p
theorem rt_of {k : T → Env → Mem → SOut} (h : Ok (fa env m) fun t m1 => Rt (k t env m1) P) : Rt (sOf fa k env m) P := by
  obtain ⟨t, m', e, p⟩ := h
  unfold sOf; rw [e]; exact p
theorem nx_if (h : Ok (b env m) fun x m1 => if x then Nx (f env m1) PE else Nx (g env m1) PE) : Nx (sIf b f g env m) PE := by
  obtain ⟨t, m', e, p⟩ := h
  unfold sIf; rw [e]
  cases t <;> exact p
theorem rt_if (h : Ok (b env m) fun x m1 => if x then Rt (f env m1) P else Rt (g env m1) P) : Rt (sIf b f g env m) P := by
  obtain ⟨t, m', e, p⟩ := h
  unfold sIf; rw [e]
  cases t <;> exact p
theorem nx_asg {gt : GF} (h : Ok (fa env m) fun t m1 => ∃ env1, gt t env = some env1 ∧ PE env1 m1) : Nx (sAsg fa gt env m) PE := by
  obtain ⟨t, m', e, env1, e1, p⟩ := h
  unfold sAsg sOf; rw [e]; exact ⟨env1, m', by simp only [e1], p⟩
theorem nx_par {i j : Nat} (h : Ok (fs env m) fun ts m1 => ∃ t u, ts = [t, u] ∧ PE ((env.set i (some t)).set j (some u)) m1) : Nx (sPar i j fs env m) PE := by
  obtain ⟨t, m', e, x, y, rfl, p⟩ := h
  unfold sPar; rw [e]; exact ⟨_, m', rfl, p⟩
theorem rt_frz {i : Nat} {env1 : Env} {m1 : Mem} (e : frz i env m = some (env1, m1)) (h : Rt (g env1 m1) P) : Rt (sFrz i g env m) P := by
  unfold sFrz; rw [e]; exact h
theorem nx_frz {i : Nat} {env1 : Env} {m1 : Mem} (e : frz i env m = some (env1, m1)) (h : Nx (g env1 m1) PE) : Nx (sFrz i g env m) PE := by
  unfold sFrz; rw [e]; exact h
theorem frz_of {i n : Nat} {ts : List T} (e : env[i]? = some (some (.loc n))) (h : m[n]? = some (some (.lst ts))) : frz i env m = some (env.set i (some (.lst ts)), m.set n none) := by
  unfold frz; simp only [e, h]
theorem ok_var {i : Nat} {t : T} (e : env[i]? = some (some t)) (h : P t m) : Ok (eVar i env m) P := ⟨t, m, by unfold eVar; rw [e], h⟩
theorem ok_c {t : T} (h : P t m) : Ok (eC t env m) P := ⟨t, m, rfl, h⟩
theorem ok_e2 {o : T → T → Mem → Out T} (h : Ok (fa env m) fun x m1 => Ok (fb env m1) fun y m2 => Ok (o x y m2) P) : Ok (e2 o fa fb env m) P := Ok.bind (h.imp fun _ _ h => Ok.bind h)
theorem ok_nil (h : PL [] m) : Ok (lNil env m) PL := ⟨_, _, rfl, h⟩
theorem ok_cons (h : Ok (fa env m) fun x m1 => Ok (fs env m1) fun xs m2 => PL (x :: xs) m2) : Ok (lCons fa fs env m) PL := Ok.bind (h.imp fun _ _ h => Ok.bind (h.imp fun _ _ h => ⟨_, _, rfl, h⟩))
theorem ok_ofL {o : List T → Mem → Out T} (h : Ok (fs env m) fun xs m1 => Ok (o xs m1) P) : Ok (eOfL o fs env m) P := Ok.bind h
theorem ok_call {n : Nat} {F : FS} (h : Ok (fs env m) fun xs m1 => Calls n F xs m1 P) : Ok (eCall n F fs env m) P :=
  Ok.bind (h.imp fun xs m1 ⟨e, h⟩ => by rw [if_pos e]; exact h)
theorem ok_meth {n : String} {o : T → List T → Mem → Out T} (h : Ok (fa env m) fun x m1 => isTy n m1 x = true ∧ Ok (fs env m1) fun xs m2 => Ok (o x xs m2) P) : Ok (eMeth n o fa fs env m) P :=
  Ok.bind (h.imp fun xs m1 ⟨e, h⟩ => by rw [if_pos e]; exact Ok.bind h)
theorem ok_bV (h : Ok (fa env m) fun t m1 => Bl t m1 PB) : Ok (bV fa env m) PB := Ok.bind (h.imp fun t m1 ⟨x, e, h⟩ => by subst e; exact ⟨x, m1, rfl, h⟩)
theorem ok_bNot (h : Ok (b env m) fun x m1 => PB (!x) m1) : Ok (bNot b env m) PB := Ok.bind (h.imp fun t m1 h => ⟨_, m1, rfl, h⟩)
theorem ok_bAnd (h : Ok (b env m) fun x m1 => if x then Ok (c env m1) PB else PB false m1) : Ok (bAnd b c env m) PB := Ok.bind (h.imp fun t m1 h => by
  cases t with
  | true => exact h
  | false => exact ⟨_, _, rfl, h⟩)
theorem ok_bOr (h : Ok (b env m) fun x m1 => if x then PB true m1 else Ok (c env m1) PB) : Ok (bOr b c env m) PB := Ok.bind (h.imp fun t m1 h => by
  cases t with
  | false => exact h
  | true => exact ⟨_, _, rfl, h⟩)
theorem ok_eAnd (h : Ok (fa env m) fun t m1 => Bl t m1 fun x m1 => if x then Ok (fb env m1) P else P (.bl false) m1) : Ok (eAnd fa fb env m) P := Ok.bind (h.imp fun t m1 ⟨x, e, h⟩ => by
  subst e
  cases x with
  | true => exact h
  | false => exact ⟨_, _, rfl, h⟩)
theorem ok_eOr (h : Ok (fa env m) fun t m1 => Bl t m1 fun x m1 => if x then P (.bl true) m1 else Ok (fb env m1) P) : Ok (eOr fa fb env m) P := Ok.bind (h.imp fun t m1 ⟨x, e, h⟩ => by
  subst e
  cases x with
  | false => exact h
  | true => exact ⟨_, _, rfl, h⟩)
theorem ok_eNot (h : Ok (fa env m) fun t m1 => Bl t m1 fun x m1 => P (.bl (!x)) m1) : Ok (eNot fa env m) P := Ok.bind (h.imp fun t m1 ⟨x, e, h⟩ => by subst e; exact ⟨_, _, rfl, h⟩)
theorem ok_eIf (h : Ok (b env m) fun x m1 => if x then Ok (fa env m1) P else Ok (fb env m1) P) : Ok (eIf b fa fb env m) P := Ok.bind (h.imp fun t m1 h => by
  cases t with
  | false => exact h
  | true => exact h)
theorem ok_iVal (h : Ok (fa env m) fun t m1 => It t m1 PL) : Ok (iVal fa env m) PL := Ok.bind (h.imp fun t m1 ⟨ts, e, h⟩ => ⟨ts, m1, by simp only [e], h⟩)
theorem ok_range (h : Ok (fs env m) fun ts m1 => Rg ts m1 PL) : Ok (iRange fs env m) PL := Ok.bind (h.imp fun ts m1 ⟨n, e, h0, h1, h⟩ => by
  subst e
  exact ⟨_, m1, by simp only [h0, h1, and_self, if_true], h⟩)
theorem ok_range2 (h : Ok (fs env m) fun ts m1 => ∃ a b, ts = [.int a, .int b] ∧ (-1000000 ≤ a ∧ a ≤ 1000000 ∧ -1000000 ≤ b ∧ b ≤ 1000000) ∧ PL (rng a b) m1) : Ok (iRange2 fs env m) PL := Ok.bind (h.imp fun ts m1 ⟨a, b, e, h0, h⟩ => by
  subst e
  exact ⟨_, m1, by simp only [h0, and_self, if_true], h⟩)
theorem ok_listRange {mu : Bool} (h : Ok (fa env m) fun t m1 => ∃ n, t = .int n ∧ -1000000 ≤ n ∧ n ≤ 1000000 ∧ Ok (mk mu (rng 0 n) m1) P) : Ok (eListRange mu fa env m) P := Ok.bind (h.imp fun t m1 ⟨n, e, h0, h1, h⟩ => by
  subst e
  show Ok (if -1000000 ≤ n ∧ n ≤ 1000000 then mk mu (rng 0 n) m1 else Out.no) P
  rw [if_pos ⟨h0, h1⟩]; exact h)
theorem ok_enum (h : Ok (fs env m) fun ts m1 => En ts m1 PL) : Ok (iEnumA fs env m) PL := Ok.bind (h.imp fun ts m1 ⟨us, e, h⟩ => by
  rcases e with e | e <;> subst e <;> exact ⟨_, _, rfl, h⟩)
theorem bl_mk {x : Bool} (h : PB x m) : Bl (.bl x) m PB := ⟨x, rfl, h⟩
theorem it_lst {ts : List T} (h : PL ts m) : It (.lst ts) m PL := ⟨ts, rfl, h⟩
theorem it_tup {ts : List T} (h : PL ts m) : It (.tup ts) m PL := ⟨ts, rfl, h⟩
theorem it_rls {ts : List T} (h : PL ts m) : It (.rls ts) m PL := ⟨ts, rfl, h⟩
theorem rg_mk {n : Int} (h0 : -1000000 ≤ n) (h1 : n ≤ 1000000) (h : PL (rng 0 n) m) : Rg [.int n] m PL := ⟨n, rfl, h0, h1, h⟩
theorem en_lst {ts : List T} (h : PL (enumT 0 ts) m) : En [.lst ts] m PL := ⟨ts, .inl rfl, h⟩
theorem en_tup {ts : List T} (h : PL (enumT 0 ts) m) : En [.tup ts] m PL := ⟨ts, .inr rfl, h⟩
theorem ok_calls {n : Nat} {F : FS} {xs : List T} (e : xs.length = n) (h : Ok (F xs m) P) : Calls n F xs m P := ⟨e, h⟩
theorem rt_seqIf {k : SF} (h : Ok (b env m) fun x m1 => if x then Rt (sSeq f k env m1) P else Rt (sSeq g k env m1) P) : Rt (sSeq (sIf b f g) k env m) P := by
  obtain ⟨t, m', e, p⟩ := h
  unfold sSeq sIf; rw [e]
  cases t <;> exact p
theorem rt_seqNil {k : SF} (h : Rt (k env m) P) : Rt (sSeq sNil k env m) P := h
theorem rt_seqOf {k : T → Env → Mem → SOut} (h : Ok (fa env m) fun t m1 => Nx (k t env m1) fun e1 m2 => Rt (g e1 m2) P) : Rt (sSeq (sOf fa k) g env m) P := rt_seq (nx_of h)
theorem nx_seqOf {k : T → Env → Mem → SOut} (h : Ok (fa env m) fun t m1 => Nx (k t env m1) fun e1 m2 => Nx (g e1 m2) PE) : Nx (sSeq (sOf fa k) g env m) PE := nx_seq (nx_of h)
theorem ok_bYes (h : PB true m) : Ok (bYes env m) PB := ⟨_, _, rfl, h⟩
theorem ok_mkL {ts : List T} (h : P (.lst ts) m) : Ok (mk false ts m) P := ⟨_, _, rfl, h⟩
theorem ok_mkC {ts : List T} (h : P (.loc m.length) (m ++ [some (.lst ts)])) : Ok (mk true ts m) P := ⟨_, _, rfl, h⟩
theorem ok_ok {α : Type} {Q : α → Mem → Prop} {t : α} (h : Q t m) : Ok (.ok t m) Q := ⟨_, _, rfl, h⟩
/-! operations -/
theorem ok_addI {mu : Bool} {i j : Int} (h : P (.int (i + j)) m) : Ok (gAdd mu (.int i) (.int j) m) P := ⟨_, _, rfl, h⟩
theorem ok_addL {xs ys : List T} (hl : xs.length + ys.length ≤ lim) (h : P (.lst (xs ++ ys)) m) : Ok (gAdd false (.lst xs) (.lst ys) m) P := ⟨_, _, by unfold gAdd; simp only [asO, if_pos hl]; try rfl, h⟩
theorem ok_addS {mu : Bool} {i j : Str} (hl : i.length + j.length ≤ lim) (h : P (.str (i ++ j)) m) : Ok (gAdd mu (.str i) (.str j) m) P := ⟨_, _, by unfold gAdd; simp only [if_pos hl]; try rfl, h⟩
theorem ok_gtI {i j : Int} (h : P (.bl (decide (j < i))) m) : Ok (gGt (.int i) (.int j) m) P := ⟨_, _, rfl, h⟩
theorem ok_geI {i j : Int} (h : P (.bl (decide (j ≤ i))) m) : Ok (gGe (.int i) (.int j) m) P := ⟨_, _, rfl, h⟩
theorem ok_ltI {i j : Int} (h : P (.bl (decide (i < j))) m) : Ok (gLt (.int i) (.int j) m) P := ⟨_, _, rfl, h⟩
theorem ok_leI {i j : Int} (h : P (.bl (decide (i ≤ j))) m) : Ok (gLe (.int i) (.int j) m) P := ⟨_, _, rfl, h⟩
theorem ok_leS {i j : Str} (h : P (.bl (!decide (j.cps.toList < i.cps.toList))) m) : Ok (gLe (.str i) (.str j) m) P := ⟨_, _, rfl, h⟩
theorem ok_eqI {i j : Int} (h : P (.bl (decide (i = j))) m) : Ok (gEq (.int i) (.int j) m) P := ⟨_, _, rfl, h⟩
theorem ok_neI {i j : Int} (h : P (.bl (!decide (i = j))) m) : Ok (gNe (.int i) (.int j) m) P := ⟨_, _, rfl, h⟩
theorem ok_eqS {i j : Str} (h : P (.bl (decide (i = j))) m) : Ok (gEq (.str i) (.str j) m) P := ⟨_, _, rfl, h⟩
theorem ok_neS {i j : Str} (h : P (.bl (!decide (i = j))) m) : Ok (gNe (.str i) (.str j) m) P := ⟨_, _, rfl, h⟩
theorem ok_modI {i j : Int} (h0 : 0 < j) (h : P (.int (i % j)) m) : Ok (gMod (.int i) (.int j) m) P := ⟨_, _, by unfold gMod; simp only [if_pos h0]; try rfl, h⟩
theorem ok_mulI {mu : Bool} {i j : Int} (hs : (small 64 i || small 64 j) = true) (h : P (.int (i * j)) m) : Ok (gMul mu (.int i) (.int j) m) P := ⟨_, _, by unfold gMul; simp only [if_pos hs]; try rfl, h⟩
theorem ok_mulL {xs : List T} {j : Int} (hs : (small 62 j && decide (xs.length * j.toNat ≤ lim)) = true) (h : P (.lst (List.replicate j.toNat xs).flatten) m) : Ok (gMul false (.lst xs) (.int j) m) P := ⟨_, _, by unfold gMul; simp only [asO, if_pos hs]; try rfl, h⟩
theorem ok_int {i : Int} (h : P (.int i) m) : Ok (gInt [.int i] m) P := ⟨_, _, rfl, h⟩
theorem ok_lenL {ts : List T} (h : P (.int ts.length) m) : Ok (gLen [.lst ts] m) P := ⟨_, _, rfl, h⟩
theorem ok_lenT {ts : List T} (h : P (.int ts.length) m) : Ok (gLen [.tup ts] m) P := ⟨_, _, rfl, h⟩
theorem ok_lenC {n : Nat} {ts : List T} (e : m[n]? = some (some (.lst ts))) (h : P (.int ts.length) m) : Ok (gLen [.loc n] m) P := ⟨_, _, by unfold gLen; simp only [asSeq, asT, asL, e]; try rfl, h⟩
theorem ok_lenS {x : Str} (hl : x.length ≤ lim) (h : P (.int x.length) m) : Ok (gLen [.str x] m) P := ⟨_, _, by unfold gLen; simp only [if_pos hl]; try rfl, h⟩
theorem ok_tupOfL {ts : List T} (h : P (.tup ts) m) : Ok (gTuple [.lst ts] m) P := ⟨_, _, rfl, h⟩
theorem ok_tupOfT {ts : List T} (h : P (.tup ts) m) : Ok (gTuple [.tup ts] m) P := ⟨_, _, rfl, h⟩
theorem ok_tupL {ts : List T} (hl : ts.length ≤ lim) (h : P (.tup ts) m) : Ok (gTupL ts m) P := ⟨_, _, by unfold gTupL; simp only [if_pos hl]; try rfl, h⟩
theorem ok_lstL {ts : List T} (hl : ts.length ≤ lim) (h : P (.lst ts) m) : Ok (gLstL false ts m) P := ⟨_, _, by unfold gLstL; simp only [if_pos hl]; try rfl, h⟩
theorem ok_lstC {ts : List T} (hl : ts.length ≤ lim) (h : P (.loc m.length) (m ++ [some (.lst ts)])) : Ok (gLstL true ts m) P := ⟨_, _, by unfold gLstL; simp only [if_pos hl]; try rfl, h⟩
theorem ok_ixT {ts : List T} {i : Int} {t : T} (e : atI ts i = some t) (h : P t m) : Ok (gIx (.tup ts) (.int i) m) P := ⟨_, _, by unfold gIx; simp only [e]; try rfl, h⟩
theorem ok_ixL {ts : List T} {i : Int} {t : T} (e : atI ts i = some t) (h : P t m) : Ok (gIx (.lst ts) (.int i) m) P := ⟨_, _, by unfold gIx; simp only [asL, e]; try rfl, h⟩
theorem ok_app {n : Nat} {ts : List T} {y : T} (e : m[n]? = some (some (.lst ts))) (hl : ts.length < lim) (h : P .non (m.set n (some (.lst (ts ++ [y]))))) : Ok (gAppend (.loc n) [y] m) P := ⟨_, _, by unfold gAppend; simp only [cellL, e, if_pos hl]; try rfl, h⟩
theorem ok_ext {n : Nat} {ts us : List T} (e : m[n]? = some (some (.lst ts))) (hl : ts.length + us.length ≤ lim) (h : P .non (m.set n (some (.lst (ts ++ us))))) : Ok (gExtend (.loc n) [.lst us] m) P := ⟨_, _, by unfold gExtend; simp only [cellL, e, asO, if_pos hl]; try rfl, h⟩
theorem ok_isN {t : T} (hn : t ≠ .non) (h : P (.bl false) m) : Ok (gIsN false t .non m) P := by
  refine ⟨_, _, ?_, h⟩
  unfold gIsN
  cases t <;> first | rfl | exact absurd rfl hn
theorem ok_isNN (h : P (.bl true) m) : Ok (gIsN false .non .non m) P := ⟨_, _, rfl, h⟩
/-! loops -/
theorem cLoop_inv {g : GF} {tt : BF} {fe : EF} {env0 : Env} {R : List T → List T → Mem → Prop} : ∀ (ts pre ys : List T) (m : Mem), R pre ys m →
    (∀ (p : List T) (t : T) (q zs : List T) (m1 : Mem), pre ++ ts = p ++ t :: q → R p zs m1 → ∃ env1, g t env0 = some env1 ∧ Ok (tt env1 m1) fun b m2 => if b then Ok (fe env1 m2) fun y m3 => R (p ++ [t]) (zs ++ [y]) m3 else R (p ++ [t]) zs m2) →
    Ok (cLoop g tt fe env0 ts m) fun zs m' => R (pre ++ ts) (ys ++ zs) m'
  | [], pre, ys, m, h, _ => ⟨[], m, rfl, by simpa using h⟩
  | t :: ts, pre, ys, m, h, st => by
    obtain ⟨env1, e1, bb, m2, e2, hh⟩ := st pre t ts ys m rfl h
    cases bb with
    | true =>
      obtain ⟨y, m3, e3, h3⟩ := hh
      obtain ⟨zs, m', e4, h4⟩ := cLoop_inv (R := R) ts (pre ++ [t]) (ys ++ [y]) m3 h3 (fun p u q zs m1 e => st p u q zs m1 (by rw [← e]; simp))
      exact ⟨y :: zs, m', by unfold cLoop; simp only [e1, e2, e3, e4], by simpa using h4⟩
    | false =>
      obtain ⟨zs, m', e4, h4⟩ := cLoop_inv (R := R) ts (pre ++ [t]) ys m2 hh (fun p u q zs m1 e => st p u q zs m1 (by rw [← e]; simp))
      exact ⟨zs, m', by unfold cLoop; simp only [e1, e2, e4], by simpa using h4⟩
theorem ok_comp {mu : Bool} {sl : List Nat} {fi : LF} {gt : GF} {tt : BF} (R : List T → List T → Mem → Prop)
    (h : Ok (fi env m) fun ts m1 => ts.length ≤ lim ∧ R [] [] m1 ∧
      (∀ (p : List T) (t : T) (q zs : List T) (m2 : Mem), ts = p ++ t :: q → R p zs m2 → ∃ env1, gt t (wipeE env sl) = some env1 ∧ Ok (tt env1 m2) fun x m3 => if x then Ok (fa env1 m3) fun y m4 => R (p ++ [t]) (zs ++ [y]) m4 else R (p ++ [t]) zs m3) ∧
      ∀ zs m2, R ts zs m2 → Ok (mk mu zs m2) P) : Ok (eComp mu sl fi gt tt fa env m) P := by
  obtain ⟨ts, m1, e, hl, h0, st, h⟩ := h
  obtain ⟨zs, m2, e2, h2⟩ := cLoop_inv (env0 := wipeE env sl) ts [] [] m1 h0 st
  obtain ⟨t, m3, e3, h3⟩ := h zs m2 h2
  refine ⟨t, m3, ?_, h3⟩
  unfold eComp
  simp only [e, Out.bind, if_pos hl, e2, e3]
/-- without changes of the memory: a filter, a map -/
theorem ok_compP {mu : Bool} {sl : List Nat} {fi : LF} {gt : GF} {tt : BF} (x : T → Bool) (y : T → T)
    (h : Ok (fi env m) fun ts m1 => ts.length ≤ lim ∧ (∀ t ∈ ts, ∃ env1, gt t (wipeE env sl) = some env1 ∧ Ok (tt env1 m1) fun b m2 => m2 = m1 ∧ b = x t ∧ (b = true → Ok (fa env1 m1) fun z m3 => m3 = m1 ∧ z = y t)) ∧
      Ok (mk mu ((ts.filter x).map y) m1) P) : Ok (eComp mu sl fi gt tt fa env m) P := by
  obtain ⟨ts, m1, e, hl, st, h⟩ := h
  refine ok_comp (fun p zs m2 => m2 = m1 ∧ zs = (p.filter x).map y) ⟨ts, m1, e, hl, ⟨rfl, rfl⟩, ?_, ?_⟩
  · rintro p t q zs m2 rfl ⟨rfl, rfl⟩
    obtain ⟨env1, e1, b, m3, e2, rfl, rfl, h3⟩ := st t (by simp)
    refine ⟨env1, e1, _, _, e2, ?_⟩
    cases hb : x t with
    | true =>
      rw [if_pos rfl]
      exact (h3 hb).imp fun z m ⟨h1, h2⟩ => ⟨h1, by simp [hb, h2]⟩
    | false =>
      rw [if_neg (by decide)]
      exact ⟨rfl, by simp [hb]⟩
  · rintro zs m2 ⟨rfl, rfl⟩
    exact h
theorem loop_inv {gt : GF} {body : SF} {R : List T → Env → Mem → Prop} : ∀ (ts pre : List T) (env : Env) (m : Mem), R pre env m →
    (∀ (p : List T) (t : T) (q : List T) (env : Env) (m : Mem), pre ++ ts = p ++ t :: q → R p env m → ∃ env1, gt t env = some env1 ∧ Nx (body env1 m) (R (p ++ [t]))) →
    Nx (loop gt body ts env m) (R (pre ++ ts))
  | [], pre, env, m, h, _ => ⟨env, m, rfl, by simpa using h⟩
  | t :: ts, pre, env, m, h, st => by
    obtain ⟨env1, e1, env2, m2, e2, h2⟩ := st pre t ts env m rfl h
    obtain ⟨env', m', e3, h3⟩ := loop_inv (R := R) ts (pre ++ [t]) env2 m2 h2 (fun p u q env m e => st p u q env m (by rw [← e]; simp))
    exact ⟨env', m', by unfold loop; simp only [e1, e2, e3], by simpa using h3⟩
theorem nx_for {fi : LF} {gt : GF} (R : List T → Env → Mem → Prop)
    (h : Ok (fi env m) fun ts m1 => R [] env m1 ∧ (∀ (p : List T) (t : T) (q : List T) (env2 : Env) (m2 : Mem), ts = p ++ t :: q → R p env2 m2 → ∃ env3, gt t env2 = some env3 ∧ Nx (f env3 m2) (R (p ++ [t]))) ∧ ∀ env2 m2, R ts env2 m2 → PE env2 m2) : Nx (sFor fi gt f env m) PE := by
  obtain ⟨ts, m1, e, h0, st, h⟩ := h
  obtain ⟨env2, m2, e2, h2⟩ := loop_inv ts [] env m1 h0 st
  exact ⟨env2, m2, by unfold sFor; simp only [e, e2], h env2 m2 h2⟩
end
theorem draw_ok {m : Mem} {s c : Nat} {many : Int} {P : T → Mem → Prop} (h : Src m s c) (hc : c < 900000) (h0 : 0 < many) (h1 : many < 1073741824)
    (k : ∀ d m', 0 ≤ d → d < many → Src m' s (c + 1) → Fr s m m' → P (.int d) m') : Ok (F__law_draw [.loc s, .int many] m) P := by
  obtain ⟨d, m', e, a, b, x, y⟩ := draw_spec h hc h0 h1
  exact ⟨_, _, e, k d m' a b x y⟩
end M

namespace M
open PySem hiding Env
open L2 Ev G
theorem Fr.setNew {s j : Nat} {m m' : Mem} (f : Fr s m m') (h : m.length ≤ j) (o : Option MO) : Fr s m (m'.set j o) :=
  ⟨by simpa using f.len, fun i hi n => by rw [List.getElem?_set_ne (by omega)]; exact f.get i hi n⟩
theorem pick_ok {m : Mem} {s c : Nat} {ts : List T} {P : T → Mem → Prop} (h : Src m s c) (hc : c < 900000) (h0 : 0 < ts.length) (h1 : ts.length < 100000)
    (k : ∀ t m', t ∈ ts → Src m' s (c + 1) → Fr s m m' → P t m') : Ok (F__law_pick [.loc s, .lst ts] m) P := by
  unfold F__law_pick B__law_pick
  refine ok_fn ?_
  try simp only [List.map_cons, List.map_nil, List.cons_append, List.nil_append, List.length_cons, List.length_nil, Nat.reduceAdd, Nat.reduceSub, List.replicate_succ, List.replicate_zero, List.set_cons_succ, List.set_cons_zero]
  repeat (first | ((with_reducible apply ok_var); exact rfl) | ((with_reducible apply ok_calls); exact rfl) | ((with_reducible apply ok_tupL); exact Nat.le_of_ble_eq_true rfl) | ((with_reducible apply ok_lstL); exact Nat.le_of_ble_eq_true rfl) | ((with_reducible apply ok_lstC); exact Nat.le_of_ble_eq_true rfl) | (with_reducible apply ok_e2) | (with_reducible apply ok_c) | (with_reducible apply ok_cons) | (with_reducible apply ok_nil) | (with_reducible apply ok_ofL) | (with_reducible apply ok_call) | (with_reducible apply ok_meth) | (with_reducible apply ok_bV) | (with_reducible apply ok_bNot) | (with_reducible apply ok_bAnd) | (with_reducible apply ok_bOr) | (with_reducible apply ok_eAnd) | (with_reducible apply ok_eOr) | (with_reducible apply ok_eNot) | (with_reducible apply ok_eIf) | (with_reducible apply ok_iVal) | (with_reducible apply ok_range) | (with_reducible apply ok_range2) | (with_reducible apply ok_listRange) | (with_reducible apply ok_enum) | (with_reducible apply ok_bYes) | (with_reducible apply ok_mkL) | (with_reducible apply ok_mkC) | (with_reducible apply ok_ok) | (with_reducible apply ok_addI) | (with_reducible apply ok_gtI) | (with_reducible apply ok_geI) | (with_reducible apply ok_ltI) | (with_reducible apply ok_leI) | (with_reducible apply ok_leS) | (with_reducible apply ok_eqI) | (with_reducible apply ok_neI) | (with_reducible apply ok_eqS) | (with_reducible apply ok_neS) | (with_reducible apply ok_int) | (with_reducible apply ok_lenL) | (with_reducible apply ok_lenT) | (with_reducible apply ok_tupOfL) | (with_reducible apply ok_tupOfT) | (with_reducible apply bl_mk) | (with_reducible apply it_lst) | (with_reducible apply it_tup) | (with_reducible apply it_rls) | (with_reducible apply en_lst) | (with_reducible apply en_tup) | (with_reducible apply rt_seqOf) | (with_reducible apply nx_seqOf) | (with_reducible apply rt_of) | (with_reducible apply nx_of) | (with_reducible apply nx_nx) | (with_reducible apply rt_rt) | (with_reducible apply nx_nil) | (with_reducible apply rt_seqNil) | (with_reducible apply nx_asg) | (with_reducible apply ok_isNN))
  refine draw_ok h hc (by omega) (by omega) fun d m1 d0 d1 hs hf => ?_
  obtain ⟨t, e1, _, ht⟩ := atB (ts := ts) d0 d1
  refine ok_ixL e1 ?_
  repeat (first | ((with_reducible apply ok_var); exact rfl) | ((with_reducible apply ok_calls); exact rfl) | ((with_reducible apply ok_tupL); exact Nat.le_of_ble_eq_true rfl) | ((with_reducible apply ok_lstL); exact Nat.le_of_ble_eq_true rfl) | ((with_reducible apply ok_lstC); exact Nat.le_of_ble_eq_true rfl) | (with_reducible apply ok_e2) | (with_reducible apply ok_c) | (with_reducible apply ok_cons) | (with_reducible apply ok_nil) | (with_reducible apply ok_ofL) | (with_reducible apply ok_call) | (with_reducible apply ok_meth) | (with_reducible apply ok_bV) | (with_reducible apply ok_bNot) | (with_reducible apply ok_bAnd) | (with_reducible apply ok_bOr) | (with_reducible apply ok_eAnd) | (with_reducible apply ok_eOr) | (with_reducible apply ok_eNot) | (with_reducible apply ok_eIf) | (with_reducible apply ok_iVal) | (with_reducible apply ok_range) | (with_reducible apply ok_range2) | (with_reducible apply ok_listRange) | (with_reducible apply ok_enum) | (with_reducible apply ok_bYes) | (with_reducible apply ok_mkL) | (with_reducible apply ok_mkC) | (with_reducible apply ok_ok) | (with_reducible apply ok_addI) | (with_reducible apply ok_gtI) | (with_reducible apply ok_geI) | (with_reducible apply ok_ltI) | (with_reducible apply ok_leI) | (with_reducible apply ok_leS) | (with_reducible apply ok_eqI) | (with_reducible apply ok_neI) | (with_reducible apply ok_eqS) | (with_reducible apply ok_neS) | (with_reducible apply ok_int) | (with_reducible apply ok_lenL) | (with_reducible apply ok_lenT) | (with_reducible apply ok_tupOfL) | (with_reducible apply ok_tupOfT) | (with_reducible apply bl_mk) | (with_reducible apply it_lst) | (with_reducible apply it_tup) | (with_reducible apply it_rls) | (with_reducible apply en_lst) | (with_reducible apply en_tup) | (with_reducible apply rt_seqOf) | (with_reducible apply nx_seqOf) | (with_reducible apply rt_of) | (with_reducible apply nx_of) | (with_reducible apply nx_nx) | (with_reducible apply rt_rt) | (with_reducible apply nx_nil) | (with_reducible apply rt_seqNil) | (with_reducible apply nx_asg) | (with_reducible apply ok_isNN))
  exact k t m1 ht hs hf
theorem ok_powI {m : Mem} {P : T → Mem → Prop} {i j : Int} (h0 : 0 ≤ j) (h1 : j ≤ 100) (h2 : i.natAbs < 2 ^ 64) (h : P (.int (i ^ j.toNat)) m) : Ok (gPow (.int i) (.int j) m) P := ⟨_, _, by unfold gPow; simp only [h0, h1, h2, and_self, if_true], h⟩
theorem source_ok {ns : List Int} {m : Mem} {P : T → Mem → Prop}
    (k : ∀ m', m'.length = m.length + 1 → Src m' m.length 0 → P (.loc m.length) m') : Ok (F__law_source [.rls (ns.map T.int)] m) P := by
  unfold F__law_source B__law_source
  refine ok_fn ?_
  try simp only [List.map_cons, List.map_nil, List.cons_append, List.nil_append, List.length_cons, List.length_nil, Nat.reduceAdd, Nat.reduceSub, List.replicate_succ, List.replicate_zero, List.set_cons_succ, List.set_cons_zero]
  refine rt_seq ?_
  repeat (first | ((with_reducible apply ok_var); exact rfl) | ((with_reducible apply ok_calls); exact rfl) | ((with_reducible apply ok_tupL); exact Nat.le_of_ble_eq_true rfl) | ((with_reducible apply ok_lstL); exact Nat.le_of_ble_eq_true rfl) | ((with_reducible apply ok_lstC); exact Nat.le_of_ble_eq_true rfl) | (with_reducible apply ok_e2) | (with_reducible apply ok_c) | (with_reducible apply ok_cons) | (with_reducible apply ok_nil) | (with_reducible apply ok_ofL) | (with_reducible apply ok_call) | (with_reducible apply ok_meth) | (with_reducible apply ok_bV) | (with_reducible apply ok_bNot) | (with_reducible apply ok_bAnd) | (with_reducible apply ok_bOr) | (with_reducible apply ok_eAnd) | (with_reducible apply ok_eOr) | (with_reducible apply ok_eNot) | (with_reducible apply ok_eIf) | (with_reducible apply ok_iVal) | (with_reducible apply ok_range) | (with_reducible apply ok_range2) | (with_reducible apply ok_listRange) | (with_reducible apply ok_enum) | (with_reducible apply ok_bYes) | (with_reducible apply ok_mkL) | (with_reducible apply ok_mkC) | (with_reducible apply ok_ok) | (with_reducible apply ok_addI) | (with_reducible apply ok_gtI) | (with_reducible apply ok_geI) | (with_reducible apply ok_ltI) | (with_reducible apply ok_leI) | (with_reducible apply ok_leS) | (with_reducible apply ok_eqI) | (with_reducible apply ok_neI) | (with_reducible apply ok_eqS) | (with_reducible apply ok_neS) | (with_reducible apply ok_int) | (with_reducible apply ok_lenL) | (with_reducible apply ok_lenT) | (with_reducible apply ok_tupOfL) | (with_reducible apply ok_tupOfT) | (with_reducible apply bl_mk) | (with_reducible apply it_lst) | (with_reducible apply it_tup) | (with_reducible apply it_rls) | (with_reducible apply en_lst) | (with_reducible apply en_tup) | (with_reducible apply rt_seqOf) | (with_reducible apply nx_seqOf) | (with_reducible apply rt_of) | (with_reducible apply nx_of) | (with_reducible apply nx_nx) | (with_reducible apply rt_rt) | (with_reducible apply nx_nil) | (with_reducible apply rt_seqNil) | (with_reducible apply nx_asg) | (with_reducible apply ok_isNN))
  refine ⟨_, rfl, ?_⟩
  try simp only [List.map_cons, List.map_nil, List.cons_append, List.nil_append, List.length_cons, List.length_nil, Nat.reduceAdd, Nat.reduceSub, List.replicate_succ, List.replicate_zero, List.set_cons_succ, List.set_cons_zero]
  refine rt_seq (nx_for (fun _ env m1 => ∃ g sd w, env = [some (.rls (ns.map T.int)), some (.int g), some (.int sd), w] ∧ m1 = m ∧ (0 : Int) ≤ sd ∧ sd < 2147483647) ?_)
  repeat (first | ((with_reducible apply ok_var); exact rfl) | ((with_reducible apply ok_calls); exact rfl) | ((with_reducible apply ok_tupL); exact Nat.le_of_ble_eq_true rfl) | ((with_reducible apply ok_lstL); exact Nat.le_of_ble_eq_true rfl) | ((with_reducible apply ok_lstC); exact Nat.le_of_ble_eq_true rfl) | (with_reducible apply ok_e2) | (with_reducible apply ok_c) | (with_reducible apply ok_cons) | (with_reducible apply ok_nil) | (with_reducible apply ok_ofL) | (with_reducible apply ok_call) | (with_reducible apply ok_meth) | (with_reducible apply ok_bV) | (with_reducible apply ok_bNot) | (with_reducible apply ok_bAnd) | (with_reducible apply ok_bOr) | (with_reducible apply ok_eAnd) | (with_reducible apply ok_eOr) | (with_reducible apply ok_eNot) | (with_reducible apply ok_eIf) | (with_reducible apply ok_iVal) | (with_reducible apply ok_range) | (with_reducible apply ok_range2) | (with_reducible apply ok_listRange) | (with_reducible apply ok_enum) | (with_reducible apply ok_bYes) | (with_reducible apply ok_mkL) | (with_reducible apply ok_mkC) | (with_reducible apply ok_ok) | (with_reducible apply ok_addI) | (with_reducible apply ok_gtI) | (with_reducible apply ok_geI) | (with_reducible apply ok_ltI) | (with_reducible apply ok_leI) | (with_reducible apply ok_leS) | (with_reducible apply ok_eqI) | (with_reducible apply ok_neI) | (with_reducible apply ok_eqS) | (with_reducible apply ok_neS) | (with_reducible apply ok_int) | (with_reducible apply ok_lenL) | (with_reducible apply ok_lenT) | (with_reducible apply ok_tupOfL) | (with_reducible apply ok_tupOfT) | (with_reducible apply bl_mk) | (with_reducible apply it_lst) | (with_reducible apply it_tup) | (with_reducible apply it_rls) | (with_reducible apply en_lst) | (with_reducible apply en_tup) | (with_reducible apply rt_seqOf) | (with_reducible apply nx_seqOf) | (with_reducible apply rt_of) | (with_reducible apply nx_of) | (with_reducible apply nx_nx) | (with_reducible apply rt_rt) | (with_reducible apply nx_nil) | (with_reducible apply rt_seqNil) | (with_reducible apply nx_asg) | (with_reducible apply ok_isNN))
  refine ⟨⟨0, 17, none, rfl, rfl, by decide, by decide⟩, ?_, ?_⟩
  · rintro p t q env m1 hp ⟨g, sd, w, rfl, rfl, h0, h1⟩
    obtain ⟨n, _, rfl⟩ : ∃ n, n ∈ ns ∧ T.int n = t := by
      have : t ∈ ns.map T.int := by rw [hp]; simp
      simpa using this
    refine ⟨_, rfl, ?_⟩
    try simp only [List.map_cons, List.map_nil, List.cons_append, List.nil_append, List.length_cons, List.length_nil, Nat.reduceAdd, Nat.reduceSub, List.replicate_succ, List.replicate_zero, List.set_cons_succ, List.set_cons_zero]
    refine nx_seq (Nx.imp (P := fun env m => ∃ g', env = [some (.rls (ns.map T.int)), some (.int g'), some (.int sd), some (.int n)] ∧ m = m1) (nx_if ?_) ?_)
    · repeat (first | ((with_reducible apply ok_var); exact rfl) | ((with_reducible apply ok_calls); exact rfl) | ((with_reducible apply ok_tupL); exact Nat.le_of_ble_eq_true rfl) | ((with_reducible apply ok_lstL); exact Nat.le_of_ble_eq_true rfl) | ((with_reducible apply ok_lstC); exact Nat.le_of_ble_eq_true rfl) | (with_reducible apply ok_e2) | (with_reducible apply ok_c) | (with_reducible apply ok_cons) | (with_reducible apply ok_nil) | (with_reducible apply ok_ofL) | (with_reducible apply ok_call) | (with_reducible apply ok_meth) | (with_reducible apply ok_bV) | (with_reducible apply ok_bNot) | (with_reducible apply ok_bAnd) | (with_reducible apply ok_bOr) | (with_reducible apply ok_eAnd) | (with_reducible apply ok_eOr) | (with_reducible apply ok_eNot) | (with_reducible apply ok_eIf) | (with_reducible apply ok_iVal) | (with_reducible apply ok_range) | (with_reducible apply ok_range2) | (with_reducible apply ok_listRange) | (with_reducible apply ok_enum) | (with_reducible apply ok_bYes) | (with_reducible apply ok_mkL) | (with_reducible apply ok_mkC) | (with_reducible apply ok_ok) | (with_reducible apply ok_addI) | (with_reducible apply ok_gtI) | (with_reducible apply ok_geI) | (with_reducible apply ok_ltI) | (with_reducible apply ok_leI) | (with_reducible apply ok_leS) | (with_reducible apply ok_eqI) | (with_reducible apply ok_neI) | (with_reducible apply ok_eqS) | (with_reducible apply ok_neS) | (with_reducible apply ok_int) | (with_reducible apply ok_lenL) | (with_reducible apply ok_lenT) | (with_reducible apply ok_tupOfL) | (with_reducible apply ok_tupOfT) | (with_reducible apply bl_mk) | (with_reducible apply it_lst) | (with_reducible apply it_tup) | (with_reducible apply it_rls) | (with_reducible apply en_lst) | (with_reducible apply en_tup) | (with_reducible apply rt_seqOf) | (with_reducible apply nx_seqOf) | (with_reducible apply rt_of) | (with_reducible apply nx_of) | (with_reducible apply nx_nx) | (with_reducible apply rt_rt) | (with_reducible apply nx_nil) | (with_reducible apply rt_seqNil) | (with_reducible apply nx_asg) | (with_reducible apply ok_isNN))
      split
      · repeat (first | ((with_reducible apply ok_var); exact rfl) | ((with_reducible apply ok_calls); exact rfl) | ((with_reducible apply ok_tupL); exact Nat.le_of_ble_eq_true rfl) | ((with_reducible apply ok_lstL); exact Nat.le_of_ble_eq_true rfl) | ((with_reducible apply ok_lstC); exact Nat.le_of_ble_eq_true rfl) | (with_reducible apply ok_e2) | (with_reducible apply ok_c) | (with_reducible apply ok_cons) | (with_reducible apply ok_nil) | (with_reducible apply ok_ofL) | (with_reducible apply ok_call) | (with_reducible apply ok_meth) | (with_reducible apply ok_bV) | (with_reducible apply ok_bNot) | (with_reducible apply ok_bAnd) | (with_reducible apply ok_bOr) | (with_reducible apply ok_eAnd) | (with_reducible apply ok_eOr) | (with_reducible apply ok_eNot) | (with_reducible apply ok_eIf) | (with_reducible apply ok_iVal) | (with_reducible apply ok_range) | (with_reducible apply ok_range2) | (with_reducible apply ok_listRange) | (with_reducible apply ok_enum) | (with_reducible apply ok_bYes) | (with_reducible apply ok_mkL) | (with_reducible apply ok_mkC) | (with_reducible apply ok_ok) | (with_reducible apply ok_addI) | (with_reducible apply ok_gtI) | (with_reducible apply ok_geI) | (with_reducible apply ok_ltI) | (with_reducible apply ok_leI) | (with_reducible apply ok_leS) | (with_reducible apply ok_eqI) | (with_reducible apply ok_neI) | (with_reducible apply ok_eqS) | (with_reducible apply ok_neS) | (with_reducible apply ok_int) | (with_reducible apply ok_lenL) | (with_reducible apply ok_lenT) | (with_reducible apply ok_tupOfL) | (with_reducible apply ok_tupOfT) | (with_reducible apply bl_mk) | (with_reducible apply it_lst) | (with_reducible apply it_tup) | (with_reducible apply it_rls) | (with_reducible apply en_lst) | (with_reducible apply en_tup) | (with_reducible apply rt_seqOf) | (with_reducible apply nx_seqOf) | (with_reducible apply rt_of) | (with_reducible apply nx_of) | (with_reducible apply nx_nx) | (with_reducible apply rt_rt) | (with_reducible apply nx_nil) | (with_reducible apply rt_seqNil) | (with_reducible apply nx_asg) | (with_reducible apply ok_isNN))
        refine ok_powI (by decide) (by decide) (by decide) ?_
        repeat (first | ((with_reducible apply ok_var); exact rfl) | ((with_reducible apply ok_calls); exact rfl) | ((with_reducible apply ok_tupL); exact Nat.le_of_ble_eq_true rfl) | ((with_reducible apply ok_lstL); exact Nat.le_of_ble_eq_true rfl) | ((with_reducible apply ok_lstC); exact Nat.le_of_ble_eq_true rfl) | (with_reducible apply ok_e2) | (with_reducible apply ok_c) | (with_reducible apply ok_cons) | (with_reducible apply ok_nil) | (with_reducible apply ok_ofL) | (with_reducible apply ok_call) | (with_reducible apply ok_meth) | (with_reducible apply ok_bV) | (with_reducible apply ok_bNot) | (with_reducible apply ok_bAnd) | (with_reducible apply ok_bOr) | (with_reducible apply ok_eAnd) | (with_reducible apply ok_eOr) | (with_reducible apply ok_eNot) | (with_reducible apply ok_eIf) | (with_reducible apply ok_iVal) | (with_reducible apply ok_range) | (with_reducible apply ok_range2) | (with_reducible apply ok_listRange) | (with_reducible apply ok_enum) | (with_reducible apply ok_bYes) | (with_reducible apply ok_mkL) | (with_reducible apply ok_mkC) | (with_reducible apply ok_ok) | (with_reducible apply ok_addI) | (with_reducible apply ok_gtI) | (with_reducible apply ok_geI) | (with_reducible apply ok_ltI) | (with_reducible apply ok_leI) | (with_reducible apply ok_leS) | (with_reducible apply ok_eqI) | (with_reducible apply ok_neI) | (with_reducible apply ok_eqS) | (with_reducible apply ok_neS) | (with_reducible apply ok_int) | (with_reducible apply ok_lenL) | (with_reducible apply ok_lenT) | (with_reducible apply ok_tupOfL) | (with_reducible apply ok_tupOfT) | (with_reducible apply bl_mk) | (with_reducible apply it_lst) | (with_reducible apply it_tup) | (with_reducible apply it_rls) | (with_reducible apply en_lst) | (with_reducible apply en_tup) | (with_reducible apply rt_seqOf) | (with_reducible apply nx_seqOf) | (with_reducible apply rt_of) | (with_reducible apply nx_of) | (with_reducible apply nx_nx) | (with_reducible apply rt_rt) | (with_reducible apply nx_nil) | (with_reducible apply rt_seqNil) | (with_reducible apply nx_asg) | (with_reducible apply ok_isNN))
        split
        · repeat (first | ((with_reducible apply ok_var); exact rfl) | ((with_reducible apply ok_calls); exact rfl) | ((with_reducible apply ok_tupL); exact Nat.le_of_ble_eq_true rfl) | ((with_reducible apply ok_lstL); exact Nat.le_of_ble_eq_true rfl) | ((with_reducible apply ok_lstC); exact Nat.le_of_ble_eq_true rfl) | (with_reducible apply ok_e2) | (with_reducible apply ok_c) | (with_reducible apply ok_cons) | (with_reducible apply ok_nil) | (with_reducible apply ok_ofL) | (with_reducible apply ok_call) | (with_reducible apply ok_meth) | (with_reducible apply ok_bV) | (with_reducible apply ok_bNot) | (with_reducible apply ok_bAnd) | (with_reducible apply ok_bOr) | (with_reducible apply ok_eAnd) | (with_reducible apply ok_eOr) | (with_reducible apply ok_eNot) | (with_reducible apply ok_eIf) | (with_reducible apply ok_iVal) | (with_reducible apply ok_range) | (with_reducible apply ok_range2) | (with_reducible apply ok_listRange) | (with_reducible apply ok_enum) | (with_reducible apply ok_bYes) | (with_reducible apply ok_mkL) | (with_reducible apply ok_mkC) | (with_reducible apply ok_ok) | (with_reducible apply ok_addI) | (with_reducible apply ok_gtI) | (with_reducible apply ok_geI) | (with_reducible apply ok_ltI) | (with_reducible apply ok_leI) | (with_reducible apply ok_leS) | (with_reducible apply ok_eqI) | (with_reducible apply ok_neI) | (with_reducible apply ok_eqS) | (with_reducible apply ok_neS) | (with_reducible apply ok_int) | (with_reducible apply ok_lenL) | (with_reducible apply ok_lenT) | (with_reducible apply ok_tupOfL) | (with_reducible apply ok_tupOfT) | (with_reducible apply bl_mk) | (with_reducible apply it_lst) | (with_reducible apply it_tup) | (with_reducible apply it_rls) | (with_reducible apply en_lst) | (with_reducible apply en_tup) | (with_reducible apply rt_seqOf) | (with_reducible apply nx_seqOf) | (with_reducible apply rt_of) | (with_reducible apply nx_of) | (with_reducible apply nx_nx) | (with_reducible apply rt_rt) | (with_reducible apply nx_nil) | (with_reducible apply rt_seqNil) | (with_reducible apply nx_asg) | (with_reducible apply ok_isNN))
          exact ⟨_, rfl, rfl⟩
        · repeat (first | ((with_reducible apply ok_var); exact rfl) | ((with_reducible apply ok_calls); exact rfl) | ((with_reducible apply ok_tupL); exact Nat.le_of_ble_eq_true rfl) | ((with_reducible apply ok_lstL); exact Nat.le_of_ble_eq_true rfl) | ((with_reducible apply ok_lstC); exact Nat.le_of_ble_eq_true rfl) | (with_reducible apply ok_e2) | (with_reducible apply ok_c) | (with_reducible apply ok_cons) | (with_reducible apply ok_nil) | (with_reducible apply ok_ofL) | (with_reducible apply ok_call) | (with_reducible apply ok_meth) | (with_reducible apply ok_bV) | (with_reducible apply ok_bNot) | (with_reducible apply ok_bAnd) | (with_reducible apply ok_bOr) | (with_reducible apply ok_eAnd) | (with_reducible apply ok_eOr) | (with_reducible apply ok_eNot) | (with_reducible apply ok_eIf) | (with_reducible apply ok_iVal) | (with_reducible apply ok_range) | (with_reducible apply ok_range2) | (with_reducible apply ok_listRange) | (with_reducible apply ok_enum) | (with_reducible apply ok_bYes) | (with_reducible apply ok_mkL) | (with_reducible apply ok_mkC) | (with_reducible apply ok_ok) | (with_reducible apply ok_addI) | (with_reducible apply ok_gtI) | (with_reducible apply ok_geI) | (with_reducible apply ok_ltI) | (with_reducible apply ok_leI) | (with_reducible apply ok_leS) | (with_reducible apply ok_eqI) | (with_reducible apply ok_neI) | (with_reducible apply ok_eqS) | (with_reducible apply ok_neS) | (with_reducible apply ok_int) | (with_reducible apply ok_lenL) | (with_reducible apply ok_lenT) | (with_reducible apply ok_tupOfL) | (with_reducible apply ok_tupOfT) | (with_reducible apply bl_mk) | (with_reducible apply it_lst) | (with_reducible apply it_tup) | (with_reducible apply it_rls) | (with_reducible apply en_lst) | (with_reducible apply en_tup) | (with_reducible apply rt_seqOf) | (with_reducible apply nx_seqOf) | (with_reducible apply rt_of) | (with_reducible apply nx_of) | (with_reducible apply nx_nx) | (with_reducible apply rt_rt) | (with_reducible apply nx_nil) | (with_reducible apply rt_seqNil) | (with_reducible apply nx_asg) | (with_reducible apply ok_isNN))
          exact ⟨_, rfl, rfl⟩
      · rw [if_neg (by decide)]
        repeat (first | ((with_reducible apply ok_var); exact rfl) | ((with_reducible apply ok_calls); exact rfl) | ((with_reducible apply ok_tupL); exact Nat.le_of_ble_eq_true rfl) | ((with_reducible apply ok_lstL); exact Nat.le_of_ble_eq_true rfl) | ((with_reducible apply ok_lstC); exact Nat.le_of_ble_eq_true rfl) | (with_reducible apply ok_e2) | (with_reducible apply ok_c) | (with_reducible apply ok_cons) | (with_reducible apply ok_nil) | (with_reducible apply ok_ofL) | (with_reducible apply ok_call) | (with_reducible apply ok_meth) | (with_reducible apply ok_bV) | (with_reducible apply ok_bNot) | (with_reducible apply ok_bAnd) | (with_reducible apply ok_bOr) | (with_reducible apply ok_eAnd) | (with_reducible apply ok_eOr) | (with_reducible apply ok_eNot) | (with_reducible apply ok_eIf) | (with_reducible apply ok_iVal) | (with_reducible apply ok_range) | (with_reducible apply ok_range2) | (with_reducible apply ok_listRange) | (with_reducible apply ok_enum) | (with_reducible apply ok_bYes) | (with_reducible apply ok_mkL) | (with_reducible apply ok_mkC) | (with_reducible apply ok_ok) | (with_reducible apply ok_addI) | (with_reducible apply ok_gtI) | (with_reducible apply ok_geI) | (with_reducible apply ok_ltI) | (with_reducible apply ok_leI) | (with_reducible apply ok_leS) | (with_reducible apply ok_eqI) | (with_reducible apply ok_neI) | (with_reducible apply ok_eqS) | (with_reducible apply ok_neS) | (with_reducible apply ok_int) | (with_reducible apply ok_lenL) | (with_reducible apply ok_lenT) | (with_reducible apply ok_tupOfL) | (with_reducible apply ok_tupOfT) | (with_reducible apply bl_mk) | (with_reducible apply it_lst) | (with_reducible apply it_tup) | (with_reducible apply it_rls) | (with_reducible apply en_lst) | (with_reducible apply en_tup) | (with_reducible apply rt_seqOf) | (with_reducible apply nx_seqOf) | (with_reducible apply rt_of) | (with_reducible apply nx_of) | (with_reducible apply nx_nx) | (with_reducible apply rt_rt) | (with_reducible apply nx_nil) | (with_reducible apply rt_seqNil) | (with_reducible apply nx_asg) | (with_reducible apply ok_isNN))
        exact ⟨_, rfl, rfl⟩
    · rintro env m ⟨g', rfl, rfl⟩
      repeat (first | ((with_reducible apply ok_var); exact rfl) | ((with_reducible apply ok_calls); exact rfl) | ((with_reducible apply ok_tupL); exact Nat.le_of_ble_eq_true rfl) | ((with_reducible apply ok_lstL); exact Nat.le_of_ble_eq_true rfl) | ((with_reducible apply ok_lstC); exact Nat.le_of_ble_eq_true rfl) | (with_reducible apply ok_e2) | (with_reducible apply ok_c) | (with_reducible apply ok_cons) | (with_reducible apply ok_nil) | (with_reducible apply ok_ofL) | (with_reducible apply ok_call) | (with_reducible apply ok_meth) | (with_reducible apply ok_bV) | (with_reducible apply ok_bNot) | (with_reducible apply ok_bAnd) | (with_reducible apply ok_bOr) | (with_reducible apply ok_eAnd) | (with_reducible apply ok_eOr) | (with_reducible apply ok_eNot) | (with_reducible apply ok_eIf) | (with_reducible apply ok_iVal) | (with_reducible apply ok_range) | (with_reducible apply ok_range2) | (with_reducible apply ok_listRange) | (with_reducible apply ok_enum) | (with_reducible apply ok_bYes) | (with_reducible apply ok_mkL) | (with_reducible apply ok_mkC) | (with_reducible apply ok_ok) | (with_reducible apply ok_addI) | (with_reducible apply ok_gtI) | (with_reducible apply ok_geI) | (with_reducible apply ok_ltI) | (with_reducible apply ok_leI) | (with_reducible apply ok_leS) | (with_reducible apply ok_eqI) | (with_reducible apply ok_neI) | (with_reducible apply ok_eqS) | (with_reducible apply ok_neS) | (with_reducible apply ok_int) | (with_reducible apply ok_lenL) | (with_reducible apply ok_lenT) | (with_reducible apply ok_tupOfL) | (with_reducible apply ok_tupOfT) | (with_reducible apply bl_mk) | (with_reducible apply it_lst) | (with_reducible apply it_tup) | (with_reducible apply it_rls) | (with_reducible apply en_lst) | (with_reducible apply en_tup) | (with_reducible apply rt_seqOf) | (with_reducible apply nx_seqOf) | (with_reducible apply rt_of) | (with_reducible apply nx_of) | (with_reducible apply nx_nx) | (with_reducible apply rt_rt) | (with_reducible apply nx_nil) | (with_reducible apply rt_seqNil) | (with_reducible apply nx_asg) | (with_reducible apply ok_isNN))
      refine ok_mulI (by rw [show small 64 31 = true by decide]; simp) ?_
      repeat (first | ((with_reducible apply ok_var); exact rfl) | ((with_reducible apply ok_calls); exact rfl) | ((with_reducible apply ok_tupL); exact Nat.le_of_ble_eq_true rfl) | ((with_reducible apply ok_lstL); exact Nat.le_of_ble_eq_true rfl) | ((with_reducible apply ok_lstC); exact Nat.le_of_ble_eq_true rfl) | (with_reducible apply ok_e2) | (with_reducible apply ok_c) | (with_reducible apply ok_cons) | (with_reducible apply ok_nil) | (with_reducible apply ok_ofL) | (with_reducible apply ok_call) | (with_reducible apply ok_meth) | (with_reducible apply ok_bV) | (with_reducible apply ok_bNot) | (with_reducible apply ok_bAnd) | (with_reducible apply ok_bOr) | (with_reducible apply ok_eAnd) | (with_reducible apply ok_eOr) | (with_reducible apply ok_eNot) | (with_reducible apply ok_eIf) | (with_reducible apply ok_iVal) | (with_reducible apply ok_range) | (with_reducible apply ok_range2) | (with_reducible apply ok_listRange) | (with_reducible apply ok_enum) | (with_reducible apply ok_bYes) | (with_reducible apply ok_mkL) | (with_reducible apply ok_mkC) | (with_reducible apply ok_ok) | (with_reducible apply ok_addI) | (with_reducible apply ok_gtI) | (with_reducible apply ok_geI) | (with_reducible apply ok_ltI) | (with_reducible apply ok_leI) | (with_reducible apply ok_leS) | (with_reducible apply ok_eqI) | (with_reducible apply ok_neI) | (with_reducible apply ok_eqS) | (with_reducible apply ok_neS) | (with_reducible apply ok_int) | (with_reducible apply ok_lenL) | (with_reducible apply ok_lenT) | (with_reducible apply ok_tupOfL) | (with_reducible apply ok_tupOfT) | (with_reducible apply bl_mk) | (with_reducible apply it_lst) | (with_reducible apply it_tup) | (with_reducible apply it_rls) | (with_reducible apply en_lst) | (with_reducible apply en_tup) | (with_reducible apply rt_seqOf) | (with_reducible apply nx_seqOf) | (with_reducible apply rt_of) | (with_reducible apply nx_of) | (with_reducible apply nx_nx) | (with_reducible apply rt_rt) | (with_reducible apply nx_nil) | (with_reducible apply rt_seqNil) | (with_reducible apply nx_asg) | (with_reducible apply ok_isNN))
      refine ok_modI (by decide) ?_
      repeat (first | ((with_reducible apply ok_var); exact rfl) | ((with_reducible apply ok_calls); exact rfl) | ((with_reducible apply ok_tupL); exact Nat.le_of_ble_eq_true rfl) | ((with_reducible apply ok_lstL); exact Nat.le_of_ble_eq_true rfl) | ((with_reducible apply ok_lstC); exact Nat.le_of_ble_eq_true rfl) | (with_reducible apply ok_e2) | (with_reducible apply ok_c) | (with_reducible apply ok_cons) | (with_reducible apply ok_nil) | (with_reducible apply ok_ofL) | (with_reducible apply ok_call) | (with_reducible apply ok_meth) | (with_reducible apply ok_bV) | (with_reducible apply ok_bNot) | (with_reducible apply ok_bAnd) | (with_reducible apply ok_bOr) | (with_reducible apply ok_eAnd) | (with_reducible apply ok_eOr) | (with_reducible apply ok_eNot) | (with_reducible apply ok_eIf) | (with_reducible apply ok_iVal) | (with_reducible apply ok_range) | (with_reducible apply ok_range2) | (with_reducible apply ok_listRange) | (with_reducible apply ok_enum) | (with_reducible apply ok_bYes) | (with_reducible apply ok_mkL) | (with_reducible apply ok_mkC) | (with_reducible apply ok_ok) | (with_reducible apply ok_addI) | (with_reducible apply ok_gtI) | (with_reducible apply ok_geI) | (with_reducible apply ok_ltI) | (with_reducible apply ok_leI) | (with_reducible apply ok_leS) | (with_reducible apply ok_eqI) | (with_reducible apply ok_neI) | (with_reducible apply ok_eqS) | (with_reducible apply ok_neS) | (with_reducible apply ok_int) | (with_reducible apply ok_lenL) | (with_reducible apply ok_lenT) | (with_reducible apply ok_tupOfL) | (with_reducible apply ok_tupOfT) | (with_reducible apply bl_mk) | (with_reducible apply it_lst) | (with_reducible apply it_tup) | (with_reducible apply it_rls) | (with_reducible apply en_lst) | (with_reducible apply en_tup) | (with_reducible apply rt_seqOf) | (with_reducible apply nx_seqOf) | (with_reducible apply rt_of) | (with_reducible apply nx_of) | (with_reducible apply nx_nx) | (with_reducible apply rt_rt) | (with_reducible apply nx_nil) | (with_reducible apply rt_seqNil) | (with_reducible apply nx_asg) | (with_reducible apply ok_isNN))
      exact ⟨g', _, _, rfl, rfl, Int.emod_nonneg _ (by decide), Int.emod_lt_of_pos _ (by decide)⟩
  · rintro env m1 ⟨g, sd, w, rfl, rfl, h0, h1⟩
    repeat (first | ((with_reducible apply ok_var); exact rfl) | ((with_reducible apply ok_calls); exact rfl) | ((with_reducible apply ok_tupL); exact Nat.le_of_ble_eq_true rfl) | ((with_reducible apply ok_lstL); exact Nat.le_of_ble_eq_true rfl) | ((with_reducible apply ok_lstC); exact Nat.le_of_ble_eq_true rfl) | (with_reducible apply ok_e2) | (with_reducible apply ok_c) | (with_reducible apply ok_cons) | (with_reducible apply ok_nil) | (with_reducible apply ok_ofL) | (with_reducible apply ok_call) | (with_reducible apply ok_meth) | (with_reducible apply ok_bV) | (with_reducible apply ok_bNot) | (with_reducible apply ok_bAnd) | (with_reducible apply ok_bOr) | (with_reducible apply ok_eAnd) | (with_reducible apply ok_eOr) | (with_reducible apply ok_eNot) | (with_reducible apply ok_eIf) | (with_reducible apply ok_iVal) | (with_reducible apply ok_range) | (with_reducible apply ok_range2) | (with_reducible apply ok_listRange) | (with_reducible apply ok_enum) | (with_reducible apply ok_bYes) | (with_reducible apply ok_mkL) | (with_reducible apply ok_mkC) | (with_reducible apply ok_ok) | (with_reducible apply ok_addI) | (with_reducible apply ok_gtI) | (with_reducible apply ok_geI) | (with_reducible apply ok_ltI) | (with_reducible apply ok_leI) | (with_reducible apply ok_leS) | (with_reducible apply ok_eqI) | (with_reducible apply ok_neI) | (with_reducible apply ok_eqS) | (with_reducible apply ok_neS) | (with_reducible apply ok_int) | (with_reducible apply ok_lenL) | (with_reducible apply ok_lenT) | (with_reducible apply ok_tupOfL) | (with_reducible apply ok_tupOfT) | (with_reducible apply bl_mk) | (with_reducible apply it_lst) | (with_reducible apply it_tup) | (with_reducible apply it_rls) | (with_reducible apply en_lst) | (with_reducible apply en_tup) | (with_reducible apply rt_seqOf) | (with_reducible apply nx_seqOf) | (with_reducible apply rt_of) | (with_reducible apply nx_of) | (with_reducible apply nx_nx) | (with_reducible apply rt_rt) | (with_reducible apply nx_nil) | (with_reducible apply rt_seqNil) | (with_reducible apply nx_asg) | (with_reducible apply ok_isNN))
    refine k (m1 ++ [some (.lst [.int g, .int sd, .int 0])]) (by simp) ⟨g, sd, 0, ?_, h0, h1, by omega, by omega⟩
    simp
theorem perm_erase {α : Type} : ∀ {ts : List α} {k : Nat} {t : α}, ts[k]? = some t → (t :: ts.eraseIdx k).Perm ts
  | [], _, _, h => by simp at h
  | u :: ts, 0, t, h => by
    have : u = t := by simpa using h
    subst this
    simp
  | u :: ts, k + 1, t, h => by
    have ih := perm_erase (ts := ts) (k := k) (t := t) (by simpa using h)
    rw [List.eraseIdx_cons_succ]
    exact (List.Perm.swap u t _).trans (ih.cons u)
theorem ok_popAt {m : Mem} {P : T → Mem → Prop} {n : Nat} {ts : List T} {i : Int} (e : m[n]? = some (some (.lst ts))) (h0 : 0 ≤ i) (h1 : i < ts.length) (hb : i < 2 ^ 62)
    (h : ∀ t, ts[i.toNat]? = some t → P t (m.set n (some (.lst (ts.eraseIdx i.toNat))))) : Ok (gPopAt (.loc n) [.int i] m) P := by
  have hl : i.toNat < ts.length := by omega
  have e2 : seqIndex? i ts.length = some i.toNat := by
    unfold seqIndex?
    simp only [if_neg (show ¬ i < 0 by omega)]
    rw [if_pos]
    simp only [Bool.and_eq_true, decide_eq_true_eq]
    exact ⟨h0, h1⟩
  refine ⟨_, _, ?_, h ts[i.toNat] (List.getElem?_eq_getElem hl)⟩
  unfold gPopAt
  simp only [cellL, e, if_pos (small_of h0 hb), e2, List.getElem?_eq_getElem hl]
theorem rng_len (n : Nat) : (rng 0 (n : Int)).length = n := by unfold rng; simp
theorem rng_get {n i : Nat} (h : i < n) : (rng 0 (n : Int))[i]? = some (.int i) := by unfold rng; simp [h]
theorem isl {m : Mem} {n : Nat} {ts : List T} (e : m[n]? = some (some (.lst ts))) : isTy "list" m (.loc n) = true := by
  unfold isTy
  simp only [e]; rfl
theorem order_ok {m : Mem} {s c n : Nat} {P : T → Mem → Prop} (h : Src m s c) (hc : c + n < 900000) (hn : n < 100000)
    (k : ∀ zs m', zs.Perm (rng 0 n) → Src m' s (c + n) → Fr s m m' → P (.lst zs) m') : Ok (F__law_order [.loc s, .int n] m) P := by
  unfold F__law_order B__law_order
  refine ok_fn ?_
  try simp only [List.map_cons, List.map_nil, List.cons_append, List.nil_append, List.length_cons, List.length_nil, Nat.reduceAdd, Nat.reduceSub, List.replicate_succ, List.replicate_zero, List.set_cons_succ, List.set_cons_zero]
  repeat (first | ((with_reducible apply ok_var); exact rfl) | ((with_reducible apply ok_calls); exact rfl) | ((with_reducible apply ok_tupL); exact Nat.le_of_ble_eq_true rfl) | ((with_reducible apply ok_lstL); exact Nat.le_of_ble_eq_true rfl) | ((with_reducible apply ok_lstC); exact Nat.le_of_ble_eq_true rfl) | (with_reducible apply ok_e2) | (with_reducible apply ok_c) | (with_reducible apply ok_cons) | (with_reducible apply ok_nil) | (with_reducible apply ok_ofL) | (with_reducible apply ok_call) | (with_reducible apply ok_meth) | (with_reducible apply ok_bV) | (with_reducible apply ok_bNot) | (with_reducible apply ok_bAnd) | (with_reducible apply ok_bOr) | (with_reducible apply ok_eAnd) | (with_reducible apply ok_eOr) | (with_reducible apply ok_eNot) | (with_reducible apply ok_eIf) | (with_reducible apply ok_iVal) | (with_reducible apply ok_range) | (with_reducible apply ok_range2) | (with_reducible apply ok_listRange) | (with_reducible apply ok_enum) | (with_reducible apply ok_bYes) | (with_reducible apply ok_mkL) | (with_reducible apply ok_mkC) | (with_reducible apply ok_ok) | (with_reducible apply ok_addI) | (with_reducible apply ok_gtI) | (with_reducible apply ok_geI) | (with_reducible apply ok_ltI) | (with_reducible apply ok_leI) | (with_reducible apply ok_leS) | (with_reducible apply ok_eqI) | (with_reducible apply ok_neI) | (with_reducible apply ok_eqS) | (with_reducible apply ok_neS) | (with_reducible apply ok_int) | (with_reducible apply ok_lenL) | (with_reducible apply ok_lenT) | (with_reducible apply ok_tupOfL) | (with_reducible apply ok_tupOfT) | (with_reducible apply bl_mk) | (with_reducible apply it_lst) | (with_reducible apply it_tup) | (with_reducible apply it_rls) | (with_reducible apply en_lst) | (with_reducible apply en_tup) | (with_reducible apply rt_seqOf) | (with_reducible apply nx_seqOf) | (with_reducible apply rt_of) | (with_reducible apply nx_of) | (with_reducible apply nx_nx) | (with_reducible apply rt_rt) | (with_reducible apply nx_nil) | (with_reducible apply rt_seqNil) | (with_reducible apply nx_asg) | (with_reducible apply ok_isNN))
  refine ⟨(n : Int), rfl, by omega, by omega, ?_⟩
  repeat (first | ((with_reducible apply ok_var); exact rfl) | ((with_reducible apply ok_calls); exact rfl) | ((with_reducible apply ok_tupL); exact Nat.le_of_ble_eq_true rfl) | ((with_reducible apply ok_lstL); exact Nat.le_of_ble_eq_true rfl) | ((with_reducible apply ok_lstC); exact Nat.le_of_ble_eq_true rfl) | (with_reducible apply ok_e2) | (with_reducible apply ok_c) | (with_reducible apply ok_cons) | (with_reducible apply ok_nil) | (with_reducible apply ok_ofL) | (with_reducible apply ok_call) | (with_reducible apply ok_meth) | (with_reducible apply ok_bV) | (with_reducible apply ok_bNot) | (with_reducible apply ok_bAnd) | (with_reducible apply ok_bOr) | (with_reducible apply ok_eAnd) | (with_reducible apply ok_eOr) | (with_reducible apply ok_eNot) | (with_reducible apply ok_eIf) | (with_reducible apply ok_iVal) | (with_reducible apply ok_range) | (with_reducible apply ok_range2) | (with_reducible apply ok_listRange) | (with_reducible apply ok_enum) | (with_reducible apply ok_bYes) | (with_reducible apply ok_mkL) | (with_reducible apply ok_mkC) | (with_reducible apply ok_ok) | (with_reducible apply ok_addI) | (with_reducible apply ok_gtI) | (with_reducible apply ok_geI) | (with_reducible apply ok_ltI) | (with_reducible apply ok_leI) | (with_reducible apply ok_leS) | (with_reducible apply ok_eqI) | (with_reducible apply ok_neI) | (with_reducible apply ok_eqS) | (with_reducible apply ok_neS) | (with_reducible apply ok_int) | (with_reducible apply ok_lenL) | (with_reducible apply ok_lenT) | (with_reducible apply ok_tupOfL) | (with_reducible apply ok_tupOfT) | (with_reducible apply bl_mk) | (with_reducible apply it_lst) | (with_reducible apply it_tup) | (with_reducible apply it_rls) | (with_reducible apply en_lst) | (with_reducible apply en_tup) | (with_reducible apply rt_seqOf) | (with_reducible apply nx_seqOf) | (with_reducible apply rt_of) | (with_reducible apply nx_of) | (with_reducible apply nx_nx) | (with_reducible apply rt_rt) | (with_reducible apply nx_nil) | (with_reducible apply rt_seqNil) | (with_reducible apply nx_asg) | (with_reducible apply ok_isNN))
  refine ok_comp (fun p zs m2 => ∃ left, m2[m.length]? = some (some (.lst left)) ∧ (left ++ zs).Perm (rng 0 n) ∧ zs.length = p.length ∧ Src m2 s (c + p.length) ∧ Fr s m m2) ?_
  repeat (first | ((with_reducible apply ok_var); exact rfl) | ((with_reducible apply ok_calls); exact rfl) | ((with_reducible apply ok_tupL); exact Nat.le_of_ble_eq_true rfl) | ((with_reducible apply ok_lstL); exact Nat.le_of_ble_eq_true rfl) | ((with_reducible apply ok_lstC); exact Nat.le_of_ble_eq_true rfl) | (with_reducible apply ok_e2) | (with_reducible apply ok_c) | (with_reducible apply ok_cons) | (with_reducible apply ok_nil) | (with_reducible apply ok_ofL) | (with_reducible apply ok_call) | (with_reducible apply ok_meth) | (with_reducible apply ok_bV) | (with_reducible apply ok_bNot) | (with_reducible apply ok_bAnd) | (with_reducible apply ok_bOr) | (with_reducible apply ok_eAnd) | (with_reducible apply ok_eOr) | (with_reducible apply ok_eNot) | (with_reducible apply ok_eIf) | (with_reducible apply ok_iVal) | (with_reducible apply ok_range) | (with_reducible apply ok_range2) | (with_reducible apply ok_listRange) | (with_reducible apply ok_enum) | (with_reducible apply ok_bYes) | (with_reducible apply ok_mkL) | (with_reducible apply ok_mkC) | (with_reducible apply ok_ok) | (with_reducible apply ok_addI) | (with_reducible apply ok_gtI) | (with_reducible apply ok_geI) | (with_reducible apply ok_ltI) | (with_reducible apply ok_leI) | (with_reducible apply ok_leS) | (with_reducible apply ok_eqI) | (with_reducible apply ok_neI) | (with_reducible apply ok_eqS) | (with_reducible apply ok_neS) | (with_reducible apply ok_int) | (with_reducible apply ok_lenL) | (with_reducible apply ok_lenT) | (with_reducible apply ok_tupOfL) | (with_reducible apply ok_tupOfT) | (with_reducible apply bl_mk) | (with_reducible apply it_lst) | (with_reducible apply it_tup) | (with_reducible apply it_rls) | (with_reducible apply en_lst) | (with_reducible apply en_tup) | (with_reducible apply rt_seqOf) | (with_reducible apply nx_seqOf) | (with_reducible apply rt_of) | (with_reducible apply nx_of) | (with_reducible apply nx_nx) | (with_reducible apply rt_rt) | (with_reducible apply nx_nil) | (with_reducible apply rt_seqNil) | (with_reducible apply nx_asg) | (with_reducible apply ok_isNN))
  refine rg_mk (by omega) (by omega) ⟨by rw [rng_len]; unfold lim; omega, ⟨rng 0 n, by simp, by simp, rfl, h.app _, Fr.app _⟩, ?_, ?_⟩
  · rintro p t q zs m2 hp ⟨left, hm, hpm, hz, hs, hf⟩
    have hlt := h.lt
    have hlen : left.length + zs.length = n := by rw [← List.length_append, hpm.length_eq, rng_len]
    have hpl : p.length < n := by
      have := congrArg List.length hp
      rw [rng_len] at this; simp at this; omega
    refine ⟨_, rfl, ?_⟩
    try simp only [List.map_cons, List.map_nil, List.cons_append, List.nil_append, List.length_cons, List.length_nil, Nat.reduceAdd, Nat.reduceSub, List.replicate_succ, List.replicate_zero, List.set_cons_succ, List.set_cons_zero]
    repeat (first | ((with_reducible apply ok_var); exact rfl) | ((with_reducible apply ok_calls); exact rfl) | ((with_reducible apply ok_tupL); exact Nat.le_of_ble_eq_true rfl) | ((with_reducible apply ok_lstL); exact Nat.le_of_ble_eq_true rfl) | ((with_reducible apply ok_lstC); exact Nat.le_of_ble_eq_true rfl) | (with_reducible apply ok_e2) | (with_reducible apply ok_c) | (with_reducible apply ok_cons) | (with_reducible apply ok_nil) | (with_reducible apply ok_ofL) | (with_reducible apply ok_call) | (with_reducible apply ok_meth) | (with_reducible apply ok_bV) | (with_reducible apply ok_bNot) | (with_reducible apply ok_bAnd) | (with_reducible apply ok_bOr) | (with_reducible apply ok_eAnd) | (with_reducible apply ok_eOr) | (with_reducible apply ok_eNot) | (with_reducible apply ok_eIf) | (with_reducible apply ok_iVal) | (with_reducible apply ok_range) | (with_reducible apply ok_range2) | (with_reducible apply ok_listRange) | (with_reducible apply ok_enum) | (with_reducible apply ok_bYes) | (with_reducible apply ok_mkL) | (with_reducible apply ok_mkC) | (with_reducible apply ok_ok) | (with_reducible apply ok_addI) | (with_reducible apply ok_gtI) | (with_reducible apply ok_geI) | (with_reducible apply ok_ltI) | (with_reducible apply ok_leI) | (with_reducible apply ok_leS) | (with_reducible apply ok_eqI) | (with_reducible apply ok_neI) | (with_reducible apply ok_eqS) | (with_reducible apply ok_neS) | (with_reducible apply ok_int) | (with_reducible apply ok_lenL) | (with_reducible apply ok_lenT) | (with_reducible apply ok_tupOfL) | (with_reducible apply ok_tupOfT) | (with_reducible apply bl_mk) | (with_reducible apply it_lst) | (with_reducible apply it_tup) | (with_reducible apply it_rls) | (with_reducible apply en_lst) | (with_reducible apply en_tup) | (with_reducible apply rt_seqOf) | (with_reducible apply nx_seqOf) | (with_reducible apply rt_of) | (with_reducible apply nx_of) | (with_reducible apply nx_nx) | (with_reducible apply rt_rt) | (with_reducible apply nx_nil) | (with_reducible apply rt_seqNil) | (with_reducible apply nx_asg) | (with_reducible apply ok_isNN))
    rw [if_pos rfl]
    repeat (first | ((with_reducible apply ok_var); exact rfl) | ((with_reducible apply ok_calls); exact rfl) | ((with_reducible apply ok_tupL); exact Nat.le_of_ble_eq_true rfl) | ((with_reducible apply ok_lstL); exact Nat.le_of_ble_eq_true rfl) | ((with_reducible apply ok_lstC); exact Nat.le_of_ble_eq_true rfl) | (with_reducible apply ok_e2) | (with_reducible apply ok_c) | (with_reducible apply ok_cons) | (with_reducible apply ok_nil) | (with_reducible apply ok_ofL) | (with_reducible apply ok_call) | (with_reducible apply ok_meth) | (with_reducible apply ok_bV) | (with_reducible apply ok_bNot) | (with_reducible apply ok_bAnd) | (with_reducible apply ok_bOr) | (with_reducible apply ok_eAnd) | (with_reducible apply ok_eOr) | (with_reducible apply ok_eNot) | (with_reducible apply ok_eIf) | (with_reducible apply ok_iVal) | (with_reducible apply ok_range) | (with_reducible apply ok_range2) | (with_reducible apply ok_listRange) | (with_reducible apply ok_enum) | (with_reducible apply ok_bYes) | (with_reducible apply ok_mkL) | (with_reducible apply ok_mkC) | (with_reducible apply ok_ok) | (with_reducible apply ok_addI) | (with_reducible apply ok_gtI) | (with_reducible apply ok_geI) | (with_reducible apply ok_ltI) | (with_reducible apply ok_leI) | (with_reducible apply ok_leS) | (with_reducible apply ok_eqI) | (with_reducible apply ok_neI) | (with_reducible apply ok_eqS) | (with_reducible apply ok_neS) | (with_reducible apply ok_int) | (with_reducible apply ok_lenL) | (with_reducible apply ok_lenT) | (with_reducible apply ok_tupOfL) | (with_reducible apply ok_tupOfT) | (with_reducible apply bl_mk) | (with_reducible apply it_lst) | (with_reducible apply it_tup) | (with_reducible apply it_rls) | (with_reducible apply en_lst) | (with_reducible apply en_tup) | (with_reducible apply rt_seqOf) | (with_reducible apply nx_seqOf) | (with_reducible apply rt_of) | (with_reducible apply nx_of) | (with_reducible apply nx_nx) | (with_reducible apply rt_rt) | (with_reducible apply nx_nil) | (with_reducible apply rt_seqNil) | (with_reducible apply nx_asg) | (with_reducible apply ok_isNN))
    refine ⟨isl hm, ?_⟩
    repeat (first | ((with_reducible apply ok_var); exact rfl) | ((with_reducible apply ok_calls); exact rfl) | ((with_reducible apply ok_tupL); exact Nat.le_of_ble_eq_true rfl) | ((with_reducible apply ok_lstL); exact Nat.le_of_ble_eq_true rfl) | ((with_reducible apply ok_lstC); exact Nat.le_of_ble_eq_true rfl) | (with_reducible apply ok_e2) | (with_reducible apply ok_c) | (with_reducible apply ok_cons) | (with_reducible apply ok_nil) | (with_reducible apply ok_ofL) | (with_reducible apply ok_call) | (with_reducible apply ok_meth) | (with_reducible apply ok_bV) | (with_reducible apply ok_bNot) | (with_reducible apply ok_bAnd) | (with_reducible apply ok_bOr) | (with_reducible apply ok_eAnd) | (with_reducible apply ok_eOr) | (with_reducible apply ok_eNot) | (with_reducible apply ok_eIf) | (with_reducible apply ok_iVal) | (with_reducible apply ok_range) | (with_reducible apply ok_range2) | (with_reducible apply ok_listRange) | (with_reducible apply ok_enum) | (with_reducible apply ok_bYes) | (with_reducible apply ok_mkL) | (with_reducible apply ok_mkC) | (with_reducible apply ok_ok) | (with_reducible apply ok_addI) | (with_reducible apply ok_gtI) | (with_reducible apply ok_geI) | (with_reducible apply ok_ltI) | (with_reducible apply ok_leI) | (with_reducible apply ok_leS) | (with_reducible apply ok_eqI) | (with_reducible apply ok_neI) | (with_reducible apply ok_eqS) | (with_reducible apply ok_neS) | (with_reducible apply ok_int) | (with_reducible apply ok_lenL) | (with_reducible apply ok_lenT) | (with_reducible apply ok_tupOfL) | (with_reducible apply ok_tupOfT) | (with_reducible apply bl_mk) | (with_reducible apply it_lst) | (with_reducible apply it_tup) | (with_reducible apply it_rls) | (with_reducible apply en_lst) | (with_reducible apply en_tup) | (with_reducible apply rt_seqOf) | (with_reducible apply nx_seqOf) | (with_reducible apply rt_of) | (with_reducible apply nx_of) | (with_reducible apply nx_nx) | (with_reducible apply rt_rt) | (with_reducible apply nx_nil) | (with_reducible apply rt_seqNil) | (with_reducible apply nx_asg) | (with_reducible apply ok_isNN))
    refine ok_lenC hm ?_
    repeat (first | ((with_reducible apply ok_var); exact rfl) | ((with_reducible apply ok_calls); exact rfl) | ((with_reducible apply ok_tupL); exact Nat.le_of_ble_eq_true rfl) | ((with_reducible apply ok_lstL); exact Nat.le_of_ble_eq_true rfl) | ((with_reducible apply ok_lstC); exact Nat.le_of_ble_eq_true rfl) | (with_reducible apply ok_e2) | (with_reducible apply ok_c) | (with_reducible apply ok_cons) | (with_reducible apply ok_nil) | (with_reducible apply ok_ofL) | (with_reducible apply ok_call) | (with_reducible apply ok_meth) | (with_reducible apply ok_bV) | (with_reducible apply ok_bNot) | (with_reducible apply ok_bAnd) | (with_reducible apply ok_bOr) | (with_reducible apply ok_eAnd) | (with_reducible apply ok_eOr) | (with_reducible apply ok_eNot) | (with_reducible apply ok_eIf) | (with_reducible apply ok_iVal) | (with_reducible apply ok_range) | (with_reducible apply ok_range2) | (with_reducible apply ok_listRange) | (with_reducible apply ok_enum) | (with_reducible apply ok_bYes) | (with_reducible apply ok_mkL) | (with_reducible apply ok_mkC) | (with_reducible apply ok_ok) | (with_reducible apply ok_addI) | (with_reducible apply ok_gtI) | (with_reducible apply ok_geI) | (with_reducible apply ok_ltI) | (with_reducible apply ok_leI) | (with_reducible apply ok_leS) | (with_reducible apply ok_eqI) | (with_reducible apply ok_neI) | (with_reducible apply ok_eqS) | (with_reducible apply ok_neS) | (with_reducible apply ok_int) | (with_reducible apply ok_lenL) | (with_reducible apply ok_lenT) | (with_reducible apply ok_tupOfL) | (with_reducible apply ok_tupOfT) | (with_reducible apply bl_mk) | (with_reducible apply it_lst) | (with_reducible apply it_tup) | (with_reducible apply it_rls) | (with_reducible apply en_lst) | (with_reducible apply en_tup) | (with_reducible apply rt_seqOf) | (with_reducible apply nx_seqOf) | (with_reducible apply rt_of) | (with_reducible apply nx_of) | (with_reducible apply nx_nx) | (with_reducible apply rt_rt) | (with_reducible apply nx_nil) | (with_reducible apply rt_seqNil) | (with_reducible apply nx_asg) | (with_reducible apply ok_isNN))
    refine draw_ok hs (by omega) (by omega) (by omega) fun d m3 d0 d1 hs3 hf3 => ?_
    repeat (first | ((with_reducible apply ok_var); exact rfl) | ((with_reducible apply ok_calls); exact rfl) | ((with_reducible apply ok_tupL); exact Nat.le_of_ble_eq_true rfl) | ((with_reducible apply ok_lstL); exact Nat.le_of_ble_eq_true rfl) | ((with_reducible apply ok_lstC); exact Nat.le_of_ble_eq_true rfl) | (with_reducible apply ok_e2) | (with_reducible apply ok_c) | (with_reducible apply ok_cons) | (with_reducible apply ok_nil) | (with_reducible apply ok_ofL) | (with_reducible apply ok_call) | (with_reducible apply ok_meth) | (with_reducible apply ok_bV) | (with_reducible apply ok_bNot) | (with_reducible apply ok_bAnd) | (with_reducible apply ok_bOr) | (with_reducible apply ok_eAnd) | (with_reducible apply ok_eOr) | (with_reducible apply ok_eNot) | (with_reducible apply ok_eIf) | (with_reducible apply ok_iVal) | (with_reducible apply ok_range) | (with_reducible apply ok_range2) | (with_reducible apply ok_listRange) | (with_reducible apply ok_enum) | (with_reducible apply ok_bYes) | (with_reducible apply ok_mkL) | (with_reducible apply ok_mkC) | (with_reducible apply ok_ok) | (with_reducible apply ok_addI) | (with_reducible apply ok_gtI) | (with_reducible apply ok_geI) | (with_reducible apply ok_ltI) | (with_reducible apply ok_leI) | (with_reducible apply ok_leS) | (with_reducible apply ok_eqI) | (with_reducible apply ok_neI) | (with_reducible apply ok_eqS) | (with_reducible apply ok_neS) | (with_reducible apply ok_int) | (with_reducible apply ok_lenL) | (with_reducible apply ok_lenT) | (with_reducible apply ok_tupOfL) | (with_reducible apply ok_tupOfT) | (with_reducible apply bl_mk) | (with_reducible apply it_lst) | (with_reducible apply it_tup) | (with_reducible apply it_rls) | (with_reducible apply en_lst) | (with_reducible apply en_tup) | (with_reducible apply rt_seqOf) | (with_reducible apply nx_seqOf) | (with_reducible apply rt_of) | (with_reducible apply nx_of) | (with_reducible apply nx_nx) | (with_reducible apply rt_rt) | (with_reducible apply nx_nil) | (with_reducible apply rt_seqNil) | (with_reducible apply nx_asg) | (with_reducible apply ok_isNN))
    refine ok_popAt (hf3.cell hm (by omega)) d0 d1 (by omega) fun u hu => ?_
    have hl3 : m.length < m3.length := (List.getElem?_eq_some_iff.mp (hf3.cell hm (by omega))).1
    refine ⟨left.eraseIdx d.toNat, by rw [List.getElem?_set_self hl3], ?_, by simp [hz], ?_, ?_⟩
    · refine List.Perm.trans ?_ hpm
      have q1 := perm_erase hu
      refine List.Perm.trans ?_ (q1.append_right zs)
      rw [← List.append_assoc]
      refine (List.perm_append_comm).trans ?_
      simp
    · simpa [Nat.add_assoc] using hs3.set (by omega) _
    · exact (hf.trans hf3).setNew (Nat.le_refl _) _
  · rintro zs m2 ⟨left, hm, hpm, hz, hs, hf⟩
    repeat (first | ((with_reducible apply ok_var); exact rfl) | ((with_reducible apply ok_calls); exact rfl) | ((with_reducible apply ok_tupL); exact Nat.le_of_ble_eq_true rfl) | ((with_reducible apply ok_lstL); exact Nat.le_of_ble_eq_true rfl) | ((with_reducible apply ok_lstC); exact Nat.le_of_ble_eq_true rfl) | (with_reducible apply ok_e2) | (with_reducible apply ok_c) | (with_reducible apply ok_cons) | (with_reducible apply ok_nil) | (with_reducible apply ok_ofL) | (with_reducible apply ok_call) | (with_reducible apply ok_meth) | (with_reducible apply ok_bV) | (with_reducible apply ok_bNot) | (with_reducible apply ok_bAnd) | (with_reducible apply ok_bOr) | (with_reducible apply ok_eAnd) | (with_reducible apply ok_eOr) | (with_reducible apply ok_eNot) | (with_reducible apply ok_eIf) | (with_reducible apply ok_iVal) | (with_reducible apply ok_range) | (with_reducible apply ok_range2) | (with_reducible apply ok_listRange) | (with_reducible apply ok_enum) | (with_reducible apply ok_bYes) | (with_reducible apply ok_mkL) | (with_reducible apply ok_mkC) | (with_reducible apply ok_ok) | (with_reducible apply ok_addI) | (with_reducible apply ok_gtI) | (with_reducible apply ok_geI) | (with_reducible apply ok_ltI) | (with_reducible apply ok_leI) | (with_reducible apply ok_leS) | (with_reducible apply ok_eqI) | (with_reducible apply ok_neI) | (with_reducible apply ok_eqS) | (with_reducible apply ok_neS) | (with_reducible apply ok_int) | (with_reducible apply ok_lenL) | (with_reducible apply ok_lenT) | (with_reducible apply ok_tupOfL) | (with_reducible apply ok_tupOfT) | (with_reducible apply bl_mk) | (with_reducible apply it_lst) | (with_reducible apply it_tup) | (with_reducible apply it_rls) | (with_reducible apply en_lst) | (with_reducible apply en_tup) | (with_reducible apply rt_seqOf) | (with_reducible apply nx_seqOf) | (with_reducible apply rt_of) | (with_reducible apply nx_of) | (with_reducible apply nx_nx) | (with_reducible apply rt_rt) | (with_reducible apply nx_nil) | (with_reducible apply rt_seqNil) | (with_reducible apply nx_asg) | (with_reducible apply ok_isNN))
    rw [rng_len] at hz hs
    have : left = [] := by
      have := hpm.length_eq
      rw [rng_len] at this; simp at this
      exact List.eq_nil_of_length_eq_zero (by omega)
    subst this
    exact k zs m2 hpm hs hf
/-- what stands at a place, by the place as a value -/
def atT (ts : List T) : T → T
  | .int i => (ts[i.toNat]?).getD .non
  | _ => .non
theorem map_atT (ts : List T) : (rng 0 (ts.length : Int)).map (atT ts) = ts := by
  apply List.ext_getElem?
  intro i
  by_cases h : i < ts.length
  · rw [List.getElem?_map, rng_get h]
    simp [atT, h]
  · rw [List.getElem?_eq_none (by simp [rng_len]; omega), List.getElem?_eq_none (by omega)]
theorem mem_rng {n : Nat} {t : T} (h : t ∈ rng 0 (n : Int)) : ∃ i : Int, t = .int i ∧ 0 ≤ i ∧ i < n := by
  unfold rng at h
  simp at h
  obtain ⟨i, hi, rfl⟩ := h
  exact ⟨i, rfl, by omega, by omega⟩
theorem ix_rng {ts : List T} {t : T} (h : t ∈ rng 0 (ts.length : Int)) : ∃ i : Int, t = .int i ∧ atI ts i = some (atT ts t) ∧ atT ts t ∈ ts := by
  obtain ⟨i, rfl, h0, h1⟩ := mem_rng h
  obtain ⟨u, e1, e2, hu⟩ := atB h0 h1
  have e3 : atT ts (.int i) = u := by simp [atT, e2]
  exact ⟨i, rfl, by rw [e1, e3], by rw [e3]; exact hu⟩
theorem filter_yes {α : Type} (ts : List α) : ts.filter (fun _ => true) = ts := by simp
/-- the things at the places of an order: a mixture -/
theorem mixed_ok {env : Env} {m : Mem} {fi : LF} {sl : List Nat} {i j : Nat} {ts : List T} {P : T → Mem → Prop} (he : (wipeE env sl)[i]? = some (some (.lst ts))) (hn : ((wipeE env sl).length : Nat) > j) (hij : i ≠ j) (hl : ts.length < 100000)
    (h : Ok (fi env m) fun zs m1 => zs.Perm (rng 0 (ts.length : Int)) ∧ ∀ us, us.Perm ts → P (.lst us) m1) : Ok (eComp false sl fi (gN j) bYes (e2 gIx (eVar i) (eVar j)) env m) P := by
  refine ok_compP (fun _ => true) (atT ts) (h.imp fun zs m1 ⟨hp, k⟩ => ⟨?_, ?_, ?_⟩)
  · rw [hp.length_eq, rng_len]; unfold lim; omega
  · intro t ht
    obtain ⟨x, rfl, e1, _⟩ := ix_rng (hp.mem_iff.mp ht)
    refine ⟨_, rfl, ?_⟩
    repeat (first | ((with_reducible apply ok_var); exact rfl) | ((with_reducible apply ok_calls); exact rfl) | ((with_reducible apply ok_tupL); exact Nat.le_of_ble_eq_true rfl) | ((with_reducible apply ok_lstL); exact Nat.le_of_ble_eq_true rfl) | ((with_reducible apply ok_lstC); exact Nat.le_of_ble_eq_true rfl) | (with_reducible apply ok_e2) | (with_reducible apply ok_c) | (with_reducible apply ok_cons) | (with_reducible apply ok_nil) | (with_reducible apply ok_ofL) | (with_reducible apply ok_call) | (with_reducible apply ok_meth) | (with_reducible apply ok_bV) | (with_reducible apply ok_bNot) | (with_reducible apply ok_bAnd) | (with_reducible apply ok_bOr) | (with_reducible apply ok_eAnd) | (with_reducible apply ok_eOr) | (with_reducible apply ok_eNot) | (with_reducible apply ok_eIf) | (with_reducible apply ok_iVal) | (with_reducible apply ok_range) | (with_reducible apply ok_range2) | (with_reducible apply ok_listRange) | (with_reducible apply ok_enum) | (with_reducible apply ok_bYes) | (with_reducible apply ok_mkL) | (with_reducible apply ok_mkC) | (with_reducible apply ok_ok) | (with_reducible apply ok_addI) | (with_reducible apply ok_gtI) | (with_reducible apply ok_geI) | (with_reducible apply ok_ltI) | (with_reducible apply ok_leI) | (with_reducible apply ok_leS) | (with_reducible apply ok_eqI) | (with_reducible apply ok_neI) | (with_reducible apply ok_eqS) | (with_reducible apply ok_neS) | (with_reducible apply ok_int) | (with_reducible apply ok_lenL) | (with_reducible apply ok_lenT) | (with_reducible apply ok_tupOfL) | (with_reducible apply ok_tupOfT) | (with_reducible apply bl_mk) | (with_reducible apply it_lst) | (with_reducible apply it_tup) | (with_reducible apply it_rls) | (with_reducible apply en_lst) | (with_reducible apply en_tup) | (with_reducible apply rt_seqOf) | (with_reducible apply nx_seqOf) | (with_reducible apply rt_of) | (with_reducible apply nx_of) | (with_reducible apply nx_nx) | (with_reducible apply rt_rt) | (with_reducible apply nx_nil) | (with_reducible apply rt_seqNil) | (with_reducible apply nx_asg) | (with_reducible apply ok_isNN))
    refine ⟨rfl, rfl, fun _ => ?_⟩
    refine ok_e2 (ok_var (t := .lst ts) ?_ (ok_var (t := .int x) ?_ (ok_ixL e1 ⟨rfl, rfl⟩)))
    · rw [List.getElem?_set_ne (by omega)]; exact he
    · rw [List.getElem?_set_self hn]
  · refine ok_mkL (k _ ?_)
    rw [filter_yes]
    have := hp.map (atT ts)
    rwa [map_atT] at this
theorem ok_slice {env : Env} {m : Mem} {P : T → Mem → Prop} {f : EF} {lo hi : OF} (h : Ok (f env m) fun x m1 => Ok (lo env m1) fun l m2 => Ok (hi env m2) fun u m3 => Ok (gSlice false x l u m3) P) : Ok (eSlice false f lo hi env m) P :=
  Ok.bind (h.imp fun _ _ h => Ok.bind (h.imp fun _ _ h => Ok.bind h))
theorem ok_oNone {env : Env} {m : Mem} {P : Option Int → Mem → Prop} (h : P none m) : Ok (oNone env m) P := ⟨_, _, rfl, h⟩
theorem ok_oSome {env : Env} {m : Mem} {P : Option Int → Mem → Prop} {f : EF} (h : Ok (f env m) fun t m1 => ∃ i, t = .int i ∧ P (some i) m1) : Ok (oSome f env m) P :=
  Ok.bind (h.imp fun t m1 ⟨i, e, p⟩ => by subst e; exact ⟨_, _, rfl, p⟩)
theorem ok_sliceL {m : Mem} {P : T → Mem → Prop} {ts : List T} {lo hi : Option Int} (h : P (.lst (cutT ts lo hi)) m) : Ok (gSlice false (.lst ts) lo hi m) P := ⟨_, _, rfl, h⟩
theorem ok_sliceS {m : Mem} {P : T → Mem → Prop} {z : Str} {lo hi : Option Int} (hl : z.length ≤ lim) (h : P (.str (cutS z lo hi)) m) : Ok (gSlice false (.str z) lo hi m) P := ⟨_, _, by unfold gSlice; simp only [if_pos hl], h⟩
theorem cut_take {ts : List T} {k : Int} (h : 0 ≤ k) : cutT ts none (some k) = ts.take k.toNat := by
  unfold cutT HT.sIx
  simp only [if_neg (show ¬ k < 0 by omega), List.drop_zero, Nat.sub_zero]
  rcases Nat.le_total k.toNat ts.length with q | q
  · rw [Nat.min_eq_left q]
  · rw [Nat.min_eq_right q, List.take_of_length_le (Nat.le_refl _), List.take_of_length_le q]
theorem cut_drop {ts : List T} {k : Int} (h : 0 ≤ k) : cutT ts (some k) none = ts.drop k.toNat := by
  unfold cutT HT.sIx
  simp only [if_neg (show ¬ k < 0 by omega)]
  rcases Nat.le_total k.toNat ts.length with q | q
  · rw [Nat.min_eq_left q, List.take_of_length_le (by simp)]
  · rw [Nat.min_eq_right q, List.drop_of_length_le (Nat.le_refl _), List.drop_of_length_le q]; simp
structure Some (ts us : List T) : Prop where
  ne : us ≠ []
  len : us.length ≤ ts.length
  sub : ∀ t ∈ us, t ∈ ts
  nd : ts.Nodup → us.Nodup
theorem some_ok {m : Mem} {s c : Nat} {ts : List T} {P : T → Mem → Prop} (h : Src m s c) (hc : c + ts.length + 1 < 900000) (h0 : 0 < ts.length) (h1 : ts.length < 100000)
    (k : ∀ us m', Some ts us → Src m' s (c + ts.length + 1) → Fr s m m' → P (.lst us) m') : Ok (F__law_some [.loc s, .lst ts] m) P := by
  unfold F__law_some B__law_some
  refine ok_fn ?_
  try simp only [List.map_cons, List.map_nil, List.cons_append, List.nil_append, List.length_cons, List.length_nil, Nat.reduceAdd, Nat.reduceSub, List.replicate_succ, List.replicate_zero, List.set_cons_succ, List.set_cons_zero]
  refine rt_seqOf (mixed_ok (ts := ts) rfl (by simp [wipeE]) (by decide) h1 ?_)
  repeat (first | ((with_reducible apply ok_var); exact rfl) | ((with_reducible apply ok_calls); exact rfl) | ((with_reducible apply ok_tupL); exact Nat.le_of_ble_eq_true rfl) | ((with_reducible apply ok_lstL); exact Nat.le_of_ble_eq_true rfl) | ((with_reducible apply ok_lstC); exact Nat.le_of_ble_eq_true rfl) | (with_reducible apply ok_e2) | (with_reducible apply ok_c) | (with_reducible apply ok_cons) | (with_reducible apply ok_nil) | (with_reducible apply ok_ofL) | (with_reducible apply ok_call) | (with_reducible apply ok_meth) | (with_reducible apply ok_bV) | (with_reducible apply ok_bNot) | (with_reducible apply ok_bAnd) | (with_reducible apply ok_bOr) | (with_reducible apply ok_eAnd) | (with_reducible apply ok_eOr) | (with_reducible apply ok_eNot) | (with_reducible apply ok_eIf) | (with_reducible apply ok_iVal) | (with_reducible apply ok_range) | (with_reducible apply ok_range2) | (with_reducible apply ok_listRange) | (with_reducible apply ok_enum) | (with_reducible apply ok_bYes) | (with_reducible apply ok_mkL) | (with_reducible apply ok_mkC) | (with_reducible apply ok_ok) | (with_reducible apply ok_addI) | (with_reducible apply ok_gtI) | (with_reducible apply ok_geI) | (with_reducible apply ok_ltI) | (with_reducible apply ok_leI) | (with_reducible apply ok_leS) | (with_reducible apply ok_eqI) | (with_reducible apply ok_neI) | (with_reducible apply ok_eqS) | (with_reducible apply ok_neS) | (with_reducible apply ok_int) | (with_reducible apply ok_lenL) | (with_reducible apply ok_lenT) | (with_reducible apply ok_tupOfL) | (with_reducible apply ok_tupOfT) | (with_reducible apply bl_mk) | (with_reducible apply it_lst) | (with_reducible apply it_tup) | (with_reducible apply it_rls) | (with_reducible apply en_lst) | (with_reducible apply en_tup) | (with_reducible apply rt_seqOf) | (with_reducible apply nx_seqOf) | (with_reducible apply rt_of) | (with_reducible apply nx_of) | (with_reducible apply nx_nx) | (with_reducible apply rt_rt) | (with_reducible apply nx_nil) | (with_reducible apply rt_seqNil) | (with_reducible apply nx_asg) | (with_reducible apply ok_isNN))
  refine order_ok h (by omega) h1 fun zs m1 hp hs hf => ?_
  repeat (first | ((with_reducible apply ok_var); exact rfl) | ((with_reducible apply ok_calls); exact rfl) | ((with_reducible apply ok_tupL); exact Nat.le_of_ble_eq_true rfl) | ((with_reducible apply ok_lstL); exact Nat.le_of_ble_eq_true rfl) | ((with_reducible apply ok_lstC); exact Nat.le_of_ble_eq_true rfl) | (with_reducible apply ok_e2) | (with_reducible apply ok_c) | (with_reducible apply ok_cons) | (with_reducible apply ok_nil) | (with_reducible apply ok_ofL) | (with_reducible apply ok_call) | (with_reducible apply ok_meth) | (with_reducible apply ok_bV) | (with_reducible apply ok_bNot) | (with_reducible apply ok_bAnd) | (with_reducible apply ok_bOr) | (with_reducible apply ok_eAnd) | (with_reducible apply ok_eOr) | (with_reducible apply ok_eNot) | (with_reducible apply ok_eIf) | (with_reducible apply ok_iVal) | (with_reducible apply ok_range) | (with_reducible apply ok_range2) | (with_reducible apply ok_listRange) | (with_reducible apply ok_enum) | (with_reducible apply ok_bYes) | (with_reducible apply ok_mkL) | (with_reducible apply ok_mkC) | (with_reducible apply ok_ok) | (with_reducible apply ok_addI) | (with_reducible apply ok_gtI) | (with_reducible apply ok_geI) | (with_reducible apply ok_ltI) | (with_reducible apply ok_leI) | (with_reducible apply ok_leS) | (with_reducible apply ok_eqI) | (with_reducible apply ok_neI) | (with_reducible apply ok_eqS) | (with_reducible apply ok_neS) | (with_reducible apply ok_int) | (with_reducible apply ok_lenL) | (with_reducible apply ok_lenT) | (with_reducible apply ok_tupOfL) | (with_reducible apply ok_tupOfT) | (with_reducible apply bl_mk) | (with_reducible apply it_lst) | (with_reducible apply it_tup) | (with_reducible apply it_rls) | (with_reducible apply en_lst) | (with_reducible apply en_tup) | (with_reducible apply rt_seqOf) | (with_reducible apply nx_seqOf) | (with_reducible apply rt_of) | (with_reducible apply nx_of) | (with_reducible apply nx_nx) | (with_reducible apply rt_rt) | (with_reducible apply nx_nil) | (with_reducible apply rt_seqNil) | (with_reducible apply nx_asg) | (with_reducible apply ok_isNN))
  refine ⟨hp, fun us hu => ?_⟩
  repeat (first | ((with_reducible apply ok_var); exact rfl) | ((with_reducible apply ok_calls); exact rfl) | ((with_reducible apply ok_tupL); exact Nat.le_of_ble_eq_true rfl) | ((with_reducible apply ok_lstL); exact Nat.le_of_ble_eq_true rfl) | ((with_reducible apply ok_lstC); exact Nat.le_of_ble_eq_true rfl) | (with_reducible apply ok_e2) | (with_reducible apply ok_c) | (with_reducible apply ok_cons) | (with_reducible apply ok_nil) | (with_reducible apply ok_ofL) | (with_reducible apply ok_call) | (with_reducible apply ok_meth) | (with_reducible apply ok_bV) | (with_reducible apply ok_bNot) | (with_reducible apply ok_bAnd) | (with_reducible apply ok_bOr) | (with_reducible apply ok_eAnd) | (with_reducible apply ok_eOr) | (with_reducible apply ok_eNot) | (with_reducible apply ok_eIf) | (with_reducible apply ok_iVal) | (with_reducible apply ok_range) | (with_reducible apply ok_range2) | (with_reducible apply ok_listRange) | (with_reducible apply ok_enum) | (with_reducible apply ok_bYes) | (with_reducible apply ok_mkL) | (with_reducible apply ok_mkC) | (with_reducible apply ok_ok) | (with_reducible apply ok_addI) | (with_reducible apply ok_gtI) | (with_reducible apply ok_geI) | (with_reducible apply ok_ltI) | (with_reducible apply ok_leI) | (with_reducible apply ok_leS) | (with_reducible apply ok_eqI) | (with_reducible apply ok_neI) | (with_reducible apply ok_eqS) | (with_reducible apply ok_neS) | (with_reducible apply ok_int) | (with_reducible apply ok_lenL) | (with_reducible apply ok_lenT) | (with_reducible apply ok_tupOfL) | (with_reducible apply ok_tupOfT) | (with_reducible apply bl_mk) | (with_reducible apply it_lst) | (with_reducible apply it_tup) | (with_reducible apply it_rls) | (with_reducible apply en_lst) | (with_reducible apply en_tup) | (with_reducible apply rt_seqOf) | (with_reducible apply nx_seqOf) | (with_reducible apply rt_of) | (with_reducible apply nx_of) | (with_reducible apply nx_nx) | (with_reducible apply rt_rt) | (with_reducible apply nx_nil) | (with_reducible apply rt_seqNil) | (with_reducible apply nx_asg) | (with_reducible apply ok_isNN))
  refine ok_slice ?_
  repeat (first | ((with_reducible apply ok_var); exact rfl) | ((with_reducible apply ok_calls); exact rfl) | ((with_reducible apply ok_tupL); exact Nat.le_of_ble_eq_true rfl) | ((with_reducible apply ok_lstL); exact Nat.le_of_ble_eq_true rfl) | ((with_reducible apply ok_lstC); exact Nat.le_of_ble_eq_true rfl) | (with_reducible apply ok_e2) | (with_reducible apply ok_c) | (with_reducible apply ok_cons) | (with_reducible apply ok_nil) | (with_reducible apply ok_ofL) | (with_reducible apply ok_call) | (with_reducible apply ok_meth) | (with_reducible apply ok_bV) | (with_reducible apply ok_bNot) | (with_reducible apply ok_bAnd) | (with_reducible apply ok_bOr) | (with_reducible apply ok_eAnd) | (with_reducible apply ok_eOr) | (with_reducible apply ok_eNot) | (with_reducible apply ok_eIf) | (with_reducible apply ok_iVal) | (with_reducible apply ok_range) | (with_reducible apply ok_range2) | (with_reducible apply ok_listRange) | (with_reducible apply ok_enum) | (with_reducible apply ok_bYes) | (with_reducible apply ok_mkL) | (with_reducible apply ok_mkC) | (with_reducible apply ok_ok) | (with_reducible apply ok_addI) | (with_reducible apply ok_gtI) | (with_reducible apply ok_geI) | (with_reducible apply ok_ltI) | (with_reducible apply ok_leI) | (with_reducible apply ok_leS) | (with_reducible apply ok_eqI) | (with_reducible apply ok_neI) | (with_reducible apply ok_eqS) | (with_reducible apply ok_neS) | (with_reducible apply ok_int) | (with_reducible apply ok_lenL) | (with_reducible apply ok_lenT) | (with_reducible apply ok_tupOfL) | (with_reducible apply ok_tupOfT) | (with_reducible apply bl_mk) | (with_reducible apply it_lst) | (with_reducible apply it_tup) | (with_reducible apply it_rls) | (with_reducible apply en_lst) | (with_reducible apply en_tup) | (with_reducible apply rt_seqOf) | (with_reducible apply nx_seqOf) | (with_reducible apply rt_of) | (with_reducible apply nx_of) | (with_reducible apply nx_nx) | (with_reducible apply rt_rt) | (with_reducible apply nx_nil) | (with_reducible apply rt_seqNil) | (with_reducible apply nx_asg) | (with_reducible apply ok_isNN))
  refine ok_oNone (ok_oSome ?_)
  repeat (first | ((with_reducible apply ok_var); exact rfl) | ((with_reducible apply ok_calls); exact rfl) | ((with_reducible apply ok_tupL); exact Nat.le_of_ble_eq_true rfl) | ((with_reducible apply ok_lstL); exact Nat.le_of_ble_eq_true rfl) | ((with_reducible apply ok_lstC); exact Nat.le_of_ble_eq_true rfl) | (with_reducible apply ok_e2) | (with_reducible apply ok_c) | (with_reducible apply ok_cons) | (with_reducible apply ok_nil) | (with_reducible apply ok_ofL) | (with_reducible apply ok_call) | (with_reducible apply ok_meth) | (with_reducible apply ok_bV) | (with_reducible apply ok_bNot) | (with_reducible apply ok_bAnd) | (with_reducible apply ok_bOr) | (with_reducible apply ok_eAnd) | (with_reducible apply ok_eOr) | (with_reducible apply ok_eNot) | (with_reducible apply ok_eIf) | (with_reducible apply ok_iVal) | (with_reducible apply ok_range) | (with_reducible apply ok_range2) | (with_reducible apply ok_listRange) | (with_reducible apply ok_enum) | (with_reducible apply ok_bYes) | (with_reducible apply ok_mkL) | (with_reducible apply ok_mkC) | (with_reducible apply ok_ok) | (with_reducible apply ok_addI) | (with_reducible apply ok_gtI) | (with_reducible apply ok_geI) | (with_reducible apply ok_ltI) | (with_reducible apply ok_leI) | (with_reducible apply ok_leS) | (with_reducible apply ok_eqI) | (with_reducible apply ok_neI) | (with_reducible apply ok_eqS) | (with_reducible apply ok_neS) | (with_reducible apply ok_int) | (with_reducible apply ok_lenL) | (with_reducible apply ok_lenT) | (with_reducible apply ok_tupOfL) | (with_reducible apply ok_tupOfT) | (with_reducible apply bl_mk) | (with_reducible apply it_lst) | (with_reducible apply it_tup) | (with_reducible apply it_rls) | (with_reducible apply en_lst) | (with_reducible apply en_tup) | (with_reducible apply rt_seqOf) | (with_reducible apply nx_seqOf) | (with_reducible apply rt_of) | (with_reducible apply nx_of) | (with_reducible apply nx_nx) | (with_reducible apply rt_rt) | (with_reducible apply nx_nil) | (with_reducible apply rt_seqNil) | (with_reducible apply nx_asg) | (with_reducible apply ok_isNN))
  have hl := hu.length_eq
  refine draw_ok hs (by omega) (by omega) (by omega) fun d m2 d0 d1 hs2 hf2 => ?_
  repeat (first | ((with_reducible apply ok_var); exact rfl) | ((with_reducible apply ok_calls); exact rfl) | ((with_reducible apply ok_tupL); exact Nat.le_of_ble_eq_true rfl) | ((with_reducible apply ok_lstL); exact Nat.le_of_ble_eq_true rfl) | ((with_reducible apply ok_lstC); exact Nat.le_of_ble_eq_true rfl) | (with_reducible apply ok_e2) | (with_reducible apply ok_c) | (with_reducible apply ok_cons) | (with_reducible apply ok_nil) | (with_reducible apply ok_ofL) | (with_reducible apply ok_call) | (with_reducible apply ok_meth) | (with_reducible apply ok_bV) | (with_reducible apply ok_bNot) | (with_reducible apply ok_bAnd) | (with_reducible apply ok_bOr) | (with_reducible apply ok_eAnd) | (with_reducible apply ok_eOr) | (with_reducible apply ok_eNot) | (with_reducible apply ok_eIf) | (with_reducible apply ok_iVal) | (with_reducible apply ok_range) | (with_reducible apply ok_range2) | (with_reducible apply ok_listRange) | (with_reducible apply ok_enum) | (with_reducible apply ok_bYes) | (with_reducible apply ok_mkL) | (with_reducible apply ok_mkC) | (with_reducible apply ok_ok) | (with_reducible apply ok_addI) | (with_reducible apply ok_gtI) | (with_reducible apply ok_geI) | (with_reducible apply ok_ltI) | (with_reducible apply ok_leI) | (with_reducible apply ok_leS) | (with_reducible apply ok_eqI) | (with_reducible apply ok_neI) | (with_reducible apply ok_eqS) | (with_reducible apply ok_neS) | (with_reducible apply ok_int) | (with_reducible apply ok_lenL) | (with_reducible apply ok_lenT) | (with_reducible apply ok_tupOfL) | (with_reducible apply ok_tupOfT) | (with_reducible apply bl_mk) | (with_reducible apply it_lst) | (with_reducible apply it_tup) | (with_reducible apply it_rls) | (with_reducible apply en_lst) | (with_reducible apply en_tup) | (with_reducible apply rt_seqOf) | (with_reducible apply nx_seqOf) | (with_reducible apply rt_of) | (with_reducible apply nx_of) | (with_reducible apply nx_nx) | (with_reducible apply rt_rt) | (with_reducible apply nx_nil) | (with_reducible apply rt_seqNil) | (with_reducible apply nx_asg) | (with_reducible apply ok_isNN))
  refine ⟨_, rfl, ok_sliceL ?_⟩
  repeat (first | ((with_reducible apply ok_var); exact rfl) | ((with_reducible apply ok_calls); exact rfl) | ((with_reducible apply ok_tupL); exact Nat.le_of_ble_eq_true rfl) | ((with_reducible apply ok_lstL); exact Nat.le_of_ble_eq_true rfl) | ((with_reducible apply ok_lstC); exact Nat.le_of_ble_eq_true rfl) | (with_reducible apply ok_e2) | (with_reducible apply ok_c) | (with_reducible apply ok_cons) | (with_reducible apply ok_nil) | (with_reducible apply ok_ofL) | (with_reducible apply ok_call) | (with_reducible apply ok_meth) | (with_reducible apply ok_bV) | (with_reducible apply ok_bNot) | (with_reducible apply ok_bAnd) | (with_reducible apply ok_bOr) | (with_reducible apply ok_eAnd) | (with_reducible apply ok_eOr) | (with_reducible apply ok_eNot) | (with_reducible apply ok_eIf) | (with_reducible apply ok_iVal) | (with_reducible apply ok_range) | (with_reducible apply ok_range2) | (with_reducible apply ok_listRange) | (with_reducible apply ok_enum) | (with_reducible apply ok_bYes) | (with_reducible apply ok_mkL) | (with_reducible apply ok_mkC) | (with_reducible apply ok_ok) | (with_reducible apply ok_addI) | (with_reducible apply ok_gtI) | (with_reducible apply ok_geI) | (with_reducible apply ok_ltI) | (with_reducible apply ok_leI) | (with_reducible apply ok_leS) | (with_reducible apply ok_eqI) | (with_reducible apply ok_neI) | (with_reducible apply ok_eqS) | (with_reducible apply ok_neS) | (with_reducible apply ok_int) | (with_reducible apply ok_lenL) | (with_reducible apply ok_lenT) | (with_reducible apply ok_tupOfL) | (with_reducible apply ok_tupOfT) | (with_reducible apply bl_mk) | (with_reducible apply it_lst) | (with_reducible apply it_tup) | (with_reducible apply it_rls) | (with_reducible apply en_lst) | (with_reducible apply en_tup) | (with_reducible apply rt_seqOf) | (with_reducible apply nx_seqOf) | (with_reducible apply rt_of) | (with_reducible apply nx_of) | (with_reducible apply nx_nx) | (with_reducible apply rt_rt) | (with_reducible apply nx_nil) | (with_reducible apply rt_seqNil) | (with_reducible apply nx_asg) | (with_reducible apply ok_isNN))
  rw [cut_take (by omega)]
  refine k _ m2 ⟨?_, ?_, ?_, ?_⟩ hs2 (hf.trans hf2)
  · intro e
    have := congrArg List.length e
    simp at this
    rcases this with q | q
    · omega
    · subst q; simp at hl; omega
  · rw [List.length_take]; omega
  · exact fun t ht => hu.mem_iff.mp (List.mem_of_mem_take ht)
  · exact fun nd => (hu.nodup_iff.mpr nd).sublist (List.take_sublist _ _)
theorem subset_ok {m : Mem} {s c : Nat} {ts : List T} {P : T → Mem → Prop} (h : Src m s c) (hc : c + ts.length < 900000) (h1 : ts.length < 100000)
    (k : ∀ us m', us.Sublist ts → Src m' s (c + ts.length) → Fr s m m' → P (.lst us) m') : Ok (F__law_subset [.loc s, .lst ts] m) P := by
  unfold F__law_subset B__law_subset
  refine ok_fn ?_
  try simp only [List.map_cons, List.map_nil, List.cons_append, List.nil_append, List.length_cons, List.length_nil, Nat.reduceAdd, Nat.reduceSub, List.replicate_succ, List.replicate_zero, List.set_cons_succ, List.set_cons_zero]
  refine rt_of (ok_comp (fun p zs m2 => zs.Sublist p ∧ Src m2 s (c + p.length) ∧ Fr s m m2) ?_)
  repeat (first | ((with_reducible apply ok_var); exact rfl) | ((with_reducible apply ok_calls); exact rfl) | ((with_reducible apply ok_tupL); exact Nat.le_of_ble_eq_true rfl) | ((with_reducible apply ok_lstL); exact Nat.le_of_ble_eq_true rfl) | ((with_reducible apply ok_lstC); exact Nat.le_of_ble_eq_true rfl) | (with_reducible apply ok_e2) | (with_reducible apply ok_c) | (with_reducible apply ok_cons) | (with_reducible apply ok_nil) | (with_reducible apply ok_ofL) | (with_reducible apply ok_call) | (with_reducible apply ok_meth) | (with_reducible apply ok_bV) | (with_reducible apply ok_bNot) | (with_reducible apply ok_bAnd) | (with_reducible apply ok_bOr) | (with_reducible apply ok_eAnd) | (with_reducible apply ok_eOr) | (with_reducible apply ok_eNot) | (with_reducible apply ok_eIf) | (with_reducible apply ok_iVal) | (with_reducible apply ok_range) | (with_reducible apply ok_range2) | (with_reducible apply ok_listRange) | (with_reducible apply ok_enum) | (with_reducible apply ok_bYes) | (with_reducible apply ok_mkL) | (with_reducible apply ok_mkC) | (with_reducible apply ok_ok) | (with_reducible apply ok_addI) | (with_reducible apply ok_gtI) | (with_reducible apply ok_geI) | (with_reducible apply ok_ltI) | (with_reducible apply ok_leI) | (with_reducible apply ok_leS) | (with_reducible apply ok_eqI) | (with_reducible apply ok_neI) | (with_reducible apply ok_eqS) | (with_reducible apply ok_neS) | (with_reducible apply ok_int) | (with_reducible apply ok_lenL) | (with_reducible apply ok_lenT) | (with_reducible apply ok_tupOfL) | (with_reducible apply ok_tupOfT) | (with_reducible apply bl_mk) | (with_reducible apply it_lst) | (with_reducible apply it_tup) | (with_reducible apply it_rls) | (with_reducible apply en_lst) | (with_reducible apply en_tup) | (with_reducible apply rt_seqOf) | (with_reducible apply nx_seqOf) | (with_reducible apply rt_of) | (with_reducible apply nx_of) | (with_reducible apply nx_nx) | (with_reducible apply rt_rt) | (with_reducible apply nx_nil) | (with_reducible apply rt_seqNil) | (with_reducible apply nx_asg) | (with_reducible apply ok_isNN))
  refine ⟨by unfold lim; omega, ⟨.slnil, h, .refl⟩, ?_, ?_⟩
  · rintro p t q zs m2 hp ⟨hz, hs, hf⟩
    have hpl := congrArg List.length hp
    simp at hpl
    refine ⟨_, rfl, ?_⟩
    try simp only [List.map_cons, List.map_nil, List.cons_append, List.nil_append, List.length_cons, List.length_nil, Nat.reduceAdd, Nat.reduceSub, List.replicate_succ, List.replicate_zero, List.set_cons_succ, List.set_cons_zero]
    repeat (first | ((with_reducible apply ok_var); exact rfl) | ((with_reducible apply ok_calls); exact rfl) | ((with_reducible apply ok_tupL); exact Nat.le_of_ble_eq_true rfl) | ((with_reducible apply ok_lstL); exact Nat.le_of_ble_eq_true rfl) | ((with_reducible apply ok_lstC); exact Nat.le_of_ble_eq_true rfl) | (with_reducible apply ok_e2) | (with_reducible apply ok_c) | (with_reducible apply ok_cons) | (with_reducible apply ok_nil) | (with_reducible apply ok_ofL) | (with_reducible apply ok_call) | (with_reducible apply ok_meth) | (with_reducible apply ok_bV) | (with_reducible apply ok_bNot) | (with_reducible apply ok_bAnd) | (with_reducible apply ok_bOr) | (with_reducible apply ok_eAnd) | (with_reducible apply ok_eOr) | (with_reducible apply ok_eNot) | (with_reducible apply ok_eIf) | (with_reducible apply ok_iVal) | (with_reducible apply ok_range) | (with_reducible apply ok_range2) | (with_reducible apply ok_listRange) | (with_reducible apply ok_enum) | (with_reducible apply ok_bYes) | (with_reducible apply ok_mkL) | (with_reducible apply ok_mkC) | (with_reducible apply ok_ok) | (with_reducible apply ok_addI) | (with_reducible apply ok_gtI) | (with_reducible apply ok_geI) | (with_reducible apply ok_ltI) | (with_reducible apply ok_leI) | (with_reducible apply ok_leS) | (with_reducible apply ok_eqI) | (with_reducible apply ok_neI) | (with_reducible apply ok_eqS) | (with_reducible apply ok_neS) | (with_reducible apply ok_int) | (with_reducible apply ok_lenL) | (with_reducible apply ok_lenT) | (with_reducible apply ok_tupOfL) | (with_reducible apply ok_tupOfT) | (with_reducible apply bl_mk) | (with_reducible apply it_lst) | (with_reducible apply it_tup) | (with_reducible apply it_rls) | (with_reducible apply en_lst) | (with_reducible apply en_tup) | (with_reducible apply rt_seqOf) | (with_reducible apply nx_seqOf) | (with_reducible apply rt_of) | (with_reducible apply nx_of) | (with_reducible apply nx_nx) | (with_reducible apply rt_rt) | (with_reducible apply nx_nil) | (with_reducible apply rt_seqNil) | (with_reducible apply nx_asg) | (with_reducible apply ok_isNN))
    refine draw_ok hs (by omega) (by omega) (by omega) fun d m3 d0 d1 hs3 hf3 => ?_
    repeat (first | ((with_reducible apply ok_var); exact rfl) | ((with_reducible apply ok_calls); exact rfl) | ((with_reducible apply ok_tupL); exact Nat.le_of_ble_eq_true rfl) | ((with_reducible apply ok_lstL); exact Nat.le_of_ble_eq_true rfl) | ((with_reducible apply ok_lstC); exact Nat.le_of_ble_eq_true rfl) | (with_reducible apply ok_e2) | (with_reducible apply ok_c) | (with_reducible apply ok_cons) | (with_reducible apply ok_nil) | (with_reducible apply ok_ofL) | (with_reducible apply ok_call) | (with_reducible apply ok_meth) | (with_reducible apply ok_bV) | (with_reducible apply ok_bNot) | (with_reducible apply ok_bAnd) | (with_reducible apply ok_bOr) | (with_reducible apply ok_eAnd) | (with_reducible apply ok_eOr) | (with_reducible apply ok_eNot) | (with_reducible apply ok_eIf) | (with_reducible apply ok_iVal) | (with_reducible apply ok_range) | (with_reducible apply ok_range2) | (with_reducible apply ok_listRange) | (with_reducible apply ok_enum) | (with_reducible apply ok_bYes) | (with_reducible apply ok_mkL) | (with_reducible apply ok_mkC) | (with_reducible apply ok_ok) | (with_reducible apply ok_addI) | (with_reducible apply ok_gtI) | (with_reducible apply ok_geI) | (with_reducible apply ok_ltI) | (with_reducible apply ok_leI) | (with_reducible apply ok_leS) | (with_reducible apply ok_eqI) | (with_reducible apply ok_neI) | (with_reducible apply ok_eqS) | (with_reducible apply ok_neS) | (with_reducible apply ok_int) | (with_reducible apply ok_lenL) | (with_reducible apply ok_lenT) | (with_reducible apply ok_tupOfL) | (with_reducible apply ok_tupOfT) | (with_reducible apply bl_mk) | (with_reducible apply it_lst) | (with_reducible apply it_tup) | (with_reducible apply it_rls) | (with_reducible apply en_lst) | (with_reducible apply en_tup) | (with_reducible apply rt_seqOf) | (with_reducible apply nx_seqOf) | (with_reducible apply rt_of) | (with_reducible apply nx_of) | (with_reducible apply nx_nx) | (with_reducible apply rt_rt) | (with_reducible apply nx_nil) | (with_reducible apply rt_seqNil) | (with_reducible apply nx_asg) | (with_reducible apply ok_isNN))
    split
    · repeat (first | ((with_reducible apply ok_var); exact rfl) | ((with_reducible apply ok_calls); exact rfl) | ((with_reducible apply ok_tupL); exact Nat.le_of_ble_eq_true rfl) | ((with_reducible apply ok_lstL); exact Nat.le_of_ble_eq_true rfl) | ((with_reducible apply ok_lstC); exact Nat.le_of_ble_eq_true rfl) | (with_reducible apply ok_e2) | (with_reducible apply ok_c) | (with_reducible apply ok_cons) | (with_reducible apply ok_nil) | (with_reducible apply ok_ofL) | (with_reducible apply ok_call) | (with_reducible apply ok_meth) | (with_reducible apply ok_bV) | (with_reducible apply ok_bNot) | (with_reducible apply ok_bAnd) | (with_reducible apply ok_bOr) | (with_reducible apply ok_eAnd) | (with_reducible apply ok_eOr) | (with_reducible apply ok_eNot) | (with_reducible apply ok_eIf) | (with_reducible apply ok_iVal) | (with_reducible apply ok_range) | (with_reducible apply ok_range2) | (with_reducible apply ok_listRange) | (with_reducible apply ok_enum) | (with_reducible apply ok_bYes) | (with_reducible apply ok_mkL) | (with_reducible apply ok_mkC) | (with_reducible apply ok_ok) | (with_reducible apply ok_addI) | (with_reducible apply ok_gtI) | (with_reducible apply ok_geI) | (with_reducible apply ok_ltI) | (with_reducible apply ok_leI) | (with_reducible apply ok_leS) | (with_reducible apply ok_eqI) | (with_reducible apply ok_neI) | (with_reducible apply ok_eqS) | (with_reducible apply ok_neS) | (with_reducible apply ok_int) | (with_reducible apply ok_lenL) | (with_reducible apply ok_lenT) | (with_reducible apply ok_tupOfL) | (with_reducible apply ok_tupOfT) | (with_reducible apply bl_mk) | (with_reducible apply it_lst) | (with_reducible apply it_tup) | (with_reducible apply it_rls) | (with_reducible apply en_lst) | (with_reducible apply en_tup) | (with_reducible apply rt_seqOf) | (with_reducible apply nx_seqOf) | (with_reducible apply rt_of) | (with_reducible apply nx_of) | (with_reducible apply nx_nx) | (with_reducible apply rt_rt) | (with_reducible apply nx_nil) | (with_reducible apply rt_seqNil) | (with_reducible apply nx_asg) | (with_reducible apply ok_isNN))
      exact ⟨hz.append (.refl _), by simpa [Nat.add_assoc] using hs3, hf.trans hf3⟩
    · exact ⟨by simpa using hz.append (List.nil_sublist [t]), by simpa [Nat.add_assoc] using hs3, hf.trans hf3⟩
  · rintro zs m2 ⟨hz, hs, hf⟩
    repeat (first | ((with_reducible apply ok_var); exact rfl) | ((with_reducible apply ok_calls); exact rfl) | ((with_reducible apply ok_tupL); exact Nat.le_of_ble_eq_true rfl) | ((with_reducible apply ok_lstL); exact Nat.le_of_ble_eq_true rfl) | ((with_reducible apply ok_lstC); exact Nat.le_of_ble_eq_true rfl) | (with_reducible apply ok_e2) | (with_reducible apply ok_c) | (with_reducible apply ok_cons) | (with_reducible apply ok_nil) | (with_reducible apply ok_ofL) | (with_reducible apply ok_call) | (with_reducible apply ok_meth) | (with_reducible apply ok_bV) | (with_reducible apply ok_bNot) | (with_reducible apply ok_bAnd) | (with_reducible apply ok_bOr) | (with_reducible apply ok_eAnd) | (with_reducible apply ok_eOr) | (with_reducible apply ok_eNot) | (with_reducible apply ok_eIf) | (with_reducible apply ok_iVal) | (with_reducible apply ok_range) | (with_reducible apply ok_range2) | (with_reducible apply ok_listRange) | (with_reducible apply ok_enum) | (with_reducible apply ok_bYes) | (with_reducible apply ok_mkL) | (with_reducible apply ok_mkC) | (with_reducible apply ok_ok) | (with_reducible apply ok_addI) | (with_reducible apply ok_gtI) | (with_reducible apply ok_geI) | (with_reducible apply ok_ltI) | (with_reducible apply ok_leI) | (with_reducible apply ok_leS) | (with_reducible apply ok_eqI) | (with_reducible apply ok_neI) | (with_reducible apply ok_eqS) | (with_reducible apply ok_neS) | (with_reducible apply ok_int) | (with_reducible apply ok_lenL) | (with_reducible apply ok_lenT) | (with_reducible apply ok_tupOfL) | (with_reducible apply ok_tupOfT) | (with_reducible apply bl_mk) | (with_reducible apply it_lst) | (with_reducible apply it_tup) | (with_reducible apply it_rls) | (with_reducible apply en_lst) | (with_reducible apply en_tup) | (with_reducible apply rt_seqOf) | (with_reducible apply nx_seqOf) | (with_reducible apply rt_of) | (with_reducible apply nx_of) | (with_reducible apply nx_nx) | (with_reducible apply rt_rt) | (with_reducible apply nx_nil) | (with_reducible apply rt_seqNil) | (with_reducible apply nx_asg) | (with_reducible apply ok_isNN))
    exact k zs m2 hz hs hf
end M

namespace M
open PySem hiding Env
open L2 Ev G
/-- what may stand as a condition -/
def CondT (ts : List T) (t : T) : Prop := ∃ lo mo us, t = .tup [.int lo, mo, .tup us] ∧ 0 ≤ lo ∧ lo ≤ 9 ∧ (mo = .non ∨ ∃ h, mo = .int h ∧ 0 ≤ h ∧ h ≤ 9) ∧ us ≠ [] ∧ us.Nodup ∧ (∀ u ∈ us, u ∈ ts) ∧ us.length ≤ ts.length
theorem condition_ok {m : Mem} {s c : Nat} {ts : List T} {P : T → Mem → Prop} (h : Src m s c) (hc : c + ts.length + 6 < 900000) (h0 : 0 < ts.length) (h1 : ts.length < 100000) (hn : ts.Nodup)
    (k : ∀ t m', CondT ts t → Src m' s (c + ts.length + 6) → Fr s m m' → P t m') : Ok (F__law_condition [.loc s, .lst ts] m) P := by
  unfold F__law_condition B__law_condition
  refine ok_fn ?_
  try simp only [List.map_cons, List.map_nil, List.cons_append, List.nil_append, List.length_cons, List.length_nil, Nat.reduceAdd, Nat.reduceSub, List.replicate_succ, List.replicate_zero, List.set_cons_succ, List.set_cons_zero]
  repeat (first | ((with_reducible apply ok_var); exact rfl) | ((with_reducible apply ok_calls); exact rfl) | ((with_reducible apply ok_tupL); exact Nat.le_of_ble_eq_true rfl) | ((with_reducible apply ok_lstL); exact Nat.le_of_ble_eq_true rfl) | ((with_reducible apply ok_lstC); exact Nat.le_of_ble_eq_true rfl) | (with_reducible apply ok_e2) | (with_reducible apply ok_c) | (with_reducible apply ok_cons) | (with_reducible apply ok_nil) | (with_reducible apply ok_ofL) | (with_reducible apply ok_call) | (with_reducible apply ok_meth) | (with_reducible apply ok_bV) | (with_reducible apply ok_bNot) | (with_reducible apply ok_bAnd) | (with_reducible apply ok_bOr) | (with_reducible apply ok_eAnd) | (with_reducible apply ok_eOr) | (with_reducible apply ok_eNot) | (with_reducible apply ok_eIf) | (with_reducible apply ok_iVal) | (with_reducible apply ok_range) | (with_reducible apply ok_range2) | (with_reducible apply ok_listRange) | (with_reducible apply ok_enum) | (with_reducible apply ok_bYes) | (with_reducible apply ok_mkL) | (with_reducible apply ok_mkC) | (with_reducible apply ok_ok) | (with_reducible apply ok_addI) | (with_reducible apply ok_gtI) | (with_reducible apply ok_geI) | (with_reducible apply ok_ltI) | (with_reducible apply ok_leI) | (with_reducible apply ok_leS) | (with_reducible apply ok_eqI) | (with_reducible apply ok_neI) | (with_reducible apply ok_eqS) | (with_reducible apply ok_neS) | (with_reducible apply ok_int) | (with_reducible apply ok_lenL) | (with_reducible apply ok_lenT) | (with_reducible apply ok_tupOfL) | (with_reducible apply ok_tupOfT) | (with_reducible apply bl_mk) | (with_reducible apply it_lst) | (with_reducible apply it_tup) | (with_reducible apply it_rls) | (with_reducible apply en_lst) | (with_reducible apply en_tup) | (with_reducible apply rt_seqOf) | (with_reducible apply nx_seqOf) | (with_reducible apply rt_of) | (with_reducible apply nx_of) | (with_reducible apply nx_nx) | (with_reducible apply rt_rt) | (with_reducible apply nx_nil) | (with_reducible apply rt_seqNil) | (with_reducible apply nx_asg) | (with_reducible apply ok_isNN))
  refine draw_ok h (by omega) (by omega) (by omega) fun lo m1 l0 l1 hs1 hf1 => ?_
  refine nx_nx ?_
  try simp only [List.map_cons, List.map_nil, List.cons_append, List.nil_append, List.length_cons, List.length_nil, Nat.reduceAdd, Nat.reduceSub, List.replicate_succ, List.replicate_zero, List.set_cons_succ, List.set_cons_zero]
  refine rt_seqOf (Ok.imp (P := fun t m2 => (t = .non ∨ ∃ h, t = .int h ∧ 0 ≤ h ∧ h ≤ 9) ∧ Src m2 s (c + 3) ∧ Fr s m m2) ?_ ?_)
  · repeat (first | ((with_reducible apply ok_var); exact rfl) | ((with_reducible apply ok_calls); exact rfl) | ((with_reducible apply ok_tupL); exact Nat.le_of_ble_eq_true rfl) | ((with_reducible apply ok_lstL); exact Nat.le_of_ble_eq_true rfl) | ((with_reducible apply ok_lstC); exact Nat.le_of_ble_eq_true rfl) | (with_reducible apply ok_e2) | (with_reducible apply ok_c) | (with_reducible apply ok_cons) | (with_reducible apply ok_nil) | (with_reducible apply ok_ofL) | (with_reducible apply ok_call) | (with_reducible apply ok_meth) | (with_reducible apply ok_bV) | (with_reducible apply ok_bNot) | (with_reducible apply ok_bAnd) | (with_reducible apply ok_bOr) | (with_reducible apply ok_eAnd) | (with_reducible apply ok_eOr) | (with_reducible apply ok_eNot) | (with_reducible apply ok_eIf) | (with_reducible apply ok_iVal) | (with_reducible apply ok_range) | (with_reducible apply ok_range2) | (with_reducible apply ok_listRange) | (with_reducible apply ok_enum) | (with_reducible apply ok_bYes) | (with_reducible apply ok_mkL) | (with_reducible apply ok_mkC) | (with_reducible apply ok_ok) | (with_reducible apply ok_addI) | (with_reducible apply ok_gtI) | (with_reducible apply ok_geI) | (with_reducible apply ok_ltI) | (with_reducible apply ok_leI) | (with_reducible apply ok_leS) | (with_reducible apply ok_eqI) | (with_reducible apply ok_neI) | (with_reducible apply ok_eqS) | (with_reducible apply ok_neS) | (with_reducible apply ok_int) | (with_reducible apply ok_lenL) | (with_reducible apply ok_lenT) | (with_reducible apply ok_tupOfL) | (with_reducible apply ok_tupOfT) | (with_reducible apply bl_mk) | (with_reducible apply it_lst) | (with_reducible apply it_tup) | (with_reducible apply it_rls) | (with_reducible apply en_lst) | (with_reducible apply en_tup) | (with_reducible apply rt_seqOf) | (with_reducible apply nx_seqOf) | (with_reducible apply rt_of) | (with_reducible apply nx_of) | (with_reducible apply nx_nx) | (with_reducible apply rt_rt) | (with_reducible apply nx_nil) | (with_reducible apply rt_seqNil) | (with_reducible apply nx_asg) | (with_reducible apply ok_isNN))
    refine draw_ok hs1 (by omega) (by omega) (by omega) fun d m2 d0 d1 hs2 hf2 => ?_
    repeat (first | ((with_reducible apply ok_var); exact rfl) | ((with_reducible apply ok_calls); exact rfl) | ((with_reducible apply ok_tupL); exact Nat.le_of_ble_eq_true rfl) | ((with_reducible apply ok_lstL); exact Nat.le_of_ble_eq_true rfl) | ((with_reducible apply ok_lstC); exact Nat.le_of_ble_eq_true rfl) | (with_reducible apply ok_e2) | (with_reducible apply ok_c) | (with_reducible apply ok_cons) | (with_reducible apply ok_nil) | (with_reducible apply ok_ofL) | (with_reducible apply ok_call) | (with_reducible apply ok_meth) | (with_reducible apply ok_bV) | (with_reducible apply ok_bNot) | (with_reducible apply ok_bAnd) | (with_reducible apply ok_bOr) | (with_reducible apply ok_eAnd) | (with_reducible apply ok_eOr) | (with_reducible apply ok_eNot) | (with_reducible apply ok_eIf) | (with_reducible apply ok_iVal) | (with_reducible apply ok_range) | (with_reducible apply ok_range2) | (with_reducible apply ok_listRange) | (with_reducible apply ok_enum) | (with_reducible apply ok_bYes) | (with_reducible apply ok_mkL) | (with_reducible apply ok_mkC) | (with_reducible apply ok_ok) | (with_reducible apply ok_addI) | (with_reducible apply ok_gtI) | (with_reducible apply ok_geI) | (with_reducible apply ok_ltI) | (with_reducible apply ok_leI) | (with_reducible apply ok_leS) | (with_reducible apply ok_eqI) | (with_reducible apply ok_neI) | (with_reducible apply ok_eqS) | (with_reducible apply ok_neS) | (with_reducible apply ok_int) | (with_reducible apply ok_lenL) | (with_reducible apply ok_lenT) | (with_reducible apply ok_tupOfL) | (with_reducible apply ok_tupOfT) | (with_reducible apply bl_mk) | (with_reducible apply it_lst) | (with_reducible apply it_tup) | (with_reducible apply it_rls) | (with_reducible apply en_lst) | (with_reducible apply en_tup) | (with_reducible apply rt_seqOf) | (with_reducible apply nx_seqOf) | (with_reducible apply rt_of) | (with_reducible apply nx_of) | (with_reducible apply nx_nx) | (with_reducible apply rt_rt) | (with_reducible apply nx_nil) | (with_reducible apply rt_seqNil) | (with_reducible apply nx_asg) | (with_reducible apply ok_isNN))
    split
    · repeat (first | ((with_reducible apply ok_var); exact rfl) | ((with_reducible apply ok_calls); exact rfl) | ((with_reducible apply ok_tupL); exact Nat.le_of_ble_eq_true rfl) | ((with_reducible apply ok_lstL); exact Nat.le_of_ble_eq_true rfl) | ((with_reducible apply ok_lstC); exact Nat.le_of_ble_eq_true rfl) | (with_reducible apply ok_e2) | (with_reducible apply ok_c) | (with_reducible apply ok_cons) | (with_reducible apply ok_nil) | (with_reducible apply ok_ofL) | (with_reducible apply ok_call) | (with_reducible apply ok_meth) | (with_reducible apply ok_bV) | (with_reducible apply ok_bNot) | (with_reducible apply ok_bAnd) | (with_reducible apply ok_bOr) | (with_reducible apply ok_eAnd) | (with_reducible apply ok_eOr) | (with_reducible apply ok_eNot) | (with_reducible apply ok_eIf) | (with_reducible apply ok_iVal) | (with_reducible apply ok_range) | (with_reducible apply ok_range2) | (with_reducible apply ok_listRange) | (with_reducible apply ok_enum) | (with_reducible apply ok_bYes) | (with_reducible apply ok_mkL) | (with_reducible apply ok_mkC) | (with_reducible apply ok_ok) | (with_reducible apply ok_addI) | (with_reducible apply ok_gtI) | (with_reducible apply ok_geI) | (with_reducible apply ok_ltI) | (with_reducible apply ok_leI) | (with_reducible apply ok_leS) | (with_reducible apply ok_eqI) | (with_reducible apply ok_neI) | (with_reducible apply ok_eqS) | (with_reducible apply ok_neS) | (with_reducible apply ok_int) | (with_reducible apply ok_lenL) | (with_reducible apply ok_lenT) | (with_reducible apply ok_tupOfL) | (with_reducible apply ok_tupOfT) | (with_reducible apply bl_mk) | (with_reducible apply it_lst) | (with_reducible apply it_tup) | (with_reducible apply it_rls) | (with_reducible apply en_lst) | (with_reducible apply en_tup) | (with_reducible apply rt_seqOf) | (with_reducible apply nx_seqOf) | (with_reducible apply rt_of) | (with_reducible apply nx_of) | (with_reducible apply nx_nx) | (with_reducible apply rt_rt) | (with_reducible apply nx_nil) | (with_reducible apply rt_seqNil) | (with_reducible apply nx_asg) | (with_reducible apply ok_isNN))
      exact ⟨.inl rfl, hs2.mono (by omega), hf1.trans hf2⟩
    · repeat (first | ((with_reducible apply ok_var); exact rfl) | ((with_reducible apply ok_calls); exact rfl) | ((with_reducible apply ok_tupL); exact Nat.le_of_ble_eq_true rfl) | ((with_reducible apply ok_lstL); exact Nat.le_of_ble_eq_true rfl) | ((with_reducible apply ok_lstC); exact Nat.le_of_ble_eq_true rfl) | (with_reducible apply ok_e2) | (with_reducible apply ok_c) | (with_reducible apply ok_cons) | (with_reducible apply ok_nil) | (with_reducible apply ok_ofL) | (with_reducible apply ok_call) | (with_reducible apply ok_meth) | (with_reducible apply ok_bV) | (with_reducible apply ok_bNot) | (with_reducible apply ok_bAnd) | (with_reducible apply ok_bOr) | (with_reducible apply ok_eAnd) | (with_reducible apply ok_eOr) | (with_reducible apply ok_eNot) | (with_reducible apply ok_eIf) | (with_reducible apply ok_iVal) | (with_reducible apply ok_range) | (with_reducible apply ok_range2) | (with_reducible apply ok_listRange) | (with_reducible apply ok_enum) | (with_reducible apply ok_bYes) | (with_reducible apply ok_mkL) | (with_reducible apply ok_mkC) | (with_reducible apply ok_ok) | (with_reducible apply ok_addI) | (with_reducible apply ok_gtI) | (with_reducible apply ok_geI) | (with_reducible apply ok_ltI) | (with_reducible apply ok_leI) | (with_reducible apply ok_leS) | (with_reducible apply ok_eqI) | (with_reducible apply ok_neI) | (with_reducible apply ok_eqS) | (with_reducible apply ok_neS) | (with_reducible apply ok_int) | (with_reducible apply ok_lenL) | (with_reducible apply ok_lenT) | (with_reducible apply ok_tupOfL) | (with_reducible apply ok_tupOfT) | (with_reducible apply bl_mk) | (with_reducible apply it_lst) | (with_reducible apply it_tup) | (with_reducible apply it_rls) | (with_reducible apply en_lst) | (with_reducible apply en_tup) | (with_reducible apply rt_seqOf) | (with_reducible apply nx_seqOf) | (with_reducible apply rt_of) | (with_reducible apply nx_of) | (with_reducible apply nx_nx) | (with_reducible apply rt_rt) | (with_reducible apply nx_nil) | (with_reducible apply rt_seqNil) | (with_reducible apply nx_asg) | (with_reducible apply ok_isNN))
      refine draw_ok hs2 (by omega) (by omega) (by omega) fun d m3 e0 e1 hs3 hf3 => ?_
      repeat (first | ((with_reducible apply ok_var); exact rfl) | ((with_reducible apply ok_calls); exact rfl) | ((with_reducible apply ok_tupL); exact Nat.le_of_ble_eq_true rfl) | ((with_reducible apply ok_lstL); exact Nat.le_of_ble_eq_true rfl) | ((with_reducible apply ok_lstC); exact Nat.le_of_ble_eq_true rfl) | (with_reducible apply ok_e2) | (with_reducible apply ok_c) | (with_reducible apply ok_cons) | (with_reducible apply ok_nil) | (with_reducible apply ok_ofL) | (with_reducible apply ok_call) | (with_reducible apply ok_meth) | (with_reducible apply ok_bV) | (with_reducible apply ok_bNot) | (with_reducible apply ok_bAnd) | (with_reducible apply ok_bOr) | (with_reducible apply ok_eAnd) | (with_reducible apply ok_eOr) | (with_reducible apply ok_eNot) | (with_reducible apply ok_eIf) | (with_reducible apply ok_iVal) | (with_reducible apply ok_range) | (with_reducible apply ok_range2) | (with_reducible apply ok_listRange) | (with_reducible apply ok_enum) | (with_reducible apply ok_bYes) | (with_reducible apply ok_mkL) | (with_reducible apply ok_mkC) | (with_reducible apply ok_ok) | (with_reducible apply ok_addI) | (with_reducible apply ok_gtI) | (with_reducible apply ok_geI) | (with_reducible apply ok_ltI) | (with_reducible apply ok_leI) | (with_reducible apply ok_leS) | (with_reducible apply ok_eqI) | (with_reducible apply ok_neI) | (with_reducible apply ok_eqS) | (with_reducible apply ok_neS) | (with_reducible apply ok_int) | (with_reducible apply ok_lenL) | (with_reducible apply ok_lenT) | (with_reducible apply ok_tupOfL) | (with_reducible apply ok_tupOfT) | (with_reducible apply bl_mk) | (with_reducible apply it_lst) | (with_reducible apply it_tup) | (with_reducible apply it_rls) | (with_reducible apply en_lst) | (with_reducible apply en_tup) | (with_reducible apply rt_seqOf) | (with_reducible apply nx_seqOf) | (with_reducible apply rt_of) | (with_reducible apply nx_of) | (with_reducible apply nx_nx) | (with_reducible apply rt_rt) | (with_reducible apply nx_nil) | (with_reducible apply rt_seqNil) | (with_reducible apply nx_asg) | (with_reducible apply ok_isNN))
      exact ⟨.inr ⟨_, rfl, by omega, by omega⟩, hs3, (hf1.trans hf2).trans hf3⟩
  · rintro mo m2 ⟨hmo, hs2, hf2⟩
    refine nx_nx ?_
    try simp only [List.map_cons, List.map_nil, List.cons_append, List.nil_append, List.length_cons, List.length_nil, Nat.reduceAdd, Nat.reduceSub, List.replicate_succ, List.replicate_zero, List.set_cons_succ, List.set_cons_zero]
    refine rt_seq (Nx.imp (P := fun env m3 => ∃ lo' mo', env = [some (.loc s), some (.lst ts), some (.int lo'), some mo'] ∧ 0 ≤ lo' ∧ lo' ≤ 9 ∧ (mo' = .non ∨ ∃ h, mo' = .int h ∧ 0 ≤ h ∧ h ≤ 9) ∧ Src m3 s (c + 4) ∧ Fr s m m3) (nx_if ?_) ?_)
    · repeat (first | ((with_reducible apply ok_var); exact rfl) | ((with_reducible apply ok_calls); exact rfl) | ((with_reducible apply ok_tupL); exact Nat.le_of_ble_eq_true rfl) | ((with_reducible apply ok_lstL); exact Nat.le_of_ble_eq_true rfl) | ((with_reducible apply ok_lstC); exact Nat.le_of_ble_eq_true rfl) | (with_reducible apply ok_e2) | (with_reducible apply ok_c) | (with_reducible apply ok_cons) | (with_reducible apply ok_nil) | (with_reducible apply ok_ofL) | (with_reducible apply ok_call) | (with_reducible apply ok_meth) | (with_reducible apply ok_bV) | (with_reducible apply ok_bNot) | (with_reducible apply ok_bAnd) | (with_reducible apply ok_bOr) | (with_reducible apply ok_eAnd) | (with_reducible apply ok_eOr) | (with_reducible apply ok_eNot) | (with_reducible apply ok_eIf) | (with_reducible apply ok_iVal) | (with_reducible apply ok_range) | (with_reducible apply ok_range2) | (with_reducible apply ok_listRange) | (with_reducible apply ok_enum) | (with_reducible apply ok_bYes) | (with_reducible apply ok_mkL) | (with_reducible apply ok_mkC) | (with_reducible apply ok_ok) | (with_reducible apply ok_addI) | (with_reducible apply ok_gtI) | (with_reducible apply ok_geI) | (with_reducible apply ok_ltI) | (with_reducible apply ok_leI) | (with_reducible apply ok_leS) | (with_reducible apply ok_eqI) | (with_reducible apply ok_neI) | (with_reducible apply ok_eqS) | (with_reducible apply ok_neS) | (with_reducible apply ok_int) | (with_reducible apply ok_lenL) | (with_reducible apply ok_lenT) | (with_reducible apply ok_tupOfL) | (with_reducible apply ok_tupOfT) | (with_reducible apply bl_mk) | (with_reducible apply it_lst) | (with_reducible apply it_tup) | (with_reducible apply it_rls) | (with_reducible apply en_lst) | (with_reducible apply en_tup) | (with_reducible apply rt_seqOf) | (with_reducible apply nx_seqOf) | (with_reducible apply rt_of) | (with_reducible apply nx_of) | (with_reducible apply nx_nx) | (with_reducible apply rt_rt) | (with_reducible apply nx_nil) | (with_reducible apply rt_seqNil) | (with_reducible apply nx_asg) | (with_reducible apply ok_isNN))
      refine draw_ok hs2 (by omega) (by omega) (by omega) fun d m3 d0 d1 hs3 hf3 => ?_
      repeat (first | ((with_reducible apply ok_var); exact rfl) | ((with_reducible apply ok_calls); exact rfl) | ((with_reducible apply ok_tupL); exact Nat.le_of_ble_eq_true rfl) | ((with_reducible apply ok_lstL); exact Nat.le_of_ble_eq_true rfl) | ((with_reducible apply ok_lstC); exact Nat.le_of_ble_eq_true rfl) | (with_reducible apply ok_e2) | (with_reducible apply ok_c) | (with_reducible apply ok_cons) | (with_reducible apply ok_nil) | (with_reducible apply ok_ofL) | (with_reducible apply ok_call) | (with_reducible apply ok_meth) | (with_reducible apply ok_bV) | (with_reducible apply ok_bNot) | (with_reducible apply ok_bAnd) | (with_reducible apply ok_bOr) | (with_reducible apply ok_eAnd) | (with_reducible apply ok_eOr) | (with_reducible apply ok_eNot) | (with_reducible apply ok_eIf) | (with_reducible apply ok_iVal) | (with_reducible apply ok_range) | (with_reducible apply ok_range2) | (with_reducible apply ok_listRange) | (with_reducible apply ok_enum) | (with_reducible apply ok_bYes) | (with_reducible apply ok_mkL) | (with_reducible apply ok_mkC) | (with_reducible apply ok_ok) | (with_reducible apply ok_addI) | (with_reducible apply ok_gtI) | (with_reducible apply ok_geI) | (with_reducible apply ok_ltI) | (with_reducible apply ok_leI) | (with_reducible apply ok_leS) | (with_reducible apply ok_eqI) | (with_reducible apply ok_neI) | (with_reducible apply ok_eqS) | (with_reducible apply ok_neS) | (with_reducible apply ok_int) | (with_reducible apply ok_lenL) | (with_reducible apply ok_lenT) | (with_reducible apply ok_tupOfL) | (with_reducible apply ok_tupOfT) | (with_reducible apply bl_mk) | (with_reducible apply it_lst) | (with_reducible apply it_tup) | (with_reducible apply it_rls) | (with_reducible apply en_lst) | (with_reducible apply en_tup) | (with_reducible apply rt_seqOf) | (with_reducible apply nx_seqOf) | (with_reducible apply rt_of) | (with_reducible apply nx_of) | (with_reducible apply nx_nx) | (with_reducible apply rt_rt) | (with_reducible apply nx_nil) | (with_reducible apply rt_seqNil) | (with_reducible apply nx_asg) | (with_reducible apply ok_isNN))
      split
      · repeat (first | ((with_reducible apply ok_var); exact rfl) | ((with_reducible apply ok_calls); exact rfl) | ((with_reducible apply ok_tupL); exact Nat.le_of_ble_eq_true rfl) | ((with_reducible apply ok_lstL); exact Nat.le_of_ble_eq_true rfl) | ((with_reducible apply ok_lstC); exact Nat.le_of_ble_eq_true rfl) | (with_reducible apply ok_e2) | (with_reducible apply ok_c) | (with_reducible apply ok_cons) | (with_reducible apply ok_nil) | (with_reducible apply ok_ofL) | (with_reducible apply ok_call) | (with_reducible apply ok_meth) | (with_reducible apply ok_bV) | (with_reducible apply ok_bNot) | (with_reducible apply ok_bAnd) | (with_reducible apply ok_bOr) | (with_reducible apply ok_eAnd) | (with_reducible apply ok_eOr) | (with_reducible apply ok_eNot) | (with_reducible apply ok_eIf) | (with_reducible apply ok_iVal) | (with_reducible apply ok_range) | (with_reducible apply ok_range2) | (with_reducible apply ok_listRange) | (with_reducible apply ok_enum) | (with_reducible apply ok_bYes) | (with_reducible apply ok_mkL) | (with_reducible apply ok_mkC) | (with_reducible apply ok_ok) | (with_reducible apply ok_addI) | (with_reducible apply ok_gtI) | (with_reducible apply ok_geI) | (with_reducible apply ok_ltI) | (with_reducible apply ok_leI) | (with_reducible apply ok_leS) | (with_reducible apply ok_eqI) | (with_reducible apply ok_neI) | (with_reducible apply ok_eqS) | (with_reducible apply ok_neS) | (with_reducible apply ok_int) | (with_reducible apply ok_lenL) | (with_reducible apply ok_lenT) | (with_reducible apply ok_tupOfL) | (with_reducible apply ok_tupOfT) | (with_reducible apply bl_mk) | (with_reducible apply it_lst) | (with_reducible apply it_tup) | (with_reducible apply it_rls) | (with_reducible apply en_lst) | (with_reducible apply en_tup) | (with_reducible apply rt_seqOf) | (with_reducible apply nx_seqOf) | (with_reducible apply rt_of) | (with_reducible apply nx_of) | (with_reducible apply nx_nx) | (with_reducible apply rt_rt) | (with_reducible apply nx_nil) | (with_reducible apply rt_seqNil) | (with_reducible apply nx_asg) | (with_reducible apply ok_isNN))
        exact ⟨_, rfl, 0, .int 0, rfl, by decide, by decide, .inr ⟨0, rfl, by decide, by decide⟩, hs3, hf2.trans hf3⟩
      · repeat (first | ((with_reducible apply ok_var); exact rfl) | ((with_reducible apply ok_calls); exact rfl) | ((with_reducible apply ok_tupL); exact Nat.le_of_ble_eq_true rfl) | ((with_reducible apply ok_lstL); exact Nat.le_of_ble_eq_true rfl) | ((with_reducible apply ok_lstC); exact Nat.le_of_ble_eq_true rfl) | (with_reducible apply ok_e2) | (with_reducible apply ok_c) | (with_reducible apply ok_cons) | (with_reducible apply ok_nil) | (with_reducible apply ok_ofL) | (with_reducible apply ok_call) | (with_reducible apply ok_meth) | (with_reducible apply ok_bV) | (with_reducible apply ok_bNot) | (with_reducible apply ok_bAnd) | (with_reducible apply ok_bOr) | (with_reducible apply ok_eAnd) | (with_reducible apply ok_eOr) | (with_reducible apply ok_eNot) | (with_reducible apply ok_eIf) | (with_reducible apply ok_iVal) | (with_reducible apply ok_range) | (with_reducible apply ok_range2) | (with_reducible apply ok_listRange) | (with_reducible apply ok_enum) | (with_reducible apply ok_bYes) | (with_reducible apply ok_mkL) | (with_reducible apply ok_mkC) | (with_reducible apply ok_ok) | (with_reducible apply ok_addI) | (with_reducible apply ok_gtI) | (with_reducible apply ok_geI) | (with_reducible apply ok_ltI) | (with_reducible apply ok_leI) | (with_reducible apply ok_leS) | (with_reducible apply ok_eqI) | (with_reducible apply ok_neI) | (with_reducible apply ok_eqS) | (with_reducible apply ok_neS) | (with_reducible apply ok_int) | (with_reducible apply ok_lenL) | (with_reducible apply ok_lenT) | (with_reducible apply ok_tupOfL) | (with_reducible apply ok_tupOfT) | (with_reducible apply bl_mk) | (with_reducible apply it_lst) | (with_reducible apply it_tup) | (with_reducible apply it_rls) | (with_reducible apply en_lst) | (with_reducible apply en_tup) | (with_reducible apply rt_seqOf) | (with_reducible apply nx_seqOf) | (with_reducible apply rt_of) | (with_reducible apply nx_of) | (with_reducible apply nx_nx) | (with_reducible apply rt_rt) | (with_reducible apply nx_nil) | (with_reducible apply rt_seqNil) | (with_reducible apply nx_asg) | (with_reducible apply ok_isNN))
        exact ⟨lo, mo, rfl, by omega, by omega, hmo, hs3, hf2.trans hf3⟩
    · rintro env m3 ⟨lo', mo', rfl, a0, a1, hmo', hs3, hf3⟩
      repeat (first | ((with_reducible apply ok_var); exact rfl) | ((with_reducible apply ok_calls); exact rfl) | ((with_reducible apply ok_tupL); exact Nat.le_of_ble_eq_true rfl) | ((with_reducible apply ok_lstL); exact Nat.le_of_ble_eq_true rfl) | ((with_reducible apply ok_lstC); exact Nat.le_of_ble_eq_true rfl) | (with_reducible apply ok_e2) | (with_reducible apply ok_c) | (with_reducible apply ok_cons) | (with_reducible apply ok_nil) | (with_reducible apply ok_ofL) | (with_reducible apply ok_call) | (with_reducible apply ok_meth) | (with_reducible apply ok_bV) | (with_reducible apply ok_bNot) | (with_reducible apply ok_bAnd) | (with_reducible apply ok_bOr) | (with_reducible apply ok_eAnd) | (with_reducible apply ok_eOr) | (with_reducible apply ok_eNot) | (with_reducible apply ok_eIf) | (with_reducible apply ok_iVal) | (with_reducible apply ok_range) | (with_reducible apply ok_range2) | (with_reducible apply ok_listRange) | (with_reducible apply ok_enum) | (with_reducible apply ok_bYes) | (with_reducible apply ok_mkL) | (with_reducible apply ok_mkC) | (with_reducible apply ok_ok) | (with_reducible apply ok_addI) | (with_reducible apply ok_gtI) | (with_reducible apply ok_geI) | (with_reducible apply ok_ltI) | (with_reducible apply ok_leI) | (with_reducible apply ok_leS) | (with_reducible apply ok_eqI) | (with_reducible apply ok_neI) | (with_reducible apply ok_eqS) | (with_reducible apply ok_neS) | (with_reducible apply ok_int) | (with_reducible apply ok_lenL) | (with_reducible apply ok_lenT) | (with_reducible apply ok_tupOfL) | (with_reducible apply ok_tupOfT) | (with_reducible apply bl_mk) | (with_reducible apply it_lst) | (with_reducible apply it_tup) | (with_reducible apply it_rls) | (with_reducible apply en_lst) | (with_reducible apply en_tup) | (with_reducible apply rt_seqOf) | (with_reducible apply nx_seqOf) | (with_reducible apply rt_of) | (with_reducible apply nx_of) | (with_reducible apply nx_nx) | (with_reducible apply rt_rt) | (with_reducible apply nx_nil) | (with_reducible apply rt_seqNil) | (with_reducible apply nx_asg) | (with_reducible apply ok_isNN))
      refine some_ok hs3 (by omega) h0 h1 fun us m4 hu hs4 hf4 => ?_
      repeat (first | ((with_reducible apply ok_var); exact rfl) | ((with_reducible apply ok_calls); exact rfl) | ((with_reducible apply ok_tupL); exact Nat.le_of_ble_eq_true rfl) | ((with_reducible apply ok_lstL); exact Nat.le_of_ble_eq_true rfl) | ((with_reducible apply ok_lstC); exact Nat.le_of_ble_eq_true rfl) | (with_reducible apply ok_e2) | (with_reducible apply ok_c) | (with_reducible apply ok_cons) | (with_reducible apply ok_nil) | (with_reducible apply ok_ofL) | (with_reducible apply ok_call) | (with_reducible apply ok_meth) | (with_reducible apply ok_bV) | (with_reducible apply ok_bNot) | (with_reducible apply ok_bAnd) | (with_reducible apply ok_bOr) | (with_reducible apply ok_eAnd) | (with_reducible apply ok_eOr) | (with_reducible apply ok_eNot) | (with_reducible apply ok_eIf) | (with_reducible apply ok_iVal) | (with_reducible apply ok_range) | (with_reducible apply ok_range2) | (with_reducible apply ok_listRange) | (with_reducible apply ok_enum) | (with_reducible apply ok_bYes) | (with_reducible apply ok_mkL) | (with_reducible apply ok_mkC) | (with_reducible apply ok_ok) | (with_reducible apply ok_addI) | (with_reducible apply ok_gtI) | (with_reducible apply ok_geI) | (with_reducible apply ok_ltI) | (with_reducible apply ok_leI) | (with_reducible apply ok_leS) | (with_reducible apply ok_eqI) | (with_reducible apply ok_neI) | (with_reducible apply ok_eqS) | (with_reducible apply ok_neS) | (with_reducible apply ok_int) | (with_reducible apply ok_lenL) | (with_reducible apply ok_lenT) | (with_reducible apply ok_tupOfL) | (with_reducible apply ok_tupOfT) | (with_reducible apply bl_mk) | (with_reducible apply it_lst) | (with_reducible apply it_tup) | (with_reducible apply it_rls) | (with_reducible apply en_lst) | (with_reducible apply en_tup) | (with_reducible apply rt_seqOf) | (with_reducible apply nx_seqOf) | (with_reducible apply rt_of) | (with_reducible apply nx_of) | (with_reducible apply nx_nx) | (with_reducible apply rt_rt) | (with_reducible apply nx_nil) | (with_reducible apply rt_seqNil) | (with_reducible apply nx_asg) | (with_reducible apply ok_isNN))
      exact k _ _ ⟨lo', mo', us, rfl, a0, a1, hmo', hu.ne, hu.nd hn, hu.sub, hu.len⟩ (hs4.mono (by omega)) (hf3.trans hf4)
/-- a name of one to eight small letters -/
structure Good (x : Str) : Prop where
  lo : 1 ≤ x.cps.toList.length
  hi : x.cps.toList.length ≤ 8
  az : ∀ c ∈ x.cps.toList, 97 ≤ c ∧ c ≤ 122
instance (x : Str) : Decidable (Good x) := if h : 1 ≤ x.cps.toList.length ∧ x.cps.toList.length ≤ 8 ∧ ∀ c ∈ x.cps.toList, 97 ≤ c ∧ c ≤ 122 then .isTrue ⟨h.1, h.2.1, h.2.2⟩ else .isFalse fun g => h ⟨g.lo, g.hi, g.az⟩
theorem len_cps (x : Str) : x.length = x.cps.toList.length := by unfold Str.length; simp
abbrev az : Str := "abcdefghijklmnopqrstuvwxyz"
theorem az_ok : ∀ c ∈ az.cps.toList, 97 ≤ c ∧ c ≤ 122 := by decide +kernel
theorem az_len : az.cps.toList.length = 26 := by decide +kernel
theorem ok_ixS {m : Mem} {P : T → Mem → Prop} {z : Str} {i : Int} {c : Nat} (hl : z.length ≤ lim) (e : atI z.cps.toList i = some c) (h : P (.str ⟨#[c]⟩) m) : Ok (gIx (.str z) (.int i) m) P := ⟨_, _, by unfold gIx; simp only [if_pos hl, e], h⟩
theorem txts_map (xs : List Str) : txts (xs.map T.str) = some xs := by
  induction xs with
  | nil => rfl
  | cons x xs ih => simp only [List.map_cons, txts, ih, Option.map_some]
theorem join_aux (cs : List Nat) : ∀ a : Array Nat, List.foldl (fun acc (p : Str) => acc ++ (Str.empty).cps ++ p.cps) a (cs.map fun c => (⟨#[c]⟩ : Str)) = a ++ cs.toArray := by
  induction cs with
  | nil => intro a; simp
  | cons c cs ih =>
    intro a
    simp only [List.map_cons, List.foldl_cons, ih]
    apply Array.ext'
    simp [Str.empty]
theorem join_letters (cs : List Nat) : Txt.join "" (cs.map fun c => (⟨#[c]⟩ : Str)) = ⟨cs.toArray⟩ := by
  unfold Txt.join PySem.Builtin.Str.glued
  cases cs with
  | nil => rfl
  | cons c cs =>
    have := join_aux cs #[c]
    simp only [List.map_cons, List.headD_cons, List.drop_succ_cons, List.drop_zero]
    have e : (("" : Str)) = Str.empty := by decide +kernel
    rw [e, this]
    simp
theorem ok_joinE {m : Mem} {P : T → Mem → Prop} {cs : List Nat} (hl : cs.length ≤ 1000) (h : P (.str ⟨cs.toArray⟩) m) : Ok (gJoin (.str "") [.lst (cs.map fun c => .str ⟨#[c]⟩)] m) P := by
  refine ⟨_, _, ?_, h⟩
  unfold gJoin
  have e : (cs.map fun c => T.str ⟨#[c]⟩) = (cs.map fun c => (⟨#[c]⟩ : Str)).map T.str := by simp
  simp only [asSeq, asT, asL, e, txts_map]
  rw [join_letters, if_pos]
  rw [List.map_map]
  have : ((fun x : Str => x.length) ∘ fun c => (⟨#[c]⟩ : Str)) = fun _ => 1 := by funext c; rfl
  have h2 : (("" : Str)).length = 0 := by decide +kernel
  rw [this, h2]
  have h3 : ∀ l : List Nat, (l.map fun _ => 1).sum = l.length := by
    intro l
    induction l with
    | nil => rfl
    | cons a l ih => simp [ih]; omega
  rw [h3]
  unfold lim
  simp
  omega
theorem any_str (xs : List Str) (x : Str) : ((xs.map T.str).any fun t => eqV (toV t) (toV (.str x))) = decide (x ∈ xs) := by
  induction xs with
  | nil => simp
  | cons y xs ih =>
    rw [List.map_cons, List.any_cons, ih]
    simp only [toV, eqV]
    by_cases h : y = x
    · subst h; simp
    · have h' : ¬ x = y := fun e => h e.symm
      simp [h, h']
theorem all_flat (xs : List Str) : (xs.map T.str).all flatT = true := by
  induction xs with
  | nil => rfl
  | cons y xs ih => rw [List.map_cons, List.all_cons, ih]; rfl
theorem ok_inS {m : Mem} {P : T → Mem → Prop} {t : T} {x : Str} {xs : List Str} (e : asSeq m t = some (xs.map T.str)) (h : P (.bl (decide (x ∈ xs))) m) : Ok (gIn false (.str x) t m) P := by
  refine ⟨_, _, ?_, h⟩
  unfold gIn
  simp only [e, all_flat, any_str]
  rfl
theorem ok_notinS {m : Mem} {P : T → Mem → Prop} {t : T} {x : Str} {xs : List Str} (e : asSeq m t = some (xs.map T.str)) (h : P (.bl (!decide (x ∈ xs))) m) : Ok (gIn true (.str x) t m) P := by
  refine ⟨_, _, ?_, h⟩
  unfold gIn
  simp only [e, all_flat, any_str]
  rfl
theorem asSeq_loc {m : Mem} {n : Nat} {ts : List T} (e : m[n]? = some (some (.lst ts))) : asSeq m (.loc n) = some ts := by
  unfold asSeq
  simp only [asT, asL, e]
theorem pigeon {α : Type} [DecidableEq α] : ∀ {l xs : List α}, l.Nodup → (∀ a ∈ l, a ∈ xs) → l.length ≤ xs.length
  | [], _, _, _ => by simp
  | a :: l, xs, hn, hs => by
    have ha : a ∈ xs := hs a (by simp)
    have hn' := List.nodup_cons.mp hn
    have ih := pigeon (l := l) (xs := xs.erase a) hn'.2 (fun b hb => (List.mem_erase_of_ne (fun e => hn'.1 (by rw [← e]; exact hb))).mpr (hs b (by simp [hb])))
    rw [List.length_erase_of_mem ha] at ih
    have : 0 < xs.length := List.length_pos_of_mem ha
    simp; omega
theorem items_az : items (.str az) = some (az.cps.toList.map fun c => .str ⟨#[c]⟩) := rfl
theorem zs_nodup : (az.cps.toList.map fun c => ("z" : Str) ++ ⟨#[c]⟩).Nodup := by decide +kernel
theorem zs_good : ∀ x ∈ az.cps.toList.map fun c => ("z" : Str) ++ ⟨#[c]⟩, Good x := by decide +kernel
theorem ok_chain {env : Env} {m : Mem} {P : T → Mem → Prop} {fa fb fc : EF} {g g' : T → T → Mem → Out T} (h : Ok (fa env m) fun x m1 => Ok (fb env m1) fun y m2 => Ok (g x y m2) fun t m3 => Bl t m3 fun b m3 => if b then Ok (fc env m3) fun z m4 => Ok (g' y z m4) P else P (.bl false) m3) : Ok (eChain g g' fa fb fc env m) P :=
  Ok.bind (h.imp fun _ _ h => Ok.bind (h.imp fun _ _ h => Ok.bind (h.imp fun t m3 ⟨b, e, h⟩ => by
    subst e
    cases b with
    | true => exact Ok.bind h
    | false => exact ⟨_, _, rfl, h⟩)))
def strOf : T → Str
  | .str x => x
  | _ => Str.empty
theorem good_q {x : Str} (g : Good x) : Good (("q" : Str) ++ cutS x (some 1) none) := by
  have e : (("q" : Str) ++ cutS x (some 1) none).cps.toList = 113 :: x.cps.toList.drop 1 := by
    show (("q" : Str).cps ++ (cutS x (some 1) none).cps).toList = _
    rw [Array.toList_append]
    unfold cutS
    have hl := len_cps x
    have h1 := g.lo
    have : HT.sIx x.length 0 (some 1) = 1 := by unfold HT.sIx; simp; omega
    rw [this]
    have h2 : HT.sIx x.length x.length none = x.length := rfl
    rw [h2]
    have h3 : ("q" : Str).cps.toList = [113] := by decide +kernel
    rw [h3, List.take_of_length_le (by rw [List.length_drop, ← hl]; exact Nat.le_refl _)]
    rfl
  refine ⟨by rw [e]; simp, by rw [e]; have := g.hi; simp; omega, fun c hc => ?_⟩
  rw [e] at hc
  rcases List.mem_cons.mp hc with q | q
  · subst q; decide
  · exact g.az c (List.mem_of_mem_drop q)
theorem name_ok {m : Mem} {s j c : Nat} {xs : List Str} {P : T → Mem → Prop} (h : Src m s c) (hc : c + 10 < 900000) (hj : j ≠ s) (hx : m[j]? = some (some (.lst (xs.map T.str)))) (hl : xs.length ≤ 25)
    (k : ∀ x m', Good x → x ∉ xs → Src m' s (c + 10) → Fr s m m' → P (.str x) m') : Ok (F__law_name [.loc s, .loc j] m) P := by
  unfold F__law_name B__law_name
  refine ok_fn ?_
  try simp only [List.map_cons, List.map_nil, List.cons_append, List.nil_append, List.length_cons, List.length_nil, Nat.reduceAdd, Nat.reduceSub, List.replicate_succ, List.replicate_zero, List.set_cons_succ, List.set_cons_zero]
  repeat (first | ((with_reducible apply ok_var); exact rfl) | ((with_reducible apply ok_calls); exact rfl) | ((with_reducible apply ok_tupL); exact Nat.le_of_ble_eq_true rfl) | ((with_reducible apply ok_lstL); exact Nat.le_of_ble_eq_true rfl) | ((with_reducible apply ok_lstC); exact Nat.le_of_ble_eq_true rfl) | (with_reducible apply ok_e2) | (with_reducible apply ok_c) | (with_reducible apply ok_cons) | (with_reducible apply ok_nil) | (with_reducible apply ok_ofL) | (with_reducible apply ok_call) | (with_reducible apply ok_meth) | (with_reducible apply ok_bV) | (with_reducible apply ok_bNot) | (with_reducible apply ok_bAnd) | (with_reducible apply ok_bOr) | (with_reducible apply ok_eAnd) | (with_reducible apply ok_eOr) | (with_reducible apply ok_eNot) | (with_reducible apply ok_eIf) | (with_reducible apply ok_iVal) | (with_reducible apply ok_range) | (with_reducible apply ok_range2) | (with_reducible apply ok_listRange) | (with_reducible apply ok_enum) | (with_reducible apply ok_bYes) | (with_reducible apply ok_mkL) | (with_reducible apply ok_mkC) | (with_reducible apply ok_ok) | (with_reducible apply ok_addI) | (with_reducible apply ok_gtI) | (with_reducible apply ok_geI) | (with_reducible apply ok_ltI) | (with_reducible apply ok_leI) | (with_reducible apply ok_leS) | (with_reducible apply ok_eqI) | (with_reducible apply ok_neI) | (with_reducible apply ok_eqS) | (with_reducible apply ok_neS) | (with_reducible apply ok_int) | (with_reducible apply ok_lenL) | (with_reducible apply ok_lenT) | (with_reducible apply ok_tupOfL) | (with_reducible apply ok_tupOfT) | (with_reducible apply bl_mk) | (with_reducible apply it_lst) | (with_reducible apply it_tup) | (with_reducible apply it_rls) | (with_reducible apply en_lst) | (with_reducible apply en_tup) | (with_reducible apply rt_seqOf) | (with_reducible apply nx_seqOf) | (with_reducible apply rt_of) | (with_reducible apply nx_of) | (with_reducible apply nx_nx) | (with_reducible apply rt_rt) | (with_reducible apply nx_nil) | (with_reducible apply rt_seqNil) | (with_reducible apply nx_asg) | (with_reducible apply ok_isNN))
  refine draw_ok h (by omega) (by omega) (by omega) fun d m1 d0 d1 hs1 hf1 => ?_
  obtain ⟨t, e1, _, ht⟩ := atB (ts := [T.int 8, T.int 4, T.int 5, T.int 6, T.int 7, T.int 1, T.int 2, T.int 3, T.int 1, T.int 2, T.int 3, T.int 1, T.int 2]) d0 d1
  refine ok_ixL e1 ?_
  obtain ⟨n, rfl, n0, n1⟩ : ∃ n : Nat, t = .int n ∧ 1 ≤ n ∧ n ≤ 8 := by
    simp only [List.mem_cons, List.not_mem_nil, or_false] at ht
    rcases ht with e | e | e | e | e | e | e | e | e | e | e | e | e <;> subst e
    · exact ⟨8, rfl, by decide, by decide⟩
    · exact ⟨4, rfl, by decide, by decide⟩
    · exact ⟨5, rfl, by decide, by decide⟩
    · exact ⟨6, rfl, by decide, by decide⟩
    · exact ⟨7, rfl, by decide, by decide⟩
    · exact ⟨1, rfl, by decide, by decide⟩
    · exact ⟨2, rfl, by decide, by decide⟩
    · exact ⟨3, rfl, by decide, by decide⟩
    · exact ⟨1, rfl, by decide, by decide⟩
    · exact ⟨2, rfl, by decide, by decide⟩
    · exact ⟨3, rfl, by decide, by decide⟩
    · exact ⟨1, rfl, by decide, by decide⟩
    · exact ⟨2, rfl, by decide, by decide⟩
  refine nx_nx ?_
  try simp only [List.map_cons, List.map_nil, List.cons_append, List.nil_append, List.length_cons, List.length_nil, Nat.reduceAdd, Nat.reduceSub, List.replicate_succ, List.replicate_zero, List.set_cons_succ, List.set_cons_zero]
  refine rt_seqOf (Ok.imp (P := fun t m2 => ∃ x, t = .str x ∧ Good x ∧ Src m2 s (c + 9) ∧ Fr s m m2) ?_ ?_)
  · repeat (first | ((with_reducible apply ok_var); exact rfl) | ((with_reducible apply ok_calls); exact rfl) | ((with_reducible apply ok_tupL); exact Nat.le_of_ble_eq_true rfl) | ((with_reducible apply ok_lstL); exact Nat.le_of_ble_eq_true rfl) | ((with_reducible apply ok_lstC); exact Nat.le_of_ble_eq_true rfl) | (with_reducible apply ok_e2) | (with_reducible apply ok_c) | (with_reducible apply ok_cons) | (with_reducible apply ok_nil) | (with_reducible apply ok_ofL) | (with_reducible apply ok_call) | (with_reducible apply ok_meth) | (with_reducible apply ok_bV) | (with_reducible apply ok_bNot) | (with_reducible apply ok_bAnd) | (with_reducible apply ok_bOr) | (with_reducible apply ok_eAnd) | (with_reducible apply ok_eOr) | (with_reducible apply ok_eNot) | (with_reducible apply ok_eIf) | (with_reducible apply ok_iVal) | (with_reducible apply ok_range) | (with_reducible apply ok_range2) | (with_reducible apply ok_listRange) | (with_reducible apply ok_enum) | (with_reducible apply ok_bYes) | (with_reducible apply ok_mkL) | (with_reducible apply ok_mkC) | (with_reducible apply ok_ok) | (with_reducible apply ok_addI) | (with_reducible apply ok_gtI) | (with_reducible apply ok_geI) | (with_reducible apply ok_ltI) | (with_reducible apply ok_leI) | (with_reducible apply ok_leS) | (with_reducible apply ok_eqI) | (with_reducible apply ok_neI) | (with_reducible apply ok_eqS) | (with_reducible apply ok_neS) | (with_reducible apply ok_int) | (with_reducible apply ok_lenL) | (with_reducible apply ok_lenT) | (with_reducible apply ok_tupOfL) | (with_reducible apply ok_tupOfT) | (with_reducible apply bl_mk) | (with_reducible apply it_lst) | (with_reducible apply it_tup) | (with_reducible apply it_rls) | (with_reducible apply en_lst) | (with_reducible apply en_tup) | (with_reducible apply rt_seqOf) | (with_reducible apply nx_seqOf) | (with_reducible apply rt_of) | (with_reducible apply nx_of) | (with_reducible apply nx_nx) | (with_reducible apply rt_rt) | (with_reducible apply nx_nil) | (with_reducible apply rt_seqNil) | (with_reducible apply nx_asg) | (with_reducible apply ok_isNN))
    refine ⟨rfl, ?_⟩
    repeat (first | ((with_reducible apply ok_var); exact rfl) | ((with_reducible apply ok_calls); exact rfl) | ((with_reducible apply ok_tupL); exact Nat.le_of_ble_eq_true rfl) | ((with_reducible apply ok_lstL); exact Nat.le_of_ble_eq_true rfl) | ((with_reducible apply ok_lstC); exact Nat.le_of_ble_eq_true rfl) | (with_reducible apply ok_e2) | (with_reducible apply ok_c) | (with_reducible apply ok_cons) | (with_reducible apply ok_nil) | (with_reducible apply ok_ofL) | (with_reducible apply ok_call) | (with_reducible apply ok_meth) | (with_reducible apply ok_bV) | (with_reducible apply ok_bNot) | (with_reducible apply ok_bAnd) | (with_reducible apply ok_bOr) | (with_reducible apply ok_eAnd) | (with_reducible apply ok_eOr) | (with_reducible apply ok_eNot) | (with_reducible apply ok_eIf) | (with_reducible apply ok_iVal) | (with_reducible apply ok_range) | (with_reducible apply ok_range2) | (with_reducible apply ok_listRange) | (with_reducible apply ok_enum) | (with_reducible apply ok_bYes) | (with_reducible apply ok_mkL) | (with_reducible apply ok_mkC) | (with_reducible apply ok_ok) | (with_reducible apply ok_addI) | (with_reducible apply ok_gtI) | (with_reducible apply ok_geI) | (with_reducible apply ok_ltI) | (with_reducible apply ok_leI) | (with_reducible apply ok_leS) | (with_reducible apply ok_eqI) | (with_reducible apply ok_neI) | (with_reducible apply ok_eqS) | (with_reducible apply ok_neS) | (with_reducible apply ok_int) | (with_reducible apply ok_lenL) | (with_reducible apply ok_lenT) | (with_reducible apply ok_tupOfL) | (with_reducible apply ok_tupOfT) | (with_reducible apply bl_mk) | (with_reducible apply it_lst) | (with_reducible apply it_tup) | (with_reducible apply it_rls) | (with_reducible apply en_lst) | (with_reducible apply en_tup) | (with_reducible apply rt_seqOf) | (with_reducible apply nx_seqOf) | (with_reducible apply rt_of) | (with_reducible apply nx_of) | (with_reducible apply nx_nx) | (with_reducible apply rt_rt) | (with_reducible apply nx_nil) | (with_reducible apply rt_seqNil) | (with_reducible apply nx_asg) | (with_reducible apply ok_isNN))
    refine ok_comp (fun p zs m2 => (∃ cs : List Nat, zs = cs.map (fun c => T.str ⟨#[c]⟩) ∧ cs.length = p.length ∧ ∀ c ∈ cs, 97 ≤ c ∧ c ≤ 122) ∧ Src m2 s (c + 1 + p.length) ∧ Fr s m m2) ?_
    repeat (first | ((with_reducible apply ok_var); exact rfl) | ((with_reducible apply ok_calls); exact rfl) | ((with_reducible apply ok_tupL); exact Nat.le_of_ble_eq_true rfl) | ((with_reducible apply ok_lstL); exact Nat.le_of_ble_eq_true rfl) | ((with_reducible apply ok_lstC); exact Nat.le_of_ble_eq_true rfl) | (with_reducible apply ok_e2) | (with_reducible apply ok_c) | (with_reducible apply ok_cons) | (with_reducible apply ok_nil) | (with_reducible apply ok_ofL) | (with_reducible apply ok_call) | (with_reducible apply ok_meth) | (with_reducible apply ok_bV) | (with_reducible apply ok_bNot) | (with_reducible apply ok_bAnd) | (with_reducible apply ok_bOr) | (with_reducible apply ok_eAnd) | (with_reducible apply ok_eOr) | (with_reducible apply ok_eNot) | (with_reducible apply ok_eIf) | (with_reducible apply ok_iVal) | (with_reducible apply ok_range) | (with_reducible apply ok_range2) | (with_reducible apply ok_listRange) | (with_reducible apply ok_enum) | (with_reducible apply ok_bYes) | (with_reducible apply ok_mkL) | (with_reducible apply ok_mkC) | (with_reducible apply ok_ok) | (with_reducible apply ok_addI) | (with_reducible apply ok_gtI) | (with_reducible apply ok_geI) | (with_reducible apply ok_ltI) | (with_reducible apply ok_leI) | (with_reducible apply ok_leS) | (with_reducible apply ok_eqI) | (with_reducible apply ok_neI) | (with_reducible apply ok_eqS) | (with_reducible apply ok_neS) | (with_reducible apply ok_int) | (with_reducible apply ok_lenL) | (with_reducible apply ok_lenT) | (with_reducible apply ok_tupOfL) | (with_reducible apply ok_tupOfT) | (with_reducible apply bl_mk) | (with_reducible apply it_lst) | (with_reducible apply it_tup) | (with_reducible apply it_rls) | (with_reducible apply en_lst) | (with_reducible apply en_tup) | (with_reducible apply rt_seqOf) | (with_reducible apply nx_seqOf) | (with_reducible apply rt_of) | (with_reducible apply nx_of) | (with_reducible apply nx_nx) | (with_reducible apply rt_rt) | (with_reducible apply nx_nil) | (with_reducible apply rt_seqNil) | (with_reducible apply nx_asg) | (with_reducible apply ok_isNN))
    refine rg_mk (by omega) (by omega) ⟨by rw [rng_len]; unfold lim; omega, ⟨⟨[], rfl, rfl, by simp⟩, hs1, hf1⟩, ?_, ?_⟩
    · rintro p t q zs m2 hp ⟨⟨cs, rfl, hcl, hcs⟩, hs, hf⟩
      have hpl := congrArg List.length hp
      rw [rng_len] at hpl
      simp at hpl
      refine ⟨_, rfl, ?_⟩
      repeat (first | ((with_reducible apply ok_var); exact rfl) | ((with_reducible apply ok_calls); exact rfl) | ((with_reducible apply ok_tupL); exact Nat.le_of_ble_eq_true rfl) | ((with_reducible apply ok_lstL); exact Nat.le_of_ble_eq_true rfl) | ((with_reducible apply ok_lstC); exact Nat.le_of_ble_eq_true rfl) | (with_reducible apply ok_e2) | (with_reducible apply ok_c) | (with_reducible apply ok_cons) | (with_reducible apply ok_nil) | (with_reducible apply ok_ofL) | (with_reducible apply ok_call) | (with_reducible apply ok_meth) | (with_reducible apply ok_bV) | (with_reducible apply ok_bNot) | (with_reducible apply ok_bAnd) | (with_reducible apply ok_bOr) | (with_reducible apply ok_eAnd) | (with_reducible apply ok_eOr) | (with_reducible apply ok_eNot) | (with_reducible apply ok_eIf) | (with_reducible apply ok_iVal) | (with_reducible apply ok_range) | (with_reducible apply ok_range2) | (with_reducible apply ok_listRange) | (with_reducible apply ok_enum) | (with_reducible apply ok_bYes) | (with_reducible apply ok_mkL) | (with_reducible apply ok_mkC) | (with_reducible apply ok_ok) | (with_reducible apply ok_addI) | (with_reducible apply ok_gtI) | (with_reducible apply ok_geI) | (with_reducible apply ok_ltI) | (with_reducible apply ok_leI) | (with_reducible apply ok_leS) | (with_reducible apply ok_eqI) | (with_reducible apply ok_neI) | (with_reducible apply ok_eqS) | (with_reducible apply ok_neS) | (with_reducible apply ok_int) | (with_reducible apply ok_lenL) | (with_reducible apply ok_lenT) | (with_reducible apply ok_tupOfL) | (with_reducible apply ok_tupOfT) | (with_reducible apply bl_mk) | (with_reducible apply it_lst) | (with_reducible apply it_tup) | (with_reducible apply it_rls) | (with_reducible apply en_lst) | (with_reducible apply en_tup) | (with_reducible apply rt_seqOf) | (with_reducible apply nx_seqOf) | (with_reducible apply rt_of) | (with_reducible apply nx_of) | (with_reducible apply nx_nx) | (with_reducible apply rt_rt) | (with_reducible apply nx_nil) | (with_reducible apply rt_seqNil) | (with_reducible apply nx_asg) | (with_reducible apply ok_isNN))
      rw [if_pos rfl]
      repeat (first | ((with_reducible apply ok_var); exact rfl) | ((with_reducible apply ok_calls); exact rfl) | ((with_reducible apply ok_tupL); exact Nat.le_of_ble_eq_true rfl) | ((with_reducible apply ok_lstL); exact Nat.le_of_ble_eq_true rfl) | ((with_reducible apply ok_lstC); exact Nat.le_of_ble_eq_true rfl) | (with_reducible apply ok_e2) | (with_reducible apply ok_c) | (with_reducible apply ok_cons) | (with_reducible apply ok_nil) | (with_reducible apply ok_ofL) | (with_reducible apply ok_call) | (with_reducible apply ok_meth) | (with_reducible apply ok_bV) | (with_reducible apply ok_bNot) | (with_reducible apply ok_bAnd) | (with_reducible apply ok_bOr) | (with_reducible apply ok_eAnd) | (with_reducible apply ok_eOr) | (with_reducible apply ok_eNot) | (with_reducible apply ok_eIf) | (with_reducible apply ok_iVal) | (with_reducible apply ok_range) | (with_reducible apply ok_range2) | (with_reducible apply ok_listRange) | (with_reducible apply ok_enum) | (with_reducible apply ok_bYes) | (with_reducible apply ok_mkL) | (with_reducible apply ok_mkC) | (with_reducible apply ok_ok) | (with_reducible apply ok_addI) | (with_reducible apply ok_gtI) | (with_reducible apply ok_geI) | (with_reducible apply ok_ltI) | (with_reducible apply ok_leI) | (with_reducible apply ok_leS) | (with_reducible apply ok_eqI) | (with_reducible apply ok_neI) | (with_reducible apply ok_eqS) | (with_reducible apply ok_neS) | (with_reducible apply ok_int) | (with_reducible apply ok_lenL) | (with_reducible apply ok_lenT) | (with_reducible apply ok_tupOfL) | (with_reducible apply ok_tupOfT) | (with_reducible apply bl_mk) | (with_reducible apply it_lst) | (with_reducible apply it_tup) | (with_reducible apply it_rls) | (with_reducible apply en_lst) | (with_reducible apply en_tup) | (with_reducible apply rt_seqOf) | (with_reducible apply nx_seqOf) | (with_reducible apply rt_of) | (with_reducible apply nx_of) | (with_reducible apply nx_nx) | (with_reducible apply rt_rt) | (with_reducible apply nx_nil) | (with_reducible apply rt_seqNil) | (with_reducible apply nx_asg) | (with_reducible apply ok_isNN))
      refine draw_ok hs (by omega) (by omega) (by omega) fun d m3 d0 d1 hs3 hf3 => ?_
      obtain ⟨a, e1, _, ha⟩ := atB (ts := az.cps.toList) d0 (by rw [az_len]; exact d1)
      refine ok_ixS (by rw [len_cps]; decide +kernel) e1 ?_
      refine ⟨⟨cs ++ [a], by simp, by simp [hcl], fun b hb => ?_⟩, by simpa [Nat.add_assoc] using hs3, hf.trans hf3⟩
      rcases List.mem_append.mp hb with q | q
      · exact hcs b q
      · rw [List.mem_singleton.mp q]; exact az_ok a ha
    · rintro zs m2 ⟨⟨cs, rfl, hcl, hcs⟩, hs, hf⟩
      rw [rng_len] at hcl hs
      repeat (first | ((with_reducible apply ok_var); exact rfl) | ((with_reducible apply ok_calls); exact rfl) | ((with_reducible apply ok_tupL); exact Nat.le_of_ble_eq_true rfl) | ((with_reducible apply ok_lstL); exact Nat.le_of_ble_eq_true rfl) | ((with_reducible apply ok_lstC); exact Nat.le_of_ble_eq_true rfl) | (with_reducible apply ok_e2) | (with_reducible apply ok_c) | (with_reducible apply ok_cons) | (with_reducible apply ok_nil) | (with_reducible apply ok_ofL) | (with_reducible apply ok_call) | (with_reducible apply ok_meth) | (with_reducible apply ok_bV) | (with_reducible apply ok_bNot) | (with_reducible apply ok_bAnd) | (with_reducible apply ok_bOr) | (with_reducible apply ok_eAnd) | (with_reducible apply ok_eOr) | (with_reducible apply ok_eNot) | (with_reducible apply ok_eIf) | (with_reducible apply ok_iVal) | (with_reducible apply ok_range) | (with_reducible apply ok_range2) | (with_reducible apply ok_listRange) | (with_reducible apply ok_enum) | (with_reducible apply ok_bYes) | (with_reducible apply ok_mkL) | (with_reducible apply ok_mkC) | (with_reducible apply ok_ok) | (with_reducible apply ok_addI) | (with_reducible apply ok_gtI) | (with_reducible apply ok_geI) | (with_reducible apply ok_ltI) | (with_reducible apply ok_leI) | (with_reducible apply ok_leS) | (with_reducible apply ok_eqI) | (with_reducible apply ok_neI) | (with_reducible apply ok_eqS) | (with_reducible apply ok_neS) | (with_reducible apply ok_int) | (with_reducible apply ok_lenL) | (with_reducible apply ok_lenT) | (with_reducible apply ok_tupOfL) | (with_reducible apply ok_tupOfT) | (with_reducible apply bl_mk) | (with_reducible apply it_lst) | (with_reducible apply it_tup) | (with_reducible apply it_rls) | (with_reducible apply en_lst) | (with_reducible apply en_tup) | (with_reducible apply rt_seqOf) | (with_reducible apply nx_seqOf) | (with_reducible apply rt_of) | (with_reducible apply nx_of) | (with_reducible apply nx_nx) | (with_reducible apply rt_rt) | (with_reducible apply nx_nil) | (with_reducible apply rt_seqNil) | (with_reducible apply nx_asg) | (with_reducible apply ok_isNN))
      refine ok_joinE (by omega) ?_
      exact ⟨_, rfl, ⟨by simp; omega, by simp; omega, by simpa using hcs⟩, hs.mono (by omega), hf⟩
  · rintro t m2 ⟨x, rfl, gx, hs2, hf2⟩
    refine nx_nx ?_
    try simp only [List.map_cons, List.map_nil, List.cons_append, List.nil_append, List.length_cons, List.length_nil, Nat.reduceAdd, Nat.reduceSub, List.replicate_succ, List.replicate_zero, List.set_cons_succ, List.set_cons_zero]
    refine rt_seq (Nx.imp (P := fun env m3 => ∃ y, env = [some (.loc s), some (.loc j), some (.int n), some (.str y), none, none, none] ∧ Good y ∧ Src m3 s (c + 10) ∧ Fr s m m3) (nx_if ?_) ?_)
    · repeat (first | ((with_reducible apply ok_var); exact rfl) | ((with_reducible apply ok_calls); exact rfl) | ((with_reducible apply ok_tupL); exact Nat.le_of_ble_eq_true rfl) | ((with_reducible apply ok_lstL); exact Nat.le_of_ble_eq_true rfl) | ((with_reducible apply ok_lstC); exact Nat.le_of_ble_eq_true rfl) | (with_reducible apply ok_e2) | (with_reducible apply ok_c) | (with_reducible apply ok_cons) | (with_reducible apply ok_nil) | (with_reducible apply ok_ofL) | (with_reducible apply ok_call) | (with_reducible apply ok_meth) | (with_reducible apply ok_bV) | (with_reducible apply ok_bNot) | (with_reducible apply ok_bAnd) | (with_reducible apply ok_bOr) | (with_reducible apply ok_eAnd) | (with_reducible apply ok_eOr) | (with_reducible apply ok_eNot) | (with_reducible apply ok_eIf) | (with_reducible apply ok_iVal) | (with_reducible apply ok_range) | (with_reducible apply ok_range2) | (with_reducible apply ok_listRange) | (with_reducible apply ok_enum) | (with_reducible apply ok_bYes) | (with_reducible apply ok_mkL) | (with_reducible apply ok_mkC) | (with_reducible apply ok_ok) | (with_reducible apply ok_addI) | (with_reducible apply ok_gtI) | (with_reducible apply ok_geI) | (with_reducible apply ok_ltI) | (with_reducible apply ok_leI) | (with_reducible apply ok_leS) | (with_reducible apply ok_eqI) | (with_reducible apply ok_neI) | (with_reducible apply ok_eqS) | (with_reducible apply ok_neS) | (with_reducible apply ok_int) | (with_reducible apply ok_lenL) | (with_reducible apply ok_lenT) | (with_reducible apply ok_tupOfL) | (with_reducible apply ok_tupOfT) | (with_reducible apply bl_mk) | (with_reducible apply it_lst) | (with_reducible apply it_tup) | (with_reducible apply it_rls) | (with_reducible apply en_lst) | (with_reducible apply en_tup) | (with_reducible apply rt_seqOf) | (with_reducible apply nx_seqOf) | (with_reducible apply rt_of) | (with_reducible apply nx_of) | (with_reducible apply nx_nx) | (with_reducible apply rt_rt) | (with_reducible apply nx_nil) | (with_reducible apply rt_seqNil) | (with_reducible apply nx_asg) | (with_reducible apply ok_isNN))
      refine ok_chain ?_
      repeat (first | ((with_reducible apply ok_var); exact rfl) | ((with_reducible apply ok_calls); exact rfl) | ((with_reducible apply ok_tupL); exact Nat.le_of_ble_eq_true rfl) | ((with_reducible apply ok_lstL); exact Nat.le_of_ble_eq_true rfl) | ((with_reducible apply ok_lstC); exact Nat.le_of_ble_eq_true rfl) | (with_reducible apply ok_e2) | (with_reducible apply ok_c) | (with_reducible apply ok_cons) | (with_reducible apply ok_nil) | (with_reducible apply ok_ofL) | (with_reducible apply ok_call) | (with_reducible apply ok_meth) | (with_reducible apply ok_bV) | (with_reducible apply ok_bNot) | (with_reducible apply ok_bAnd) | (with_reducible apply ok_bOr) | (with_reducible apply ok_eAnd) | (with_reducible apply ok_eOr) | (with_reducible apply ok_eNot) | (with_reducible apply ok_eIf) | (with_reducible apply ok_iVal) | (with_reducible apply ok_range) | (with_reducible apply ok_range2) | (with_reducible apply ok_listRange) | (with_reducible apply ok_enum) | (with_reducible apply ok_bYes) | (with_reducible apply ok_mkL) | (with_reducible apply ok_mkC) | (with_reducible apply ok_ok) | (with_reducible apply ok_addI) | (with_reducible apply ok_gtI) | (with_reducible apply ok_geI) | (with_reducible apply ok_ltI) | (with_reducible apply ok_leI) | (with_reducible apply ok_leS) | (with_reducible apply ok_eqI) | (with_reducible apply ok_neI) | (with_reducible apply ok_eqS) | (with_reducible apply ok_neS) | (with_reducible apply ok_int) | (with_reducible apply ok_lenL) | (with_reducible apply ok_lenT) | (with_reducible apply ok_tupOfL) | (with_reducible apply ok_tupOfT) | (with_reducible apply bl_mk) | (with_reducible apply it_lst) | (with_reducible apply it_tup) | (with_reducible apply it_rls) | (with_reducible apply en_lst) | (with_reducible apply en_tup) | (with_reducible apply rt_seqOf) | (with_reducible apply nx_seqOf) | (with_reducible apply rt_of) | (with_reducible apply nx_of) | (with_reducible apply nx_nx) | (with_reducible apply rt_rt) | (with_reducible apply nx_nil) | (with_reducible apply rt_seqNil) | (with_reducible apply nx_asg) | (with_reducible apply ok_isNN))
      have fin : ∀ b : Bool, if b = true then
          Nx (sOf (e2 gIx (eOfL (gLstL false) (lCons (eC (.str "kind")) (lCons (eC (.str "hand")) (lCons (eC (.str "parts")) (lCons (eC (.str "else")) (lCons (eC (.str "soft")) (lCons (eC (.str "held")) (lCons (e2 (gAdd false) (eC (.str "q")) (eSlice false (eVar 3) (oSome (eC (.int 1))) oNone)) lNil)))))))) (eCall 2 F__law_draw (lCons (eVar 0) (lCons (eC (.int 7)) lNil)))) (fun t env m => .nx (env.set 3 (some t)) m) [some (.loc s), some (.loc j), some (.int n), some (.str x), none, none, none] m2)
            fun env m3 => ∃ y, env = [some (.loc s), some (.loc j), some (.int n), some (.str y), none, none, none] ∧ Good y ∧ Src m3 s (c + 10) ∧ Fr s m m3
          else Nx (sNil [some (.loc s), some (.loc j), some (.int n), some (.str x), none, none, none] m2) fun env m3 => ∃ y, env = [some (.loc s), some (.loc j), some (.int n), some (.str y), none, none, none] ∧ Good y ∧ Src m3 s (c + 10) ∧ Fr s m m3 := by
        intro b
        cases b with
        | false =>
          rw [if_neg (by decide)]
          repeat (first | ((with_reducible apply ok_var); exact rfl) | ((with_reducible apply ok_calls); exact rfl) | ((with_reducible apply ok_tupL); exact Nat.le_of_ble_eq_true rfl) | ((with_reducible apply ok_lstL); exact Nat.le_of_ble_eq_true rfl) | ((with_reducible apply ok_lstC); exact Nat.le_of_ble_eq_true rfl) | (with_reducible apply ok_e2) | (with_reducible apply ok_c) | (with_reducible apply ok_cons) | (with_reducible apply ok_nil) | (with_reducible apply ok_ofL) | (with_reducible apply ok_call) | (with_reducible apply ok_meth) | (with_reducible apply ok_bV) | (with_reducible apply ok_bNot) | (with_reducible apply ok_bAnd) | (with_reducible apply ok_bOr) | (with_reducible apply ok_eAnd) | (with_reducible apply ok_eOr) | (with_reducible apply ok_eNot) | (with_reducible apply ok_eIf) | (with_reducible apply ok_iVal) | (with_reducible apply ok_range) | (with_reducible apply ok_range2) | (with_reducible apply ok_listRange) | (with_reducible apply ok_enum) | (with_reducible apply ok_bYes) | (with_reducible apply ok_mkL) | (with_reducible apply ok_mkC) | (with_reducible apply ok_ok) | (with_reducible apply ok_addI) | (with_reducible apply ok_gtI) | (with_reducible apply ok_geI) | (with_reducible apply ok_ltI) | (with_reducible apply ok_leI) | (with_reducible apply ok_leS) | (with_reducible apply ok_eqI) | (with_reducible apply ok_neI) | (with_reducible apply ok_eqS) | (with_reducible apply ok_neS) | (with_reducible apply ok_int) | (with_reducible apply ok_lenL) | (with_reducible apply ok_lenT) | (with_reducible apply ok_tupOfL) | (with_reducible apply ok_tupOfT) | (with_reducible apply bl_mk) | (with_reducible apply it_lst) | (with_reducible apply it_tup) | (with_reducible apply it_rls) | (with_reducible apply en_lst) | (with_reducible apply en_tup) | (with_reducible apply rt_seqOf) | (with_reducible apply nx_seqOf) | (with_reducible apply rt_of) | (with_reducible apply nx_of) | (with_reducible apply nx_nx) | (with_reducible apply rt_rt) | (with_reducible apply nx_nil) | (with_reducible apply rt_seqNil) | (with_reducible apply nx_asg) | (with_reducible apply ok_isNN))
          exact ⟨x, rfl, gx, hs2.mono (by omega), hf2⟩
        | true =>
          rw [if_pos rfl]
          repeat (first | ((with_reducible apply ok_var); exact rfl) | ((with_reducible apply ok_calls); exact rfl) | ((with_reducible apply ok_tupL); exact Nat.le_of_ble_eq_true rfl) | ((with_reducible apply ok_lstL); exact Nat.le_of_ble_eq_true rfl) | ((with_reducible apply ok_lstC); exact Nat.le_of_ble_eq_true rfl) | (with_reducible apply ok_e2) | (with_reducible apply ok_c) | (with_reducible apply ok_cons) | (with_reducible apply ok_nil) | (with_reducible apply ok_ofL) | (with_reducible apply ok_call) | (with_reducible apply ok_meth) | (with_reducible apply ok_bV) | (with_reducible apply ok_bNot) | (with_reducible apply ok_bAnd) | (with_reducible apply ok_bOr) | (with_reducible apply ok_eAnd) | (with_reducible apply ok_eOr) | (with_reducible apply ok_eNot) | (with_reducible apply ok_eIf) | (with_reducible apply ok_iVal) | (with_reducible apply ok_range) | (with_reducible apply ok_range2) | (with_reducible apply ok_listRange) | (with_reducible apply ok_enum) | (with_reducible apply ok_bYes) | (with_reducible apply ok_mkL) | (with_reducible apply ok_mkC) | (with_reducible apply ok_ok) | (with_reducible apply ok_addI) | (with_reducible apply ok_gtI) | (with_reducible apply ok_geI) | (with_reducible apply ok_ltI) | (with_reducible apply ok_leI) | (with_reducible apply ok_leS) | (with_reducible apply ok_eqI) | (with_reducible apply ok_neI) | (with_reducible apply ok_eqS) | (with_reducible apply ok_neS) | (with_reducible apply ok_int) | (with_reducible apply ok_lenL) | (with_reducible apply ok_lenT) | (with_reducible apply ok_tupOfL) | (with_reducible apply ok_tupOfT) | (with_reducible apply bl_mk) | (with_reducible apply it_lst) | (with_reducible apply it_tup) | (with_reducible apply it_rls) | (with_reducible apply en_lst) | (with_reducible apply en_tup) | (with_reducible apply rt_seqOf) | (with_reducible apply nx_seqOf) | (with_reducible apply rt_of) | (with_reducible apply nx_of) | (with_reducible apply nx_nx) | (with_reducible apply rt_rt) | (with_reducible apply nx_nil) | (with_reducible apply rt_seqNil) | (with_reducible apply nx_asg) | (with_reducible apply ok_isNN))
          refine ok_slice ?_
          repeat (first | ((with_reducible apply ok_var); exact rfl) | ((with_reducible apply ok_calls); exact rfl) | ((with_reducible apply ok_tupL); exact Nat.le_of_ble_eq_true rfl) | ((with_reducible apply ok_lstL); exact Nat.le_of_ble_eq_true rfl) | ((with_reducible apply ok_lstC); exact Nat.le_of_ble_eq_true rfl) | (with_reducible apply ok_e2) | (with_reducible apply ok_c) | (with_reducible apply ok_cons) | (with_reducible apply ok_nil) | (with_reducible apply ok_ofL) | (with_reducible apply ok_call) | (with_reducible apply ok_meth) | (with_reducible apply ok_bV) | (with_reducible apply ok_bNot) | (with_reducible apply ok_bAnd) | (with_reducible apply ok_bOr) | (with_reducible apply ok_eAnd) | (with_reducible apply ok_eOr) | (with_reducible apply ok_eNot) | (with_reducible apply ok_eIf) | (with_reducible apply ok_iVal) | (with_reducible apply ok_range) | (with_reducible apply ok_range2) | (with_reducible apply ok_listRange) | (with_reducible apply ok_enum) | (with_reducible apply ok_bYes) | (with_reducible apply ok_mkL) | (with_reducible apply ok_mkC) | (with_reducible apply ok_ok) | (with_reducible apply ok_addI) | (with_reducible apply ok_gtI) | (with_reducible apply ok_geI) | (with_reducible apply ok_ltI) | (with_reducible apply ok_leI) | (with_reducible apply ok_leS) | (with_reducible apply ok_eqI) | (with_reducible apply ok_neI) | (with_reducible apply ok_eqS) | (with_reducible apply ok_neS) | (with_reducible apply ok_int) | (with_reducible apply ok_lenL) | (with_reducible apply ok_lenT) | (with_reducible apply ok_tupOfL) | (with_reducible apply ok_tupOfT) | (with_reducible apply bl_mk) | (with_reducible apply it_lst) | (with_reducible apply it_tup) | (with_reducible apply it_rls) | (with_reducible apply en_lst) | (with_reducible apply en_tup) | (with_reducible apply rt_seqOf) | (with_reducible apply nx_seqOf) | (with_reducible apply rt_of) | (with_reducible apply nx_of) | (with_reducible apply nx_nx) | (with_reducible apply rt_rt) | (with_reducible apply nx_nil) | (with_reducible apply rt_seqNil) | (with_reducible apply nx_asg) | (with_reducible apply ok_isNN))
          refine ok_oSome ?_
          repeat (first | ((with_reducible apply ok_var); exact rfl) | ((with_reducible apply ok_calls); exact rfl) | ((with_reducible apply ok_tupL); exact Nat.le_of_ble_eq_true rfl) | ((with_reducible apply ok_lstL); exact Nat.le_of_ble_eq_true rfl) | ((with_reducible apply ok_lstC); exact Nat.le_of_ble_eq_true rfl) | (with_reducible apply ok_e2) | (with_reducible apply ok_c) | (with_reducible apply ok_cons) | (with_reducible apply ok_nil) | (with_reducible apply ok_ofL) | (with_reducible apply ok_call) | (with_reducible apply ok_meth) | (with_reducible apply ok_bV) | (with_reducible apply ok_bNot) | (with_reducible apply ok_bAnd) | (with_reducible apply ok_bOr) | (with_reducible apply ok_eAnd) | (with_reducible apply ok_eOr) | (with_reducible apply ok_eNot) | (with_reducible apply ok_eIf) | (with_reducible apply ok_iVal) | (with_reducible apply ok_range) | (with_reducible apply ok_range2) | (with_reducible apply ok_listRange) | (with_reducible apply ok_enum) | (with_reducible apply ok_bYes) | (with_reducible apply ok_mkL) | (with_reducible apply ok_mkC) | (with_reducible apply ok_ok) | (with_reducible apply ok_addI) | (with_reducible apply ok_gtI) | (with_reducible apply ok_geI) | (with_reducible apply ok_ltI) | (with_reducible apply ok_leI) | (with_reducible apply ok_leS) | (with_reducible apply ok_eqI) | (with_reducible apply ok_neI) | (with_reducible apply ok_eqS) | (with_reducible apply ok_neS) | (with_reducible apply ok_int) | (with_reducible apply ok_lenL) | (with_reducible apply ok_lenT) | (with_reducible apply ok_tupOfL) | (with_reducible apply ok_tupOfT) | (with_reducible apply bl_mk) | (with_reducible apply it_lst) | (with_reducible apply it_tup) | (with_reducible apply it_rls) | (with_reducible apply en_lst) | (with_reducible apply en_tup) | (with_reducible apply rt_seqOf) | (with_reducible apply nx_seqOf) | (with_reducible apply rt_of) | (with_reducible apply nx_of) | (with_reducible apply nx_nx) | (with_reducible apply rt_rt) | (with_reducible apply nx_nil) | (with_reducible apply rt_seqNil) | (with_reducible apply nx_asg) | (with_reducible apply ok_isNN))
          refine ⟨_, rfl, ok_oNone (ok_sliceS (by rw [len_cps]; have := gx.hi; unfold lim; omega) ?_)⟩
          have gq := good_q gx
          refine ok_addS ?_ ?_
          · have := gx.hi
            have h1 : (("q" : Str)).length = 1 := by decide +kernel
            rw [h1, len_cps (cutS _ _ _)]
            have h2 : (cutS x (some 1) none).cps.toList.length ≤ x.cps.toList.length := by unfold cutS; simp; omega
            unfold lim; omega
          repeat (first | ((with_reducible apply ok_var); exact rfl) | ((with_reducible apply ok_calls); exact rfl) | ((with_reducible apply ok_tupL); exact Nat.le_of_ble_eq_true rfl) | ((with_reducible apply ok_lstL); exact Nat.le_of_ble_eq_true rfl) | ((with_reducible apply ok_lstC); exact Nat.le_of_ble_eq_true rfl) | (with_reducible apply ok_e2) | (with_reducible apply ok_c) | (with_reducible apply ok_cons) | (with_reducible apply ok_nil) | (with_reducible apply ok_ofL) | (with_reducible apply ok_call) | (with_reducible apply ok_meth) | (with_reducible apply ok_bV) | (with_reducible apply ok_bNot) | (with_reducible apply ok_bAnd) | (with_reducible apply ok_bOr) | (with_reducible apply ok_eAnd) | (with_reducible apply ok_eOr) | (with_reducible apply ok_eNot) | (with_reducible apply ok_eIf) | (with_reducible apply ok_iVal) | (with_reducible apply ok_range) | (with_reducible apply ok_range2) | (with_reducible apply ok_listRange) | (with_reducible apply ok_enum) | (with_reducible apply ok_bYes) | (with_reducible apply ok_mkL) | (with_reducible apply ok_mkC) | (with_reducible apply ok_ok) | (with_reducible apply ok_addI) | (with_reducible apply ok_gtI) | (with_reducible apply ok_geI) | (with_reducible apply ok_ltI) | (with_reducible apply ok_leI) | (with_reducible apply ok_leS) | (with_reducible apply ok_eqI) | (with_reducible apply ok_neI) | (with_reducible apply ok_eqS) | (with_reducible apply ok_neS) | (with_reducible apply ok_int) | (with_reducible apply ok_lenL) | (with_reducible apply ok_lenT) | (with_reducible apply ok_tupOfL) | (with_reducible apply ok_tupOfT) | (with_reducible apply bl_mk) | (with_reducible apply it_lst) | (with_reducible apply it_tup) | (with_reducible apply it_rls) | (with_reducible apply en_lst) | (with_reducible apply en_tup) | (with_reducible apply rt_seqOf) | (with_reducible apply nx_seqOf) | (with_reducible apply rt_of) | (with_reducible apply nx_of) | (with_reducible apply nx_nx) | (with_reducible apply rt_rt) | (with_reducible apply nx_nil) | (with_reducible apply rt_seqNil) | (with_reducible apply nx_asg) | (with_reducible apply ok_isNN))
          refine draw_ok hs2 (by omega) (by omega) (by omega) fun d m3 d0 d1 hs3 hf3 => ?_
          obtain ⟨t, e1, _, ht⟩ := atB (ts := [T.str "kind", T.str "hand", T.str "parts", T.str "else", T.str "soft", T.str "held", T.str ("q" ++ cutS x (some 1) none)]) d0 d1
          refine ok_ixL e1 ?_
          obtain ⟨y, rfl, gy⟩ : ∃ y, t = .str y ∧ Good y := by
            simp only [List.mem_cons, List.not_mem_nil, or_false] at ht
            rcases ht with e | e | e | e | e | e | e <;> subst e
            · exact ⟨_, rfl, by decide +kernel⟩
            · exact ⟨_, rfl, by decide +kernel⟩
            · exact ⟨_, rfl, by decide +kernel⟩
            · exact ⟨_, rfl, by decide +kernel⟩
            · exact ⟨_, rfl, by decide +kernel⟩
            · exact ⟨_, rfl, by decide +kernel⟩
            · exact ⟨_, rfl, gq⟩
          repeat (first | ((with_reducible apply ok_var); exact rfl) | ((with_reducible apply ok_calls); exact rfl) | ((with_reducible apply ok_tupL); exact Nat.le_of_ble_eq_true rfl) | ((with_reducible apply ok_lstL); exact Nat.le_of_ble_eq_true rfl) | ((with_reducible apply ok_lstC); exact Nat.le_of_ble_eq_true rfl) | (with_reducible apply ok_e2) | (with_reducible apply ok_c) | (with_reducible apply ok_cons) | (with_reducible apply ok_nil) | (with_reducible apply ok_ofL) | (with_reducible apply ok_call) | (with_reducible apply ok_meth) | (with_reducible apply ok_bV) | (with_reducible apply ok_bNot) | (with_reducible apply ok_bAnd) | (with_reducible apply ok_bOr) | (with_reducible apply ok_eAnd) | (with_reducible apply ok_eOr) | (with_reducible apply ok_eNot) | (with_reducible apply ok_eIf) | (with_reducible apply ok_iVal) | (with_reducible apply ok_range) | (with_reducible apply ok_range2) | (with_reducible apply ok_listRange) | (with_reducible apply ok_enum) | (with_reducible apply ok_bYes) | (with_reducible apply ok_mkL) | (with_reducible apply ok_mkC) | (with_reducible apply ok_ok) | (with_reducible apply ok_addI) | (with_reducible apply ok_gtI) | (with_reducible apply ok_geI) | (with_reducible apply ok_ltI) | (with_reducible apply ok_leI) | (with_reducible apply ok_leS) | (with_reducible apply ok_eqI) | (with_reducible apply ok_neI) | (with_reducible apply ok_eqS) | (with_reducible apply ok_neS) | (with_reducible apply ok_int) | (with_reducible apply ok_lenL) | (with_reducible apply ok_lenT) | (with_reducible apply ok_tupOfL) | (with_reducible apply ok_tupOfT) | (with_reducible apply bl_mk) | (with_reducible apply it_lst) | (with_reducible apply it_tup) | (with_reducible apply it_rls) | (with_reducible apply en_lst) | (with_reducible apply en_tup) | (with_reducible apply rt_seqOf) | (with_reducible apply nx_seqOf) | (with_reducible apply rt_of) | (with_reducible apply nx_of) | (with_reducible apply nx_nx) | (with_reducible apply rt_rt) | (with_reducible apply nx_nil) | (with_reducible apply rt_seqNil) | (with_reducible apply nx_asg) | (with_reducible apply ok_isNN))
          exact ⟨y, rfl, gy, hs3, hf2.trans hf3⟩
      split
      · repeat (first | ((with_reducible apply ok_var); exact rfl) | ((with_reducible apply ok_calls); exact rfl) | ((with_reducible apply ok_tupL); exact Nat.le_of_ble_eq_true rfl) | ((with_reducible apply ok_lstL); exact Nat.le_of_ble_eq_true rfl) | ((with_reducible apply ok_lstC); exact Nat.le_of_ble_eq_true rfl) | (with_reducible apply ok_e2) | (with_reducible apply ok_c) | (with_reducible apply ok_cons) | (with_reducible apply ok_nil) | (with_reducible apply ok_ofL) | (with_reducible apply ok_call) | (with_reducible apply ok_meth) | (with_reducible apply ok_bV) | (with_reducible apply ok_bNot) | (with_reducible apply ok_bAnd) | (with_reducible apply ok_bOr) | (with_reducible apply ok_eAnd) | (with_reducible apply ok_eOr) | (with_reducible apply ok_eNot) | (with_reducible apply ok_eIf) | (with_reducible apply ok_iVal) | (with_reducible apply ok_range) | (with_reducible apply ok_range2) | (with_reducible apply ok_listRange) | (with_reducible apply ok_enum) | (with_reducible apply ok_bYes) | (with_reducible apply ok_mkL) | (with_reducible apply ok_mkC) | (with_reducible apply ok_ok) | (with_reducible apply ok_addI) | (with_reducible apply ok_gtI) | (with_reducible apply ok_geI) | (with_reducible apply ok_ltI) | (with_reducible apply ok_leI) | (with_reducible apply ok_leS) | (with_reducible apply ok_eqI) | (with_reducible apply ok_neI) | (with_reducible apply ok_eqS) | (with_reducible apply ok_neS) | (with_reducible apply ok_int) | (with_reducible apply ok_lenL) | (with_reducible apply ok_lenT) | (with_reducible apply ok_tupOfL) | (with_reducible apply ok_tupOfT) | (with_reducible apply bl_mk) | (with_reducible apply it_lst) | (with_reducible apply it_tup) | (with_reducible apply it_rls) | (with_reducible apply en_lst) | (with_reducible apply en_tup) | (with_reducible apply rt_seqOf) | (with_reducible apply nx_seqOf) | (with_reducible apply rt_of) | (with_reducible apply nx_of) | (with_reducible apply nx_nx) | (with_reducible apply rt_rt) | (with_reducible apply nx_nil) | (with_reducible apply rt_seqNil) | (with_reducible apply nx_asg) | (with_reducible apply ok_isNN))
        exact fin _
      · exact bl_mk (fin false)
    · rintro env m3 ⟨y, rfl, gy, hs3, hf3⟩
      have hx3 := hf3.cell hx hj
      refine rt_seqIf ?_
      repeat (first | ((with_reducible apply ok_var); exact rfl) | ((with_reducible apply ok_calls); exact rfl) | ((with_reducible apply ok_tupL); exact Nat.le_of_ble_eq_true rfl) | ((with_reducible apply ok_lstL); exact Nat.le_of_ble_eq_true rfl) | ((with_reducible apply ok_lstC); exact Nat.le_of_ble_eq_true rfl) | (with_reducible apply ok_e2) | (with_reducible apply ok_c) | (with_reducible apply ok_cons) | (with_reducible apply ok_nil) | (with_reducible apply ok_ofL) | (with_reducible apply ok_call) | (with_reducible apply ok_meth) | (with_reducible apply ok_bV) | (with_reducible apply ok_bNot) | (with_reducible apply ok_bAnd) | (with_reducible apply ok_bOr) | (with_reducible apply ok_eAnd) | (with_reducible apply ok_eOr) | (with_reducible apply ok_eNot) | (with_reducible apply ok_eIf) | (with_reducible apply ok_iVal) | (with_reducible apply ok_range) | (with_reducible apply ok_range2) | (with_reducible apply ok_listRange) | (with_reducible apply ok_enum) | (with_reducible apply ok_bYes) | (with_reducible apply ok_mkL) | (with_reducible apply ok_mkC) | (with_reducible apply ok_ok) | (with_reducible apply ok_addI) | (with_reducible apply ok_gtI) | (with_reducible apply ok_geI) | (with_reducible apply ok_ltI) | (with_reducible apply ok_leI) | (with_reducible apply ok_leS) | (with_reducible apply ok_eqI) | (with_reducible apply ok_neI) | (with_reducible apply ok_eqS) | (with_reducible apply ok_neS) | (with_reducible apply ok_int) | (with_reducible apply ok_lenL) | (with_reducible apply ok_lenT) | (with_reducible apply ok_tupOfL) | (with_reducible apply ok_tupOfT) | (with_reducible apply bl_mk) | (with_reducible apply it_lst) | (with_reducible apply it_tup) | (with_reducible apply it_rls) | (with_reducible apply en_lst) | (with_reducible apply en_tup) | (with_reducible apply rt_seqOf) | (with_reducible apply nx_seqOf) | (with_reducible apply rt_of) | (with_reducible apply nx_of) | (with_reducible apply nx_nx) | (with_reducible apply rt_rt) | (with_reducible apply nx_nil) | (with_reducible apply rt_seqNil) | (with_reducible apply nx_asg) | (with_reducible apply ok_isNN))
      refine ok_notinS (asSeq_loc hx3) ?_
      repeat (first | ((with_reducible apply ok_var); exact rfl) | ((with_reducible apply ok_calls); exact rfl) | ((with_reducible apply ok_tupL); exact Nat.le_of_ble_eq_true rfl) | ((with_reducible apply ok_lstL); exact Nat.le_of_ble_eq_true rfl) | ((with_reducible apply ok_lstC); exact Nat.le_of_ble_eq_true rfl) | (with_reducible apply ok_e2) | (with_reducible apply ok_c) | (with_reducible apply ok_cons) | (with_reducible apply ok_nil) | (with_reducible apply ok_ofL) | (with_reducible apply ok_call) | (with_reducible apply ok_meth) | (with_reducible apply ok_bV) | (with_reducible apply ok_bNot) | (with_reducible apply ok_bAnd) | (with_reducible apply ok_bOr) | (with_reducible apply ok_eAnd) | (with_reducible apply ok_eOr) | (with_reducible apply ok_eNot) | (with_reducible apply ok_eIf) | (with_reducible apply ok_iVal) | (with_reducible apply ok_range) | (with_reducible apply ok_range2) | (with_reducible apply ok_listRange) | (with_reducible apply ok_enum) | (with_reducible apply ok_bYes) | (with_reducible apply ok_mkL) | (with_reducible apply ok_mkC) | (with_reducible apply ok_ok) | (with_reducible apply ok_addI) | (with_reducible apply ok_gtI) | (with_reducible apply ok_geI) | (with_reducible apply ok_ltI) | (with_reducible apply ok_leI) | (with_reducible apply ok_leS) | (with_reducible apply ok_eqI) | (with_reducible apply ok_neI) | (with_reducible apply ok_eqS) | (with_reducible apply ok_neS) | (with_reducible apply ok_int) | (with_reducible apply ok_lenL) | (with_reducible apply ok_lenT) | (with_reducible apply ok_tupOfL) | (with_reducible apply ok_tupOfT) | (with_reducible apply bl_mk) | (with_reducible apply it_lst) | (with_reducible apply it_tup) | (with_reducible apply it_rls) | (with_reducible apply en_lst) | (with_reducible apply en_tup) | (with_reducible apply rt_seqOf) | (with_reducible apply nx_seqOf) | (with_reducible apply rt_of) | (with_reducible apply nx_of) | (with_reducible apply nx_nx) | (with_reducible apply rt_rt) | (with_reducible apply nx_nil) | (with_reducible apply rt_seqNil) | (with_reducible apply nx_asg) | (with_reducible apply ok_isNN))
      split
      · rename_i hb
        refine rt_seq0 ?_
        repeat (first | ((with_reducible apply ok_var); exact rfl) | ((with_reducible apply ok_calls); exact rfl) | ((with_reducible apply ok_tupL); exact Nat.le_of_ble_eq_true rfl) | ((with_reducible apply ok_lstL); exact Nat.le_of_ble_eq_true rfl) | ((with_reducible apply ok_lstC); exact Nat.le_of_ble_eq_true rfl) | (with_reducible apply ok_e2) | (with_reducible apply ok_c) | (with_reducible apply ok_cons) | (with_reducible apply ok_nil) | (with_reducible apply ok_ofL) | (with_reducible apply ok_call) | (with_reducible apply ok_meth) | (with_reducible apply ok_bV) | (with_reducible apply ok_bNot) | (with_reducible apply ok_bAnd) | (with_reducible apply ok_bOr) | (with_reducible apply ok_eAnd) | (with_reducible apply ok_eOr) | (with_reducible apply ok_eNot) | (with_reducible apply ok_eIf) | (with_reducible apply ok_iVal) | (with_reducible apply ok_range) | (with_reducible apply ok_range2) | (with_reducible apply ok_listRange) | (with_reducible apply ok_enum) | (with_reducible apply ok_bYes) | (with_reducible apply ok_mkL) | (with_reducible apply ok_mkC) | (with_reducible apply ok_ok) | (with_reducible apply ok_addI) | (with_reducible apply ok_gtI) | (with_reducible apply ok_geI) | (with_reducible apply ok_ltI) | (with_reducible apply ok_leI) | (with_reducible apply ok_leS) | (with_reducible apply ok_eqI) | (with_reducible apply ok_neI) | (with_reducible apply ok_eqS) | (with_reducible apply ok_neS) | (with_reducible apply ok_int) | (with_reducible apply ok_lenL) | (with_reducible apply ok_lenT) | (with_reducible apply ok_tupOfL) | (with_reducible apply ok_tupOfT) | (with_reducible apply bl_mk) | (with_reducible apply it_lst) | (with_reducible apply it_tup) | (with_reducible apply it_rls) | (with_reducible apply en_lst) | (with_reducible apply en_tup) | (with_reducible apply rt_seqOf) | (with_reducible apply nx_seqOf) | (with_reducible apply rt_of) | (with_reducible apply nx_of) | (with_reducible apply nx_nx) | (with_reducible apply rt_rt) | (with_reducible apply nx_nil) | (with_reducible apply rt_seqNil) | (with_reducible apply nx_asg) | (with_reducible apply ok_isNN))
        exact k y m3 gy (by simpa using hb) hs3 hf3
      · repeat (first | ((with_reducible apply ok_var); exact rfl) | ((with_reducible apply ok_calls); exact rfl) | ((with_reducible apply ok_tupL); exact Nat.le_of_ble_eq_true rfl) | ((with_reducible apply ok_lstL); exact Nat.le_of_ble_eq_true rfl) | ((with_reducible apply ok_lstC); exact Nat.le_of_ble_eq_true rfl) | (with_reducible apply ok_e2) | (with_reducible apply ok_c) | (with_reducible apply ok_cons) | (with_reducible apply ok_nil) | (with_reducible apply ok_ofL) | (with_reducible apply ok_call) | (with_reducible apply ok_meth) | (with_reducible apply ok_bV) | (with_reducible apply ok_bNot) | (with_reducible apply ok_bAnd) | (with_reducible apply ok_bOr) | (with_reducible apply ok_eAnd) | (with_reducible apply ok_eOr) | (with_reducible apply ok_eNot) | (with_reducible apply ok_eIf) | (with_reducible apply ok_iVal) | (with_reducible apply ok_range) | (with_reducible apply ok_range2) | (with_reducible apply ok_listRange) | (with_reducible apply ok_enum) | (with_reducible apply ok_bYes) | (with_reducible apply ok_mkL) | (with_reducible apply ok_mkC) | (with_reducible apply ok_ok) | (with_reducible apply ok_addI) | (with_reducible apply ok_gtI) | (with_reducible apply ok_geI) | (with_reducible apply ok_ltI) | (with_reducible apply ok_leI) | (with_reducible apply ok_leS) | (with_reducible apply ok_eqI) | (with_reducible apply ok_neI) | (with_reducible apply ok_eqS) | (with_reducible apply ok_neS) | (with_reducible apply ok_int) | (with_reducible apply ok_lenL) | (with_reducible apply ok_lenT) | (with_reducible apply ok_tupOfL) | (with_reducible apply ok_tupOfT) | (with_reducible apply bl_mk) | (with_reducible apply it_lst) | (with_reducible apply it_tup) | (with_reducible apply it_rls) | (with_reducible apply en_lst) | (with_reducible apply en_tup) | (with_reducible apply rt_seqOf) | (with_reducible apply nx_seqOf) | (with_reducible apply rt_of) | (with_reducible apply nx_of) | (with_reducible apply nx_nx) | (with_reducible apply rt_rt) | (with_reducible apply nx_nil) | (with_reducible apply rt_seqNil) | (with_reducible apply nx_asg) | (with_reducible apply ok_isNN))
        refine ok_compP (fun t => !decide (strOf t ∈ xs)) (fun t => t) ?_
        repeat (first | ((with_reducible apply ok_var); exact rfl) | ((with_reducible apply ok_calls); exact rfl) | ((with_reducible apply ok_tupL); exact Nat.le_of_ble_eq_true rfl) | ((with_reducible apply ok_lstL); exact Nat.le_of_ble_eq_true rfl) | ((with_reducible apply ok_lstC); exact Nat.le_of_ble_eq_true rfl) | (with_reducible apply ok_e2) | (with_reducible apply ok_c) | (with_reducible apply ok_cons) | (with_reducible apply ok_nil) | (with_reducible apply ok_ofL) | (with_reducible apply ok_call) | (with_reducible apply ok_meth) | (with_reducible apply ok_bV) | (with_reducible apply ok_bNot) | (with_reducible apply ok_bAnd) | (with_reducible apply ok_bOr) | (with_reducible apply ok_eAnd) | (with_reducible apply ok_eOr) | (with_reducible apply ok_eNot) | (with_reducible apply ok_eIf) | (with_reducible apply ok_iVal) | (with_reducible apply ok_range) | (with_reducible apply ok_range2) | (with_reducible apply ok_listRange) | (with_reducible apply ok_enum) | (with_reducible apply ok_bYes) | (with_reducible apply ok_mkL) | (with_reducible apply ok_mkC) | (with_reducible apply ok_ok) | (with_reducible apply ok_addI) | (with_reducible apply ok_gtI) | (with_reducible apply ok_geI) | (with_reducible apply ok_ltI) | (with_reducible apply ok_leI) | (with_reducible apply ok_leS) | (with_reducible apply ok_eqI) | (with_reducible apply ok_neI) | (with_reducible apply ok_eqS) | (with_reducible apply ok_neS) | (with_reducible apply ok_int) | (with_reducible apply ok_lenL) | (with_reducible apply ok_lenT) | (with_reducible apply ok_tupOfL) | (with_reducible apply ok_tupOfT) | (with_reducible apply bl_mk) | (with_reducible apply it_lst) | (with_reducible apply it_tup) | (with_reducible apply it_rls) | (with_reducible apply en_lst) | (with_reducible apply en_tup) | (with_reducible apply rt_seqOf) | (with_reducible apply nx_seqOf) | (with_reducible apply rt_of) | (with_reducible apply nx_of) | (with_reducible apply nx_nx) | (with_reducible apply rt_rt) | (with_reducible apply nx_nil) | (with_reducible apply rt_seqNil) | (with_reducible apply nx_asg) | (with_reducible apply ok_isNN))
        refine ok_compP (fun _ => true) (fun t => .str (("z" : Str) ++ strOf t)) ?_
        refine ok_iVal (ok_c ⟨_, items_az, ?_⟩)
        refine ⟨by rw [List.length_map, az_len]; decide, ?_, ?_⟩
        · intro t ht
          obtain ⟨a, _, rfl⟩ := List.mem_map.mp ht
          refine ⟨_, rfl, ?_⟩
          repeat (first | ((with_reducible apply ok_var); exact rfl) | ((with_reducible apply ok_calls); exact rfl) | ((with_reducible apply ok_tupL); exact Nat.le_of_ble_eq_true rfl) | ((with_reducible apply ok_lstL); exact Nat.le_of_ble_eq_true rfl) | ((with_reducible apply ok_lstC); exact Nat.le_of_ble_eq_true rfl) | (with_reducible apply ok_e2) | (with_reducible apply ok_c) | (with_reducible apply ok_cons) | (with_reducible apply ok_nil) | (with_reducible apply ok_ofL) | (with_reducible apply ok_call) | (with_reducible apply ok_meth) | (with_reducible apply ok_bV) | (with_reducible apply ok_bNot) | (with_reducible apply ok_bAnd) | (with_reducible apply ok_bOr) | (with_reducible apply ok_eAnd) | (with_reducible apply ok_eOr) | (with_reducible apply ok_eNot) | (with_reducible apply ok_eIf) | (with_reducible apply ok_iVal) | (with_reducible apply ok_range) | (with_reducible apply ok_range2) | (with_reducible apply ok_listRange) | (with_reducible apply ok_enum) | (with_reducible apply ok_bYes) | (with_reducible apply ok_mkL) | (with_reducible apply ok_mkC) | (with_reducible apply ok_ok) | (with_reducible apply ok_addI) | (with_reducible apply ok_gtI) | (with_reducible apply ok_geI) | (with_reducible apply ok_ltI) | (with_reducible apply ok_leI) | (with_reducible apply ok_leS) | (with_reducible apply ok_eqI) | (with_reducible apply ok_neI) | (with_reducible apply ok_eqS) | (with_reducible apply ok_neS) | (with_reducible apply ok_int) | (with_reducible apply ok_lenL) | (with_reducible apply ok_lenT) | (with_reducible apply ok_tupOfL) | (with_reducible apply ok_tupOfT) | (with_reducible apply bl_mk) | (with_reducible apply it_lst) | (with_reducible apply it_tup) | (with_reducible apply it_rls) | (with_reducible apply en_lst) | (with_reducible apply en_tup) | (with_reducible apply rt_seqOf) | (with_reducible apply nx_seqOf) | (with_reducible apply rt_of) | (with_reducible apply nx_of) | (with_reducible apply nx_nx) | (with_reducible apply rt_rt) | (with_reducible apply nx_nil) | (with_reducible apply rt_seqNil) | (with_reducible apply nx_asg) | (with_reducible apply ok_isNN))
          refine ⟨rfl, rfl, fun _ => ?_⟩
          repeat (first | ((with_reducible apply ok_var); exact rfl) | ((with_reducible apply ok_calls); exact rfl) | ((with_reducible apply ok_tupL); exact Nat.le_of_ble_eq_true rfl) | ((with_reducible apply ok_lstL); exact Nat.le_of_ble_eq_true rfl) | ((with_reducible apply ok_lstC); exact Nat.le_of_ble_eq_true rfl) | (with_reducible apply ok_e2) | (with_reducible apply ok_c) | (with_reducible apply ok_cons) | (with_reducible apply ok_nil) | (with_reducible apply ok_ofL) | (with_reducible apply ok_call) | (with_reducible apply ok_meth) | (with_reducible apply ok_bV) | (with_reducible apply ok_bNot) | (with_reducible apply ok_bAnd) | (with_reducible apply ok_bOr) | (with_reducible apply ok_eAnd) | (with_reducible apply ok_eOr) | (with_reducible apply ok_eNot) | (with_reducible apply ok_eIf) | (with_reducible apply ok_iVal) | (with_reducible apply ok_range) | (with_reducible apply ok_range2) | (with_reducible apply ok_listRange) | (with_reducible apply ok_enum) | (with_reducible apply ok_bYes) | (with_reducible apply ok_mkL) | (with_reducible apply ok_mkC) | (with_reducible apply ok_ok) | (with_reducible apply ok_addI) | (with_reducible apply ok_gtI) | (with_reducible apply ok_geI) | (with_reducible apply ok_ltI) | (with_reducible apply ok_leI) | (with_reducible apply ok_leS) | (with_reducible apply ok_eqI) | (with_reducible apply ok_neI) | (with_reducible apply ok_eqS) | (with_reducible apply ok_neS) | (with_reducible apply ok_int) | (with_reducible apply ok_lenL) | (with_reducible apply ok_lenT) | (with_reducible apply ok_tupOfL) | (with_reducible apply ok_tupOfT) | (with_reducible apply bl_mk) | (with_reducible apply it_lst) | (with_reducible apply it_tup) | (with_reducible apply it_rls) | (with_reducible apply en_lst) | (with_reducible apply en_tup) | (with_reducible apply rt_seqOf) | (with_reducible apply nx_seqOf) | (with_reducible apply rt_of) | (with_reducible apply nx_of) | (with_reducible apply nx_nx) | (with_reducible apply rt_rt) | (with_reducible apply nx_nil) | (with_reducible apply rt_seqNil) | (with_reducible apply nx_asg) | (with_reducible apply ok_isNN))
          refine ok_addS (by rw [show (Str.ofString "z").length = 1 by decide +kernel]; exact Nat.le_of_ble_eq_true rfl) ?_
          exact ⟨rfl, rfl⟩
        · rw [filter_yes, List.map_map]
          repeat (first | ((with_reducible apply ok_var); exact rfl) | ((with_reducible apply ok_calls); exact rfl) | ((with_reducible apply ok_tupL); exact Nat.le_of_ble_eq_true rfl) | ((with_reducible apply ok_lstL); exact Nat.le_of_ble_eq_true rfl) | ((with_reducible apply ok_lstC); exact Nat.le_of_ble_eq_true rfl) | (with_reducible apply ok_e2) | (with_reducible apply ok_c) | (with_reducible apply ok_cons) | (with_reducible apply ok_nil) | (with_reducible apply ok_ofL) | (with_reducible apply ok_call) | (with_reducible apply ok_meth) | (with_reducible apply ok_bV) | (with_reducible apply ok_bNot) | (with_reducible apply ok_bAnd) | (with_reducible apply ok_bOr) | (with_reducible apply ok_eAnd) | (with_reducible apply ok_eOr) | (with_reducible apply ok_eNot) | (with_reducible apply ok_eIf) | (with_reducible apply ok_iVal) | (with_reducible apply ok_range) | (with_reducible apply ok_range2) | (with_reducible apply ok_listRange) | (with_reducible apply ok_enum) | (with_reducible apply ok_bYes) | (with_reducible apply ok_mkL) | (with_reducible apply ok_mkC) | (with_reducible apply ok_ok) | (with_reducible apply ok_addI) | (with_reducible apply ok_gtI) | (with_reducible apply ok_geI) | (with_reducible apply ok_ltI) | (with_reducible apply ok_leI) | (with_reducible apply ok_leS) | (with_reducible apply ok_eqI) | (with_reducible apply ok_neI) | (with_reducible apply ok_eqS) | (with_reducible apply ok_neS) | (with_reducible apply ok_int) | (with_reducible apply ok_lenL) | (with_reducible apply ok_lenT) | (with_reducible apply ok_tupOfL) | (with_reducible apply ok_tupOfT) | (with_reducible apply bl_mk) | (with_reducible apply it_lst) | (with_reducible apply it_tup) | (with_reducible apply it_rls) | (with_reducible apply en_lst) | (with_reducible apply en_tup) | (with_reducible apply rt_seqOf) | (with_reducible apply nx_seqOf) | (with_reducible apply rt_of) | (with_reducible apply nx_of) | (with_reducible apply nx_nx) | (with_reducible apply rt_rt) | (with_reducible apply nx_nil) | (with_reducible apply rt_seqNil) | (with_reducible apply nx_asg) | (with_reducible apply ok_isNN))
          refine ⟨by rw [List.length_map, az_len]; decide, ?_, ?_⟩
          · intro t ht
            obtain ⟨a, _, rfl⟩ := List.mem_map.mp ht
            refine ⟨_, rfl, ?_⟩
            repeat (first | ((with_reducible apply ok_var); exact rfl) | ((with_reducible apply ok_calls); exact rfl) | ((with_reducible apply ok_tupL); exact Nat.le_of_ble_eq_true rfl) | ((with_reducible apply ok_lstL); exact Nat.le_of_ble_eq_true rfl) | ((with_reducible apply ok_lstC); exact Nat.le_of_ble_eq_true rfl) | (with_reducible apply ok_e2) | (with_reducible apply ok_c) | (with_reducible apply ok_cons) | (with_reducible apply ok_nil) | (with_reducible apply ok_ofL) | (with_reducible apply ok_call) | (with_reducible apply ok_meth) | (with_reducible apply ok_bV) | (with_reducible apply ok_bNot) | (with_reducible apply ok_bAnd) | (with_reducible apply ok_bOr) | (with_reducible apply ok_eAnd) | (with_reducible apply ok_eOr) | (with_reducible apply ok_eNot) | (with_reducible apply ok_eIf) | (with_reducible apply ok_iVal) | (with_reducible apply ok_range) | (with_reducible apply ok_range2) | (with_reducible apply ok_listRange) | (with_reducible apply ok_enum) | (with_reducible apply ok_bYes) | (with_reducible apply ok_mkL) | (with_reducible apply ok_mkC) | (with_reducible apply ok_ok) | (with_reducible apply ok_addI) | (with_reducible apply ok_gtI) | (with_reducible apply ok_geI) | (with_reducible apply ok_ltI) | (with_reducible apply ok_leI) | (with_reducible apply ok_leS) | (with_reducible apply ok_eqI) | (with_reducible apply ok_neI) | (with_reducible apply ok_eqS) | (with_reducible apply ok_neS) | (with_reducible apply ok_int) | (with_reducible apply ok_lenL) | (with_reducible apply ok_lenT) | (with_reducible apply ok_tupOfL) | (with_reducible apply ok_tupOfT) | (with_reducible apply bl_mk) | (with_reducible apply it_lst) | (with_reducible apply it_tup) | (with_reducible apply it_rls) | (with_reducible apply en_lst) | (with_reducible apply en_tup) | (with_reducible apply rt_seqOf) | (with_reducible apply nx_seqOf) | (with_reducible apply rt_of) | (with_reducible apply nx_of) | (with_reducible apply nx_nx) | (with_reducible apply rt_rt) | (with_reducible apply nx_nil) | (with_reducible apply rt_seqNil) | (with_reducible apply nx_asg) | (with_reducible apply ok_isNN))
            refine ok_notinS (asSeq_loc hx3) ?_
            repeat (first | ((with_reducible apply ok_var); exact rfl) | ((with_reducible apply ok_calls); exact rfl) | ((with_reducible apply ok_tupL); exact Nat.le_of_ble_eq_true rfl) | ((with_reducible apply ok_lstL); exact Nat.le_of_ble_eq_true rfl) | ((with_reducible apply ok_lstC); exact Nat.le_of_ble_eq_true rfl) | (with_reducible apply ok_e2) | (with_reducible apply ok_c) | (with_reducible apply ok_cons) | (with_reducible apply ok_nil) | (with_reducible apply ok_ofL) | (with_reducible apply ok_call) | (with_reducible apply ok_meth) | (with_reducible apply ok_bV) | (with_reducible apply ok_bNot) | (with_reducible apply ok_bAnd) | (with_reducible apply ok_bOr) | (with_reducible apply ok_eAnd) | (with_reducible apply ok_eOr) | (with_reducible apply ok_eNot) | (with_reducible apply ok_eIf) | (with_reducible apply ok_iVal) | (with_reducible apply ok_range) | (with_reducible apply ok_range2) | (with_reducible apply ok_listRange) | (with_reducible apply ok_enum) | (with_reducible apply ok_bYes) | (with_reducible apply ok_mkL) | (with_reducible apply ok_mkC) | (with_reducible apply ok_ok) | (with_reducible apply ok_addI) | (with_reducible apply ok_gtI) | (with_reducible apply ok_geI) | (with_reducible apply ok_ltI) | (with_reducible apply ok_leI) | (with_reducible apply ok_leS) | (with_reducible apply ok_eqI) | (with_reducible apply ok_neI) | (with_reducible apply ok_eqS) | (with_reducible apply ok_neS) | (with_reducible apply ok_int) | (with_reducible apply ok_lenL) | (with_reducible apply ok_lenT) | (with_reducible apply ok_tupOfL) | (with_reducible apply ok_tupOfT) | (with_reducible apply bl_mk) | (with_reducible apply it_lst) | (with_reducible apply it_tup) | (with_reducible apply it_rls) | (with_reducible apply en_lst) | (with_reducible apply en_tup) | (with_reducible apply rt_seqOf) | (with_reducible apply nx_seqOf) | (with_reducible apply rt_of) | (with_reducible apply nx_of) | (with_reducible apply nx_nx) | (with_reducible apply rt_rt) | (with_reducible apply nx_nil) | (with_reducible apply rt_seqNil) | (with_reducible apply nx_asg) | (with_reducible apply ok_isNN))
            refine ⟨rfl, rfl, fun _ => ?_⟩
            repeat (first | ((with_reducible apply ok_var); exact rfl) | ((with_reducible apply ok_calls); exact rfl) | ((with_reducible apply ok_tupL); exact Nat.le_of_ble_eq_true rfl) | ((with_reducible apply ok_lstL); exact Nat.le_of_ble_eq_true rfl) | ((with_reducible apply ok_lstC); exact Nat.le_of_ble_eq_true rfl) | (with_reducible apply ok_e2) | (with_reducible apply ok_c) | (with_reducible apply ok_cons) | (with_reducible apply ok_nil) | (with_reducible apply ok_ofL) | (with_reducible apply ok_call) | (with_reducible apply ok_meth) | (with_reducible apply ok_bV) | (with_reducible apply ok_bNot) | (with_reducible apply ok_bAnd) | (with_reducible apply ok_bOr) | (with_reducible apply ok_eAnd) | (with_reducible apply ok_eOr) | (with_reducible apply ok_eNot) | (with_reducible apply ok_eIf) | (with_reducible apply ok_iVal) | (with_reducible apply ok_range) | (with_reducible apply ok_range2) | (with_reducible apply ok_listRange) | (with_reducible apply ok_enum) | (with_reducible apply ok_bYes) | (with_reducible apply ok_mkL) | (with_reducible apply ok_mkC) | (with_reducible apply ok_ok) | (with_reducible apply ok_addI) | (with_reducible apply ok_gtI) | (with_reducible apply ok_geI) | (with_reducible apply ok_ltI) | (with_reducible apply ok_leI) | (with_reducible apply ok_leS) | (with_reducible apply ok_eqI) | (with_reducible apply ok_neI) | (with_reducible apply ok_eqS) | (with_reducible apply ok_neS) | (with_reducible apply ok_int) | (with_reducible apply ok_lenL) | (with_reducible apply ok_lenT) | (with_reducible apply ok_tupOfL) | (with_reducible apply ok_tupOfT) | (with_reducible apply bl_mk) | (with_reducible apply it_lst) | (with_reducible apply it_tup) | (with_reducible apply it_rls) | (with_reducible apply en_lst) | (with_reducible apply en_tup) | (with_reducible apply rt_seqOf) | (with_reducible apply nx_seqOf) | (with_reducible apply rt_of) | (with_reducible apply nx_of) | (with_reducible apply nx_nx) | (with_reducible apply rt_rt) | (with_reducible apply nx_nil) | (with_reducible apply rt_seqNil) | (with_reducible apply nx_asg) | (with_reducible apply ok_isNN))
            exact ⟨rfl, rfl⟩
          · repeat (first | ((with_reducible apply ok_var); exact rfl) | ((with_reducible apply ok_calls); exact rfl) | ((with_reducible apply ok_tupL); exact Nat.le_of_ble_eq_true rfl) | ((with_reducible apply ok_lstL); exact Nat.le_of_ble_eq_true rfl) | ((with_reducible apply ok_lstC); exact Nat.le_of_ble_eq_true rfl) | (with_reducible apply ok_e2) | (with_reducible apply ok_c) | (with_reducible apply ok_cons) | (with_reducible apply ok_nil) | (with_reducible apply ok_ofL) | (with_reducible apply ok_call) | (with_reducible apply ok_meth) | (with_reducible apply ok_bV) | (with_reducible apply ok_bNot) | (with_reducible apply ok_bAnd) | (with_reducible apply ok_bOr) | (with_reducible apply ok_eAnd) | (with_reducible apply ok_eOr) | (with_reducible apply ok_eNot) | (with_reducible apply ok_eIf) | (with_reducible apply ok_iVal) | (with_reducible apply ok_range) | (with_reducible apply ok_range2) | (with_reducible apply ok_listRange) | (with_reducible apply ok_enum) | (with_reducible apply ok_bYes) | (with_reducible apply ok_mkL) | (with_reducible apply ok_mkC) | (with_reducible apply ok_ok) | (with_reducible apply ok_addI) | (with_reducible apply ok_gtI) | (with_reducible apply ok_geI) | (with_reducible apply ok_ltI) | (with_reducible apply ok_leI) | (with_reducible apply ok_leS) | (with_reducible apply ok_eqI) | (with_reducible apply ok_neI) | (with_reducible apply ok_eqS) | (with_reducible apply ok_neS) | (with_reducible apply ok_int) | (with_reducible apply ok_lenL) | (with_reducible apply ok_lenT) | (with_reducible apply ok_tupOfL) | (with_reducible apply ok_tupOfT) | (with_reducible apply bl_mk) | (with_reducible apply it_lst) | (with_reducible apply it_tup) | (with_reducible apply it_rls) | (with_reducible apply en_lst) | (with_reducible apply en_tup) | (with_reducible apply rt_seqOf) | (with_reducible apply nx_seqOf) | (with_reducible apply rt_of) | (with_reducible apply nx_of) | (with_reducible apply nx_nx) | (with_reducible apply rt_rt) | (with_reducible apply nx_nil) | (with_reducible apply rt_seqNil) | (with_reducible apply nx_asg) | (with_reducible apply ok_isNN))
            have hmap : az.cps.toList.map ((fun t => T.str (("z" : Str) ++ strOf t)) ∘ fun c => T.str ⟨#[c]⟩) = (az.cps.toList.map fun c => ("z" : Str) ++ ⟨#[c]⟩).map T.str := by
              rw [List.map_map]; rfl
            rw [hmap]
            generalize hL : (az.cps.toList.map fun c => ("z" : Str) ++ ⟨#[c]⟩) = L
            have hn : L.Nodup := by rw [← hL]; exact zs_nodup
            have hg : ∀ x ∈ L, Good x := by rw [← hL]; exact zs_good
            have hlen : L.length = 26 := by rw [← hL, List.length_map, az_len]
            obtain ⟨z, hz, hzx⟩ : ∃ z ∈ L, z ∉ xs := by
              refine Decidable.byContradiction fun hne => ?_
              have := pigeon hn (fun a ha => Decidable.byContradiction fun q => hne ⟨a, ha, q⟩)
              omega
            have hmem : T.str z ∈ (L.map T.str).filter fun t => !decide (strOf t ∈ xs) := by
              rw [List.mem_filter]
              exact ⟨List.mem_map_of_mem hz, by show (!decide (z ∈ xs)) = true; simp [hzx]⟩
            have hall : ∀ t ∈ (L.map T.str).filter fun t => !decide (strOf t ∈ xs), ∃ y, t = .str y ∧ Good y ∧ y ∉ xs := by
              intro t ht
              rw [List.mem_filter] at ht
              obtain ⟨y, hy, rfl⟩ := List.mem_map.mp ht.1
              exact ⟨y, rfl, hg y hy, by have h2 : (!decide (y ∈ xs)) = true := ht.2; simpa using h2⟩
            rw [List.map_id' ]
            generalize (L.map T.str).filter (fun t => !decide (strOf t ∈ xs)) = F at hmem hall ⊢
            cases F with
            | nil => cases hmem
            | cons t F =>
              obtain ⟨y, rfl, gy, hy⟩ := hall t (by simp)
              refine ok_ixL at0 ?_
              repeat (first | ((with_reducible apply ok_var); exact rfl) | ((with_reducible apply ok_calls); exact rfl) | ((with_reducible apply ok_tupL); exact Nat.le_of_ble_eq_true rfl) | ((with_reducible apply ok_lstL); exact Nat.le_of_ble_eq_true rfl) | ((with_reducible apply ok_lstC); exact Nat.le_of_ble_eq_true rfl) | (with_reducible apply ok_e2) | (with_reducible apply ok_c) | (with_reducible apply ok_cons) | (with_reducible apply ok_nil) | (with_reducible apply ok_ofL) | (with_reducible apply ok_call) | (with_reducible apply ok_meth) | (with_reducible apply ok_bV) | (with_reducible apply ok_bNot) | (with_reducible apply ok_bAnd) | (with_reducible apply ok_bOr) | (with_reducible apply ok_eAnd) | (with_reducible apply ok_eOr) | (with_reducible apply ok_eNot) | (with_reducible apply ok_eIf) | (with_reducible apply ok_iVal) | (with_reducible apply ok_range) | (with_reducible apply ok_range2) | (with_reducible apply ok_listRange) | (with_reducible apply ok_enum) | (with_reducible apply ok_bYes) | (with_reducible apply ok_mkL) | (with_reducible apply ok_mkC) | (with_reducible apply ok_ok) | (with_reducible apply ok_addI) | (with_reducible apply ok_gtI) | (with_reducible apply ok_geI) | (with_reducible apply ok_ltI) | (with_reducible apply ok_leI) | (with_reducible apply ok_leS) | (with_reducible apply ok_eqI) | (with_reducible apply ok_neI) | (with_reducible apply ok_eqS) | (with_reducible apply ok_neS) | (with_reducible apply ok_int) | (with_reducible apply ok_lenL) | (with_reducible apply ok_lenT) | (with_reducible apply ok_tupOfL) | (with_reducible apply ok_tupOfT) | (with_reducible apply bl_mk) | (with_reducible apply it_lst) | (with_reducible apply it_tup) | (with_reducible apply it_rls) | (with_reducible apply en_lst) | (with_reducible apply en_tup) | (with_reducible apply rt_seqOf) | (with_reducible apply nx_seqOf) | (with_reducible apply rt_of) | (with_reducible apply nx_of) | (with_reducible apply nx_nx) | (with_reducible apply rt_rt) | (with_reducible apply nx_nil) | (with_reducible apply rt_seqNil) | (with_reducible apply nx_asg) | (with_reducible apply ok_isNN))
              exact k y m3 gy hy hs3 hf3
theorem nodup_snoc {α : Type} {xs : List α} {x : α} (h : xs.Nodup) (hx : x ∉ xs) : (xs ++ [x]).Nodup := by
  refine List.nodup_append.mpr ⟨h, by simp, fun a ha b hb => ?_⟩
  rw [List.mem_singleton.mp hb]
  exact fun e => hx (e ▸ ha)
theorem Src.frSet {m m' : Mem} {s c j : Nat} {o : Option MO} (h : Src m s c) (n : j ≠ s) : Src (m.set j o) s c := h.set n o
theorem names_ok {m : Mem} {s c n : Nat} {P : T → Mem → Prop} (h : Src m s c) (hc : c + 10 * n < 900000) (hn : n ≤ 20)
    (k : ∀ (xs : List Str) (m' : Mem), xs.length = n → xs.Nodup → (∀ x ∈ xs, Good x) → Src m' s (c + 10 * n) → Fr s m m' → P (.lst (xs.map T.str)) m') : Ok (F__law_names [.loc s, .int n] m) P := by
  have hlt := h.lt
  unfold F__law_names B__law_names
  refine ok_fn ?_
  try simp only [List.map_cons, List.map_nil, List.cons_append, List.nil_append, List.length_cons, List.length_nil, Nat.reduceAdd, Nat.reduceSub, List.replicate_succ, List.replicate_zero, List.set_cons_succ, List.set_cons_zero]
  repeat (first | ((with_reducible apply ok_var); exact rfl) | ((with_reducible apply ok_calls); exact rfl) | ((with_reducible apply ok_tupL); exact Nat.le_of_ble_eq_true rfl) | ((with_reducible apply ok_lstL); exact Nat.le_of_ble_eq_true rfl) | ((with_reducible apply ok_lstC); exact Nat.le_of_ble_eq_true rfl) | (with_reducible apply ok_e2) | (with_reducible apply ok_c) | (with_reducible apply ok_cons) | (with_reducible apply ok_nil) | (with_reducible apply ok_ofL) | (with_reducible apply ok_call) | (with_reducible apply ok_meth) | (with_reducible apply ok_bV) | (with_reducible apply ok_bNot) | (with_reducible apply ok_bAnd) | (with_reducible apply ok_bOr) | (with_reducible apply ok_eAnd) | (with_reducible apply ok_eOr) | (with_reducible apply ok_eNot) | (with_reducible apply ok_eIf) | (with_reducible apply ok_iVal) | (with_reducible apply ok_range) | (with_reducible apply ok_range2) | (with_reducible apply ok_listRange) | (with_reducible apply ok_enum) | (with_reducible apply ok_bYes) | (with_reducible apply ok_mkL) | (with_reducible apply ok_mkC) | (with_reducible apply ok_ok) | (with_reducible apply ok_addI) | (with_reducible apply ok_gtI) | (with_reducible apply ok_geI) | (with_reducible apply ok_ltI) | (with_reducible apply ok_leI) | (with_reducible apply ok_leS) | (with_reducible apply ok_eqI) | (with_reducible apply ok_neI) | (with_reducible apply ok_eqS) | (with_reducible apply ok_neS) | (with_reducible apply ok_int) | (with_reducible apply ok_lenL) | (with_reducible apply ok_lenT) | (with_reducible apply ok_tupOfL) | (with_reducible apply ok_tupOfT) | (with_reducible apply bl_mk) | (with_reducible apply it_lst) | (with_reducible apply it_tup) | (with_reducible apply it_rls) | (with_reducible apply en_lst) | (with_reducible apply en_tup) | (with_reducible apply rt_seqOf) | (with_reducible apply nx_seqOf) | (with_reducible apply rt_of) | (with_reducible apply nx_of) | (with_reducible apply nx_nx) | (with_reducible apply rt_rt) | (with_reducible apply nx_nil) | (with_reducible apply rt_seqNil) | (with_reducible apply nx_asg) | (with_reducible apply ok_isNN))
  try simp only [List.map_cons, List.map_nil, List.cons_append, List.nil_append, List.length_cons, List.length_nil, Nat.reduceAdd, Nat.reduceSub, List.replicate_succ, List.replicate_zero, List.set_cons_succ, List.set_cons_zero]
  refine rt_seq (nx_for (fun p env m2 => ∃ (xs : List Str) (w : Option T), env = [some (.loc s), some (.int n), some (.loc m.length), w] ∧ m2[m.length]? = some (some (.lst (xs.map T.str))) ∧ xs.length = p.length ∧ xs.Nodup ∧ (∀ x ∈ xs, Good x) ∧ Src m2 s (c + 10 * p.length) ∧ Fr s m m2) ?_)
  repeat (first | ((with_reducible apply ok_var); exact rfl) | ((with_reducible apply ok_calls); exact rfl) | ((with_reducible apply ok_tupL); exact Nat.le_of_ble_eq_true rfl) | ((with_reducible apply ok_lstL); exact Nat.le_of_ble_eq_true rfl) | ((with_reducible apply ok_lstC); exact Nat.le_of_ble_eq_true rfl) | (with_reducible apply ok_e2) | (with_reducible apply ok_c) | (with_reducible apply ok_cons) | (with_reducible apply ok_nil) | (with_reducible apply ok_ofL) | (with_reducible apply ok_call) | (with_reducible apply ok_meth) | (with_reducible apply ok_bV) | (with_reducible apply ok_bNot) | (with_reducible apply ok_bAnd) | (with_reducible apply ok_bOr) | (with_reducible apply ok_eAnd) | (with_reducible apply ok_eOr) | (with_reducible apply ok_eNot) | (with_reducible apply ok_eIf) | (with_reducible apply ok_iVal) | (with_reducible apply ok_range) | (with_reducible apply ok_range2) | (with_reducible apply ok_listRange) | (with_reducible apply ok_enum) | (with_reducible apply ok_bYes) | (with_reducible apply ok_mkL) | (with_reducible apply ok_mkC) | (with_reducible apply ok_ok) | (with_reducible apply ok_addI) | (with_reducible apply ok_gtI) | (with_reducible apply ok_geI) | (with_reducible apply ok_ltI) | (with_reducible apply ok_leI) | (with_reducible apply ok_leS) | (with_reducible apply ok_eqI) | (with_reducible apply ok_neI) | (with_reducible apply ok_eqS) | (with_reducible apply ok_neS) | (with_reducible apply ok_int) | (with_reducible apply ok_lenL) | (with_reducible apply ok_lenT) | (with_reducible apply ok_tupOfL) | (with_reducible apply ok_tupOfT) | (with_reducible apply bl_mk) | (with_reducible apply it_lst) | (with_reducible apply it_tup) | (with_reducible apply it_rls) | (with_reducible apply en_lst) | (with_reducible apply en_tup) | (with_reducible apply rt_seqOf) | (with_reducible apply nx_seqOf) | (with_reducible apply rt_of) | (with_reducible apply nx_of) | (with_reducible apply nx_nx) | (with_reducible apply rt_rt) | (with_reducible apply nx_nil) | (with_reducible apply rt_seqNil) | (with_reducible apply nx_asg) | (with_reducible apply ok_isNN))
  refine rg_mk (by omega) (by omega) ⟨⟨[], none, rfl, by simp, rfl, by simp, by simp, h.app _, Fr.app _⟩, ?_, ?_⟩
  · rintro p t q env m2 hp ⟨xs, w, rfl, hm, hl, hnd, hg, hs, hf⟩
    have hpl := congrArg List.length hp
    rw [rng_len] at hpl
    simp at hpl
    refine ⟨_, rfl, ?_⟩
    try simp only [List.map_cons, List.map_nil, List.cons_append, List.nil_append, List.length_cons, List.length_nil, Nat.reduceAdd, Nat.reduceSub, List.replicate_succ, List.replicate_zero, List.set_cons_succ, List.set_cons_zero]
    repeat (first | ((with_reducible apply ok_var); exact rfl) | ((with_reducible apply ok_calls); exact rfl) | ((with_reducible apply ok_tupL); exact Nat.le_of_ble_eq_true rfl) | ((with_reducible apply ok_lstL); exact Nat.le_of_ble_eq_true rfl) | ((with_reducible apply ok_lstC); exact Nat.le_of_ble_eq_true rfl) | (with_reducible apply ok_e2) | (with_reducible apply ok_c) | (with_reducible apply ok_cons) | (with_reducible apply ok_nil) | (with_reducible apply ok_ofL) | (with_reducible apply ok_call) | (with_reducible apply ok_meth) | (with_reducible apply ok_bV) | (with_reducible apply ok_bNot) | (with_reducible apply ok_bAnd) | (with_reducible apply ok_bOr) | (with_reducible apply ok_eAnd) | (with_reducible apply ok_eOr) | (with_reducible apply ok_eNot) | (with_reducible apply ok_eIf) | (with_reducible apply ok_iVal) | (with_reducible apply ok_range) | (with_reducible apply ok_range2) | (with_reducible apply ok_listRange) | (with_reducible apply ok_enum) | (with_reducible apply ok_bYes) | (with_reducible apply ok_mkL) | (with_reducible apply ok_mkC) | (with_reducible apply ok_ok) | (with_reducible apply ok_addI) | (with_reducible apply ok_gtI) | (with_reducible apply ok_geI) | (with_reducible apply ok_ltI) | (with_reducible apply ok_leI) | (with_reducible apply ok_leS) | (with_reducible apply ok_eqI) | (with_reducible apply ok_neI) | (with_reducible apply ok_eqS) | (with_reducible apply ok_neS) | (with_reducible apply ok_int) | (with_reducible apply ok_lenL) | (with_reducible apply ok_lenT) | (with_reducible apply ok_tupOfL) | (with_reducible apply ok_tupOfT) | (with_reducible apply bl_mk) | (with_reducible apply it_lst) | (with_reducible apply it_tup) | (with_reducible apply it_rls) | (with_reducible apply en_lst) | (with_reducible apply en_tup) | (with_reducible apply rt_seqOf) | (with_reducible apply nx_seqOf) | (with_reducible apply rt_of) | (with_reducible apply nx_of) | (with_reducible apply nx_nx) | (with_reducible apply rt_rt) | (with_reducible apply nx_nil) | (with_reducible apply rt_seqNil) | (with_reducible apply nx_asg) | (with_reducible apply ok_isNN))
    refine ⟨isl hm, ?_⟩
    repeat (first | ((with_reducible apply ok_var); exact rfl) | ((with_reducible apply ok_calls); exact rfl) | ((with_reducible apply ok_tupL); exact Nat.le_of_ble_eq_true rfl) | ((with_reducible apply ok_lstL); exact Nat.le_of_ble_eq_true rfl) | ((with_reducible apply ok_lstC); exact Nat.le_of_ble_eq_true rfl) | (with_reducible apply ok_e2) | (with_reducible apply ok_c) | (with_reducible apply ok_cons) | (with_reducible apply ok_nil) | (with_reducible apply ok_ofL) | (with_reducible apply ok_call) | (with_reducible apply ok_meth) | (with_reducible apply ok_bV) | (with_reducible apply ok_bNot) | (with_reducible apply ok_bAnd) | (with_reducible apply ok_bOr) | (with_reducible apply ok_eAnd) | (with_reducible apply ok_eOr) | (with_reducible apply ok_eNot) | (with_reducible apply ok_eIf) | (with_reducible apply ok_iVal) | (with_reducible apply ok_range) | (with_reducible apply ok_range2) | (with_reducible apply ok_listRange) | (with_reducible apply ok_enum) | (with_reducible apply ok_bYes) | (with_reducible apply ok_mkL) | (with_reducible apply ok_mkC) | (with_reducible apply ok_ok) | (with_reducible apply ok_addI) | (with_reducible apply ok_gtI) | (with_reducible apply ok_geI) | (with_reducible apply ok_ltI) | (with_reducible apply ok_leI) | (with_reducible apply ok_leS) | (with_reducible apply ok_eqI) | (with_reducible apply ok_neI) | (with_reducible apply ok_eqS) | (with_reducible apply ok_neS) | (with_reducible apply ok_int) | (with_reducible apply ok_lenL) | (with_reducible apply ok_lenT) | (with_reducible apply ok_tupOfL) | (with_reducible apply ok_tupOfT) | (with_reducible apply bl_mk) | (with_reducible apply it_lst) | (with_reducible apply it_tup) | (with_reducible apply it_rls) | (with_reducible apply en_lst) | (with_reducible apply en_tup) | (with_reducible apply rt_seqOf) | (with_reducible apply nx_seqOf) | (with_reducible apply rt_of) | (with_reducible apply nx_of) | (with_reducible apply nx_nx) | (with_reducible apply rt_rt) | (with_reducible apply nx_nil) | (with_reducible apply rt_seqNil) | (with_reducible apply nx_asg) | (with_reducible apply ok_isNN))
    refine name_ok hs (by omega) (by omega) hm (by omega) fun x m3 gx hx hs3 hf3 => ?_
    have hm3 := hf3.cell hm (by omega)
    have hl3 : m.length < m3.length := (List.getElem?_eq_some_iff.mp hm3).1
    repeat (first | ((with_reducible apply ok_var); exact rfl) | ((with_reducible apply ok_calls); exact rfl) | ((with_reducible apply ok_tupL); exact Nat.le_of_ble_eq_true rfl) | ((with_reducible apply ok_lstL); exact Nat.le_of_ble_eq_true rfl) | ((with_reducible apply ok_lstC); exact Nat.le_of_ble_eq_true rfl) | (with_reducible apply ok_e2) | (with_reducible apply ok_c) | (with_reducible apply ok_cons) | (with_reducible apply ok_nil) | (with_reducible apply ok_ofL) | (with_reducible apply ok_call) | (with_reducible apply ok_meth) | (with_reducible apply ok_bV) | (with_reducible apply ok_bNot) | (with_reducible apply ok_bAnd) | (with_reducible apply ok_bOr) | (with_reducible apply ok_eAnd) | (with_reducible apply ok_eOr) | (with_reducible apply ok_eNot) | (with_reducible apply ok_eIf) | (with_reducible apply ok_iVal) | (with_reducible apply ok_range) | (with_reducible apply ok_range2) | (with_reducible apply ok_listRange) | (with_reducible apply ok_enum) | (with_reducible apply ok_bYes) | (with_reducible apply ok_mkL) | (with_reducible apply ok_mkC) | (with_reducible apply ok_ok) | (with_reducible apply ok_addI) | (with_reducible apply ok_gtI) | (with_reducible apply ok_geI) | (with_reducible apply ok_ltI) | (with_reducible apply ok_leI) | (with_reducible apply ok_leS) | (with_reducible apply ok_eqI) | (with_reducible apply ok_neI) | (with_reducible apply ok_eqS) | (with_reducible apply ok_neS) | (with_reducible apply ok_int) | (with_reducible apply ok_lenL) | (with_reducible apply ok_lenT) | (with_reducible apply ok_tupOfL) | (with_reducible apply ok_tupOfT) | (with_reducible apply bl_mk) | (with_reducible apply it_lst) | (with_reducible apply it_tup) | (with_reducible apply it_rls) | (with_reducible apply en_lst) | (with_reducible apply en_tup) | (with_reducible apply rt_seqOf) | (with_reducible apply nx_seqOf) | (with_reducible apply rt_of) | (with_reducible apply nx_of) | (with_reducible apply nx_nx) | (with_reducible apply rt_rt) | (with_reducible apply nx_nil) | (with_reducible apply rt_seqNil) | (with_reducible apply nx_asg) | (with_reducible apply ok_isNN))
    refine ok_app hm3 (by rw [List.length_map]; unfold lim; omega) ?_
    repeat (first | ((with_reducible apply ok_var); exact rfl) | ((with_reducible apply ok_calls); exact rfl) | ((with_reducible apply ok_tupL); exact Nat.le_of_ble_eq_true rfl) | ((with_reducible apply ok_lstL); exact Nat.le_of_ble_eq_true rfl) | ((with_reducible apply ok_lstC); exact Nat.le_of_ble_eq_true rfl) | (with_reducible apply ok_e2) | (with_reducible apply ok_c) | (with_reducible apply ok_cons) | (with_reducible apply ok_nil) | (with_reducible apply ok_ofL) | (with_reducible apply ok_call) | (with_reducible apply ok_meth) | (with_reducible apply ok_bV) | (with_reducible apply ok_bNot) | (with_reducible apply ok_bAnd) | (with_reducible apply ok_bOr) | (with_reducible apply ok_eAnd) | (with_reducible apply ok_eOr) | (with_reducible apply ok_eNot) | (with_reducible apply ok_eIf) | (with_reducible apply ok_iVal) | (with_reducible apply ok_range) | (with_reducible apply ok_range2) | (with_reducible apply ok_listRange) | (with_reducible apply ok_enum) | (with_reducible apply ok_bYes) | (with_reducible apply ok_mkL) | (with_reducible apply ok_mkC) | (with_reducible apply ok_ok) | (with_reducible apply ok_addI) | (with_reducible apply ok_gtI) | (with_reducible apply ok_geI) | (with_reducible apply ok_ltI) | (with_reducible apply ok_leI) | (with_reducible apply ok_leS) | (with_reducible apply ok_eqI) | (with_reducible apply ok_neI) | (with_reducible apply ok_eqS) | (with_reducible apply ok_neS) | (with_reducible apply ok_int) | (with_reducible apply ok_lenL) | (with_reducible apply ok_lenT) | (with_reducible apply ok_tupOfL) | (with_reducible apply ok_tupOfT) | (with_reducible apply bl_mk) | (with_reducible apply it_lst) | (with_reducible apply it_tup) | (with_reducible apply it_rls) | (with_reducible apply en_lst) | (with_reducible apply en_tup) | (with_reducible apply rt_seqOf) | (with_reducible apply nx_seqOf) | (with_reducible apply rt_of) | (with_reducible apply nx_of) | (with_reducible apply nx_nx) | (with_reducible apply rt_rt) | (with_reducible apply nx_nil) | (with_reducible apply rt_seqNil) | (with_reducible apply nx_asg) | (with_reducible apply ok_isNN))
    refine ⟨xs ++ [x], _, rfl, by rw [List.getElem?_set_self hl3]; simp, by simp [hl], nodup_snoc hnd hx, ?_, ?_, (hf.trans hf3).setNew (Nat.le_refl _) _⟩
    · intro y hy
      rcases List.mem_append.mp hy with q | q
      · exact hg y q
      · rw [List.mem_singleton.mp q]; exact gx
    · refine Src.mono (hs3.set (by omega) _) ?_
      simp; omega
  · rintro env m2 ⟨xs, w, rfl, hm, hl, hnd, hg, hs, hf⟩
    rw [rng_len] at hl hs
    refine rt_frz (frz_of rfl hm) ?_
    try simp only [List.map_cons, List.map_nil, List.cons_append, List.nil_append, List.length_cons, List.length_nil, Nat.reduceAdd, Nat.reduceSub, List.replicate_succ, List.replicate_zero, List.set_cons_succ, List.set_cons_zero]
    repeat (first | ((with_reducible apply ok_var); exact rfl) | ((with_reducible apply ok_calls); exact rfl) | ((with_reducible apply ok_tupL); exact Nat.le_of_ble_eq_true rfl) | ((with_reducible apply ok_lstL); exact Nat.le_of_ble_eq_true rfl) | ((with_reducible apply ok_lstC); exact Nat.le_of_ble_eq_true rfl) | (with_reducible apply ok_e2) | (with_reducible apply ok_c) | (with_reducible apply ok_cons) | (with_reducible apply ok_nil) | (with_reducible apply ok_ofL) | (with_reducible apply ok_call) | (with_reducible apply ok_meth) | (with_reducible apply ok_bV) | (with_reducible apply ok_bNot) | (with_reducible apply ok_bAnd) | (with_reducible apply ok_bOr) | (with_reducible apply ok_eAnd) | (with_reducible apply ok_eOr) | (with_reducible apply ok_eNot) | (with_reducible apply ok_eIf) | (with_reducible apply ok_iVal) | (with_reducible apply ok_range) | (with_reducible apply ok_range2) | (with_reducible apply ok_listRange) | (with_reducible apply ok_enum) | (with_reducible apply ok_bYes) | (with_reducible apply ok_mkL) | (with_reducible apply ok_mkC) | (with_reducible apply ok_ok) | (with_reducible apply ok_addI) | (with_reducible apply ok_gtI) | (with_reducible apply ok_geI) | (with_reducible apply ok_ltI) | (with_reducible apply ok_leI) | (with_reducible apply ok_leS) | (with_reducible apply ok_eqI) | (with_reducible apply ok_neI) | (with_reducible apply ok_eqS) | (with_reducible apply ok_neS) | (with_reducible apply ok_int) | (with_reducible apply ok_lenL) | (with_reducible apply ok_lenT) | (with_reducible apply ok_tupOfL) | (with_reducible apply ok_tupOfT) | (with_reducible apply bl_mk) | (with_reducible apply it_lst) | (with_reducible apply it_tup) | (with_reducible apply it_rls) | (with_reducible apply en_lst) | (with_reducible apply en_tup) | (with_reducible apply rt_seqOf) | (with_reducible apply nx_seqOf) | (with_reducible apply rt_of) | (with_reducible apply nx_of) | (with_reducible apply nx_nx) | (with_reducible apply rt_rt) | (with_reducible apply nx_nil) | (with_reducible apply rt_seqNil) | (with_reducible apply nx_asg) | (with_reducible apply ok_isNN))
    exact k xs _ hl hnd hg (hs.set (by omega) _) (hf.setNew (Nat.le_refl _) _)
end M

namespace M
open PySem hiding Env
open L2 Ev G
theorem Good.strOk {x : Str} (g : Good x) : PySem.PyData.strOk x = true := by
  unfold PySem.PyData.strOk
  rw [← Array.all_toList, List.all_eq_true]
  intro c hc
  have := g.az c hc
  simp only [decide_eq_true_eq]; omega
theorem toDs_str {m : Mem} (xs : List Str) : toDs m (xs.map T.str) = some (xs.map PyData.str) := by
  induction xs with
  | nil => rfl
  | cons x xs ih => rw [List.map_cons, toDs, ih]; rfl
theorem lay_strs : ∀ {xs : List Str}, (∀ x ∈ xs, Good x) → PyData.canLayAll0 (xs.map PyData.str) = true
  | [], _ => rfl
  | x :: xs, h => by
    rw [List.map_cons, PyData.canLayAll0, lay_strs (fun y hy => h y (by simp [hy])), Bool.and_true, PyData.canLay0]
    exact (h x (by simp)).strOk
theorem depth_strs (xs : List Str) : PyData.depthAll (xs.map PyData.str) = 0 := by
  induction xs with
  | nil => rfl
  | cons x xs ih => rw [List.map_cons, PyData.depthAll, ih]; rfl
theorem eqv_nil (ds : List PyData) : PyData.eqv (.list ds) (.list []) = ds.isEmpty := by
  cases ds <;> simp [PyData.eqv, PyData.eqvAll]
theorem ok_eqNil {m : Mem} {P : T → Mem → Prop} {xs : List Str} (hg : ∀ x ∈ xs, Good x) (h : P (.bl xs.isEmpty) m) : Ok (gEq (.lst (xs.map T.str)) (.lst []) m) P := by
  refine ⟨_, _, ?_, h⟩
  unfold gEq gEqB
  have e1 : toDT m (.lst (xs.map T.str)) = some (.list (xs.map PyData.str)) := by
    unfold toDT
    simp only [toD, toDs_str, Option.map_some]
  have e2 : toDT m (.lst []) = some (.list []) := rfl
  have s1 : SeqAt.shaped (.list (xs.map PyData.str)) = true := by
    unfold SeqAt.shaped
    rw [PyData.canLay0, lay_strs hg, PyData.depth, depth_strs]; rfl
  have s2 : SeqAt.shaped (.list []) = true := by
    unfold SeqAt.shaped
    rw [PyData.canLay0, PyData.canLayAll0, PyData.depth, PyData.depthAll]; rfl
  simp only [e1, e2, s1, s2, eqv_nil]
  cases xs <;> rfl
/-- what may stand as a clause, with at most k conditions -/
def ClauseT (k : Nat) (ts : List T) (t : T) : Prop := ∃ st cs, t = .tup [st, .tup cs] ∧ st ∈ ts ∧ cs.length ≤ k ∧ ∀ c ∈ cs, CondT ts c
theorem sub_strs {xs : List Str} {us : List T} (h : us.Sublist (xs.map T.str)) : ∃ ys : List Str, us = ys.map T.str ∧ ys.Sublist xs := by
  obtain ⟨ys, h1, h2⟩ := List.sublist_map_iff.mp h
  exact ⟨ys, h2, h1⟩
theorem nodup_strs {xs : List Str} (h : xs.Nodup) : (xs.map T.str).Nodup := by
  refine List.Pairwise.map T.str (fun a b hn e => hn ?_) h
  injection e
/-- the conditions of a table -/
theorem conds_ok {env : Env} {m : Mem} {s c : Nat} {sl : List Nat} {j i0 i1 : Nat} {ts : List T} {fi : LF} {P : T → Mem → Prop} (e0 : (wipeE env sl)[i0]? = some (some (.loc s))) (e1 : (wipeE env sl)[i1]? = some (some (.lst ts))) (h0 : i0 ≠ j) (h1 : i1 ≠ j)
    (hl : 0 < ts.length) (hl2 : ts.length < 50) (hn : ts.Nodup)
    (h : Ok (fi env m) fun zs m1 => ∃ n : Nat, zs = rng 0 n ∧ n ≤ 10 ∧ c + 1000 < 900000 ∧ Src m1 s c ∧ ∀ cs m2, cs.length = n → (∀ t ∈ cs, CondT ts t) → Src m2 s (c + 600) → Fr s m1 m2 → P (.lst cs) m2) :
    Ok (eComp false sl fi (gN j) bYes (eCall 2 F__law_condition (lCons (eVar i0) (lCons (eVar i1) lNil))) env m) P := by
  obtain ⟨zs, m1, e, n, rfl, hn2, hc, hs, k⟩ := h
  refine ok_comp (fun p zs m2 => zs.length = p.length ∧ (∀ t ∈ zs, CondT ts t) ∧ Src m2 s (c + 56 * p.length) ∧ Fr s m1 m2) ⟨_, _, e, by rw [rng_len]; unfold lim; omega, ⟨rfl, by simp, hs, Fr.refl⟩, ?_, ?_⟩
  · rintro p t q zs m2 hp ⟨hz, hcs, hs, hf⟩
    have hpl := congrArg List.length hp
    rw [rng_len] at hpl
    simp at hpl
    refine ⟨_, rfl, ?_⟩
    repeat (first | ((with_reducible apply ok_var); exact rfl) | ((with_reducible apply ok_calls); exact rfl) | ((with_reducible apply ok_tupL); exact Nat.le_of_ble_eq_true rfl) | ((with_reducible apply ok_lstL); exact Nat.le_of_ble_eq_true rfl) | ((with_reducible apply ok_lstC); exact Nat.le_of_ble_eq_true rfl) | (with_reducible apply ok_e2) | (with_reducible apply ok_c) | (with_reducible apply ok_cons) | (with_reducible apply ok_nil) | (with_reducible apply ok_ofL) | (with_reducible apply ok_call) | (with_reducible apply ok_meth) | (with_reducible apply ok_bV) | (with_reducible apply ok_bNot) | (with_reducible apply ok_bAnd) | (with_reducible apply ok_bOr) | (with_reducible apply ok_eAnd) | (with_reducible apply ok_eOr) | (with_reducible apply ok_eNot) | (with_reducible apply ok_eIf) | (with_reducible apply ok_iVal) | (with_reducible apply ok_range) | (with_reducible apply ok_range2) | (with_reducible apply ok_listRange) | (with_reducible apply ok_enum) | (with_reducible apply ok_bYes) | (with_reducible apply ok_mkL) | (with_reducible apply ok_mkC) | (with_reducible apply ok_ok) | (with_reducible apply ok_addI) | (with_reducible apply ok_gtI) | (with_reducible apply ok_geI) | (with_reducible apply ok_ltI) | (with_reducible apply ok_leI) | (with_reducible apply ok_leS) | (with_reducible apply ok_eqI) | (with_reducible apply ok_neI) | (with_reducible apply ok_eqS) | (with_reducible apply ok_neS) | (with_reducible apply ok_int) | (with_reducible apply ok_lenL) | (with_reducible apply ok_lenT) | (with_reducible apply ok_tupOfL) | (with_reducible apply ok_tupOfT) | (with_reducible apply bl_mk) | (with_reducible apply it_lst) | (with_reducible apply it_tup) | (with_reducible apply it_rls) | (with_reducible apply en_lst) | (with_reducible apply en_tup) | (with_reducible apply rt_seqOf) | (with_reducible apply nx_seqOf) | (with_reducible apply rt_of) | (with_reducible apply nx_of) | (with_reducible apply nx_nx) | (with_reducible apply rt_rt) | (with_reducible apply nx_nil) | (with_reducible apply rt_seqNil) | (with_reducible apply nx_asg) | (with_reducible apply ok_isNN))
    rw [if_pos rfl]
    refine ok_call (ok_cons (ok_var (t := .loc s) ?_ (ok_cons (ok_var (t := .lst ts) ?_ (ok_nil (ok_calls rfl ?_))))))
    · rw [List.getElem?_set_ne (by omega)]; exact e0
    · rw [List.getElem?_set_ne (by omega)]; exact e1
    · refine condition_ok hs (by omega) hl (by omega) hn fun t m3 ht hs3 hf3 => ⟨by simp [hz], ?_, ?_, hf.trans hf3⟩
      · intro u hu
        rcases List.mem_append.mp hu with q | q
        · exact hcs u q
        · rw [List.mem_singleton.mp q]; exact ht
      · refine hs3.mono ?_
        simp; omega
  · rintro zs m2 ⟨hz, hcs, hs, hf⟩
    rw [rng_len] at hz hs
    exact ok_mkL (k zs m2 hz hcs (hs.mono (by omega)) hf)
structure RulesT (xs ks : List Str) (hand parts : List Str) (cls : List T) (last : T) : Prop where
  hs : ∀ x ∈ hand, x ∈ xs
  hn : hand.Nodup
  ps : parts.Sublist ks
  some : hand = [] → parts ≠ []
  few : cls.length ≤ 3
  cl : ∀ t ∈ cls, ClauseT 2 (xs.map T.str) t
  last : last ∈ xs.map T.str
theorem rules_ok {m : Mem} {s c : Nat} {xs ks : List Str} {P : T → Mem → Prop} (h : Src m s c) (hc : c + 5000 < 900000) (h0 : 0 < xs.length) (h1 : xs.length < 50) (h2 : ks.length < 50) (hn : xs.Nodup) (hg : ∀ x ∈ xs, Good x) (hk : ∀ x ∈ ks, Good x)
    (k : ∀ hand parts cls last m', RulesT xs ks hand parts cls last → Src m' s (c + 4000) → Fr s m m' → P (.tup [.lst (hand.map T.str), .lst (parts.map T.str), .lst cls, last]) m') :
    Ok (F__law_rules [.loc s, .lst (xs.map T.str), .lst (ks.map T.str)] m) P := by
  have hxl : (xs.map T.str).length = xs.length := List.length_map _
  have hkl : (ks.map T.str).length = ks.length := List.length_map _
  have hnd := nodup_strs hn
  unfold F__law_rules B__law_rules
  refine ok_fn ?_
  try simp only [List.map_cons, List.map_nil, List.cons_append, List.nil_append, List.length_cons, List.length_nil, Nat.reduceAdd, Nat.reduceSub, List.replicate_succ, List.replicate_zero, List.set_cons_succ, List.set_cons_zero]
  refine rt_seq (nx_par ?_)
  repeat (first | ((with_reducible apply ok_var); exact rfl) | ((with_reducible apply ok_calls); exact rfl) | ((with_reducible apply ok_tupL); exact Nat.le_of_ble_eq_true rfl) | ((with_reducible apply ok_lstL); exact Nat.le_of_ble_eq_true rfl) | ((with_reducible apply ok_lstC); exact Nat.le_of_ble_eq_true rfl) | (with_reducible apply ok_e2) | (with_reducible apply ok_c) | (with_reducible apply ok_cons) | (with_reducible apply ok_nil) | (with_reducible apply ok_ofL) | (with_reducible apply ok_call) | (with_reducible apply ok_meth) | (with_reducible apply ok_bV) | (with_reducible apply ok_bNot) | (with_reducible apply ok_bAnd) | (with_reducible apply ok_bOr) | (with_reducible apply ok_eAnd) | (with_reducible apply ok_eOr) | (with_reducible apply ok_eNot) | (with_reducible apply ok_eIf) | (with_reducible apply ok_iVal) | (with_reducible apply ok_range) | (with_reducible apply ok_range2) | (with_reducible apply ok_listRange) | (with_reducible apply ok_enum) | (with_reducible apply ok_bYes) | (with_reducible apply ok_mkL) | (with_reducible apply ok_mkC) | (with_reducible apply ok_ok) | (with_reducible apply ok_addI) | (with_reducible apply ok_gtI) | (with_reducible apply ok_geI) | (with_reducible apply ok_ltI) | (with_reducible apply ok_leI) | (with_reducible apply ok_leS) | (with_reducible apply ok_eqI) | (with_reducible apply ok_neI) | (with_reducible apply ok_eqS) | (with_reducible apply ok_neS) | (with_reducible apply ok_int) | (with_reducible apply ok_lenL) | (with_reducible apply ok_lenT) | (with_reducible apply ok_tupOfL) | (with_reducible apply ok_tupOfT) | (with_reducible apply bl_mk) | (with_reducible apply it_lst) | (with_reducible apply it_tup) | (with_reducible apply it_rls) | (with_reducible apply en_lst) | (with_reducible apply en_tup) | (with_reducible apply rt_seqOf) | (with_reducible apply nx_seqOf) | (with_reducible apply rt_of) | (with_reducible apply nx_of) | (with_reducible apply nx_nx) | (with_reducible apply rt_rt) | (with_reducible apply nx_nil) | (with_reducible apply rt_seqNil) | (with_reducible apply nx_asg) | (with_reducible apply ok_isNN))
  refine subset_ok h (by omega) (by omega) fun us m1 hu hs1 hf1 => ?_
  repeat (first | ((with_reducible apply ok_var); exact rfl) | ((with_reducible apply ok_calls); exact rfl) | ((with_reducible apply ok_tupL); exact Nat.le_of_ble_eq_true rfl) | ((with_reducible apply ok_lstL); exact Nat.le_of_ble_eq_true rfl) | ((with_reducible apply ok_lstC); exact Nat.le_of_ble_eq_true rfl) | (with_reducible apply ok_e2) | (with_reducible apply ok_c) | (with_reducible apply ok_cons) | (with_reducible apply ok_nil) | (with_reducible apply ok_ofL) | (with_reducible apply ok_call) | (with_reducible apply ok_meth) | (with_reducible apply ok_bV) | (with_reducible apply ok_bNot) | (with_reducible apply ok_bAnd) | (with_reducible apply ok_bOr) | (with_reducible apply ok_eAnd) | (with_reducible apply ok_eOr) | (with_reducible apply ok_eNot) | (with_reducible apply ok_eIf) | (with_reducible apply ok_iVal) | (with_reducible apply ok_range) | (with_reducible apply ok_range2) | (with_reducible apply ok_listRange) | (with_reducible apply ok_enum) | (with_reducible apply ok_bYes) | (with_reducible apply ok_mkL) | (with_reducible apply ok_mkC) | (with_reducible apply ok_ok) | (with_reducible apply ok_addI) | (with_reducible apply ok_gtI) | (with_reducible apply ok_geI) | (with_reducible apply ok_ltI) | (with_reducible apply ok_leI) | (with_reducible apply ok_leS) | (with_reducible apply ok_eqI) | (with_reducible apply ok_neI) | (with_reducible apply ok_eqS) | (with_reducible apply ok_neS) | (with_reducible apply ok_int) | (with_reducible apply ok_lenL) | (with_reducible apply ok_lenT) | (with_reducible apply ok_tupOfL) | (with_reducible apply ok_tupOfT) | (with_reducible apply bl_mk) | (with_reducible apply it_lst) | (with_reducible apply it_tup) | (with_reducible apply it_rls) | (with_reducible apply en_lst) | (with_reducible apply en_tup) | (with_reducible apply rt_seqOf) | (with_reducible apply nx_seqOf) | (with_reducible apply rt_of) | (with_reducible apply nx_of) | (with_reducible apply nx_nx) | (with_reducible apply rt_rt) | (with_reducible apply nx_nil) | (with_reducible apply rt_seqNil) | (with_reducible apply nx_asg) | (with_reducible apply ok_isNN))
  refine subset_ok hs1 (by omega) (by omega) fun vs m2 hv hs2 hf2 => ?_
  repeat (first | ((with_reducible apply ok_var); exact rfl) | ((with_reducible apply ok_calls); exact rfl) | ((with_reducible apply ok_tupL); exact Nat.le_of_ble_eq_true rfl) | ((with_reducible apply ok_lstL); exact Nat.le_of_ble_eq_true rfl) | ((with_reducible apply ok_lstC); exact Nat.le_of_ble_eq_true rfl) | (with_reducible apply ok_e2) | (with_reducible apply ok_c) | (with_reducible apply ok_cons) | (with_reducible apply ok_nil) | (with_reducible apply ok_ofL) | (with_reducible apply ok_call) | (with_reducible apply ok_meth) | (with_reducible apply ok_bV) | (with_reducible apply ok_bNot) | (with_reducible apply ok_bAnd) | (with_reducible apply ok_bOr) | (with_reducible apply ok_eAnd) | (with_reducible apply ok_eOr) | (with_reducible apply ok_eNot) | (with_reducible apply ok_eIf) | (with_reducible apply ok_iVal) | (with_reducible apply ok_range) | (with_reducible apply ok_range2) | (with_reducible apply ok_listRange) | (with_reducible apply ok_enum) | (with_reducible apply ok_bYes) | (with_reducible apply ok_mkL) | (with_reducible apply ok_mkC) | (with_reducible apply ok_ok) | (with_reducible apply ok_addI) | (with_reducible apply ok_gtI) | (with_reducible apply ok_geI) | (with_reducible apply ok_ltI) | (with_reducible apply ok_leI) | (with_reducible apply ok_leS) | (with_reducible apply ok_eqI) | (with_reducible apply ok_neI) | (with_reducible apply ok_eqS) | (with_reducible apply ok_neS) | (with_reducible apply ok_int) | (with_reducible apply ok_lenL) | (with_reducible apply ok_lenT) | (with_reducible apply ok_tupOfL) | (with_reducible apply ok_tupOfT) | (with_reducible apply bl_mk) | (with_reducible apply it_lst) | (with_reducible apply it_tup) | (with_reducible apply it_rls) | (with_reducible apply en_lst) | (with_reducible apply en_tup) | (with_reducible apply rt_seqOf) | (with_reducible apply nx_seqOf) | (with_reducible apply rt_of) | (with_reducible apply nx_of) | (with_reducible apply nx_nx) | (with_reducible apply rt_rt) | (with_reducible apply nx_nil) | (with_reducible apply rt_seqNil) | (with_reducible apply nx_asg) | (with_reducible apply ok_isNN))
  obtain ⟨hand, rfl, hh⟩ := sub_strs hu
  obtain ⟨parts, rfl, hp⟩ := sub_strs hv
  refine ⟨_, _, rfl, ?_⟩
  try simp only [List.map_cons, List.map_nil, List.cons_append, List.nil_append, List.length_cons, List.length_nil, Nat.reduceAdd, Nat.reduceSub, List.replicate_succ, List.replicate_zero, List.set_cons_succ, List.set_cons_zero]
  have hs2' : Src m2 s (c + 100) := hs2.mono (by omega)
  have hf2' := hf1.trans hf2
  refine rt_seq (Nx.imp (P := fun env m3 => ∃ hand : List Str, env = [some (.loc s), some (.lst (xs.map T.str)), some (.lst (ks.map T.str)), some (.lst (hand.map T.str)), some (.lst (parts.map T.str)), none, none, none, none] ∧ (∀ x ∈ hand, x ∈ xs) ∧ hand.Nodup ∧ (hand = [] → parts ≠ []) ∧ Src m3 s (c + 200) ∧ Fr s m m3) (nx_if ?_) ?_)
  · have pk : ∀ m3, Src m3 s (c + 150) → Fr s m m3 → Ok (F__law_pick [.loc s, .lst (xs.map T.str)] m3) fun t m4 => ∃ x, t = .str x ∧ x ∈ xs ∧ Src m4 s (c + 200) ∧ Fr s m m4 := by
      intro m3 hs3 hf3
      refine pick_ok hs3 (by omega) (by omega) (by omega) fun t m4 ht hs4 hf4 => ?_
      obtain ⟨x, hx, rfl⟩ := List.mem_map.mp ht
      exact ⟨x, rfl, hx, hs4.mono (by omega), hf3.trans hf4⟩
    repeat (first | ((with_reducible apply ok_var); exact rfl) | ((with_reducible apply ok_calls); exact rfl) | ((with_reducible apply ok_tupL); exact Nat.le_of_ble_eq_true rfl) | ((with_reducible apply ok_lstL); exact Nat.le_of_ble_eq_true rfl) | ((with_reducible apply ok_lstC); exact Nat.le_of_ble_eq_true rfl) | (with_reducible apply ok_e2) | (with_reducible apply ok_c) | (with_reducible apply ok_cons) | (with_reducible apply ok_nil) | (with_reducible apply ok_ofL) | (with_reducible apply ok_call) | (with_reducible apply ok_meth) | (with_reducible apply ok_bV) | (with_reducible apply ok_bNot) | (with_reducible apply ok_bAnd) | (with_reducible apply ok_bOr) | (with_reducible apply ok_eAnd) | (with_reducible apply ok_eOr) | (with_reducible apply ok_eNot) | (with_reducible apply ok_eIf) | (with_reducible apply ok_iVal) | (with_reducible apply ok_range) | (with_reducible apply ok_range2) | (with_reducible apply ok_listRange) | (with_reducible apply ok_enum) | (with_reducible apply ok_bYes) | (with_reducible apply ok_mkL) | (with_reducible apply ok_mkC) | (with_reducible apply ok_ok) | (with_reducible apply ok_addI) | (with_reducible apply ok_gtI) | (with_reducible apply ok_geI) | (with_reducible apply ok_ltI) | (with_reducible apply ok_leI) | (with_reducible apply ok_leS) | (with_reducible apply ok_eqI) | (with_reducible apply ok_neI) | (with_reducible apply ok_eqS) | (with_reducible apply ok_neS) | (with_reducible apply ok_int) | (with_reducible apply ok_lenL) | (with_reducible apply ok_lenT) | (with_reducible apply ok_tupOfL) | (with_reducible apply ok_tupOfT) | (with_reducible apply bl_mk) | (with_reducible apply it_lst) | (with_reducible apply it_tup) | (with_reducible apply it_rls) | (with_reducible apply en_lst) | (with_reducible apply en_tup) | (with_reducible apply rt_seqOf) | (with_reducible apply nx_seqOf) | (with_reducible apply rt_of) | (with_reducible apply nx_of) | (with_reducible apply nx_nx) | (with_reducible apply rt_rt) | (with_reducible apply nx_nil) | (with_reducible apply rt_seqNil) | (with_reducible apply nx_asg) | (with_reducible apply ok_isNN))
    refine ok_eqNil (fun x hx => hg x (hh.subset hx)) ?_
    repeat (first | ((with_reducible apply ok_var); exact rfl) | ((with_reducible apply ok_calls); exact rfl) | ((with_reducible apply ok_tupL); exact Nat.le_of_ble_eq_true rfl) | ((with_reducible apply ok_lstL); exact Nat.le_of_ble_eq_true rfl) | ((with_reducible apply ok_lstC); exact Nat.le_of_ble_eq_true rfl) | (with_reducible apply ok_e2) | (with_reducible apply ok_c) | (with_reducible apply ok_cons) | (with_reducible apply ok_nil) | (with_reducible apply ok_ofL) | (with_reducible apply ok_call) | (with_reducible apply ok_meth) | (with_reducible apply ok_bV) | (with_reducible apply ok_bNot) | (with_reducible apply ok_bAnd) | (with_reducible apply ok_bOr) | (with_reducible apply ok_eAnd) | (with_reducible apply ok_eOr) | (with_reducible apply ok_eNot) | (with_reducible apply ok_eIf) | (with_reducible apply ok_iVal) | (with_reducible apply ok_range) | (with_reducible apply ok_range2) | (with_reducible apply ok_listRange) | (with_reducible apply ok_enum) | (with_reducible apply ok_bYes) | (with_reducible apply ok_mkL) | (with_reducible apply ok_mkC) | (with_reducible apply ok_ok) | (with_reducible apply ok_addI) | (with_reducible apply ok_gtI) | (with_reducible apply ok_geI) | (with_reducible apply ok_ltI) | (with_reducible apply ok_leI) | (with_reducible apply ok_leS) | (with_reducible apply ok_eqI) | (with_reducible apply ok_neI) | (with_reducible apply ok_eqS) | (with_reducible apply ok_neS) | (with_reducible apply ok_int) | (with_reducible apply ok_lenL) | (with_reducible apply ok_lenT) | (with_reducible apply ok_tupOfL) | (with_reducible apply ok_tupOfT) | (with_reducible apply bl_mk) | (with_reducible apply it_lst) | (with_reducible apply it_tup) | (with_reducible apply it_rls) | (with_reducible apply en_lst) | (with_reducible apply en_tup) | (with_reducible apply rt_seqOf) | (with_reducible apply nx_seqOf) | (with_reducible apply rt_of) | (with_reducible apply nx_of) | (with_reducible apply nx_nx) | (with_reducible apply rt_rt) | (with_reducible apply nx_nil) | (with_reducible apply rt_seqNil) | (with_reducible apply nx_asg) | (with_reducible apply ok_isNN))
    cases hand with
    | cons y ys =>
      rw [List.isEmpty_cons]
      rw [if_neg (by decide), if_neg (by decide)]
      repeat (first | ((with_reducible apply ok_var); exact rfl) | ((with_reducible apply ok_calls); exact rfl) | ((with_reducible apply ok_tupL); exact Nat.le_of_ble_eq_true rfl) | ((with_reducible apply ok_lstL); exact Nat.le_of_ble_eq_true rfl) | ((with_reducible apply ok_lstC); exact Nat.le_of_ble_eq_true rfl) | (with_reducible apply ok_e2) | (with_reducible apply ok_c) | (with_reducible apply ok_cons) | (with_reducible apply ok_nil) | (with_reducible apply ok_ofL) | (with_reducible apply ok_call) | (with_reducible apply ok_meth) | (with_reducible apply ok_bV) | (with_reducible apply ok_bNot) | (with_reducible apply ok_bAnd) | (with_reducible apply ok_bOr) | (with_reducible apply ok_eAnd) | (with_reducible apply ok_eOr) | (with_reducible apply ok_eNot) | (with_reducible apply ok_eIf) | (with_reducible apply ok_iVal) | (with_reducible apply ok_range) | (with_reducible apply ok_range2) | (with_reducible apply ok_listRange) | (with_reducible apply ok_enum) | (with_reducible apply ok_bYes) | (with_reducible apply ok_mkL) | (with_reducible apply ok_mkC) | (with_reducible apply ok_ok) | (with_reducible apply ok_addI) | (with_reducible apply ok_gtI) | (with_reducible apply ok_geI) | (with_reducible apply ok_ltI) | (with_reducible apply ok_leI) | (with_reducible apply ok_leS) | (with_reducible apply ok_eqI) | (with_reducible apply ok_neI) | (with_reducible apply ok_eqS) | (with_reducible apply ok_neS) | (with_reducible apply ok_int) | (with_reducible apply ok_lenL) | (with_reducible apply ok_lenT) | (with_reducible apply ok_tupOfL) | (with_reducible apply ok_tupOfT) | (with_reducible apply bl_mk) | (with_reducible apply it_lst) | (with_reducible apply it_tup) | (with_reducible apply it_rls) | (with_reducible apply en_lst) | (with_reducible apply en_tup) | (with_reducible apply rt_seqOf) | (with_reducible apply nx_seqOf) | (with_reducible apply rt_of) | (with_reducible apply nx_of) | (with_reducible apply nx_nx) | (with_reducible apply rt_rt) | (with_reducible apply nx_nil) | (with_reducible apply rt_seqNil) | (with_reducible apply nx_asg) | (with_reducible apply ok_isNN))
      exact ⟨y :: ys, rfl, hh.subset, hn.sublist hh, by simp, hs2'.mono (by omega), hf2'⟩
    | nil =>
      rw [List.isEmpty_nil, if_pos rfl]
      repeat (first | ((with_reducible apply ok_var); exact rfl) | ((with_reducible apply ok_calls); exact rfl) | ((with_reducible apply ok_tupL); exact Nat.le_of_ble_eq_true rfl) | ((with_reducible apply ok_lstL); exact Nat.le_of_ble_eq_true rfl) | ((with_reducible apply ok_lstC); exact Nat.le_of_ble_eq_true rfl) | (with_reducible apply ok_e2) | (with_reducible apply ok_c) | (with_reducible apply ok_cons) | (with_reducible apply ok_nil) | (with_reducible apply ok_ofL) | (with_reducible apply ok_call) | (with_reducible apply ok_meth) | (with_reducible apply ok_bV) | (with_reducible apply ok_bNot) | (with_reducible apply ok_bAnd) | (with_reducible apply ok_bOr) | (with_reducible apply ok_eAnd) | (with_reducible apply ok_eOr) | (with_reducible apply ok_eNot) | (with_reducible apply ok_eIf) | (with_reducible apply ok_iVal) | (with_reducible apply ok_range) | (with_reducible apply ok_range2) | (with_reducible apply ok_listRange) | (with_reducible apply ok_enum) | (with_reducible apply ok_bYes) | (with_reducible apply ok_mkL) | (with_reducible apply ok_mkC) | (with_reducible apply ok_ok) | (with_reducible apply ok_addI) | (with_reducible apply ok_gtI) | (with_reducible apply ok_geI) | (with_reducible apply ok_ltI) | (with_reducible apply ok_leI) | (with_reducible apply ok_leS) | (with_reducible apply ok_eqI) | (with_reducible apply ok_neI) | (with_reducible apply ok_eqS) | (with_reducible apply ok_neS) | (with_reducible apply ok_int) | (with_reducible apply ok_lenL) | (with_reducible apply ok_lenT) | (with_reducible apply ok_tupOfL) | (with_reducible apply ok_tupOfT) | (with_reducible apply bl_mk) | (with_reducible apply it_lst) | (with_reducible apply it_tup) | (with_reducible apply it_rls) | (with_reducible apply en_lst) | (with_reducible apply en_tup) | (with_reducible apply rt_seqOf) | (with_reducible apply nx_seqOf) | (with_reducible apply rt_of) | (with_reducible apply nx_of) | (with_reducible apply nx_nx) | (with_reducible apply rt_rt) | (with_reducible apply nx_nil) | (with_reducible apply rt_seqNil) | (with_reducible apply nx_asg) | (with_reducible apply ok_isNN))
      refine ok_eqNil (fun x hx => hk x (hp.subset hx)) ?_
      repeat (first | ((with_reducible apply ok_var); exact rfl) | ((with_reducible apply ok_calls); exact rfl) | ((with_reducible apply ok_tupL); exact Nat.le_of_ble_eq_true rfl) | ((with_reducible apply ok_lstL); exact Nat.le_of_ble_eq_true rfl) | ((with_reducible apply ok_lstC); exact Nat.le_of_ble_eq_true rfl) | (with_reducible apply ok_e2) | (with_reducible apply ok_c) | (with_reducible apply ok_cons) | (with_reducible apply ok_nil) | (with_reducible apply ok_ofL) | (with_reducible apply ok_call) | (with_reducible apply ok_meth) | (with_reducible apply ok_bV) | (with_reducible apply ok_bNot) | (with_reducible apply ok_bAnd) | (with_reducible apply ok_bOr) | (with_reducible apply ok_eAnd) | (with_reducible apply ok_eOr) | (with_reducible apply ok_eNot) | (with_reducible apply ok_eIf) | (with_reducible apply ok_iVal) | (with_reducible apply ok_range) | (with_reducible apply ok_range2) | (with_reducible apply ok_listRange) | (with_reducible apply ok_enum) | (with_reducible apply ok_bYes) | (with_reducible apply ok_mkL) | (with_reducible apply ok_mkC) | (with_reducible apply ok_ok) | (with_reducible apply ok_addI) | (with_reducible apply ok_gtI) | (with_reducible apply ok_geI) | (with_reducible apply ok_ltI) | (with_reducible apply ok_leI) | (with_reducible apply ok_leS) | (with_reducible apply ok_eqI) | (with_reducible apply ok_neI) | (with_reducible apply ok_eqS) | (with_reducible apply ok_neS) | (with_reducible apply ok_int) | (with_reducible apply ok_lenL) | (with_reducible apply ok_lenT) | (with_reducible apply ok_tupOfL) | (with_reducible apply ok_tupOfT) | (with_reducible apply bl_mk) | (with_reducible apply it_lst) | (with_reducible apply it_tup) | (with_reducible apply it_rls) | (with_reducible apply en_lst) | (with_reducible apply en_tup) | (with_reducible apply rt_seqOf) | (with_reducible apply nx_seqOf) | (with_reducible apply rt_of) | (with_reducible apply nx_of) | (with_reducible apply nx_nx) | (with_reducible apply rt_rt) | (with_reducible apply nx_nil) | (with_reducible apply rt_seqNil) | (with_reducible apply nx_asg) | (with_reducible apply ok_isNN))
      cases parts with
      | nil =>
        rw [List.map_nil, List.isEmpty_nil, if_pos rfl, if_pos rfl]
        repeat (first | ((with_reducible apply ok_var); exact rfl) | ((with_reducible apply ok_calls); exact rfl) | ((with_reducible apply ok_tupL); exact Nat.le_of_ble_eq_true rfl) | ((with_reducible apply ok_lstL); exact Nat.le_of_ble_eq_true rfl) | ((with_reducible apply ok_lstC); exact Nat.le_of_ble_eq_true rfl) | (with_reducible apply ok_e2) | (with_reducible apply ok_c) | (with_reducible apply ok_cons) | (with_reducible apply ok_nil) | (with_reducible apply ok_ofL) | (with_reducible apply ok_call) | (with_reducible apply ok_meth) | (with_reducible apply ok_bV) | (with_reducible apply ok_bNot) | (with_reducible apply ok_bAnd) | (with_reducible apply ok_bOr) | (with_reducible apply ok_eAnd) | (with_reducible apply ok_eOr) | (with_reducible apply ok_eNot) | (with_reducible apply ok_eIf) | (with_reducible apply ok_iVal) | (with_reducible apply ok_range) | (with_reducible apply ok_range2) | (with_reducible apply ok_listRange) | (with_reducible apply ok_enum) | (with_reducible apply ok_bYes) | (with_reducible apply ok_mkL) | (with_reducible apply ok_mkC) | (with_reducible apply ok_ok) | (with_reducible apply ok_addI) | (with_reducible apply ok_gtI) | (with_reducible apply ok_geI) | (with_reducible apply ok_ltI) | (with_reducible apply ok_leI) | (with_reducible apply ok_leS) | (with_reducible apply ok_eqI) | (with_reducible apply ok_neI) | (with_reducible apply ok_eqS) | (with_reducible apply ok_neS) | (with_reducible apply ok_int) | (with_reducible apply ok_lenL) | (with_reducible apply ok_lenT) | (with_reducible apply ok_tupOfL) | (with_reducible apply ok_tupOfT) | (with_reducible apply bl_mk) | (with_reducible apply it_lst) | (with_reducible apply it_tup) | (with_reducible apply it_rls) | (with_reducible apply en_lst) | (with_reducible apply en_tup) | (with_reducible apply rt_seqOf) | (with_reducible apply nx_seqOf) | (with_reducible apply rt_of) | (with_reducible apply nx_of) | (with_reducible apply nx_nx) | (with_reducible apply rt_rt) | (with_reducible apply nx_nil) | (with_reducible apply rt_seqNil) | (with_reducible apply nx_asg) | (with_reducible apply ok_isNN))
        refine Ok.imp (pk m2 (hs2'.mono (by omega)) hf2') ?_
        rintro _ m4 ⟨x, rfl, hx, hs4, hf4⟩
        repeat (first | ((with_reducible apply ok_var); exact rfl) | ((with_reducible apply ok_calls); exact rfl) | ((with_reducible apply ok_tupL); exact Nat.le_of_ble_eq_true rfl) | ((with_reducible apply ok_lstL); exact Nat.le_of_ble_eq_true rfl) | ((with_reducible apply ok_lstC); exact Nat.le_of_ble_eq_true rfl) | (with_reducible apply ok_e2) | (with_reducible apply ok_c) | (with_reducible apply ok_cons) | (with_reducible apply ok_nil) | (with_reducible apply ok_ofL) | (with_reducible apply ok_call) | (with_reducible apply ok_meth) | (with_reducible apply ok_bV) | (with_reducible apply ok_bNot) | (with_reducible apply ok_bAnd) | (with_reducible apply ok_bOr) | (with_reducible apply ok_eAnd) | (with_reducible apply ok_eOr) | (with_reducible apply ok_eNot) | (with_reducible apply ok_eIf) | (with_reducible apply ok_iVal) | (with_reducible apply ok_range) | (with_reducible apply ok_range2) | (with_reducible apply ok_listRange) | (with_reducible apply ok_enum) | (with_reducible apply ok_bYes) | (with_reducible apply ok_mkL) | (with_reducible apply ok_mkC) | (with_reducible apply ok_ok) | (with_reducible apply ok_addI) | (with_reducible apply ok_gtI) | (with_reducible apply ok_geI) | (with_reducible apply ok_ltI) | (with_reducible apply ok_leI) | (with_reducible apply ok_leS) | (with_reducible apply ok_eqI) | (with_reducible apply ok_neI) | (with_reducible apply ok_eqS) | (with_reducible apply ok_neS) | (with_reducible apply ok_int) | (with_reducible apply ok_lenL) | (with_reducible apply ok_lenT) | (with_reducible apply ok_tupOfL) | (with_reducible apply ok_tupOfT) | (with_reducible apply bl_mk) | (with_reducible apply it_lst) | (with_reducible apply it_tup) | (with_reducible apply it_rls) | (with_reducible apply en_lst) | (with_reducible apply en_tup) | (with_reducible apply rt_seqOf) | (with_reducible apply nx_seqOf) | (with_reducible apply rt_of) | (with_reducible apply nx_of) | (with_reducible apply nx_nx) | (with_reducible apply rt_rt) | (with_reducible apply nx_nil) | (with_reducible apply rt_seqNil) | (with_reducible apply nx_asg) | (with_reducible apply ok_isNN))
        exact ⟨[x], rfl, by simpa using hx, by simp, by simp, hs4, hf4⟩
      | cons y ys =>
        rw [List.isEmpty_cons, if_neg (by decide)]
        repeat (first | ((with_reducible apply ok_var); exact rfl) | ((with_reducible apply ok_calls); exact rfl) | ((with_reducible apply ok_tupL); exact Nat.le_of_ble_eq_true rfl) | ((with_reducible apply ok_lstL); exact Nat.le_of_ble_eq_true rfl) | ((with_reducible apply ok_lstC); exact Nat.le_of_ble_eq_true rfl) | (with_reducible apply ok_e2) | (with_reducible apply ok_c) | (with_reducible apply ok_cons) | (with_reducible apply ok_nil) | (with_reducible apply ok_ofL) | (with_reducible apply ok_call) | (with_reducible apply ok_meth) | (with_reducible apply ok_bV) | (with_reducible apply ok_bNot) | (with_reducible apply ok_bAnd) | (with_reducible apply ok_bOr) | (with_reducible apply ok_eAnd) | (with_reducible apply ok_eOr) | (with_reducible apply ok_eNot) | (with_reducible apply ok_eIf) | (with_reducible apply ok_iVal) | (with_reducible apply ok_range) | (with_reducible apply ok_range2) | (with_reducible apply ok_listRange) | (with_reducible apply ok_enum) | (with_reducible apply ok_bYes) | (with_reducible apply ok_mkL) | (with_reducible apply ok_mkC) | (with_reducible apply ok_ok) | (with_reducible apply ok_addI) | (with_reducible apply ok_gtI) | (with_reducible apply ok_geI) | (with_reducible apply ok_ltI) | (with_reducible apply ok_leI) | (with_reducible apply ok_leS) | (with_reducible apply ok_eqI) | (with_reducible apply ok_neI) | (with_reducible apply ok_eqS) | (with_reducible apply ok_neS) | (with_reducible apply ok_int) | (with_reducible apply ok_lenL) | (with_reducible apply ok_lenT) | (with_reducible apply ok_tupOfL) | (with_reducible apply ok_tupOfT) | (with_reducible apply bl_mk) | (with_reducible apply it_lst) | (with_reducible apply it_tup) | (with_reducible apply it_rls) | (with_reducible apply en_lst) | (with_reducible apply en_tup) | (with_reducible apply rt_seqOf) | (with_reducible apply nx_seqOf) | (with_reducible apply rt_of) | (with_reducible apply nx_of) | (with_reducible apply nx_nx) | (with_reducible apply rt_rt) | (with_reducible apply nx_nil) | (with_reducible apply rt_seqNil) | (with_reducible apply nx_asg) | (with_reducible apply ok_isNN))
        refine draw_ok hs2' (by omega) (by omega) (by omega) fun d m3 d0 d1 hs3 hf3 => ?_
        repeat (first | ((with_reducible apply ok_var); exact rfl) | ((with_reducible apply ok_calls); exact rfl) | ((with_reducible apply ok_tupL); exact Nat.le_of_ble_eq_true rfl) | ((with_reducible apply ok_lstL); exact Nat.le_of_ble_eq_true rfl) | ((with_reducible apply ok_lstC); exact Nat.le_of_ble_eq_true rfl) | (with_reducible apply ok_e2) | (with_reducible apply ok_c) | (with_reducible apply ok_cons) | (with_reducible apply ok_nil) | (with_reducible apply ok_ofL) | (with_reducible apply ok_call) | (with_reducible apply ok_meth) | (with_reducible apply ok_bV) | (with_reducible apply ok_bNot) | (with_reducible apply ok_bAnd) | (with_reducible apply ok_bOr) | (with_reducible apply ok_eAnd) | (with_reducible apply ok_eOr) | (with_reducible apply ok_eNot) | (with_reducible apply ok_eIf) | (with_reducible apply ok_iVal) | (with_reducible apply ok_range) | (with_reducible apply ok_range2) | (with_reducible apply ok_listRange) | (with_reducible apply ok_enum) | (with_reducible apply ok_bYes) | (with_reducible apply ok_mkL) | (with_reducible apply ok_mkC) | (with_reducible apply ok_ok) | (with_reducible apply ok_addI) | (with_reducible apply ok_gtI) | (with_reducible apply ok_geI) | (with_reducible apply ok_ltI) | (with_reducible apply ok_leI) | (with_reducible apply ok_leS) | (with_reducible apply ok_eqI) | (with_reducible apply ok_neI) | (with_reducible apply ok_eqS) | (with_reducible apply ok_neS) | (with_reducible apply ok_int) | (with_reducible apply ok_lenL) | (with_reducible apply ok_lenT) | (with_reducible apply ok_tupOfL) | (with_reducible apply ok_tupOfT) | (with_reducible apply bl_mk) | (with_reducible apply it_lst) | (with_reducible apply it_tup) | (with_reducible apply it_rls) | (with_reducible apply en_lst) | (with_reducible apply en_tup) | (with_reducible apply rt_seqOf) | (with_reducible apply nx_seqOf) | (with_reducible apply rt_of) | (with_reducible apply nx_of) | (with_reducible apply nx_nx) | (with_reducible apply rt_rt) | (with_reducible apply nx_nil) | (with_reducible apply rt_seqNil) | (with_reducible apply nx_asg) | (with_reducible apply ok_isNN))
        split
        · repeat (first | ((with_reducible apply ok_var); exact rfl) | ((with_reducible apply ok_calls); exact rfl) | ((with_reducible apply ok_tupL); exact Nat.le_of_ble_eq_true rfl) | ((with_reducible apply ok_lstL); exact Nat.le_of_ble_eq_true rfl) | ((with_reducible apply ok_lstC); exact Nat.le_of_ble_eq_true rfl) | (with_reducible apply ok_e2) | (with_reducible apply ok_c) | (with_reducible apply ok_cons) | (with_reducible apply ok_nil) | (with_reducible apply ok_ofL) | (with_reducible apply ok_call) | (with_reducible apply ok_meth) | (with_reducible apply ok_bV) | (with_reducible apply ok_bNot) | (with_reducible apply ok_bAnd) | (with_reducible apply ok_bOr) | (with_reducible apply ok_eAnd) | (with_reducible apply ok_eOr) | (with_reducible apply ok_eNot) | (with_reducible apply ok_eIf) | (with_reducible apply ok_iVal) | (with_reducible apply ok_range) | (with_reducible apply ok_range2) | (with_reducible apply ok_listRange) | (with_reducible apply ok_enum) | (with_reducible apply ok_bYes) | (with_reducible apply ok_mkL) | (with_reducible apply ok_mkC) | (with_reducible apply ok_ok) | (with_reducible apply ok_addI) | (with_reducible apply ok_gtI) | (with_reducible apply ok_geI) | (with_reducible apply ok_ltI) | (with_reducible apply ok_leI) | (with_reducible apply ok_leS) | (with_reducible apply ok_eqI) | (with_reducible apply ok_neI) | (with_reducible apply ok_eqS) | (with_reducible apply ok_neS) | (with_reducible apply ok_int) | (with_reducible apply ok_lenL) | (with_reducible apply ok_lenT) | (with_reducible apply ok_tupOfL) | (with_reducible apply ok_tupOfT) | (with_reducible apply bl_mk) | (with_reducible apply it_lst) | (with_reducible apply it_tup) | (with_reducible apply it_rls) | (with_reducible apply en_lst) | (with_reducible apply en_tup) | (with_reducible apply rt_seqOf) | (with_reducible apply nx_seqOf) | (with_reducible apply rt_of) | (with_reducible apply nx_of) | (with_reducible apply nx_nx) | (with_reducible apply rt_rt) | (with_reducible apply nx_nil) | (with_reducible apply rt_seqNil) | (with_reducible apply nx_asg) | (with_reducible apply ok_isNN))
          refine Ok.imp (pk m3 (hs3.mono (by omega)) (hf2'.trans hf3)) ?_
          rintro _ m4 ⟨x, rfl, hx, hs4, hf4⟩
          repeat (first | ((with_reducible apply ok_var); exact rfl) | ((with_reducible apply ok_calls); exact rfl) | ((with_reducible apply ok_tupL); exact Nat.le_of_ble_eq_true rfl) | ((with_reducible apply ok_lstL); exact Nat.le_of_ble_eq_true rfl) | ((with_reducible apply ok_lstC); exact Nat.le_of_ble_eq_true rfl) | (with_reducible apply ok_e2) | (with_reducible apply ok_c) | (with_reducible apply ok_cons) | (with_reducible apply ok_nil) | (with_reducible apply ok_ofL) | (with_reducible apply ok_call) | (with_reducible apply ok_meth) | (with_reducible apply ok_bV) | (with_reducible apply ok_bNot) | (with_reducible apply ok_bAnd) | (with_reducible apply ok_bOr) | (with_reducible apply ok_eAnd) | (with_reducible apply ok_eOr) | (with_reducible apply ok_eNot) | (with_reducible apply ok_eIf) | (with_reducible apply ok_iVal) | (with_reducible apply ok_range) | (with_reducible apply ok_range2) | (with_reducible apply ok_listRange) | (with_reducible apply ok_enum) | (with_reducible apply ok_bYes) | (with_reducible apply ok_mkL) | (with_reducible apply ok_mkC) | (with_reducible apply ok_ok) | (with_reducible apply ok_addI) | (with_reducible apply ok_gtI) | (with_reducible apply ok_geI) | (with_reducible apply ok_ltI) | (with_reducible apply ok_leI) | (with_reducible apply ok_leS) | (with_reducible apply ok_eqI) | (with_reducible apply ok_neI) | (with_reducible apply ok_eqS) | (with_reducible apply ok_neS) | (with_reducible apply ok_int) | (with_reducible apply ok_lenL) | (with_reducible apply ok_lenT) | (with_reducible apply ok_tupOfL) | (with_reducible apply ok_tupOfT) | (with_reducible apply bl_mk) | (with_reducible apply it_lst) | (with_reducible apply it_tup) | (with_reducible apply it_rls) | (with_reducible apply en_lst) | (with_reducible apply en_tup) | (with_reducible apply rt_seqOf) | (with_reducible apply nx_seqOf) | (with_reducible apply rt_of) | (with_reducible apply nx_of) | (with_reducible apply nx_nx) | (with_reducible apply rt_rt) | (with_reducible apply nx_nil) | (with_reducible apply rt_seqNil) | (with_reducible apply nx_asg) | (with_reducible apply ok_isNN))
          exact ⟨[x], rfl, by simpa using hx, by simp, by simp, hs4, hf4⟩
        · repeat (first | ((with_reducible apply ok_var); exact rfl) | ((with_reducible apply ok_calls); exact rfl) | ((with_reducible apply ok_tupL); exact Nat.le_of_ble_eq_true rfl) | ((with_reducible apply ok_lstL); exact Nat.le_of_ble_eq_true rfl) | ((with_reducible apply ok_lstC); exact Nat.le_of_ble_eq_true rfl) | (with_reducible apply ok_e2) | (with_reducible apply ok_c) | (with_reducible apply ok_cons) | (with_reducible apply ok_nil) | (with_reducible apply ok_ofL) | (with_reducible apply ok_call) | (with_reducible apply ok_meth) | (with_reducible apply ok_bV) | (with_reducible apply ok_bNot) | (with_reducible apply ok_bAnd) | (with_reducible apply ok_bOr) | (with_reducible apply ok_eAnd) | (with_reducible apply ok_eOr) | (with_reducible apply ok_eNot) | (with_reducible apply ok_eIf) | (with_reducible apply ok_iVal) | (with_reducible apply ok_range) | (with_reducible apply ok_range2) | (with_reducible apply ok_listRange) | (with_reducible apply ok_enum) | (with_reducible apply ok_bYes) | (with_reducible apply ok_mkL) | (with_reducible apply ok_mkC) | (with_reducible apply ok_ok) | (with_reducible apply ok_addI) | (with_reducible apply ok_gtI) | (with_reducible apply ok_geI) | (with_reducible apply ok_ltI) | (with_reducible apply ok_leI) | (with_reducible apply ok_leS) | (with_reducible apply ok_eqI) | (with_reducible apply ok_neI) | (with_reducible apply ok_eqS) | (with_reducible apply ok_neS) | (with_reducible apply ok_int) | (with_reducible apply ok_lenL) | (with_reducible apply ok_lenT) | (with_reducible apply ok_tupOfL) | (with_reducible apply ok_tupOfT) | (with_reducible apply bl_mk) | (with_reducible apply it_lst) | (with_reducible apply it_tup) | (with_reducible apply it_rls) | (with_reducible apply en_lst) | (with_reducible apply en_tup) | (with_reducible apply rt_seqOf) | (with_reducible apply nx_seqOf) | (with_reducible apply rt_of) | (with_reducible apply nx_of) | (with_reducible apply nx_nx) | (with_reducible apply rt_rt) | (with_reducible apply nx_nil) | (with_reducible apply rt_seqNil) | (with_reducible apply nx_asg) | (with_reducible apply ok_isNN))
          exact ⟨[], rfl, by simp, by simp, by simp, hs3.mono (by omega), hf2'.trans hf3⟩
  · rintro env m3 ⟨hand, rfl, a1, a2, a3, hs3, hf3⟩
    repeat (first | ((with_reducible apply ok_var); exact rfl) | ((with_reducible apply ok_calls); exact rfl) | ((with_reducible apply ok_tupL); exact Nat.le_of_ble_eq_true rfl) | ((with_reducible apply ok_lstL); exact Nat.le_of_ble_eq_true rfl) | ((with_reducible apply ok_lstC); exact Nat.le_of_ble_eq_true rfl) | (with_reducible apply ok_e2) | (with_reducible apply ok_c) | (with_reducible apply ok_cons) | (with_reducible apply ok_nil) | (with_reducible apply ok_ofL) | (with_reducible apply ok_call) | (with_reducible apply ok_meth) | (with_reducible apply ok_bV) | (with_reducible apply ok_bNot) | (with_reducible apply ok_bAnd) | (with_reducible apply ok_bOr) | (with_reducible apply ok_eAnd) | (with_reducible apply ok_eOr) | (with_reducible apply ok_eNot) | (with_reducible apply ok_eIf) | (with_reducible apply ok_iVal) | (with_reducible apply ok_range) | (with_reducible apply ok_range2) | (with_reducible apply ok_listRange) | (with_reducible apply ok_enum) | (with_reducible apply ok_bYes) | (with_reducible apply ok_mkL) | (with_reducible apply ok_mkC) | (with_reducible apply ok_ok) | (with_reducible apply ok_addI) | (with_reducible apply ok_gtI) | (with_reducible apply ok_geI) | (with_reducible apply ok_ltI) | (with_reducible apply ok_leI) | (with_reducible apply ok_leS) | (with_reducible apply ok_eqI) | (with_reducible apply ok_neI) | (with_reducible apply ok_eqS) | (with_reducible apply ok_neS) | (with_reducible apply ok_int) | (with_reducible apply ok_lenL) | (with_reducible apply ok_lenT) | (with_reducible apply ok_tupOfL) | (with_reducible apply ok_tupOfT) | (with_reducible apply bl_mk) | (with_reducible apply it_lst) | (with_reducible apply it_tup) | (with_reducible apply it_rls) | (with_reducible apply en_lst) | (with_reducible apply en_tup) | (with_reducible apply rt_seqOf) | (with_reducible apply nx_seqOf) | (with_reducible apply rt_of) | (with_reducible apply nx_of) | (with_reducible apply nx_nx) | (with_reducible apply rt_rt) | (with_reducible apply nx_nil) | (with_reducible apply rt_seqNil) | (with_reducible apply nx_asg) | (with_reducible apply ok_isNN))
    try simp only [List.map_cons, List.map_nil, List.cons_append, List.nil_append, List.length_cons, List.length_nil, Nat.reduceAdd, Nat.reduceSub, List.replicate_succ, List.replicate_zero, List.set_cons_succ, List.set_cons_zero]
    have hlt3 := hs3.lt
    refine rt_seq (nx_for (fun p env m4 => ∃ (cls : List T) (w7 w8 w6 : Option T), env = [some (.loc s), some (.lst (xs.map T.str)), some (.lst (ks.map T.str)), some (.lst (hand.map T.str)), some (.lst (parts.map T.str)), some (.loc m3.length), w6, w7, w8] ∧ m4[m3.length]? = some (some (.lst cls)) ∧ cls.length = p.length ∧ (∀ t ∈ cls, ClauseT 2 (xs.map T.str) t) ∧ Src m4 s (c + 300 + 700 * p.length) ∧ Fr s m3 m4) ?_)
    repeat (first | ((with_reducible apply ok_var); exact rfl) | ((with_reducible apply ok_calls); exact rfl) | ((with_reducible apply ok_tupL); exact Nat.le_of_ble_eq_true rfl) | ((with_reducible apply ok_lstL); exact Nat.le_of_ble_eq_true rfl) | ((with_reducible apply ok_lstC); exact Nat.le_of_ble_eq_true rfl) | (with_reducible apply ok_e2) | (with_reducible apply ok_c) | (with_reducible apply ok_cons) | (with_reducible apply ok_nil) | (with_reducible apply ok_ofL) | (with_reducible apply ok_call) | (with_reducible apply ok_meth) | (with_reducible apply ok_bV) | (with_reducible apply ok_bNot) | (with_reducible apply ok_bAnd) | (with_reducible apply ok_bOr) | (with_reducible apply ok_eAnd) | (with_reducible apply ok_eOr) | (with_reducible apply ok_eNot) | (with_reducible apply ok_eIf) | (with_reducible apply ok_iVal) | (with_reducible apply ok_range) | (with_reducible apply ok_range2) | (with_reducible apply ok_listRange) | (with_reducible apply ok_enum) | (with_reducible apply ok_bYes) | (with_reducible apply ok_mkL) | (with_reducible apply ok_mkC) | (with_reducible apply ok_ok) | (with_reducible apply ok_addI) | (with_reducible apply ok_gtI) | (with_reducible apply ok_geI) | (with_reducible apply ok_ltI) | (with_reducible apply ok_leI) | (with_reducible apply ok_leS) | (with_reducible apply ok_eqI) | (with_reducible apply ok_neI) | (with_reducible apply ok_eqS) | (with_reducible apply ok_neS) | (with_reducible apply ok_int) | (with_reducible apply ok_lenL) | (with_reducible apply ok_lenT) | (with_reducible apply ok_tupOfL) | (with_reducible apply ok_tupOfT) | (with_reducible apply bl_mk) | (with_reducible apply it_lst) | (with_reducible apply it_tup) | (with_reducible apply it_rls) | (with_reducible apply en_lst) | (with_reducible apply en_tup) | (with_reducible apply rt_seqOf) | (with_reducible apply nx_seqOf) | (with_reducible apply rt_of) | (with_reducible apply nx_of) | (with_reducible apply nx_nx) | (with_reducible apply rt_rt) | (with_reducible apply nx_nil) | (with_reducible apply rt_seqNil) | (with_reducible apply nx_asg) | (with_reducible apply ok_isNN))
    refine draw_ok (hs3.app _) (by omega) (by omega) (by omega) fun d m4 d0 d1 hs4 hf4 => ?_
    repeat (first | ((with_reducible apply ok_var); exact rfl) | ((with_reducible apply ok_calls); exact rfl) | ((with_reducible apply ok_tupL); exact Nat.le_of_ble_eq_true rfl) | ((with_reducible apply ok_lstL); exact Nat.le_of_ble_eq_true rfl) | ((with_reducible apply ok_lstC); exact Nat.le_of_ble_eq_true rfl) | (with_reducible apply ok_e2) | (with_reducible apply ok_c) | (with_reducible apply ok_cons) | (with_reducible apply ok_nil) | (with_reducible apply ok_ofL) | (with_reducible apply ok_call) | (with_reducible apply ok_meth) | (with_reducible apply ok_bV) | (with_reducible apply ok_bNot) | (with_reducible apply ok_bAnd) | (with_reducible apply ok_bOr) | (with_reducible apply ok_eAnd) | (with_reducible apply ok_eOr) | (with_reducible apply ok_eNot) | (with_reducible apply ok_eIf) | (with_reducible apply ok_iVal) | (with_reducible apply ok_range) | (with_reducible apply ok_range2) | (with_reducible apply ok_listRange) | (with_reducible apply ok_enum) | (with_reducible apply ok_bYes) | (with_reducible apply ok_mkL) | (with_reducible apply ok_mkC) | (with_reducible apply ok_ok) | (with_reducible apply ok_addI) | (with_reducible apply ok_gtI) | (with_reducible apply ok_geI) | (with_reducible apply ok_ltI) | (with_reducible apply ok_leI) | (with_reducible apply ok_leS) | (with_reducible apply ok_eqI) | (with_reducible apply ok_neI) | (with_reducible apply ok_eqS) | (with_reducible apply ok_neS) | (with_reducible apply ok_int) | (with_reducible apply ok_lenL) | (with_reducible apply ok_lenT) | (with_reducible apply ok_tupOfL) | (with_reducible apply ok_tupOfT) | (with_reducible apply bl_mk) | (with_reducible apply it_lst) | (with_reducible apply it_tup) | (with_reducible apply it_rls) | (with_reducible apply en_lst) | (with_reducible apply en_tup) | (with_reducible apply rt_seqOf) | (with_reducible apply nx_seqOf) | (with_reducible apply rt_of) | (with_reducible apply nx_of) | (with_reducible apply nx_nx) | (with_reducible apply rt_rt) | (with_reducible apply nx_nil) | (with_reducible apply rt_seqNil) | (with_reducible apply nx_asg) | (with_reducible apply ok_isNN))
    obtain ⟨n, rfl⟩ := Int.eq_ofNat_of_zero_le d0
    refine rg_mk (by omega) (by omega) ⟨⟨[], none, none, none, rfl, hf4.cell (by simp) (by omega), rfl, by simp, hs4.mono (by omega), (Fr.app _).trans hf4⟩, ?_, ?_⟩
    · rintro p t q env m5 hp ⟨cls, w7, w8, w6, rfl, hm, hl, hcl, hs5, hf5⟩
      have hpl := congrArg List.length hp
      rw [rng_len] at hpl
      simp at hpl
      refine ⟨_, rfl, ?_⟩
      try simp only [List.map_cons, List.map_nil, List.cons_append, List.nil_append, List.length_cons, List.length_nil, Nat.reduceAdd, Nat.reduceSub, List.replicate_succ, List.replicate_zero, List.set_cons_succ, List.set_cons_zero]
      refine nx_seqOf (conds_ok (s := s) (c := c + 301 + 700 * p.length) (ts := xs.map T.str) rfl rfl (by decide) (by decide) (by omega) (by omega) hnd ?_)
      repeat (first | ((with_reducible apply ok_var); exact rfl) | ((with_reducible apply ok_calls); exact rfl) | ((with_reducible apply ok_tupL); exact Nat.le_of_ble_eq_true rfl) | ((with_reducible apply ok_lstL); exact Nat.le_of_ble_eq_true rfl) | ((with_reducible apply ok_lstC); exact Nat.le_of_ble_eq_true rfl) | (with_reducible apply ok_e2) | (with_reducible apply ok_c) | (with_reducible apply ok_cons) | (with_reducible apply ok_nil) | (with_reducible apply ok_ofL) | (with_reducible apply ok_call) | (with_reducible apply ok_meth) | (with_reducible apply ok_bV) | (with_reducible apply ok_bNot) | (with_reducible apply ok_bAnd) | (with_reducible apply ok_bOr) | (with_reducible apply ok_eAnd) | (with_reducible apply ok_eOr) | (with_reducible apply ok_eNot) | (with_reducible apply ok_eIf) | (with_reducible apply ok_iVal) | (with_reducible apply ok_range) | (with_reducible apply ok_range2) | (with_reducible apply ok_listRange) | (with_reducible apply ok_enum) | (with_reducible apply ok_bYes) | (with_reducible apply ok_mkL) | (with_reducible apply ok_mkC) | (with_reducible apply ok_ok) | (with_reducible apply ok_addI) | (with_reducible apply ok_gtI) | (with_reducible apply ok_geI) | (with_reducible apply ok_ltI) | (with_reducible apply ok_leI) | (with_reducible apply ok_leS) | (with_reducible apply ok_eqI) | (with_reducible apply ok_neI) | (with_reducible apply ok_eqS) | (with_reducible apply ok_neS) | (with_reducible apply ok_int) | (with_reducible apply ok_lenL) | (with_reducible apply ok_lenT) | (with_reducible apply ok_tupOfL) | (with_reducible apply ok_tupOfT) | (with_reducible apply bl_mk) | (with_reducible apply it_lst) | (with_reducible apply it_tup) | (with_reducible apply it_rls) | (with_reducible apply en_lst) | (with_reducible apply en_tup) | (with_reducible apply rt_seqOf) | (with_reducible apply nx_seqOf) | (with_reducible apply rt_of) | (with_reducible apply nx_of) | (with_reducible apply nx_nx) | (with_reducible apply rt_rt) | (with_reducible apply nx_nil) | (with_reducible apply rt_seqNil) | (with_reducible apply nx_asg) | (with_reducible apply ok_isNN))
      refine draw_ok hs5 (by omega) (by omega) (by omega) fun e m6 e0 e1 hs6 hf6 => ?_
      repeat (first | ((with_reducible apply ok_var); exact rfl) | ((with_reducible apply ok_calls); exact rfl) | ((with_reducible apply ok_tupL); exact Nat.le_of_ble_eq_true rfl) | ((with_reducible apply ok_lstL); exact Nat.le_of_ble_eq_true rfl) | ((with_reducible apply ok_lstC); exact Nat.le_of_ble_eq_true rfl) | (with_reducible apply ok_e2) | (with_reducible apply ok_c) | (with_reducible apply ok_cons) | (with_reducible apply ok_nil) | (with_reducible apply ok_ofL) | (with_reducible apply ok_call) | (with_reducible apply ok_meth) | (with_reducible apply ok_bV) | (with_reducible apply ok_bNot) | (with_reducible apply ok_bAnd) | (with_reducible apply ok_bOr) | (with_reducible apply ok_eAnd) | (with_reducible apply ok_eOr) | (with_reducible apply ok_eNot) | (with_reducible apply ok_eIf) | (with_reducible apply ok_iVal) | (with_reducible apply ok_range) | (with_reducible apply ok_range2) | (with_reducible apply ok_listRange) | (with_reducible apply ok_enum) | (with_reducible apply ok_bYes) | (with_reducible apply ok_mkL) | (with_reducible apply ok_mkC) | (with_reducible apply ok_ok) | (with_reducible apply ok_addI) | (with_reducible apply ok_gtI) | (with_reducible apply ok_geI) | (with_reducible apply ok_ltI) | (with_reducible apply ok_leI) | (with_reducible apply ok_leS) | (with_reducible apply ok_eqI) | (with_reducible apply ok_neI) | (with_reducible apply ok_eqS) | (with_reducible apply ok_neS) | (with_reducible apply ok_int) | (with_reducible apply ok_lenL) | (with_reducible apply ok_lenT) | (with_reducible apply ok_tupOfL) | (with_reducible apply ok_tupOfT) | (with_reducible apply bl_mk) | (with_reducible apply it_lst) | (with_reducible apply it_tup) | (with_reducible apply it_rls) | (with_reducible apply en_lst) | (with_reducible apply en_tup) | (with_reducible apply rt_seqOf) | (with_reducible apply nx_seqOf) | (with_reducible apply rt_of) | (with_reducible apply nx_of) | (with_reducible apply nx_nx) | (with_reducible apply rt_rt) | (with_reducible apply nx_nil) | (with_reducible apply rt_seqNil) | (with_reducible apply nx_asg) | (with_reducible apply ok_isNN))
      obtain ⟨n2, rfl⟩ := Int.eq_ofNat_of_zero_le e0
      refine rg_mk (by omega) (by omega) ⟨n2, rfl, by omega, by omega, hs6.mono (by omega), fun cs m7 hl7 hcs hs7 hf7 => ?_⟩
      repeat (first | ((with_reducible apply ok_var); exact rfl) | ((with_reducible apply ok_calls); exact rfl) | ((with_reducible apply ok_tupL); exact Nat.le_of_ble_eq_true rfl) | ((with_reducible apply ok_lstL); exact Nat.le_of_ble_eq_true rfl) | ((with_reducible apply ok_lstC); exact Nat.le_of_ble_eq_true rfl) | (with_reducible apply ok_e2) | (with_reducible apply ok_c) | (with_reducible apply ok_cons) | (with_reducible apply ok_nil) | (with_reducible apply ok_ofL) | (with_reducible apply ok_call) | (with_reducible apply ok_meth) | (with_reducible apply ok_bV) | (with_reducible apply ok_bNot) | (with_reducible apply ok_bAnd) | (with_reducible apply ok_bOr) | (with_reducible apply ok_eAnd) | (with_reducible apply ok_eOr) | (with_reducible apply ok_eNot) | (with_reducible apply ok_eIf) | (with_reducible apply ok_iVal) | (with_reducible apply ok_range) | (with_reducible apply ok_range2) | (with_reducible apply ok_listRange) | (with_reducible apply ok_enum) | (with_reducible apply ok_bYes) | (with_reducible apply ok_mkL) | (with_reducible apply ok_mkC) | (with_reducible apply ok_ok) | (with_reducible apply ok_addI) | (with_reducible apply ok_gtI) | (with_reducible apply ok_geI) | (with_reducible apply ok_ltI) | (with_reducible apply ok_leI) | (with_reducible apply ok_leS) | (with_reducible apply ok_eqI) | (with_reducible apply ok_neI) | (with_reducible apply ok_eqS) | (with_reducible apply ok_neS) | (with_reducible apply ok_int) | (with_reducible apply ok_lenL) | (with_reducible apply ok_lenT) | (with_reducible apply ok_tupOfL) | (with_reducible apply ok_tupOfT) | (with_reducible apply bl_mk) | (with_reducible apply it_lst) | (with_reducible apply it_tup) | (with_reducible apply it_rls) | (with_reducible apply en_lst) | (with_reducible apply en_tup) | (with_reducible apply rt_seqOf) | (with_reducible apply nx_seqOf) | (with_reducible apply rt_of) | (with_reducible apply nx_of) | (with_reducible apply nx_nx) | (with_reducible apply rt_rt) | (with_reducible apply nx_nil) | (with_reducible apply rt_seqNil) | (with_reducible apply nx_asg) | (with_reducible apply ok_isNN))
      try simp only [List.map_cons, List.map_nil, List.cons_append, List.nil_append, List.length_cons, List.length_nil, Nat.reduceAdd, Nat.reduceSub, List.replicate_succ, List.replicate_zero, List.set_cons_succ, List.set_cons_zero]
      have hm7 := hf7.cell (hf6.cell hm (by omega)) (by omega)
      refine ⟨isl hm7, ?_⟩
      repeat (first | ((with_reducible apply ok_var); exact rfl) | ((with_reducible apply ok_calls); exact rfl) | ((with_reducible apply ok_tupL); exact Nat.le_of_ble_eq_true rfl) | ((with_reducible apply ok_lstL); exact Nat.le_of_ble_eq_true rfl) | ((with_reducible apply ok_lstC); exact Nat.le_of_ble_eq_true rfl) | (with_reducible apply ok_e2) | (with_reducible apply ok_c) | (with_reducible apply ok_cons) | (with_reducible apply ok_nil) | (with_reducible apply ok_ofL) | (with_reducible apply ok_call) | (with_reducible apply ok_meth) | (with_reducible apply ok_bV) | (with_reducible apply ok_bNot) | (with_reducible apply ok_bAnd) | (with_reducible apply ok_bOr) | (with_reducible apply ok_eAnd) | (with_reducible apply ok_eOr) | (with_reducible apply ok_eNot) | (with_reducible apply ok_eIf) | (with_reducible apply ok_iVal) | (with_reducible apply ok_range) | (with_reducible apply ok_range2) | (with_reducible apply ok_listRange) | (with_reducible apply ok_enum) | (with_reducible apply ok_bYes) | (with_reducible apply ok_mkL) | (with_reducible apply ok_mkC) | (with_reducible apply ok_ok) | (with_reducible apply ok_addI) | (with_reducible apply ok_gtI) | (with_reducible apply ok_geI) | (with_reducible apply ok_ltI) | (with_reducible apply ok_leI) | (with_reducible apply ok_leS) | (with_reducible apply ok_eqI) | (with_reducible apply ok_neI) | (with_reducible apply ok_eqS) | (with_reducible apply ok_neS) | (with_reducible apply ok_int) | (with_reducible apply ok_lenL) | (with_reducible apply ok_lenT) | (with_reducible apply ok_tupOfL) | (with_reducible apply ok_tupOfT) | (with_reducible apply bl_mk) | (with_reducible apply it_lst) | (with_reducible apply it_tup) | (with_reducible apply it_rls) | (with_reducible apply en_lst) | (with_reducible apply en_tup) | (with_reducible apply rt_seqOf) | (with_reducible apply nx_seqOf) | (with_reducible apply rt_of) | (with_reducible apply nx_of) | (with_reducible apply nx_nx) | (with_reducible apply rt_rt) | (with_reducible apply nx_nil) | (with_reducible apply rt_seqNil) | (with_reducible apply nx_asg) | (with_reducible apply ok_isNN))
      refine pick_ok hs7 (by omega) (by omega) (by omega) fun st m8 hst hs8 hf8 => ?_
      repeat (first | ((with_reducible apply ok_var); exact rfl) | ((with_reducible apply ok_calls); exact rfl) | ((with_reducible apply ok_tupL); exact Nat.le_of_ble_eq_true rfl) | ((with_reducible apply ok_lstL); exact Nat.le_of_ble_eq_true rfl) | ((with_reducible apply ok_lstC); exact Nat.le_of_ble_eq_true rfl) | (with_reducible apply ok_e2) | (with_reducible apply ok_c) | (with_reducible apply ok_cons) | (with_reducible apply ok_nil) | (with_reducible apply ok_ofL) | (with_reducible apply ok_call) | (with_reducible apply ok_meth) | (with_reducible apply ok_bV) | (with_reducible apply ok_bNot) | (with_reducible apply ok_bAnd) | (with_reducible apply ok_bOr) | (with_reducible apply ok_eAnd) | (with_reducible apply ok_eOr) | (with_reducible apply ok_eNot) | (with_reducible apply ok_eIf) | (with_reducible apply ok_iVal) | (with_reducible apply ok_range) | (with_reducible apply ok_range2) | (with_reducible apply ok_listRange) | (with_reducible apply ok_enum) | (with_reducible apply ok_bYes) | (with_reducible apply ok_mkL) | (with_reducible apply ok_mkC) | (with_reducible apply ok_ok) | (with_reducible apply ok_addI) | (with_reducible apply ok_gtI) | (with_reducible apply ok_geI) | (with_reducible apply ok_ltI) | (with_reducible apply ok_leI) | (with_reducible apply ok_leS) | (with_reducible apply ok_eqI) | (with_reducible apply ok_neI) | (with_reducible apply ok_eqS) | (with_reducible apply ok_neS) | (with_reducible apply ok_int) | (with_reducible apply ok_lenL) | (with_reducible apply ok_lenT) | (with_reducible apply ok_tupOfL) | (with_reducible apply ok_tupOfT) | (with_reducible apply bl_mk) | (with_reducible apply it_lst) | (with_reducible apply it_tup) | (with_reducible apply it_rls) | (with_reducible apply en_lst) | (with_reducible apply en_tup) | (with_reducible apply rt_seqOf) | (with_reducible apply nx_seqOf) | (with_reducible apply rt_of) | (with_reducible apply nx_of) | (with_reducible apply nx_nx) | (with_reducible apply rt_rt) | (with_reducible apply nx_nil) | (with_reducible apply rt_seqNil) | (with_reducible apply nx_asg) | (with_reducible apply ok_isNN))
      have hm8 := hf8.cell hm7 (by omega)
      have hl8 : m3.length < m8.length := (List.getElem?_eq_some_iff.mp hm8).1
      refine ok_app hm8 (by unfold lim; omega) ?_
      repeat (first | ((with_reducible apply ok_var); exact rfl) | ((with_reducible apply ok_calls); exact rfl) | ((with_reducible apply ok_tupL); exact Nat.le_of_ble_eq_true rfl) | ((with_reducible apply ok_lstL); exact Nat.le_of_ble_eq_true rfl) | ((with_reducible apply ok_lstC); exact Nat.le_of_ble_eq_true rfl) | (with_reducible apply ok_e2) | (with_reducible apply ok_c) | (with_reducible apply ok_cons) | (with_reducible apply ok_nil) | (with_reducible apply ok_ofL) | (with_reducible apply ok_call) | (with_reducible apply ok_meth) | (with_reducible apply ok_bV) | (with_reducible apply ok_bNot) | (with_reducible apply ok_bAnd) | (with_reducible apply ok_bOr) | (with_reducible apply ok_eAnd) | (with_reducible apply ok_eOr) | (with_reducible apply ok_eNot) | (with_reducible apply ok_eIf) | (with_reducible apply ok_iVal) | (with_reducible apply ok_range) | (with_reducible apply ok_range2) | (with_reducible apply ok_listRange) | (with_reducible apply ok_enum) | (with_reducible apply ok_bYes) | (with_reducible apply ok_mkL) | (with_reducible apply ok_mkC) | (with_reducible apply ok_ok) | (with_reducible apply ok_addI) | (with_reducible apply ok_gtI) | (with_reducible apply ok_geI) | (with_reducible apply ok_ltI) | (with_reducible apply ok_leI) | (with_reducible apply ok_leS) | (with_reducible apply ok_eqI) | (with_reducible apply ok_neI) | (with_reducible apply ok_eqS) | (with_reducible apply ok_neS) | (with_reducible apply ok_int) | (with_reducible apply ok_lenL) | (with_reducible apply ok_lenT) | (with_reducible apply ok_tupOfL) | (with_reducible apply ok_tupOfT) | (with_reducible apply bl_mk) | (with_reducible apply it_lst) | (with_reducible apply it_tup) | (with_reducible apply it_rls) | (with_reducible apply en_lst) | (with_reducible apply en_tup) | (with_reducible apply rt_seqOf) | (with_reducible apply nx_seqOf) | (with_reducible apply rt_of) | (with_reducible apply nx_of) | (with_reducible apply nx_nx) | (with_reducible apply rt_rt) | (with_reducible apply nx_nil) | (with_reducible apply rt_seqNil) | (with_reducible apply nx_asg) | (with_reducible apply ok_isNN))
      refine ⟨cls ++ [.tup [st, .tup cs]], _, _, _, rfl, by rw [List.getElem?_set_self hl8], by simp [hl], ?_, ?_, (((hf5.trans hf6).trans hf7).trans hf8).setNew (Nat.le_refl _) _⟩
      · intro u hu
        rcases List.mem_append.mp hu with q | q
        · exact hcl u q
        · rw [List.mem_singleton.mp q]; exact ⟨st, cs, rfl, hst, by omega, hcs⟩
      · refine Src.mono (hs8.set (by omega) _) ?_
        simp; omega
    · rintro env m5 ⟨cls, w7, w8, w6, rfl, hm, hl, hcl, hs5, hf5⟩
      rw [rng_len] at hl hs5
      refine rt_frz (frz_of rfl hm) ?_
      try simp only [List.map_cons, List.map_nil, List.cons_append, List.nil_append, List.length_cons, List.length_nil, Nat.reduceAdd, Nat.reduceSub, List.replicate_succ, List.replicate_zero, List.set_cons_succ, List.set_cons_zero]
      repeat (first | ((with_reducible apply ok_var); exact rfl) | ((with_reducible apply ok_calls); exact rfl) | ((with_reducible apply ok_tupL); exact Nat.le_of_ble_eq_true rfl) | ((with_reducible apply ok_lstL); exact Nat.le_of_ble_eq_true rfl) | ((with_reducible apply ok_lstC); exact Nat.le_of_ble_eq_true rfl) | (with_reducible apply ok_e2) | (with_reducible apply ok_c) | (with_reducible apply ok_cons) | (with_reducible apply ok_nil) | (with_reducible apply ok_ofL) | (with_reducible apply ok_call) | (with_reducible apply ok_meth) | (with_reducible apply ok_bV) | (with_reducible apply ok_bNot) | (with_reducible apply ok_bAnd) | (with_reducible apply ok_bOr) | (with_reducible apply ok_eAnd) | (with_reducible apply ok_eOr) | (with_reducible apply ok_eNot) | (with_reducible apply ok_eIf) | (with_reducible apply ok_iVal) | (with_reducible apply ok_range) | (with_reducible apply ok_range2) | (with_reducible apply ok_listRange) | (with_reducible apply ok_enum) | (with_reducible apply ok_bYes) | (with_reducible apply ok_mkL) | (with_reducible apply ok_mkC) | (with_reducible apply ok_ok) | (with_reducible apply ok_addI) | (with_reducible apply ok_gtI) | (with_reducible apply ok_geI) | (with_reducible apply ok_ltI) | (with_reducible apply ok_leI) | (with_reducible apply ok_leS) | (with_reducible apply ok_eqI) | (with_reducible apply ok_neI) | (with_reducible apply ok_eqS) | (with_reducible apply ok_neS) | (with_reducible apply ok_int) | (with_reducible apply ok_lenL) | (with_reducible apply ok_lenT) | (with_reducible apply ok_tupOfL) | (with_reducible apply ok_tupOfT) | (with_reducible apply bl_mk) | (with_reducible apply it_lst) | (with_reducible apply it_tup) | (with_reducible apply it_rls) | (with_reducible apply en_lst) | (with_reducible apply en_tup) | (with_reducible apply rt_seqOf) | (with_reducible apply nx_seqOf) | (with_reducible apply rt_of) | (with_reducible apply nx_of) | (with_reducible apply nx_nx) | (with_reducible apply rt_rt) | (with_reducible apply nx_nil) | (with_reducible apply rt_seqNil) | (with_reducible apply nx_asg) | (with_reducible apply ok_isNN))
      refine pick_ok (hs5.set (by omega) _) (by omega) (by omega) (by omega) fun st m8 hst hs8 hf8 => ?_
      repeat (first | ((with_reducible apply ok_var); exact rfl) | ((with_reducible apply ok_calls); exact rfl) | ((with_reducible apply ok_tupL); exact Nat.le_of_ble_eq_true rfl) | ((with_reducible apply ok_lstL); exact Nat.le_of_ble_eq_true rfl) | ((with_reducible apply ok_lstC); exact Nat.le_of_ble_eq_true rfl) | (with_reducible apply ok_e2) | (with_reducible apply ok_c) | (with_reducible apply ok_cons) | (with_reducible apply ok_nil) | (with_reducible apply ok_ofL) | (with_reducible apply ok_call) | (with_reducible apply ok_meth) | (with_reducible apply ok_bV) | (with_reducible apply ok_bNot) | (with_reducible apply ok_bAnd) | (with_reducible apply ok_bOr) | (with_reducible apply ok_eAnd) | (with_reducible apply ok_eOr) | (with_reducible apply ok_eNot) | (with_reducible apply ok_eIf) | (with_reducible apply ok_iVal) | (with_reducible apply ok_range) | (with_reducible apply ok_range2) | (with_reducible apply ok_listRange) | (with_reducible apply ok_enum) | (with_reducible apply ok_bYes) | (with_reducible apply ok_mkL) | (with_reducible apply ok_mkC) | (with_reducible apply ok_ok) | (with_reducible apply ok_addI) | (with_reducible apply ok_gtI) | (with_reducible apply ok_geI) | (with_reducible apply ok_ltI) | (with_reducible apply ok_leI) | (with_reducible apply ok_leS) | (with_reducible apply ok_eqI) | (with_reducible apply ok_neI) | (with_reducible apply ok_eqS) | (with_reducible apply ok_neS) | (with_reducible apply ok_int) | (with_reducible apply ok_lenL) | (with_reducible apply ok_lenT) | (with_reducible apply ok_tupOfL) | (with_reducible apply ok_tupOfT) | (with_reducible apply bl_mk) | (with_reducible apply it_lst) | (with_reducible apply it_tup) | (with_reducible apply it_rls) | (with_reducible apply en_lst) | (with_reducible apply en_tup) | (with_reducible apply rt_seqOf) | (with_reducible apply nx_seqOf) | (with_reducible apply rt_of) | (with_reducible apply nx_of) | (with_reducible apply nx_nx) | (with_reducible apply rt_rt) | (with_reducible apply nx_nil) | (with_reducible apply rt_seqNil) | (with_reducible apply nx_asg) | (with_reducible apply ok_isNN))
      exact k hand parts cls st m8 ⟨a1, a2, hp, a3, by omega, hcl, hst⟩ (hs8.mono (by omega)) ((hf3.trans (hf5.setNew (Nat.le_refl _) _)).trans hf8)
end M

namespace M
open PySem hiding Env
open L2 Ev G
structure Cond where
  lo : Int
  mo : Option Int
  names : List Str
def moT : Option Int → T
  | none => .non
  | some h => .int h
def Cond.t (c : Cond) : T := .tup [.int c.lo, moT c.mo, .tup (c.names.map T.str)]
structure Clause where
  st : Str
  cs : List Cond
def Clause.t (c : Clause) : T := .tup [.str c.st, .tup (c.cs.map Cond.t)]
structure Cond.Fine (xs : List Str) (c : Cond) : Prop where
  l0 : 0 ≤ c.lo
  l1 : c.lo ≤ 9
  mo : ∀ h, c.mo = some h → 0 ≤ h ∧ h ≤ 9
  ne : c.names ≠ []
  nd : c.names.Nodup
  sub : ∀ x ∈ c.names, x ∈ xs
structure Clause.Fine (xs : List Str) (c : Clause) : Prop where
  st : c.st ∈ xs
  few : c.cs.length ≤ 4
  cs : ∀ d ∈ c.cs, d.Fine xs
theorem strs_of {xs : List Str} : ∀ {us : List T}, (∀ u ∈ us, u ∈ xs.map T.str) → ∃ ys : List Str, us = ys.map T.str ∧ ∀ y ∈ ys, y ∈ xs
  | [], _ => ⟨[], rfl, by simp⟩
  | u :: us, h => by
    obtain ⟨y, hy, rfl⟩ := List.mem_map.mp (h u (by simp))
    obtain ⟨ys, rfl, hys⟩ := strs_of (us := us) fun v hv => h v (by simp [hv])
    refine ⟨y :: ys, rfl, fun z hz => ?_⟩
    rcases List.mem_cons.mp hz with q | q
    · rw [q]; exact hy
    · exact hys z q
theorem nodup_of {xs : List Str} (h : (xs.map T.str).Nodup) : xs.Nodup := by
  unfold List.Nodup at h ⊢
  rw [List.pairwise_map] at h
  exact h.imp fun {a b} hn e => hn (by rw [e])
theorem cond_of {xs : List Str} {t : T} (h : CondT (xs.map T.str) t) : ∃ c : Cond, t = c.t ∧ c.Fine xs := by
  obtain ⟨lo, mo, us, rfl, l0, l1, hmo, hne, hnd, hsub, _⟩ := h
  obtain ⟨ys, rfl, hys⟩ := strs_of hsub
  rcases hmo with rfl | ⟨h, rfl, h0, h1⟩
  · exact ⟨⟨lo, none, ys⟩, rfl, l0, l1, (fun h e => by cases e), (fun e => hne (by rw [show ys = [] from e]; rfl)), nodup_of hnd, hys⟩
  · exact ⟨⟨lo, some h, ys⟩, rfl, l0, l1, (fun h' e => by cases e; exact ⟨h0, h1⟩), (fun e => hne (by rw [show ys = [] from e]; rfl)), nodup_of hnd, hys⟩
theorem conds_of {xs : List Str} : ∀ {ts : List T}, (∀ t ∈ ts, CondT (xs.map T.str) t) → ∃ cs : List Cond, ts = cs.map Cond.t ∧ ∀ c ∈ cs, c.Fine xs
  | [], _ => ⟨[], rfl, by simp⟩
  | t :: ts, h => by
    obtain ⟨c, rfl, hc⟩ := cond_of (h t (by simp))
    obtain ⟨cs, rfl, hcs⟩ := conds_of (ts := ts) fun u hu => h u (by simp [hu])
    refine ⟨c :: cs, rfl, fun z hz => ?_⟩
    rcases List.mem_cons.mp hz with q | q
    · rw [q]; exact hc
    · exact hcs z q
theorem clause_of {xs : List Str} {k : Nat} {t : T} (hk : k ≤ 4) (h : ClauseT k (xs.map T.str) t) : ∃ c : Clause, t = c.t ∧ c.Fine xs := by
  obtain ⟨st, cs, rfl, hst, hl, hcs⟩ := h
  obtain ⟨x, hx, rfl⟩ := List.mem_map.mp hst
  obtain ⟨ds, rfl, hds⟩ := conds_of hcs
  exact ⟨⟨x, ds⟩, rfl, hx, by simp at hl; show ds.length ≤ 4; omega, hds⟩
theorem clauses_of {xs : List Str} {k : Nat} (hk : k ≤ 4) : ∀ {ts : List T}, (∀ t ∈ ts, ClauseT k (xs.map T.str) t) → ∃ cl : List Clause, ts = cl.map Clause.t ∧ ∀ c ∈ cl, c.Fine xs
  | [], _ => ⟨[], rfl, by simp⟩
  | t :: ts, h => by
    obtain ⟨c, rfl, hc⟩ := clause_of hk (h t (by simp))
    obtain ⟨cs, rfl, hcs⟩ := clauses_of hk (ts := ts) fun u hu => h u (by simp [hu])
    refine ⟨c :: cs, rfl, fun z hz => ?_⟩
    rcases List.mem_cons.mp hz with q | q
    · rw [q]; exact hc
    · exact hcs z q
def cnt (ws ss : List Str) : Nat := (ss.filter fun x => decide (x ∈ ws)).length
def holdsB (c : Cond) (ss : List Str) : Bool := decide (c.lo ≤ (cnt c.names ss : Int)) && (match c.mo with
  | none => true
  | some h => decide ((cnt c.names ss : Int) ≤ h))
def hit (ss : List Str) (c : Clause) : Bool := c.cs.all fun d => holdsB d ss
def idx (ss : List Str) : List Clause → Nat
  | [] => 0
  | c :: cl => if hit ss c then 0 else idx ss cl + 1
theorem filter_strs (ws ss : List Str) : ((ss.map T.str).filter fun t => decide (strOf t ∈ ws)).length = cnt ws ss := by
  unfold cnt
  rw [List.filter_map, List.length_map]; rfl
/-- the number of the states that are among others -/
theorem count_ok {env : Env} {m : Mem} {sl : List Nat} {i j k : Nat} {ws ss : List Str} {st : T} {P : T → Mem → Prop} (g1 : env[i]? = some (some st)) (g2 : (wipeE env sl)[k]? = some (some (.tup (ws.map T.str)))) (hj : j < (wipeE env sl).length) (hk : k ≠ j) (hs : items st = some (ss.map T.str)) (hl : ss.length < 100000)
    (h : P (.int (cnt ws ss)) m) : Ok (eOfL gLen (lCons (eComp false sl (iVal (eVar i)) (gN j) (bV (e2 (gIn false) (eVar j) (eVar k))) (eVar j)) lNil) env m) P := by
  refine ok_ofL (ok_cons (ok_compP (fun t => decide (strOf t ∈ ws)) (fun t => t) ?_))
  refine ok_iVal (ok_var g1 ⟨_, hs, ?_, ?_, ?_⟩)
  · rw [List.length_map]; unfold lim; omega
  · intro t ht
    obtain ⟨x, hx, rfl⟩ := List.mem_map.mp ht
    refine ⟨_, rfl, ?_⟩
    have g3 : ((wipeE env sl).set j (some (T.str x)))[j]? = some (some (T.str x)) := List.getElem?_set_self hj
    refine ok_bV (ok_e2 (ok_var g3 (ok_var (t := .tup (ws.map T.str)) ?_ (ok_inS rfl (bl_mk ⟨rfl, rfl, fun _ => ok_var g3 ⟨rfl, rfl⟩⟩)))))
    rw [List.getElem?_set_ne (by omega)]; exact g2
  · refine ok_mkL (ok_nil (ok_lenL ?_))
    rw [List.map_id', filter_strs]; exact h
theorem asIntLe (i : Int) (h : Int) : (decide (i ≤ h)) = decide (i ≤ h) := rfl
theorem holds_ok {m : Mem} {c : Cond} {st : T} {ss : List Str} {P : T → Mem → Prop} (hs : items st = some (ss.map T.str)) (hl : ss.length < 100000) (h : P (.bl (holdsB c ss)) m) : Ok (F_holds [c.t, st] m) P := by
  unfold F_holds B_holds
  refine ok_fn ?_
  try simp only [List.map_cons, List.map_nil, List.cons_append, List.nil_append, List.length_cons, List.length_nil, Nat.reduceAdd, Nat.reduceSub, List.replicate_succ, List.replicate_zero, List.set_cons_succ, List.set_cons_zero]
  refine rt_seq (nx_asg (ok_var rfl ⟨_, rfl, ?_⟩))
  try simp only [List.map_cons, List.map_nil, List.cons_append, List.nil_append, List.length_cons, List.length_nil, Nat.reduceAdd, Nat.reduceSub, List.replicate_succ, List.replicate_zero, List.set_cons_succ, List.set_cons_zero]
  refine rt_seqOf (count_ok (i := 1) (j := 6) (k := 4) (ws := c.names) rfl rfl (by simp [wipeE]) (by decide) hs hl ?_)
  repeat (first | ((with_reducible apply ok_var); exact rfl) | ((with_reducible apply ok_calls); exact rfl) | ((with_reducible apply ok_tupL); exact Nat.le_of_ble_eq_true rfl) | ((with_reducible apply ok_lstL); exact Nat.le_of_ble_eq_true rfl) | ((with_reducible apply ok_lstC); exact Nat.le_of_ble_eq_true rfl) | (with_reducible apply ok_e2) | (with_reducible apply ok_c) | (with_reducible apply ok_cons) | (with_reducible apply ok_nil) | (with_reducible apply ok_ofL) | (with_reducible apply ok_call) | (with_reducible apply ok_meth) | (with_reducible apply ok_bV) | (with_reducible apply ok_bNot) | (with_reducible apply ok_bAnd) | (with_reducible apply ok_bOr) | (with_reducible apply ok_eAnd) | (with_reducible apply ok_eOr) | (with_reducible apply ok_eNot) | (with_reducible apply ok_eIf) | (with_reducible apply ok_iVal) | (with_reducible apply ok_range) | (with_reducible apply ok_range2) | (with_reducible apply ok_listRange) | (with_reducible apply ok_enum) | (with_reducible apply ok_bYes) | (with_reducible apply ok_mkL) | (with_reducible apply ok_mkC) | (with_reducible apply ok_ok) | (with_reducible apply ok_addI) | (with_reducible apply ok_gtI) | (with_reducible apply ok_geI) | (with_reducible apply ok_ltI) | (with_reducible apply ok_leI) | (with_reducible apply ok_leS) | (with_reducible apply ok_eqI) | (with_reducible apply ok_neI) | (with_reducible apply ok_eqS) | (with_reducible apply ok_neS) | (with_reducible apply ok_int) | (with_reducible apply ok_lenL) | (with_reducible apply ok_lenT) | (with_reducible apply ok_tupOfL) | (with_reducible apply ok_tupOfT) | (with_reducible apply bl_mk) | (with_reducible apply it_lst) | (with_reducible apply it_tup) | (with_reducible apply it_rls) | (with_reducible apply en_lst) | (with_reducible apply en_tup) | (with_reducible apply rt_seqOf) | (with_reducible apply nx_seqOf) | (with_reducible apply rt_of) | (with_reducible apply nx_of) | (with_reducible apply nx_nx) | (with_reducible apply rt_rt) | (with_reducible apply nx_nil) | (with_reducible apply rt_seqNil) | (with_reducible apply nx_asg) | (with_reducible apply ok_isNN))
  unfold holdsB at h
  by_cases q : c.lo ≤ (cnt c.names ss : Int)
  · rw [decide_eq_true q, if_pos rfl]
    rw [decide_eq_true q, Bool.true_and] at h
    refine ok_eOr (ok_e2 (ok_var rfl (ok_c ?_)))
    cases hm : c.mo with
    | none =>
      rw [hm] at h
      refine ok_isNN (bl_mk ?_)
      rw [if_pos rfl]
      repeat (first | ((with_reducible apply ok_var); exact rfl) | ((with_reducible apply ok_calls); exact rfl) | ((with_reducible apply ok_tupL); exact Nat.le_of_ble_eq_true rfl) | ((with_reducible apply ok_lstL); exact Nat.le_of_ble_eq_true rfl) | ((with_reducible apply ok_lstC); exact Nat.le_of_ble_eq_true rfl) | (with_reducible apply ok_e2) | (with_reducible apply ok_c) | (with_reducible apply ok_cons) | (with_reducible apply ok_nil) | (with_reducible apply ok_ofL) | (with_reducible apply ok_call) | (with_reducible apply ok_meth) | (with_reducible apply ok_bV) | (with_reducible apply ok_bNot) | (with_reducible apply ok_bAnd) | (with_reducible apply ok_bOr) | (with_reducible apply ok_eAnd) | (with_reducible apply ok_eOr) | (with_reducible apply ok_eNot) | (with_reducible apply ok_eIf) | (with_reducible apply ok_iVal) | (with_reducible apply ok_range) | (with_reducible apply ok_range2) | (with_reducible apply ok_listRange) | (with_reducible apply ok_enum) | (with_reducible apply ok_bYes) | (with_reducible apply ok_mkL) | (with_reducible apply ok_mkC) | (with_reducible apply ok_ok) | (with_reducible apply ok_addI) | (with_reducible apply ok_gtI) | (with_reducible apply ok_geI) | (with_reducible apply ok_ltI) | (with_reducible apply ok_leI) | (with_reducible apply ok_leS) | (with_reducible apply ok_eqI) | (with_reducible apply ok_neI) | (with_reducible apply ok_eqS) | (with_reducible apply ok_neS) | (with_reducible apply ok_int) | (with_reducible apply ok_lenL) | (with_reducible apply ok_lenT) | (with_reducible apply ok_tupOfL) | (with_reducible apply ok_tupOfT) | (with_reducible apply bl_mk) | (with_reducible apply it_lst) | (with_reducible apply it_tup) | (with_reducible apply it_rls) | (with_reducible apply en_lst) | (with_reducible apply en_tup) | (with_reducible apply rt_seqOf) | (with_reducible apply nx_seqOf) | (with_reducible apply rt_of) | (with_reducible apply nx_of) | (with_reducible apply nx_nx) | (with_reducible apply rt_rt) | (with_reducible apply nx_nil) | (with_reducible apply rt_seqNil) | (with_reducible apply nx_asg) | (with_reducible apply ok_isNN))
      exact h
    | some b =>
      rw [hm] at h
      refine ok_isN (t := .int b) (fun e => by cases e) (bl_mk ?_)
      rw [if_neg (by decide)]
      refine ok_e2 (ok_var rfl (ok_var (t := .int b) rfl (ok_leI (rt_rt h))))
  · rw [decide_eq_false q, if_neg (by decide)]
    rw [decide_eq_false q, Bool.false_and] at h
    repeat (first | ((with_reducible apply ok_var); exact rfl) | ((with_reducible apply ok_calls); exact rfl) | ((with_reducible apply ok_tupL); exact Nat.le_of_ble_eq_true rfl) | ((with_reducible apply ok_lstL); exact Nat.le_of_ble_eq_true rfl) | ((with_reducible apply ok_lstC); exact Nat.le_of_ble_eq_true rfl) | (with_reducible apply ok_e2) | (with_reducible apply ok_c) | (with_reducible apply ok_cons) | (with_reducible apply ok_nil) | (with_reducible apply ok_ofL) | (with_reducible apply ok_call) | (with_reducible apply ok_meth) | (with_reducible apply ok_bV) | (with_reducible apply ok_bNot) | (with_reducible apply ok_bAnd) | (with_reducible apply ok_bOr) | (with_reducible apply ok_eAnd) | (with_reducible apply ok_eOr) | (with_reducible apply ok_eNot) | (with_reducible apply ok_eIf) | (with_reducible apply ok_iVal) | (with_reducible apply ok_range) | (with_reducible apply ok_range2) | (with_reducible apply ok_listRange) | (with_reducible apply ok_enum) | (with_reducible apply ok_bYes) | (with_reducible apply ok_mkL) | (with_reducible apply ok_mkC) | (with_reducible apply ok_ok) | (with_reducible apply ok_addI) | (with_reducible apply ok_gtI) | (with_reducible apply ok_geI) | (with_reducible apply ok_ltI) | (with_reducible apply ok_leI) | (with_reducible apply ok_leS) | (with_reducible apply ok_eqI) | (with_reducible apply ok_neI) | (with_reducible apply ok_eqS) | (with_reducible apply ok_neS) | (with_reducible apply ok_int) | (with_reducible apply ok_lenL) | (with_reducible apply ok_lenT) | (with_reducible apply ok_tupOfL) | (with_reducible apply ok_tupOfT) | (with_reducible apply bl_mk) | (with_reducible apply it_lst) | (with_reducible apply it_tup) | (with_reducible apply it_rls) | (with_reducible apply en_lst) | (with_reducible apply en_tup) | (with_reducible apply rt_seqOf) | (with_reducible apply nx_seqOf) | (with_reducible apply rt_of) | (with_reducible apply nx_of) | (with_reducible apply nx_nx) | (with_reducible apply rt_rt) | (with_reducible apply nx_nil) | (with_reducible apply rt_seqNil) | (with_reducible apply nx_asg) | (with_reducible apply ok_isNN))
    exact h
/-- a comprehension over things that come of others -/
theorem ok_compM {α : Type} {env : Env} {m : Mem} {P : T → Mem → Prop} {fa : EF} {mu : Bool} {sl : List Nat} {fi : LF} {gt : GF} {tt : BF} (xs : List α) (f : α → T) (x : α → Bool) (y : α → T)
    (h : Ok (fi env m) fun ts m1 => ts = xs.map f ∧ xs.length ≤ lim ∧ (∀ a ∈ xs, ∃ env1, gt (f a) (wipeE env sl) = some env1 ∧ Ok (tt env1 m1) fun b m2 => m2 = m1 ∧ b = x a ∧ (b = true → Ok (fa env1 m1) fun z m3 => m3 = m1 ∧ z = y a)) ∧
      Ok (mk mu ((xs.filter x).map y) m1) P) : Ok (eComp mu sl fi gt tt fa env m) P := by
  obtain ⟨ts, m1, e, rfl, hl, st, t, m2, e2, h⟩ := h
  have key : ∀ zs : List α, (∀ a ∈ zs, a ∈ xs) → cLoop gt tt fa (wipeE env sl) (zs.map f) m1 = .ok ((zs.filter x).map y) m1 := by
    intro zs
    induction zs with
    | nil => intro _; rfl
    | cons a zs ih =>
      intro hz
      have ih := ih fun b hb => hz b (by simp [hb])
      obtain ⟨env1, e1, b, m3, e3, rfl, rfl, h3⟩ := st a (hz a (by simp))
      rw [List.map_cons]
      unfold cLoop
      cases hb : x a with
      | true =>
        rw [hb] at e3
        obtain ⟨z, m4, e4, rfl, rfl⟩ := h3 hb
        simp only [e1, e3, e4, ih, List.filter_cons, hb, if_true, List.map_cons]
      | false =>
        rw [hb] at e3
        simp only [e1, e3, ih, List.filter_cons, hb, Bool.false_eq_true, if_false]
  refine ⟨t, m2, ?_, h⟩
  unfold eComp
  simp only [e, Out.bind, List.length_map, if_pos hl, key xs (fun _ h => h), e2]
/-! ### counting -/
def Sx (o : SOut) (N : Env → Mem → Prop) (P : T → Mem → Prop) : Prop := Nx o N ∨ Rt o P
theorem sx_seq {f g : SF} {env : Env} {m : Mem} {N : Env → Mem → Prop} {P : T → Mem → Prop} (h : Nx (f env m) fun e m1 => Sx (g e m1) N P) : Sx (sSeq f g env m) N P := by
  obtain ⟨e, m1, h1, h2⟩ := h
  unfold sSeq; rw [h1]; exact h2
theorem sx_if {b : BF} {f g : SF} {env : Env} {m : Mem} {N : Env → Mem → Prop} {P : T → Mem → Prop} (h : Ok (b env m) fun x m1 => if x then Sx (f env m1) N P else Sx (g env m1) N P) : Sx (sIf b f g env m) N P := by
  obtain ⟨t, m', e, p⟩ := h
  unfold sIf; rw [e]
  cases t <;> exact p
theorem rt_loop {gt : GF} {body : SF} {R : List T → Env → Mem → Prop} {P : T → Mem → Prop} : ∀ (ts pre : List T) (env : Env) (m : Mem), R pre env m →
    (∀ (p : List T) (t : T) (q : List T) (env : Env) (m : Mem), pre ++ ts = p ++ t :: q → R p env m → ∃ env1, gt t env = some env1 ∧ Sx (body env1 m) (R (p ++ [t])) P) →
    Sx (loop gt body ts env m) (R (pre ++ ts)) P
  | [], pre, env, m, h, _ => .inl ⟨env, m, rfl, by simpa using h⟩
  | t :: ts, pre, env, m, h, st => by
    obtain ⟨env1, e1, hh⟩ := st pre t ts env m rfl h
    rcases hh with ⟨env2, m2, e2, h2⟩ | ⟨v, m2, e2, h2⟩
    · have ih := rt_loop (R := R) (P := P) ts (pre ++ [t]) env2 m2 h2 (fun p u q env m e => st p u q env m (by rw [← e]; simp))
      have e3 : loop gt body (t :: ts) env m = loop gt body ts env2 m2 := by
        conv => lhs; unfold loop
        simp only [e1, e2]
      rw [e3]
      simpa using ih
    · refine .inr ⟨v, m2, ?_, h2⟩
      unfold loop; simp only [e1, e2]
theorem rt_seqFor {env : Env} {m : Mem} {P : T → Mem → Prop} {fi : LF} {gt : GF} {body k : SF} (R : List T → Env → Mem → Prop)
    (h : Ok (fi env m) fun ts m1 => R [] env m1 ∧ (∀ (p : List T) (t : T) (q : List T) (env2 : Env) (m2 : Mem), ts = p ++ t :: q → R p env2 m2 → ∃ env3, gt t env2 = some env3 ∧ Sx (body env3 m2) (R (p ++ [t])) P) ∧ ∀ env2 m2, R ts env2 m2 → Rt (k env2 m2) P) : Rt (sSeq (sFor fi gt body) k env m) P := by
  obtain ⟨ts, m1, e, h0, st, h⟩ := h
  have e3 : sFor fi gt body env m = loop gt body ts env m1 := by unfold sFor; simp only [e]
  rcases rt_loop ts [] env m1 h0 st with ⟨env2, m2, e2, h2⟩ | ⟨v, m2, e2, h2⟩
  · unfold sSeq; rw [e3, e2]; exact h env2 m2 h2
  · refine ⟨v, m2, ?_, h2⟩
    unfold sSeq; rw [e3, e2]
theorem enum_at : ∀ {ts : List T} {n : Nat} {p : List T} {t : T} {q : List T}, enumT n ts = p ++ t :: q → ∃ u, ts[p.length]? = some u ∧ t = .tup [.int ((n + p.length : Nat) : Int), u] ∧ (p ++ [t]).length = p.length + 1
  | [], _, p, _, _, e => by cases p <;> cases e
  | u :: ts, n, [], t, q, e => by
    unfold enumT at e
    rw [List.nil_append] at e
    injection e with e1 e2
    exact ⟨u, rfl, by rw [← e1]; rfl, rfl⟩
  | u :: ts, n, v :: p, t, q, e => by
    unfold enumT at e
    rw [List.cons_append] at e
    injection e with e1 e2
    obtain ⟨w, h1, h2, _⟩ := enum_at e2
    refine ⟨w, by simpa using h1, ?_, by simp⟩
    rw [h2]
    have : n + 1 + p.length = n + (v :: p).length := by simp; omega
    rw [this]
theorem enum_len : ∀ (ts : List T) (n : Nat), (enumT n ts).length = ts.length
  | [], _ => rfl
  | t :: ts, n => by unfold enumT; simp [enum_len ts (n + 1)]
/-- none of the first k clauses counts -/
def NoHit (ss : List Str) (cl : List Clause) (k : Nat) : Prop := ∀ i c, i < k → cl[i]? = some c → hit ss c = false
theorem idx_hit {ss : List Str} : ∀ {cl : List Clause} {k : Nat} {c : Clause}, NoHit ss cl k → cl[k]? = some c → hit ss c = true → idx ss cl = k
  | [], _, _, _, e, _ => by simp at e
  | d :: cl, 0, c, _, e, h => by
    have : d = c := by simpa using e
    subst this
    unfold idx; rw [h]; rfl
  | d :: cl, k + 1, c, n, e, h => by
    have hd := n 0 d (by omega) rfl
    have ih := idx_hit (cl := cl) (k := k) (c := c) (fun i x hi hx => n (i + 1) x (by omega) (by simpa using hx)) (by simpa using e) h
    unfold idx; rw [hd, ih]; rfl
theorem idx_none {ss : List Str} : ∀ {cl : List Clause}, NoHit ss cl cl.length → idx ss cl = cl.length
  | [], _ => rfl
  | d :: cl, n => by
    have hd := n 0 d (by simp) rfl
    have ih := idx_none (cl := cl) (fun i x hi hx => n (i + 1) x (by simp; omega) (by simpa using hx))
    unfold idx; rw [hd, ih]; rfl
theorem NoHit.succ {ss : List Str} {cl : List Clause} {k : Nat} {c : Clause} (n : NoHit ss cl k) (e : cl[k]? = some c) (h : hit ss c = false) : NoHit ss cl (k + 1) := by
  intro i d hi hd
  rcases Nat.lt_succ_iff_lt_or_eq.mp hi with q | q
  · exact n i d q hd
  · subst q; rw [e] at hd; cases hd; exact h
theorem idx_le {ss : List Str} : ∀ cl : List Clause, idx ss cl ≤ cl.length
  | [] => Nat.le_refl _
  | c :: cl => by
    have := idx_le (ss := ss) cl
    unfold idx
    split <;> simp <;> omega
theorem map_at {cl : List Clause} {i : Nat} {u : T} (h : (cl.map Clause.t)[i]? = some u) : ∃ c, cl[i]? = some c ∧ u = c.t := by
  rw [List.getElem?_map] at h
  obtain ⟨c, h1, h2⟩ := Option.map_eq_some_iff.mp h
  exact ⟨c, h1, h2.symm⟩
theorem bools_map {α : Type} (f : α → Bool) (xs : List α) : bools (xs.map fun x => T.bl (f x)) = some (xs.map f) := by
  induction xs with
  | nil => rfl
  | cons x xs ih => rw [List.map_cons, bools, ih]; rfl
theorem ok_allL {m : Mem} {P : T → Mem → Prop} {α : Type} {f : α → Bool} {xs : List α} (h : P (.bl (xs.all f)) m) : Ok (gAllAny true [.lst (xs.map fun x => T.bl (f x))] m) P := by
  refine ⟨_, _, ?_, h⟩
  unfold gAllAny
  simp only [asL, bools_map]
  simp [List.all_map]
theorem ok_allC {m : Mem} {P : T → Mem → Prop} {α : Type} {n : Nat} {f : α → Bool} {xs : List α} (e : m[n]? = some (some (.lst (xs.map fun x => T.bl (f x))))) (h : P (.bl (xs.all f)) m) : Ok (gAllAny true [.loc n] m) P := by
  refine ⟨_, _, ?_, h⟩
  unfold gAllAny
  simp only [asL, e, bools_map]
  simp [List.all_map]
abbrev KN : List Str := ["hand_states", "part_kinds", "clause_row", "last_state"]
def kindT (hs ps : List T) (cl : List Clause) (last : T) : T := .ins "Kind" KN [.tup hs, .tup ps, .tup (cl.map Clause.t), last]
theorem ok_fld {env : Env} {m : Mem} {P : T → Mem → Prop} {c f : Str} {fe : EF} (h : Ok (fe env m) fun x m1 => ∃ ns ts t, x = .ins c ns ts ∧ fld f ns ts = some t ∧ P t m1) : Ok (eFld c f fe env m) P :=
  Ok.bind (h.imp fun x m1 ⟨ns, ts, t, e, e2, p⟩ => by
    subst e
    refine ⟨t, m1, ?_, p⟩
    simp only [asIns, if_true, e2])
theorem fld_row (a b c d : T) : fld "clause_row" KN [a, b, c, d] = some c := by
  simp only [fld]
  rw [if_neg (by decide +kernel), if_neg (by decide +kernel)]; simp
theorem fld_last (a b c d : T) : fld "last_state" KN [a, b, c, d] = some d := by
  simp only [fld]
  rw [if_neg (by decide +kernel), if_neg (by decide +kernel), if_neg (by decide +kernel)]; simp
theorem row_ok {env : Env} {m : Mem} {P : T → Mem → Prop} {i : Nat} {hs ps : List T} {cl : List Clause} {last : T} (e : env[i]? = some (some (kindT hs ps cl last))) (h : P (.tup (cl.map Clause.t)) m) : Ok (eFld "Kind" "clause_row" (eVar i) env m) P :=
  ok_fld (ok_var e ⟨_, _, _, rfl, fld_row _ _ _ _, h⟩)
theorem last_ok {env : Env} {m : Mem} {P : T → Mem → Prop} {i : Nat} {hs ps : List T} {cl : List Clause} {last : T} (e : env[i]? = some (some (kindT hs ps cl last))) (h : P last m) : Ok (eFld "Kind" "last_state" (eVar i) env m) P :=
  ok_fld (ok_var e ⟨_, _, _, rfl, fld_last _ _ _ _, h⟩)
theorem counting_ok {m : Mem} {P : T → Mem → Prop} {hs ps : List T} {cl : List Clause} {last st : T} {ss : List Str} (hi : items st = some (ss.map T.str)) (hl : ss.length < 100000) (hc : cl.length ≤ 10) (hd : ∀ c ∈ cl, c.cs.length ≤ 10)
    (h : P (.int (idx ss cl)) m) : Ok (F_Kind_counting [kindT hs ps cl last, st] m) P := by
  unfold F_Kind_counting B_Kind_counting
  refine ok_fn ?_
  try simp only [List.map_cons, List.map_nil, List.cons_append, List.nil_append, List.length_cons, List.length_nil, Nat.reduceAdd, Nat.reduceSub, List.replicate_succ, List.replicate_zero, List.set_cons_succ, List.set_cons_zero]
  refine rt_seqFor (fun p env m2 => ∃ w2 w3 w4 w5, env = [some (kindT hs ps cl last), some st, w2, w3, w4, w5] ∧ m2 = m ∧ NoHit ss cl p.length) ?_
  refine ok_enum (ok_cons (row_ok rfl (ok_nil (en_tup ⟨⟨_, _, _, _, rfl, rfl, fun i c hi => by simp at hi⟩, ?_, ?_⟩))))
  · rintro p t q env m2 hp ⟨w2, w3, w4, w5, rfl, rfl, hno⟩
    obtain ⟨u, hu, rfl, hlen⟩ := enum_at hp
    obtain ⟨c, hc1, rfl⟩ := map_at hu
    have hcm : c ∈ cl := List.mem_of_getElem? hc1
    refine ⟨_, rfl, ?_⟩
    try simp only [List.map_cons, List.map_nil, List.cons_append, List.nil_append, List.length_cons, List.length_nil, Nat.reduceAdd, Nat.reduceSub, List.replicate_succ, List.replicate_zero, List.set_cons_succ, List.set_cons_zero]
    refine sx_if (ok_bV (ok_ofL (ok_cons (ok_compM c.cs Cond.t (fun _ => true) (fun d => .bl (holdsB d ss)) ?_))))
    repeat (first | ((with_reducible apply ok_var); exact rfl) | ((with_reducible apply ok_calls); exact rfl) | ((with_reducible apply ok_tupL); exact Nat.le_of_ble_eq_true rfl) | ((with_reducible apply ok_lstL); exact Nat.le_of_ble_eq_true rfl) | ((with_reducible apply ok_lstC); exact Nat.le_of_ble_eq_true rfl) | (with_reducible apply ok_e2) | (with_reducible apply ok_c) | (with_reducible apply ok_cons) | (with_reducible apply ok_nil) | (with_reducible apply ok_ofL) | (with_reducible apply ok_call) | (with_reducible apply ok_meth) | (with_reducible apply ok_bV) | (with_reducible apply ok_bNot) | (with_reducible apply ok_bAnd) | (with_reducible apply ok_bOr) | (with_reducible apply ok_eAnd) | (with_reducible apply ok_eOr) | (with_reducible apply ok_eNot) | (with_reducible apply ok_eIf) | (with_reducible apply ok_iVal) | (with_reducible apply ok_range) | (with_reducible apply ok_range2) | (with_reducible apply ok_listRange) | (with_reducible apply ok_enum) | (with_reducible apply ok_bYes) | (with_reducible apply ok_mkL) | (with_reducible apply ok_mkC) | (with_reducible apply ok_ok) | (with_reducible apply ok_addI) | (with_reducible apply ok_gtI) | (with_reducible apply ok_geI) | (with_reducible apply ok_ltI) | (with_reducible apply ok_leI) | (with_reducible apply ok_leS) | (with_reducible apply ok_eqI) | (with_reducible apply ok_neI) | (with_reducible apply ok_eqS) | (with_reducible apply ok_neS) | (with_reducible apply ok_int) | (with_reducible apply ok_lenL) | (with_reducible apply ok_lenT) | (with_reducible apply ok_tupOfL) | (with_reducible apply ok_tupOfT) | (with_reducible apply bl_mk) | (with_reducible apply it_lst) | (with_reducible apply it_tup) | (with_reducible apply it_rls) | (with_reducible apply en_lst) | (with_reducible apply en_tup) | (with_reducible apply rt_seqOf) | (with_reducible apply nx_seqOf) | (with_reducible apply rt_of) | (with_reducible apply nx_of) | (with_reducible apply nx_nx) | (with_reducible apply rt_rt) | (with_reducible apply nx_nil) | (with_reducible apply rt_seqNil) | (with_reducible apply nx_asg) | (with_reducible apply ok_isNN))
    refine ⟨rfl, by have := hd c hcm; unfold lim; omega, ?_, ?_⟩
    · intro d hd2
      refine ⟨_, rfl, ?_⟩
      repeat (first | ((with_reducible apply ok_var); exact rfl) | ((with_reducible apply ok_calls); exact rfl) | ((with_reducible apply ok_tupL); exact Nat.le_of_ble_eq_true rfl) | ((with_reducible apply ok_lstL); exact Nat.le_of_ble_eq_true rfl) | ((with_reducible apply ok_lstC); exact Nat.le_of_ble_eq_true rfl) | (with_reducible apply ok_e2) | (with_reducible apply ok_c) | (with_reducible apply ok_cons) | (with_reducible apply ok_nil) | (with_reducible apply ok_ofL) | (with_reducible apply ok_call) | (with_reducible apply ok_meth) | (with_reducible apply ok_bV) | (with_reducible apply ok_bNot) | (with_reducible apply ok_bAnd) | (with_reducible apply ok_bOr) | (with_reducible apply ok_eAnd) | (with_reducible apply ok_eOr) | (with_reducible apply ok_eNot) | (with_reducible apply ok_eIf) | (with_reducible apply ok_iVal) | (with_reducible apply ok_range) | (with_reducible apply ok_range2) | (with_reducible apply ok_listRange) | (with_reducible apply ok_enum) | (with_reducible apply ok_bYes) | (with_reducible apply ok_mkL) | (with_reducible apply ok_mkC) | (with_reducible apply ok_ok) | (with_reducible apply ok_addI) | (with_reducible apply ok_gtI) | (with_reducible apply ok_geI) | (with_reducible apply ok_ltI) | (with_reducible apply ok_leI) | (with_reducible apply ok_leS) | (with_reducible apply ok_eqI) | (with_reducible apply ok_neI) | (with_reducible apply ok_eqS) | (with_reducible apply ok_neS) | (with_reducible apply ok_int) | (with_reducible apply ok_lenL) | (with_reducible apply ok_lenT) | (with_reducible apply ok_tupOfL) | (with_reducible apply ok_tupOfT) | (with_reducible apply bl_mk) | (with_reducible apply it_lst) | (with_reducible apply it_tup) | (with_reducible apply it_rls) | (with_reducible apply en_lst) | (with_reducible apply en_tup) | (with_reducible apply rt_seqOf) | (with_reducible apply nx_seqOf) | (with_reducible apply rt_of) | (with_reducible apply nx_of) | (with_reducible apply nx_nx) | (with_reducible apply rt_rt) | (with_reducible apply nx_nil) | (with_reducible apply rt_seqNil) | (with_reducible apply nx_asg) | (with_reducible apply ok_isNN))
      refine ⟨rfl, rfl, fun _ => ?_⟩
      repeat (first | ((with_reducible apply ok_var); exact rfl) | ((with_reducible apply ok_calls); exact rfl) | ((with_reducible apply ok_tupL); exact Nat.le_of_ble_eq_true rfl) | ((with_reducible apply ok_lstL); exact Nat.le_of_ble_eq_true rfl) | ((with_reducible apply ok_lstC); exact Nat.le_of_ble_eq_true rfl) | (with_reducible apply ok_e2) | (with_reducible apply ok_c) | (with_reducible apply ok_cons) | (with_reducible apply ok_nil) | (with_reducible apply ok_ofL) | (with_reducible apply ok_call) | (with_reducible apply ok_meth) | (with_reducible apply ok_bV) | (with_reducible apply ok_bNot) | (with_reducible apply ok_bAnd) | (with_reducible apply ok_bOr) | (with_reducible apply ok_eAnd) | (with_reducible apply ok_eOr) | (with_reducible apply ok_eNot) | (with_reducible apply ok_eIf) | (with_reducible apply ok_iVal) | (with_reducible apply ok_range) | (with_reducible apply ok_range2) | (with_reducible apply ok_listRange) | (with_reducible apply ok_enum) | (with_reducible apply ok_bYes) | (with_reducible apply ok_mkL) | (with_reducible apply ok_mkC) | (with_reducible apply ok_ok) | (with_reducible apply ok_addI) | (with_reducible apply ok_gtI) | (with_reducible apply ok_geI) | (with_reducible apply ok_ltI) | (with_reducible apply ok_leI) | (with_reducible apply ok_leS) | (with_reducible apply ok_eqI) | (with_reducible apply ok_neI) | (with_reducible apply ok_eqS) | (with_reducible apply ok_neS) | (with_reducible apply ok_int) | (with_reducible apply ok_lenL) | (with_reducible apply ok_lenT) | (with_reducible apply ok_tupOfL) | (with_reducible apply ok_tupOfT) | (with_reducible apply bl_mk) | (with_reducible apply it_lst) | (with_reducible apply it_tup) | (with_reducible apply it_rls) | (with_reducible apply en_lst) | (with_reducible apply en_tup) | (with_reducible apply rt_seqOf) | (with_reducible apply nx_seqOf) | (with_reducible apply rt_of) | (with_reducible apply nx_of) | (with_reducible apply nx_nx) | (with_reducible apply rt_rt) | (with_reducible apply nx_nil) | (with_reducible apply rt_seqNil) | (with_reducible apply nx_asg) | (with_reducible apply ok_isNN))
      exact holds_ok hi hl ⟨rfl, rfl⟩
    · rw [filter_yes]
      repeat (first | ((with_reducible apply ok_var); exact rfl) | ((with_reducible apply ok_calls); exact rfl) | ((with_reducible apply ok_tupL); exact Nat.le_of_ble_eq_true rfl) | ((with_reducible apply ok_lstL); exact Nat.le_of_ble_eq_true rfl) | ((with_reducible apply ok_lstC); exact Nat.le_of_ble_eq_true rfl) | (with_reducible apply ok_e2) | (with_reducible apply ok_c) | (with_reducible apply ok_cons) | (with_reducible apply ok_nil) | (with_reducible apply ok_ofL) | (with_reducible apply ok_call) | (with_reducible apply ok_meth) | (with_reducible apply ok_bV) | (with_reducible apply ok_bNot) | (with_reducible apply ok_bAnd) | (with_reducible apply ok_bOr) | (with_reducible apply ok_eAnd) | (with_reducible apply ok_eOr) | (with_reducible apply ok_eNot) | (with_reducible apply ok_eIf) | (with_reducible apply ok_iVal) | (with_reducible apply ok_range) | (with_reducible apply ok_range2) | (with_reducible apply ok_listRange) | (with_reducible apply ok_enum) | (with_reducible apply ok_bYes) | (with_reducible apply ok_mkL) | (with_reducible apply ok_mkC) | (with_reducible apply ok_ok) | (with_reducible apply ok_addI) | (with_reducible apply ok_gtI) | (with_reducible apply ok_geI) | (with_reducible apply ok_ltI) | (with_reducible apply ok_leI) | (with_reducible apply ok_leS) | (with_reducible apply ok_eqI) | (with_reducible apply ok_neI) | (with_reducible apply ok_eqS) | (with_reducible apply ok_neS) | (with_reducible apply ok_int) | (with_reducible apply ok_lenL) | (with_reducible apply ok_lenT) | (with_reducible apply ok_tupOfL) | (with_reducible apply ok_tupOfT) | (with_reducible apply bl_mk) | (with_reducible apply it_lst) | (with_reducible apply it_tup) | (with_reducible apply it_rls) | (with_reducible apply en_lst) | (with_reducible apply en_tup) | (with_reducible apply rt_seqOf) | (with_reducible apply nx_seqOf) | (with_reducible apply rt_of) | (with_reducible apply nx_of) | (with_reducible apply nx_nx) | (with_reducible apply rt_rt) | (with_reducible apply nx_nil) | (with_reducible apply rt_seqNil) | (with_reducible apply nx_asg) | (with_reducible apply ok_isNN))
      refine ok_allL (bl_mk ?_)
      split
      · rename_i hh
        rw [idx_hit hno hc1 hh] at h
        refine .inr (rt_of (ok_var rfl (rt_rt ?_)))
        rw [Nat.zero_add]
        exact h
      · rename_i hh
        refine .inl (nx_nil ⟨_, _, _, _, rfl, rfl, ?_⟩)
        rw [hlen]
        exact hno.succ hc1 (by unfold hit; exact eq_false_of_ne_true hh)
  · rintro env m2 ⟨w2, w3, w4, w5, rfl, rfl, hno⟩
    refine rt_of (ok_ofL (ok_cons (row_ok rfl (ok_nil (ok_lenT (rt_rt ?_))))))
    rw [enum_len, List.length_map] at hno
    rw [List.length_map]
    rw [idx_none hno] at h
    exact h
theorem at_lt {α : Type} {ts : List α} {k : Nat} (h : k < ts.length) : ∃ t, ts[k]? = some t := ⟨_, List.getElem?_eq_getElem h⟩
/-- the state that is told -/
def toldS (cl : List Clause) (last : Str) (ss : List Str) : Str := match cl[idx ss cl]? with
  | some c => c.st
  | none => last
theorem ok_methO {env : Env} {m : Mem} {P : T → Mem → Prop} {c mn : Str} {n : Nat} {F : FS} {fo : EF} {fs : LF} (h : Ok (fo env m) fun x m1 => ∃ ns ts, x = .ins c ns ts ∧ mn ∉ ns ∧ Ok (fs env m1) fun xs m2 => xs.length + 1 = n ∧ Ok (F (x :: xs) m2) P) : Ok (eMethO c mn n F fo fs env m) P :=
  Ok.bind (h.imp fun x m1 ⟨ns, ts, e, hn, h⟩ => by
    subst e
    simp only [asIns, true_and, hn, not_false_eq_true, if_true]
    refine Ok.bind (h.imp fun xs m2 ⟨e, h⟩ => ?_)
    rw [if_pos e]; exact h)
theorem counting_no : ("counting" : Str) ∉ KN := by decide +kernel
theorem told_no : ("told" : Str) ∉ KN := by decide +kernel
theorem told_ok {m : Mem} {P : T → Mem → Prop} {hs ps : List T} {cl : List Clause} {last : Str} {st : T} {ss : List Str} (hi : items st = some (ss.map T.str)) (hl : ss.length < 100000) (hc : cl.length ≤ 10) (hd : ∀ c ∈ cl, c.cs.length ≤ 10)
    (h : P (.str (toldS cl last ss)) m) : Ok (F_Kind_told [kindT hs ps cl (.str last), st] m) P := by
  unfold F_Kind_told B_Kind_told
  refine ok_fn ?_
  try simp only [List.map_cons, List.map_nil, List.cons_append, List.nil_append, List.length_cons, List.length_nil, Nat.reduceAdd, Nat.reduceSub, List.replicate_succ, List.replicate_zero, List.set_cons_succ, List.set_cons_zero]
  refine rt_seqOf (ok_methO (ok_var rfl ⟨_, _, rfl, counting_no, ok_cons (ok_var rfl (ok_nil ⟨rfl, counting_ok hi hl hc hd ?_⟩))⟩))
  repeat (first | ((with_reducible apply ok_var); exact rfl) | ((with_reducible apply ok_calls); exact rfl) | ((with_reducible apply ok_tupL); exact Nat.le_of_ble_eq_true rfl) | ((with_reducible apply ok_lstL); exact Nat.le_of_ble_eq_true rfl) | ((with_reducible apply ok_lstC); exact Nat.le_of_ble_eq_true rfl) | (with_reducible apply ok_e2) | (with_reducible apply ok_c) | (with_reducible apply ok_cons) | (with_reducible apply ok_nil) | (with_reducible apply ok_ofL) | (with_reducible apply ok_call) | (with_reducible apply ok_meth) | (with_reducible apply ok_bV) | (with_reducible apply ok_bNot) | (with_reducible apply ok_bAnd) | (with_reducible apply ok_bOr) | (with_reducible apply ok_eAnd) | (with_reducible apply ok_eOr) | (with_reducible apply ok_eNot) | (with_reducible apply ok_eIf) | (with_reducible apply ok_iVal) | (with_reducible apply ok_range) | (with_reducible apply ok_range2) | (with_reducible apply ok_listRange) | (with_reducible apply ok_enum) | (with_reducible apply ok_bYes) | (with_reducible apply ok_mkL) | (with_reducible apply ok_mkC) | (with_reducible apply ok_ok) | (with_reducible apply ok_addI) | (with_reducible apply ok_gtI) | (with_reducible apply ok_geI) | (with_reducible apply ok_ltI) | (with_reducible apply ok_leI) | (with_reducible apply ok_leS) | (with_reducible apply ok_eqI) | (with_reducible apply ok_neI) | (with_reducible apply ok_eqS) | (with_reducible apply ok_neS) | (with_reducible apply ok_int) | (with_reducible apply ok_lenL) | (with_reducible apply ok_lenT) | (with_reducible apply ok_tupOfL) | (with_reducible apply ok_tupOfT) | (with_reducible apply bl_mk) | (with_reducible apply it_lst) | (with_reducible apply it_tup) | (with_reducible apply it_rls) | (with_reducible apply en_lst) | (with_reducible apply en_tup) | (with_reducible apply rt_seqOf) | (with_reducible apply nx_seqOf) | (with_reducible apply rt_of) | (with_reducible apply nx_of) | (with_reducible apply nx_nx) | (with_reducible apply rt_rt) | (with_reducible apply nx_nil) | (with_reducible apply rt_seqNil) | (with_reducible apply nx_asg) | (with_reducible apply ok_isNN))
  try simp only [List.map_cons, List.map_nil, List.cons_append, List.nil_append, List.length_cons, List.length_nil, Nat.reduceAdd, Nat.reduceSub, List.replicate_succ, List.replicate_zero, List.set_cons_succ, List.set_cons_zero]
  refine rt_seqIf (ok_bV (ok_e2 (ok_var rfl (ok_ofL (ok_cons (row_ok rfl (ok_nil (ok_lenT (ok_eqI (bl_mk ?_)))))))))) 
  rw [List.length_map]
  unfold toldS at h
  by_cases q : idx ss cl = cl.length
  · rw [if_pos (by simp [q])]
    refine rt_seq0 (rt_of (last_ok rfl (rt_rt ?_)))
    rw [List.getElem?_eq_none (by omega)] at h
    exact h
  · rw [if_neg (by simp; omega)]
    refine rt_seqNil (rt_of (ok_e2 (ok_e2 (row_ok rfl (ok_var rfl ?_)))))
    have hlt : idx ss cl < cl.length := by have := idx_le (ss := ss) cl; omega
    obtain ⟨c, hc1⟩ := at_lt hlt
    rw [hc1] at h
    refine ok_ixT (t := c.t) (atN (by rw [List.getElem?_map, hc1]; rfl)) (ok_c (ok_ixT at0 (rt_rt h)))
end M

namespace M
open PySem hiding Env
open L2 Ev G
/-- cells were added, none was changed -/
structure App (m m' : Mem) : Prop where
  len : m.length ≤ m'.length
  get : ∀ i, i < m.length → m'[i]? = m[i]?
theorem App.refl {m : Mem} : App m m := ⟨Nat.le_refl _, fun _ _ => rfl⟩
theorem App.trans {m m1 m2 : Mem} (a : App m m1) (b : App m1 m2) : App m m2 := ⟨Nat.le_trans a.len b.len, fun i h => (b.get i (Nat.lt_of_lt_of_le h a.len)).trans (a.get i h)⟩
theorem App.app {m : Mem} (t : Mem) : App m (m ++ t) := ⟨by simp, fun i h => List.getElem?_append_left h⟩
theorem App.set {m m' : Mem} {j : Nat} (a : App m m') (h : m.length ≤ j) (o : Option MO) : App m (m'.set j o) := ⟨by simpa using a.len, fun i hi => by rw [List.getElem?_set_ne (by omega)]; exact a.get i hi⟩
theorem App.fr {s : Nat} {m m' : Mem} (a : App m m') : Fr s m m' := ⟨a.len, fun i h _ => a.get i h⟩
theorem App.src {s c : Nat} {m m' : Mem} (a : App m m') (h : Src m s c) : Src m' s c := by
  obtain ⟨g, sd, k, x, y⟩ := h
  exact ⟨g, sd, k, by rw [a.get s (List.getElem?_eq_some_iff.mp x).1]; exact x, y⟩
theorem App.cell {m m' : Mem} {j : Nat} {o : MO} (a : App m m') (h : m[j]? = some (some o)) : m'[j]? = some (some o) := by
  rw [a.get j (List.getElem?_eq_some_iff.mp h).1]; exact h
theorem isl0 {m : Mem} {t : T} (ts : List T) (h : t = .lst ts) : isTy "list" m t = true := by subst h; rfl
theorem split_map {α : Type} {f : α → T} : ∀ {xs : List α} {p : List T} {t : T} {q : List T}, xs.map f = p ++ t :: q → ∃ xp x xq, xs = xp ++ x :: xq ∧ p = xp.map f ∧ t = f x ∧ q = xq.map f
  | [], p, _, _, e => by cases p <;> cases e
  | x :: xs, [], t, q, e => by
    rw [List.map_cons, List.nil_append] at e
    injection e with e1 e2
    exact ⟨[], x, xs, rfl, rfl, e1.symm, e2.symm⟩
  | x :: xs, v :: p, t, q, e => by
    rw [List.map_cons, List.cons_append] at e
    injection e with e1 e2
    obtain ⟨xp, y, xq, h1, h2, h3, h4⟩ := split_map e2
    exact ⟨x :: xp, y, xq, by rw [h1]; rfl, by rw [h2, ← e1]; rfl, h3, h4⟩
def fits (lo n : Int) (mo : Option Int) : Bool := decide (lo ≤ n) && (match mo with
  | none => true
  | some b => decide (n ≤ b))
theorem holds_fits (c : Cond) (ss : List Str) : holdsB c ss = fits c.lo (cnt c.names ss) c.mo := rfl
/-- the law's own look whether a condition holds -/
theorem fits_ok {env : Env} {m : Mem} {P : T → Mem → Prop} {i j k : Nat} {lo n : Int} {mo : Option Int} (e1 : env[i]? = some (some (.int lo))) (e2 : env[j]? = some (some (.int n))) (e3 : env[k]? = some (some (moT mo)))
    (h : P (.bl (fits lo n mo)) m) :
    Ok (eAnd (Ev.e2 gLe (eVar i) (eVar j)) (eOr (Ev.e2 (gIsN false) (eVar k) (eC .non)) (Ev.e2 gLe (eVar j) (eVar k))) env m) P := by
  refine ok_eAnd (ok_e2 (ok_var e1 (ok_var e2 (ok_leI (bl_mk ?_)))))
  unfold fits at h
  by_cases q : lo ≤ n
  · rw [decide_eq_true q, if_pos rfl]
    rw [decide_eq_true q, Bool.true_and] at h
    refine ok_eOr (ok_e2 (ok_var e3 (ok_c ?_)))
    cases mo with
    | none =>
      refine ok_isNN (bl_mk ?_)
      rw [if_pos rfl]
      exact h
    | some b =>
      refine ok_isN (t := .int b) (fun e => by cases e) (bl_mk ?_)
      rw [if_neg (by decide)]
      exact ok_e2 (ok_var e2 (ok_var e3 (ok_leI h)))
  · rw [decide_eq_false q, if_neg (by decide)]
    rw [decide_eq_false q, Bool.false_and] at h
    exact h
theorem index_ok {m : Mem} {P : T → Mem → Prop} {a b last : T} {cl : List Clause} {ss : List Str} (hl : ss.length < 100000) (hc : cl.length ≤ 10) (hd : ∀ c ∈ cl, c.cs.length ≤ 10)
    (h : ∀ m', App m m' → P (.int (idx ss cl)) m') : Ok (F__law_index [.tup [a, b, .lst (cl.map Clause.t), last], .lst (ss.map T.str)] m) P := by
  unfold F__law_index B__law_index
  refine ok_fn ?_
  try simp only [List.map_cons, List.map_nil, List.cons_append, List.nil_append, List.length_cons, List.length_nil, Nat.reduceAdd, Nat.reduceSub, List.replicate_succ, List.replicate_zero, List.set_cons_succ, List.set_cons_zero]
  refine rt_seqFor (fun p env m2 => ∃ w2 w3 w4 w5 w6 w7 w8 w9 w10, env = [some (.tup [a, b, .lst (cl.map Clause.t), last]), some (.lst (ss.map T.str)), w2, w3, w4, w5, w6, w7, w8, w9, w10] ∧ App m m2 ∧ NoHit ss cl p.length) ?_
  refine ok_enum (ok_cons (ok_e2 (ok_var rfl (ok_c (ok_ixT at2 (ok_nil (en_lst ⟨⟨_, _, _, _, _, _, _, _, _, rfl, .refl, fun i c hi => by simp at hi⟩, ?_, ?_⟩)))))))
  · rintro p t q env m2 hp ⟨w2, w3, w4, w5, w6, w7, w8, w9, w10, rfl, ha, hno⟩
    obtain ⟨u, hu, rfl, hlen⟩ := enum_at hp
    obtain ⟨c, hc1, rfl⟩ := map_at hu
    have hcm : c ∈ cl := List.mem_of_getElem? hc1
    refine ⟨_, rfl, ?_⟩
    try simp only [List.map_cons, List.map_nil, List.cons_append, List.nil_append, List.length_cons, List.length_nil, Nat.reduceAdd, Nat.reduceSub, List.replicate_succ, List.replicate_zero, List.set_cons_succ, List.set_cons_zero]
    refine sx_seq ?_
    repeat (first | ((with_reducible apply ok_var); exact rfl) | ((with_reducible apply ok_calls); exact rfl) | ((with_reducible apply ok_tupL); exact Nat.le_of_ble_eq_true rfl) | ((with_reducible apply ok_lstL); exact Nat.le_of_ble_eq_true rfl) | ((with_reducible apply ok_lstC); exact Nat.le_of_ble_eq_true rfl) | (with_reducible apply ok_e2) | (with_reducible apply ok_c) | (with_reducible apply ok_cons) | (with_reducible apply ok_nil) | (with_reducible apply ok_ofL) | (with_reducible apply ok_call) | (with_reducible apply ok_meth) | (with_reducible apply ok_bV) | (with_reducible apply ok_bNot) | (with_reducible apply ok_bAnd) | (with_reducible apply ok_bOr) | (with_reducible apply ok_eAnd) | (with_reducible apply ok_eOr) | (with_reducible apply ok_eNot) | (with_reducible apply ok_eIf) | (with_reducible apply ok_iVal) | (with_reducible apply ok_range) | (with_reducible apply ok_range2) | (with_reducible apply ok_listRange) | (with_reducible apply ok_enum) | (with_reducible apply ok_bYes) | (with_reducible apply ok_mkL) | (with_reducible apply ok_mkC) | (with_reducible apply ok_ok) | (with_reducible apply ok_addI) | (with_reducible apply ok_gtI) | (with_reducible apply ok_geI) | (with_reducible apply ok_ltI) | (with_reducible apply ok_leI) | (with_reducible apply ok_leS) | (with_reducible apply ok_eqI) | (with_reducible apply ok_neI) | (with_reducible apply ok_eqS) | (with_reducible apply ok_neS) | (with_reducible apply ok_int) | (with_reducible apply ok_lenL) | (with_reducible apply ok_lenT) | (with_reducible apply ok_tupOfL) | (with_reducible apply ok_tupOfT) | (with_reducible apply bl_mk) | (with_reducible apply it_lst) | (with_reducible apply it_tup) | (with_reducible apply it_rls) | (with_reducible apply en_lst) | (with_reducible apply en_tup) | (with_reducible apply rt_seqOf) | (with_reducible apply nx_seqOf) | (with_reducible apply rt_of) | (with_reducible apply nx_of) | (with_reducible apply nx_nx) | (with_reducible apply rt_rt) | (with_reducible apply nx_nil) | (with_reducible apply rt_seqNil) | (with_reducible apply nx_asg) | (with_reducible apply ok_isNN))
    try simp only [List.map_cons, List.map_nil, List.cons_append, List.nil_append, List.length_cons, List.length_nil, Nat.reduceAdd, Nat.reduceSub, List.replicate_succ, List.replicate_zero, List.set_cons_succ, List.set_cons_zero]
    have hr : ∀ pl : List T, (0 + pl.length) = pl.length := fun pl => Nat.zero_add _
    refine sx_seq (nx_for (fun p' env m3 => ∃ (w6 w7 w8 w9 w10 : Option T), env = [some (.tup [a, b, .lst (cl.map Clause.t), last]), some (.lst (ss.map T.str)), some (.int ((0 + p.length : Nat) : Int)), some (.str c.st), some (.tup (c.cs.map Cond.t)), some (.loc m2.length), w6, w7, w8, w9, w10] ∧ m3[m2.length]? = some (some (.lst ((c.cs.take p'.length).map fun d => T.bl (holdsB d ss)))) ∧ App m2 m3) ?_)
    refine ok_iVal (ok_var rfl (it_tup ⟨⟨_, _, _, _, _, rfl, by simp, App.app _⟩, ?_, ?_⟩))
    · rintro p' t' q' env m3 hp' ⟨w6, w7, w8, w9, w10, rfl, hm, ha3⟩
      obtain ⟨xp, d, xq, hcs, rfl, rfl, rfl⟩ := split_map hp'
      have htk : c.cs.take (xp.map Cond.t).length = xp := by rw [hcs, List.length_map, List.take_left']; rfl
      rw [htk] at hm
      have hlx : xp.length ≤ 10 := by
        have := hd c hcm
        rw [hcs] at this; simp at this; omega
      refine ⟨_, rfl, ?_⟩
      try simp only [List.map_cons, List.map_nil, List.cons_append, List.nil_append, List.length_cons, List.length_nil, Nat.reduceAdd, Nat.reduceSub, List.replicate_succ, List.replicate_zero, List.set_cons_succ, List.set_cons_zero]
      refine nx_seqOf (count_ok (i := 1) (j := 10) (k := 8) (ws := d.names) (ss := ss) rfl rfl (by simp [wipeE]) (by decide) rfl hl ?_)
      repeat (first | ((with_reducible apply ok_var); exact rfl) | ((with_reducible apply ok_calls); exact rfl) | ((with_reducible apply ok_tupL); exact Nat.le_of_ble_eq_true rfl) | ((with_reducible apply ok_lstL); exact Nat.le_of_ble_eq_true rfl) | ((with_reducible apply ok_lstC); exact Nat.le_of_ble_eq_true rfl) | (with_reducible apply ok_e2) | (with_reducible apply ok_c) | (with_reducible apply ok_cons) | (with_reducible apply ok_nil) | (with_reducible apply ok_ofL) | (with_reducible apply ok_call) | (with_reducible apply ok_meth) | (with_reducible apply ok_bV) | (with_reducible apply ok_bNot) | (with_reducible apply ok_bAnd) | (with_reducible apply ok_bOr) | (with_reducible apply ok_eAnd) | (with_reducible apply ok_eOr) | (with_reducible apply ok_eNot) | (with_reducible apply ok_eIf) | (with_reducible apply ok_iVal) | (with_reducible apply ok_range) | (with_reducible apply ok_range2) | (with_reducible apply ok_listRange) | (with_reducible apply ok_enum) | (with_reducible apply ok_bYes) | (with_reducible apply ok_mkL) | (with_reducible apply ok_mkC) | (with_reducible apply ok_ok) | (with_reducible apply ok_addI) | (with_reducible apply ok_gtI) | (with_reducible apply ok_geI) | (with_reducible apply ok_ltI) | (with_reducible apply ok_leI) | (with_reducible apply ok_leS) | (with_reducible apply ok_eqI) | (with_reducible apply ok_neI) | (with_reducible apply ok_eqS) | (with_reducible apply ok_neS) | (with_reducible apply ok_int) | (with_reducible apply ok_lenL) | (with_reducible apply ok_lenT) | (with_reducible apply ok_tupOfL) | (with_reducible apply ok_tupOfT) | (with_reducible apply bl_mk) | (with_reducible apply it_lst) | (with_reducible apply it_tup) | (with_reducible apply it_rls) | (with_reducible apply en_lst) | (with_reducible apply en_tup) | (with_reducible apply rt_seqOf) | (with_reducible apply nx_seqOf) | (with_reducible apply rt_of) | (with_reducible apply nx_of) | (with_reducible apply nx_nx) | (with_reducible apply rt_rt) | (with_reducible apply nx_nil) | (with_reducible apply rt_seqNil) | (with_reducible apply nx_asg) | (with_reducible apply ok_isNN))
      try simp only [List.map_cons, List.map_nil, List.cons_append, List.nil_append, List.length_cons, List.length_nil, Nat.reduceAdd, Nat.reduceSub, List.replicate_succ, List.replicate_zero, List.set_cons_succ, List.set_cons_zero]
      refine ⟨isl hm, ok_cons (fits_ok (i := 6) (j := 9) (k := 7) (lo := d.lo) (mo := d.mo) rfl rfl rfl ?_)⟩
      repeat (first | ((with_reducible apply ok_var); exact rfl) | ((with_reducible apply ok_calls); exact rfl) | ((with_reducible apply ok_tupL); exact Nat.le_of_ble_eq_true rfl) | ((with_reducible apply ok_lstL); exact Nat.le_of_ble_eq_true rfl) | ((with_reducible apply ok_lstC); exact Nat.le_of_ble_eq_true rfl) | (with_reducible apply ok_e2) | (with_reducible apply ok_c) | (with_reducible apply ok_cons) | (with_reducible apply ok_nil) | (with_reducible apply ok_ofL) | (with_reducible apply ok_call) | (with_reducible apply ok_meth) | (with_reducible apply ok_bV) | (with_reducible apply ok_bNot) | (with_reducible apply ok_bAnd) | (with_reducible apply ok_bOr) | (with_reducible apply ok_eAnd) | (with_reducible apply ok_eOr) | (with_reducible apply ok_eNot) | (with_reducible apply ok_eIf) | (with_reducible apply ok_iVal) | (with_reducible apply ok_range) | (with_reducible apply ok_range2) | (with_reducible apply ok_listRange) | (with_reducible apply ok_enum) | (with_reducible apply ok_bYes) | (with_reducible apply ok_mkL) | (with_reducible apply ok_mkC) | (with_reducible apply ok_ok) | (with_reducible apply ok_addI) | (with_reducible apply ok_gtI) | (with_reducible apply ok_geI) | (with_reducible apply ok_ltI) | (with_reducible apply ok_leI) | (with_reducible apply ok_leS) | (with_reducible apply ok_eqI) | (with_reducible apply ok_neI) | (with_reducible apply ok_eqS) | (with_reducible apply ok_neS) | (with_reducible apply ok_int) | (with_reducible apply ok_lenL) | (with_reducible apply ok_lenT) | (with_reducible apply ok_tupOfL) | (with_reducible apply ok_tupOfT) | (with_reducible apply bl_mk) | (with_reducible apply it_lst) | (with_reducible apply it_tup) | (with_reducible apply it_rls) | (with_reducible apply en_lst) | (with_reducible apply en_tup) | (with_reducible apply rt_seqOf) | (with_reducible apply nx_seqOf) | (with_reducible apply rt_of) | (with_reducible apply nx_of) | (with_reducible apply nx_nx) | (with_reducible apply rt_rt) | (with_reducible apply nx_nil) | (with_reducible apply rt_seqNil) | (with_reducible apply nx_asg) | (with_reducible apply ok_isNN))
      refine ok_app hm (by rw [List.length_map]; unfold lim; omega) ?_
      have hl3 : m2.length < m3.length := (List.getElem?_eq_some_iff.mp hm).1
      repeat (first | ((with_reducible apply ok_var); exact rfl) | ((with_reducible apply ok_calls); exact rfl) | ((with_reducible apply ok_tupL); exact Nat.le_of_ble_eq_true rfl) | ((with_reducible apply ok_lstL); exact Nat.le_of_ble_eq_true rfl) | ((with_reducible apply ok_lstC); exact Nat.le_of_ble_eq_true rfl) | (with_reducible apply ok_e2) | (with_reducible apply ok_c) | (with_reducible apply ok_cons) | (with_reducible apply ok_nil) | (with_reducible apply ok_ofL) | (with_reducible apply ok_call) | (with_reducible apply ok_meth) | (with_reducible apply ok_bV) | (with_reducible apply ok_bNot) | (with_reducible apply ok_bAnd) | (with_reducible apply ok_bOr) | (with_reducible apply ok_eAnd) | (with_reducible apply ok_eOr) | (with_reducible apply ok_eNot) | (with_reducible apply ok_eIf) | (with_reducible apply ok_iVal) | (with_reducible apply ok_range) | (with_reducible apply ok_range2) | (with_reducible apply ok_listRange) | (with_reducible apply ok_enum) | (with_reducible apply ok_bYes) | (with_reducible apply ok_mkL) | (with_reducible apply ok_mkC) | (with_reducible apply ok_ok) | (with_reducible apply ok_addI) | (with_reducible apply ok_gtI) | (with_reducible apply ok_geI) | (with_reducible apply ok_ltI) | (with_reducible apply ok_leI) | (with_reducible apply ok_leS) | (with_reducible apply ok_eqI) | (with_reducible apply ok_neI) | (with_reducible apply ok_eqS) | (with_reducible apply ok_neS) | (with_reducible apply ok_int) | (with_reducible apply ok_lenL) | (with_reducible apply ok_lenT) | (with_reducible apply ok_tupOfL) | (with_reducible apply ok_tupOfT) | (with_reducible apply bl_mk) | (with_reducible apply it_lst) | (with_reducible apply it_tup) | (with_reducible apply it_rls) | (with_reducible apply en_lst) | (with_reducible apply en_tup) | (with_reducible apply rt_seqOf) | (with_reducible apply nx_seqOf) | (with_reducible apply rt_of) | (with_reducible apply nx_of) | (with_reducible apply nx_nx) | (with_reducible apply rt_rt) | (with_reducible apply nx_nil) | (with_reducible apply rt_seqNil) | (with_reducible apply nx_asg) | (with_reducible apply ok_isNN))
      refine ⟨_, _, _, _, _, rfl, ?_, ha3.set (Nat.le_refl _) _⟩
      have htk2 : c.cs.take (xp.map Cond.t ++ [d.t]).length = xp ++ [d] := by
        have e : c.cs = (xp ++ [d]) ++ xq := by rw [hcs]; simp
        rw [e, List.take_left']
        simp
      rw [List.getElem?_set_self hl3, htk2, List.map_append]
      rfl
    · rintro env m3 ⟨w6, w7, w8, w9, w10, rfl, hm, ha3⟩
      rw [List.length_map, List.take_of_length_le (Nat.le_refl _)] at hm
      refine sx_if (ok_bV (ok_ofL (ok_cons (ok_var rfl (ok_nil (ok_allC hm (bl_mk ?_)))))))
      split
      · rename_i hh
        have h2 := h m3 (ha.trans ha3)
        rw [idx_hit hno hc1 hh] at h2
        refine .inr (rt_of (ok_var rfl (rt_rt ?_)))
        rw [Nat.zero_add]
        exact h2
      · rename_i hh
        refine .inl (nx_nil ⟨_, _, _, _, _, _, _, _, _, rfl, ha.trans ha3, ?_⟩)
        rw [hlen]
        exact hno.succ hc1 (by unfold hit; exact eq_false_of_ne_true hh)
  · rintro env m2 ⟨w2, w3, w4, w5, w6, w7, w8, w9, w10, rfl, ha, hno⟩
    refine rt_of (ok_ofL (ok_cons (ok_e2 (ok_var rfl (ok_c (ok_ixT at2 (ok_nil (ok_lenL (rt_rt ?_)))))))))
    rw [enum_len, List.length_map] at hno
    rw [List.length_map]
    have := h m2 ha
    rw [idx_none hno] at this
    exact this
end M

namespace M
open PySem hiding Env
open L2 Ev G
theorem ltold_ok {m : Mem} {P : T → Mem → Prop} {a b : T} {last : Str} {cl : List Clause} {ss : List Str} (hl : ss.length < 100000) (hc : cl.length ≤ 10) (hd : ∀ c ∈ cl, c.cs.length ≤ 10)
    (h : ∀ m', App m m' → P (.str (toldS cl last ss)) m') : Ok (F__law_told [.tup [a, b, .lst (cl.map Clause.t), .str last], .lst (ss.map T.str)] m) P := by
  unfold F__law_told B__law_told
  refine ok_fn ?_
  try simp only [List.map_cons, List.map_nil, List.cons_append, List.nil_append, List.length_cons, List.length_nil, Nat.reduceAdd, Nat.reduceSub, List.replicate_succ, List.replicate_zero, List.set_cons_succ, List.set_cons_zero]
  repeat (first | ((with_reducible apply ok_var); exact rfl) | ((with_reducible apply ok_calls); exact rfl) | ((with_reducible apply ok_tupL); exact Nat.le_of_ble_eq_true rfl) | ((with_reducible apply ok_lstL); exact Nat.le_of_ble_eq_true rfl) | ((with_reducible apply ok_lstC); exact Nat.le_of_ble_eq_true rfl) | (with_reducible apply ok_e2) | (with_reducible apply ok_c) | (with_reducible apply ok_cons) | (with_reducible apply ok_nil) | (with_reducible apply ok_ofL) | (with_reducible apply ok_call) | (with_reducible apply ok_meth) | (with_reducible apply ok_bV) | (with_reducible apply ok_bNot) | (with_reducible apply ok_bAnd) | (with_reducible apply ok_bOr) | (with_reducible apply ok_eAnd) | (with_reducible apply ok_eOr) | (with_reducible apply ok_eNot) | (with_reducible apply ok_eIf) | (with_reducible apply ok_iVal) | (with_reducible apply ok_range) | (with_reducible apply ok_range2) | (with_reducible apply ok_listRange) | (with_reducible apply ok_enum) | (with_reducible apply ok_bYes) | (with_reducible apply ok_mkL) | (with_reducible apply ok_mkC) | (with_reducible apply ok_ok) | (with_reducible apply ok_addI) | (with_reducible apply ok_gtI) | (with_reducible apply ok_geI) | (with_reducible apply ok_ltI) | (with_reducible apply ok_leI) | (with_reducible apply ok_leS) | (with_reducible apply ok_eqI) | (with_reducible apply ok_neI) | (with_reducible apply ok_eqS) | (with_reducible apply ok_neS) | (with_reducible apply ok_int) | (with_reducible apply ok_lenL) | (with_reducible apply ok_lenT) | (with_reducible apply ok_tupOfL) | (with_reducible apply ok_tupOfT) | (with_reducible apply bl_mk) | (with_reducible apply it_lst) | (with_reducible apply it_tup) | (with_reducible apply it_rls) | (with_reducible apply en_lst) | (with_reducible apply en_tup) | (with_reducible apply rt_seqOf) | (with_reducible apply nx_seqOf) | (with_reducible apply rt_of) | (with_reducible apply nx_of) | (with_reducible apply nx_nx) | (with_reducible apply rt_rt) | (with_reducible apply nx_nil) | (with_reducible apply rt_seqNil) | (with_reducible apply nx_asg) | (with_reducible apply ok_isNN))
  refine index_ok hl hc hd fun m1 ha => ?_
  have h1 := h m1 ha
  repeat (first | ((with_reducible apply ok_var); exact rfl) | ((with_reducible apply ok_calls); exact rfl) | ((with_reducible apply ok_tupL); exact Nat.le_of_ble_eq_true rfl) | ((with_reducible apply ok_lstL); exact Nat.le_of_ble_eq_true rfl) | ((with_reducible apply ok_lstC); exact Nat.le_of_ble_eq_true rfl) | (with_reducible apply ok_e2) | (with_reducible apply ok_c) | (with_reducible apply ok_cons) | (with_reducible apply ok_nil) | (with_reducible apply ok_ofL) | (with_reducible apply ok_call) | (with_reducible apply ok_meth) | (with_reducible apply ok_bV) | (with_reducible apply ok_bNot) | (with_reducible apply ok_bAnd) | (with_reducible apply ok_bOr) | (with_reducible apply ok_eAnd) | (with_reducible apply ok_eOr) | (with_reducible apply ok_eNot) | (with_reducible apply ok_eIf) | (with_reducible apply ok_iVal) | (with_reducible apply ok_range) | (with_reducible apply ok_range2) | (with_reducible apply ok_listRange) | (with_reducible apply ok_enum) | (with_reducible apply ok_bYes) | (with_reducible apply ok_mkL) | (with_reducible apply ok_mkC) | (with_reducible apply ok_ok) | (with_reducible apply ok_addI) | (with_reducible apply ok_gtI) | (with_reducible apply ok_geI) | (with_reducible apply ok_ltI) | (with_reducible apply ok_leI) | (with_reducible apply ok_leS) | (with_reducible apply ok_eqI) | (with_reducible apply ok_neI) | (with_reducible apply ok_eqS) | (with_reducible apply ok_neS) | (with_reducible apply ok_int) | (with_reducible apply ok_lenL) | (with_reducible apply ok_lenT) | (with_reducible apply ok_tupOfL) | (with_reducible apply ok_tupOfT) | (with_reducible apply bl_mk) | (with_reducible apply it_lst) | (with_reducible apply it_tup) | (with_reducible apply it_rls) | (with_reducible apply en_lst) | (with_reducible apply en_tup) | (with_reducible apply rt_seqOf) | (with_reducible apply nx_seqOf) | (with_reducible apply rt_of) | (with_reducible apply nx_of) | (with_reducible apply nx_nx) | (with_reducible apply rt_rt) | (with_reducible apply nx_nil) | (with_reducible apply rt_seqNil) | (with_reducible apply nx_asg) | (with_reducible apply ok_isNN))
  try simp only [List.map_cons, List.map_nil, List.cons_append, List.nil_append, List.length_cons, List.length_nil, Nat.reduceAdd, Nat.reduceSub, List.replicate_succ, List.replicate_zero, List.set_cons_succ, List.set_cons_zero]
  refine ok_ixT at2 (ok_nil (ok_lenL ?_))
  rw [List.length_map]
  repeat (first | ((with_reducible apply ok_var); exact rfl) | ((with_reducible apply ok_calls); exact rfl) | ((with_reducible apply ok_tupL); exact Nat.le_of_ble_eq_true rfl) | ((with_reducible apply ok_lstL); exact Nat.le_of_ble_eq_true rfl) | ((with_reducible apply ok_lstC); exact Nat.le_of_ble_eq_true rfl) | (with_reducible apply ok_e2) | (with_reducible apply ok_c) | (with_reducible apply ok_cons) | (with_reducible apply ok_nil) | (with_reducible apply ok_ofL) | (with_reducible apply ok_call) | (with_reducible apply ok_meth) | (with_reducible apply ok_bV) | (with_reducible apply ok_bNot) | (with_reducible apply ok_bAnd) | (with_reducible apply ok_bOr) | (with_reducible apply ok_eAnd) | (with_reducible apply ok_eOr) | (with_reducible apply ok_eNot) | (with_reducible apply ok_eIf) | (with_reducible apply ok_iVal) | (with_reducible apply ok_range) | (with_reducible apply ok_range2) | (with_reducible apply ok_listRange) | (with_reducible apply ok_enum) | (with_reducible apply ok_bYes) | (with_reducible apply ok_mkL) | (with_reducible apply ok_mkC) | (with_reducible apply ok_ok) | (with_reducible apply ok_addI) | (with_reducible apply ok_gtI) | (with_reducible apply ok_geI) | (with_reducible apply ok_ltI) | (with_reducible apply ok_leI) | (with_reducible apply ok_leS) | (with_reducible apply ok_eqI) | (with_reducible apply ok_neI) | (with_reducible apply ok_eqS) | (with_reducible apply ok_neS) | (with_reducible apply ok_int) | (with_reducible apply ok_lenL) | (with_reducible apply ok_lenT) | (with_reducible apply ok_tupOfL) | (with_reducible apply ok_tupOfT) | (with_reducible apply bl_mk) | (with_reducible apply it_lst) | (with_reducible apply it_tup) | (with_reducible apply it_rls) | (with_reducible apply en_lst) | (with_reducible apply en_tup) | (with_reducible apply rt_seqOf) | (with_reducible apply nx_seqOf) | (with_reducible apply rt_of) | (with_reducible apply nx_of) | (with_reducible apply nx_nx) | (with_reducible apply rt_rt) | (with_reducible apply nx_nil) | (with_reducible apply rt_seqNil) | (with_reducible apply nx_asg) | (with_reducible apply ok_isNN))
  unfold toldS at h1
  by_cases q : idx ss cl = cl.length
  · rw [if_pos (by simp [q])]
    rw [List.getElem?_eq_none (by omega)] at h1
    exact ok_e2 (ok_var rfl (ok_c (ok_ixT at3 (rt_rt h1))))
  · rw [if_neg (by simp; omega)]
    have hlt : idx ss cl < cl.length := by have := idx_le (ss := ss) cl; omega
    obtain ⟨c, hc1⟩ := at_lt hlt
    rw [hc1] at h1
    exact ok_e2 (ok_e2 (ok_e2 (ok_var rfl (ok_c (ok_ixT at2 (ok_var rfl (ok_ixL (t := c.t) (atN (by rw [List.getElem?_map, hc1]; rfl)) (ok_c (ok_ixT at0 (rt_rt h1)))))))))) 
/-! ### the checks of a kind -/
theorem isList_ok {m : Mem} {P : T → Mem → Prop} {t : T} {ts : List T} (ht : t = .lst ts ∨ t = .tup ts) (h : P (.bl true) m) : Ok (F_is_list [t] m) P := by
  unfold F_is_list B_is_list
  refine ok_fn ?_
  try simp only [List.map_cons, List.map_nil, List.cons_append, List.nil_append, List.length_cons, List.length_nil, Nat.reduceAdd, Nat.reduceSub, List.replicate_succ, List.replicate_zero, List.set_cons_succ, List.set_cons_zero]
  refine rt_of ⟨.bl true, m, ?_, rt_rt h⟩
  unfold eIsiT
  have e1 : kitAll "list" ["list", "tuple"] = some true := by decide +kernel
  have e2 : kitAll "tuple" ["list", "tuple"] = some true := by decide +kernel
  rcases ht with rfl | rfl
  · simp only [eVar, List.getElem?_cons_zero, Out.bind, tyOf, e1]
  · simp only [eVar, List.getElem?_cons_zero, Out.bind, tyOf, e2]
theorem ok_isi {m : Mem} {P : T → Mem → Prop} {x : T} {n a : String} {b : Bool} (e : tyOf m x = some a) (e2 : kitB a n = some b) (h : P (.bl b) m) : Ok (gIsi [x, .ty n] m) P := ⟨_, _, by unfold gIsi; simp only [e, e2], h⟩
theorem isName_ok {m : Mem} {P : T → Mem → Prop} {x : Str} (g : Good x) (h : P (.bl true) m) : Ok (F_is_name [.str x] m) P := by
  have hlen := len_cps x
  have h0 := g.lo
  have h1 := g.hi
  unfold F_is_name B_is_name
  refine ok_fn ?_
  try simp only [List.map_cons, List.map_nil, List.cons_append, List.nil_append, List.length_cons, List.length_nil, Nat.reduceAdd, Nat.reduceSub, List.replicate_succ, List.replicate_zero, List.set_cons_succ, List.set_cons_zero]
  refine rt_seqIf ?_
  repeat (first | ((with_reducible apply ok_var); exact rfl) | ((with_reducible apply ok_calls); exact rfl) | ((with_reducible apply ok_tupL); exact Nat.le_of_ble_eq_true rfl) | ((with_reducible apply ok_lstL); exact Nat.le_of_ble_eq_true rfl) | ((with_reducible apply ok_lstC); exact Nat.le_of_ble_eq_true rfl) | (with_reducible apply ok_e2) | (with_reducible apply ok_c) | (with_reducible apply ok_cons) | (with_reducible apply ok_nil) | (with_reducible apply ok_ofL) | (with_reducible apply ok_call) | (with_reducible apply ok_meth) | (with_reducible apply ok_bV) | (with_reducible apply ok_bNot) | (with_reducible apply ok_bAnd) | (with_reducible apply ok_bOr) | (with_reducible apply ok_eAnd) | (with_reducible apply ok_eOr) | (with_reducible apply ok_eNot) | (with_reducible apply ok_eIf) | (with_reducible apply ok_iVal) | (with_reducible apply ok_range) | (with_reducible apply ok_range2) | (with_reducible apply ok_listRange) | (with_reducible apply ok_enum) | (with_reducible apply ok_bYes) | (with_reducible apply ok_mkL) | (with_reducible apply ok_mkC) | (with_reducible apply ok_ok) | (with_reducible apply ok_addI) | (with_reducible apply ok_gtI) | (with_reducible apply ok_geI) | (with_reducible apply ok_ltI) | (with_reducible apply ok_leI) | (with_reducible apply ok_leS) | (with_reducible apply ok_eqI) | (with_reducible apply ok_neI) | (with_reducible apply ok_eqS) | (with_reducible apply ok_neS) | (with_reducible apply ok_int) | (with_reducible apply ok_lenL) | (with_reducible apply ok_lenT) | (with_reducible apply ok_tupOfL) | (with_reducible apply ok_tupOfT) | (with_reducible apply bl_mk) | (with_reducible apply it_lst) | (with_reducible apply it_tup) | (with_reducible apply it_rls) | (with_reducible apply en_lst) | (with_reducible apply en_tup) | (with_reducible apply rt_seqOf) | (with_reducible apply nx_seqOf) | (with_reducible apply rt_of) | (with_reducible apply nx_of) | (with_reducible apply nx_nx) | (with_reducible apply rt_rt) | (with_reducible apply nx_nil) | (with_reducible apply rt_seqNil) | (with_reducible apply nx_asg) | (with_reducible apply ok_isNN))
  refine ok_isi (a := "str") (b := true) rfl (by decide +kernel) ?_
  repeat (first | ((with_reducible apply ok_var); exact rfl) | ((with_reducible apply ok_calls); exact rfl) | ((with_reducible apply ok_tupL); exact Nat.le_of_ble_eq_true rfl) | ((with_reducible apply ok_lstL); exact Nat.le_of_ble_eq_true rfl) | ((with_reducible apply ok_lstC); exact Nat.le_of_ble_eq_true rfl) | (with_reducible apply ok_e2) | (with_reducible apply ok_c) | (with_reducible apply ok_cons) | (with_reducible apply ok_nil) | (with_reducible apply ok_ofL) | (with_reducible apply ok_call) | (with_reducible apply ok_meth) | (with_reducible apply ok_bV) | (with_reducible apply ok_bNot) | (with_reducible apply ok_bAnd) | (with_reducible apply ok_bOr) | (with_reducible apply ok_eAnd) | (with_reducible apply ok_eOr) | (with_reducible apply ok_eNot) | (with_reducible apply ok_eIf) | (with_reducible apply ok_iVal) | (with_reducible apply ok_range) | (with_reducible apply ok_range2) | (with_reducible apply ok_listRange) | (with_reducible apply ok_enum) | (with_reducible apply ok_bYes) | (with_reducible apply ok_mkL) | (with_reducible apply ok_mkC) | (with_reducible apply ok_ok) | (with_reducible apply ok_addI) | (with_reducible apply ok_gtI) | (with_reducible apply ok_geI) | (with_reducible apply ok_ltI) | (with_reducible apply ok_leI) | (with_reducible apply ok_leS) | (with_reducible apply ok_eqI) | (with_reducible apply ok_neI) | (with_reducible apply ok_eqS) | (with_reducible apply ok_neS) | (with_reducible apply ok_int) | (with_reducible apply ok_lenL) | (with_reducible apply ok_lenT) | (with_reducible apply ok_tupOfL) | (with_reducible apply ok_tupOfT) | (with_reducible apply bl_mk) | (with_reducible apply it_lst) | (with_reducible apply it_tup) | (with_reducible apply it_rls) | (with_reducible apply en_lst) | (with_reducible apply en_tup) | (with_reducible apply rt_seqOf) | (with_reducible apply nx_seqOf) | (with_reducible apply rt_of) | (with_reducible apply nx_of) | (with_reducible apply nx_nx) | (with_reducible apply rt_rt) | (with_reducible apply nx_nil) | (with_reducible apply rt_seqNil) | (with_reducible apply nx_asg) | (with_reducible apply ok_isNN))
  rw [Bool.not_true, if_neg (by decide)]
  refine ok_bNot (ok_bV (ok_chain ?_))
  repeat (first | ((with_reducible apply ok_var); exact rfl) | ((with_reducible apply ok_calls); exact rfl) | ((with_reducible apply ok_tupL); exact Nat.le_of_ble_eq_true rfl) | ((with_reducible apply ok_lstL); exact Nat.le_of_ble_eq_true rfl) | ((with_reducible apply ok_lstC); exact Nat.le_of_ble_eq_true rfl) | (with_reducible apply ok_e2) | (with_reducible apply ok_c) | (with_reducible apply ok_cons) | (with_reducible apply ok_nil) | (with_reducible apply ok_ofL) | (with_reducible apply ok_call) | (with_reducible apply ok_meth) | (with_reducible apply ok_bV) | (with_reducible apply ok_bNot) | (with_reducible apply ok_bAnd) | (with_reducible apply ok_bOr) | (with_reducible apply ok_eAnd) | (with_reducible apply ok_eOr) | (with_reducible apply ok_eNot) | (with_reducible apply ok_eIf) | (with_reducible apply ok_iVal) | (with_reducible apply ok_range) | (with_reducible apply ok_range2) | (with_reducible apply ok_listRange) | (with_reducible apply ok_enum) | (with_reducible apply ok_bYes) | (with_reducible apply ok_mkL) | (with_reducible apply ok_mkC) | (with_reducible apply ok_ok) | (with_reducible apply ok_addI) | (with_reducible apply ok_gtI) | (with_reducible apply ok_geI) | (with_reducible apply ok_ltI) | (with_reducible apply ok_leI) | (with_reducible apply ok_leS) | (with_reducible apply ok_eqI) | (with_reducible apply ok_neI) | (with_reducible apply ok_eqS) | (with_reducible apply ok_neS) | (with_reducible apply ok_int) | (with_reducible apply ok_lenL) | (with_reducible apply ok_lenT) | (with_reducible apply ok_tupOfL) | (with_reducible apply ok_tupOfT) | (with_reducible apply bl_mk) | (with_reducible apply it_lst) | (with_reducible apply it_tup) | (with_reducible apply it_rls) | (with_reducible apply en_lst) | (with_reducible apply en_tup) | (with_reducible apply rt_seqOf) | (with_reducible apply nx_seqOf) | (with_reducible apply rt_of) | (with_reducible apply nx_of) | (with_reducible apply nx_nx) | (with_reducible apply rt_rt) | (with_reducible apply nx_nil) | (with_reducible apply rt_seqNil) | (with_reducible apply nx_asg) | (with_reducible apply ok_isNN))
  refine ok_lenS (by unfold lim; omega) ?_
  repeat (first | ((with_reducible apply ok_var); exact rfl) | ((with_reducible apply ok_calls); exact rfl) | ((with_reducible apply ok_tupL); exact Nat.le_of_ble_eq_true rfl) | ((with_reducible apply ok_lstL); exact Nat.le_of_ble_eq_true rfl) | ((with_reducible apply ok_lstC); exact Nat.le_of_ble_eq_true rfl) | (with_reducible apply ok_e2) | (with_reducible apply ok_c) | (with_reducible apply ok_cons) | (with_reducible apply ok_nil) | (with_reducible apply ok_ofL) | (with_reducible apply ok_call) | (with_reducible apply ok_meth) | (with_reducible apply ok_bV) | (with_reducible apply ok_bNot) | (with_reducible apply ok_bAnd) | (with_reducible apply ok_bOr) | (with_reducible apply ok_eAnd) | (with_reducible apply ok_eOr) | (with_reducible apply ok_eNot) | (with_reducible apply ok_eIf) | (with_reducible apply ok_iVal) | (with_reducible apply ok_range) | (with_reducible apply ok_range2) | (with_reducible apply ok_listRange) | (with_reducible apply ok_enum) | (with_reducible apply ok_bYes) | (with_reducible apply ok_mkL) | (with_reducible apply ok_mkC) | (with_reducible apply ok_ok) | (with_reducible apply ok_addI) | (with_reducible apply ok_gtI) | (with_reducible apply ok_geI) | (with_reducible apply ok_ltI) | (with_reducible apply ok_leI) | (with_reducible apply ok_leS) | (with_reducible apply ok_eqI) | (with_reducible apply ok_neI) | (with_reducible apply ok_eqS) | (with_reducible apply ok_neS) | (with_reducible apply ok_int) | (with_reducible apply ok_lenL) | (with_reducible apply ok_lenT) | (with_reducible apply ok_tupOfL) | (with_reducible apply ok_tupOfT) | (with_reducible apply bl_mk) | (with_reducible apply it_lst) | (with_reducible apply it_tup) | (with_reducible apply it_rls) | (with_reducible apply en_lst) | (with_reducible apply en_tup) | (with_reducible apply rt_seqOf) | (with_reducible apply nx_seqOf) | (with_reducible apply rt_of) | (with_reducible apply nx_of) | (with_reducible apply nx_nx) | (with_reducible apply rt_rt) | (with_reducible apply nx_nil) | (with_reducible apply rt_seqNil) | (with_reducible apply nx_asg) | (with_reducible apply ok_isNN))
  rw [decide_eq_true (show (1 : Int) ≤ (x.length : Int) by omega), if_pos rfl]
  repeat (first | ((with_reducible apply ok_var); exact rfl) | ((with_reducible apply ok_calls); exact rfl) | ((with_reducible apply ok_tupL); exact Nat.le_of_ble_eq_true rfl) | ((with_reducible apply ok_lstL); exact Nat.le_of_ble_eq_true rfl) | ((with_reducible apply ok_lstC); exact Nat.le_of_ble_eq_true rfl) | (with_reducible apply ok_e2) | (with_reducible apply ok_c) | (with_reducible apply ok_cons) | (with_reducible apply ok_nil) | (with_reducible apply ok_ofL) | (with_reducible apply ok_call) | (with_reducible apply ok_meth) | (with_reducible apply ok_bV) | (with_reducible apply ok_bNot) | (with_reducible apply ok_bAnd) | (with_reducible apply ok_bOr) | (with_reducible apply ok_eAnd) | (with_reducible apply ok_eOr) | (with_reducible apply ok_eNot) | (with_reducible apply ok_eIf) | (with_reducible apply ok_iVal) | (with_reducible apply ok_range) | (with_reducible apply ok_range2) | (with_reducible apply ok_listRange) | (with_reducible apply ok_enum) | (with_reducible apply ok_bYes) | (with_reducible apply ok_mkL) | (with_reducible apply ok_mkC) | (with_reducible apply ok_ok) | (with_reducible apply ok_addI) | (with_reducible apply ok_gtI) | (with_reducible apply ok_geI) | (with_reducible apply ok_ltI) | (with_reducible apply ok_leI) | (with_reducible apply ok_leS) | (with_reducible apply ok_eqI) | (with_reducible apply ok_neI) | (with_reducible apply ok_eqS) | (with_reducible apply ok_neS) | (with_reducible apply ok_int) | (with_reducible apply ok_lenL) | (with_reducible apply ok_lenT) | (with_reducible apply ok_tupOfL) | (with_reducible apply ok_tupOfT) | (with_reducible apply bl_mk) | (with_reducible apply it_lst) | (with_reducible apply it_tup) | (with_reducible apply it_rls) | (with_reducible apply en_lst) | (with_reducible apply en_tup) | (with_reducible apply rt_seqOf) | (with_reducible apply nx_seqOf) | (with_reducible apply rt_of) | (with_reducible apply nx_of) | (with_reducible apply nx_nx) | (with_reducible apply rt_rt) | (with_reducible apply nx_nil) | (with_reducible apply rt_seqNil) | (with_reducible apply nx_asg) | (with_reducible apply ok_isNN))
  rw [decide_eq_true (show (x.length : Int) ≤ 8 by omega), Bool.not_true, if_neg (by decide)]
  refine rt_seqNil (rt_of (ok_ofL (ok_cons (ok_compM x.cps.toList (fun c => .str ⟨#[c]⟩) (fun _ => true) (fun _ => .bl true) ?_))))
  refine ok_iVal (ok_var rfl ⟨_, rfl, rfl, by unfold lim; omega, ?_, ?_⟩)
  · intro c hc
    have hcc := g.az c hc
    refine ⟨_, rfl, ok_bYes ⟨rfl, rfl, fun _ => ?_⟩⟩
    refine ok_chain ?_
    repeat (first | ((with_reducible apply ok_var); exact rfl) | ((with_reducible apply ok_calls); exact rfl) | ((with_reducible apply ok_tupL); exact Nat.le_of_ble_eq_true rfl) | ((with_reducible apply ok_lstL); exact Nat.le_of_ble_eq_true rfl) | ((with_reducible apply ok_lstC); exact Nat.le_of_ble_eq_true rfl) | (with_reducible apply ok_e2) | (with_reducible apply ok_c) | (with_reducible apply ok_cons) | (with_reducible apply ok_nil) | (with_reducible apply ok_ofL) | (with_reducible apply ok_call) | (with_reducible apply ok_meth) | (with_reducible apply ok_bV) | (with_reducible apply ok_bNot) | (with_reducible apply ok_bAnd) | (with_reducible apply ok_bOr) | (with_reducible apply ok_eAnd) | (with_reducible apply ok_eOr) | (with_reducible apply ok_eNot) | (with_reducible apply ok_eIf) | (with_reducible apply ok_iVal) | (with_reducible apply ok_range) | (with_reducible apply ok_range2) | (with_reducible apply ok_listRange) | (with_reducible apply ok_enum) | (with_reducible apply ok_bYes) | (with_reducible apply ok_mkL) | (with_reducible apply ok_mkC) | (with_reducible apply ok_ok) | (with_reducible apply ok_addI) | (with_reducible apply ok_gtI) | (with_reducible apply ok_geI) | (with_reducible apply ok_ltI) | (with_reducible apply ok_leI) | (with_reducible apply ok_leS) | (with_reducible apply ok_eqI) | (with_reducible apply ok_neI) | (with_reducible apply ok_eqS) | (with_reducible apply ok_neS) | (with_reducible apply ok_int) | (with_reducible apply ok_lenL) | (with_reducible apply ok_lenT) | (with_reducible apply ok_tupOfL) | (with_reducible apply ok_tupOfT) | (with_reducible apply bl_mk) | (with_reducible apply it_lst) | (with_reducible apply it_tup) | (with_reducible apply it_rls) | (with_reducible apply en_lst) | (with_reducible apply en_tup) | (with_reducible apply rt_seqOf) | (with_reducible apply nx_seqOf) | (with_reducible apply rt_of) | (with_reducible apply nx_of) | (with_reducible apply nx_nx) | (with_reducible apply rt_rt) | (with_reducible apply nx_nil) | (with_reducible apply rt_seqNil) | (with_reducible apply nx_asg) | (with_reducible apply ok_isNN))
    have e1 : ("a" : Str).cps.toList = [97] := by decide +kernel
    have e2 : ("z" : Str).cps.toList = [122] := by decide +kernel
    rw [e1]
    have q1 : ¬ ([c] < [97]) := by
      intro hlt
      rw [List.cons_lt_cons_iff] at hlt
      rcases hlt with q | ⟨_, q⟩
      · omega
      · exact absurd q (List.lt_irrefl [])
    have q2 : ¬ ([122] < [c]) := by
      intro hlt
      rw [List.cons_lt_cons_iff] at hlt
      rcases hlt with q | ⟨_, q⟩
      · omega
      · exact absurd q (List.lt_irrefl [])
    rw [show decide ((⟨#[c]⟩ : Str).cps.toList < [97]) = false from decide_eq_false q1, Bool.not_false, if_pos rfl]
    repeat (first | ((with_reducible apply ok_var); exact rfl) | ((with_reducible apply ok_calls); exact rfl) | ((with_reducible apply ok_tupL); exact Nat.le_of_ble_eq_true rfl) | ((with_reducible apply ok_lstL); exact Nat.le_of_ble_eq_true rfl) | ((with_reducible apply ok_lstC); exact Nat.le_of_ble_eq_true rfl) | (with_reducible apply ok_e2) | (with_reducible apply ok_c) | (with_reducible apply ok_cons) | (with_reducible apply ok_nil) | (with_reducible apply ok_ofL) | (with_reducible apply ok_call) | (with_reducible apply ok_meth) | (with_reducible apply ok_bV) | (with_reducible apply ok_bNot) | (with_reducible apply ok_bAnd) | (with_reducible apply ok_bOr) | (with_reducible apply ok_eAnd) | (with_reducible apply ok_eOr) | (with_reducible apply ok_eNot) | (with_reducible apply ok_eIf) | (with_reducible apply ok_iVal) | (with_reducible apply ok_range) | (with_reducible apply ok_range2) | (with_reducible apply ok_listRange) | (with_reducible apply ok_enum) | (with_reducible apply ok_bYes) | (with_reducible apply ok_mkL) | (with_reducible apply ok_mkC) | (with_reducible apply ok_ok) | (with_reducible apply ok_addI) | (with_reducible apply ok_gtI) | (with_reducible apply ok_geI) | (with_reducible apply ok_ltI) | (with_reducible apply ok_leI) | (with_reducible apply ok_leS) | (with_reducible apply ok_eqI) | (with_reducible apply ok_neI) | (with_reducible apply ok_eqS) | (with_reducible apply ok_neS) | (with_reducible apply ok_int) | (with_reducible apply ok_lenL) | (with_reducible apply ok_lenT) | (with_reducible apply ok_tupOfL) | (with_reducible apply ok_tupOfT) | (with_reducible apply bl_mk) | (with_reducible apply it_lst) | (with_reducible apply it_tup) | (with_reducible apply it_rls) | (with_reducible apply en_lst) | (with_reducible apply en_tup) | (with_reducible apply rt_seqOf) | (with_reducible apply nx_seqOf) | (with_reducible apply rt_of) | (with_reducible apply nx_of) | (with_reducible apply nx_nx) | (with_reducible apply rt_rt) | (with_reducible apply nx_nil) | (with_reducible apply rt_seqNil) | (with_reducible apply nx_asg) | (with_reducible apply ok_isNN))
    refine ⟨rfl, ?_⟩
    rw [e2, show decide ([122] < (⟨#[c]⟩ : Str).cps.toList) = false from decide_eq_false q2]; rfl
  · rw [filter_yes]
    repeat (first | ((with_reducible apply ok_var); exact rfl) | ((with_reducible apply ok_calls); exact rfl) | ((with_reducible apply ok_tupL); exact Nat.le_of_ble_eq_true rfl) | ((with_reducible apply ok_lstL); exact Nat.le_of_ble_eq_true rfl) | ((with_reducible apply ok_lstC); exact Nat.le_of_ble_eq_true rfl) | (with_reducible apply ok_e2) | (with_reducible apply ok_c) | (with_reducible apply ok_cons) | (with_reducible apply ok_nil) | (with_reducible apply ok_ofL) | (with_reducible apply ok_call) | (with_reducible apply ok_meth) | (with_reducible apply ok_bV) | (with_reducible apply ok_bNot) | (with_reducible apply ok_bAnd) | (with_reducible apply ok_bOr) | (with_reducible apply ok_eAnd) | (with_reducible apply ok_eOr) | (with_reducible apply ok_eNot) | (with_reducible apply ok_eIf) | (with_reducible apply ok_iVal) | (with_reducible apply ok_range) | (with_reducible apply ok_range2) | (with_reducible apply ok_listRange) | (with_reducible apply ok_enum) | (with_reducible apply ok_bYes) | (with_reducible apply ok_mkL) | (with_reducible apply ok_mkC) | (with_reducible apply ok_ok) | (with_reducible apply ok_addI) | (with_reducible apply ok_gtI) | (with_reducible apply ok_geI) | (with_reducible apply ok_ltI) | (with_reducible apply ok_leI) | (with_reducible apply ok_leS) | (with_reducible apply ok_eqI) | (with_reducible apply ok_neI) | (with_reducible apply ok_eqS) | (with_reducible apply ok_neS) | (with_reducible apply ok_int) | (with_reducible apply ok_lenL) | (with_reducible apply ok_lenT) | (with_reducible apply ok_tupOfL) | (with_reducible apply ok_tupOfT) | (with_reducible apply bl_mk) | (with_reducible apply it_lst) | (with_reducible apply it_tup) | (with_reducible apply it_rls) | (with_reducible apply en_lst) | (with_reducible apply en_tup) | (with_reducible apply rt_seqOf) | (with_reducible apply nx_seqOf) | (with_reducible apply rt_of) | (with_reducible apply nx_of) | (with_reducible apply nx_nx) | (with_reducible apply rt_rt) | (with_reducible apply nx_nil) | (with_reducible apply rt_seqNil) | (with_reducible apply nx_asg) | (with_reducible apply ok_isNN))
    refine ok_allL (f := fun _ => true) (rt_rt ?_)
    rw [show (x.cps.toList.all fun _ => true) = true by simp]
    exact h
theorem ucnt_nodup {xs : List Str} (hn : xs.Nodup) : ∀ i, i ≤ xs.length → EvS.ucnt xs i = i
  | 0, _ => rfl
  | i + 1, hi => by
    have hx : i < xs.length := by omega
    have e : (xs.take i).any (· == xs.getD i Str.empty) = false := by
      rw [List.any_eq_false]
      intro y hy hyx
      rw [List.getD_eq_getElem?_getD, List.getElem?_eq_getElem hx, Option.getD_some] at hyx
      have hyx := eq_of_beq hyx
      obtain ⟨j, hj, rfl⟩ := List.mem_take_iff_getElem.mp hy
      have hj2 : j < i := by omega
      exact (List.pairwise_iff_getElem.mp hn) j i (by omega) hx hj2 hyx
    unfold EvS.ucnt
    rw [e, ucnt_nodup hn i (by omega)]; rfl
theorem areNames_ok {m : Mem} {P : T → Mem → Prop} {t : T} {xs : List Str} (ht : t = .lst (xs.map T.str) ∨ t = .tup (xs.map T.str)) (hl : xs.length ≤ 1000) (hn : xs.Nodup) (hg : ∀ x ∈ xs, Good x) (h : P (.bl true) m) : Ok (F_are_names [t] m) P := by
  have hi : items t = some (xs.map T.str) := by rcases ht with rfl | rfl <;> rfl
  unfold F_are_names B_are_names
  refine ok_fn ?_
  try simp only [List.map_cons, List.map_nil, List.cons_append, List.nil_append, List.length_cons, List.length_nil, Nat.reduceAdd, Nat.reduceSub, List.replicate_succ, List.replicate_zero, List.set_cons_succ, List.set_cons_zero]
  refine rt_seqIf ?_
  repeat (first | ((with_reducible apply ok_var); exact rfl) | ((with_reducible apply ok_calls); exact rfl) | ((with_reducible apply ok_tupL); exact Nat.le_of_ble_eq_true rfl) | ((with_reducible apply ok_lstL); exact Nat.le_of_ble_eq_true rfl) | ((with_reducible apply ok_lstC); exact Nat.le_of_ble_eq_true rfl) | (with_reducible apply ok_e2) | (with_reducible apply ok_c) | (with_reducible apply ok_cons) | (with_reducible apply ok_nil) | (with_reducible apply ok_ofL) | (with_reducible apply ok_call) | (with_reducible apply ok_meth) | (with_reducible apply ok_bV) | (with_reducible apply ok_bNot) | (with_reducible apply ok_bAnd) | (with_reducible apply ok_bOr) | (with_reducible apply ok_eAnd) | (with_reducible apply ok_eOr) | (with_reducible apply ok_eNot) | (with_reducible apply ok_eIf) | (with_reducible apply ok_iVal) | (with_reducible apply ok_range) | (with_reducible apply ok_range2) | (with_reducible apply ok_listRange) | (with_reducible apply ok_enum) | (with_reducible apply ok_bYes) | (with_reducible apply ok_mkL) | (with_reducible apply ok_mkC) | (with_reducible apply ok_ok) | (with_reducible apply ok_addI) | (with_reducible apply ok_gtI) | (with_reducible apply ok_geI) | (with_reducible apply ok_ltI) | (with_reducible apply ok_leI) | (with_reducible apply ok_leS) | (with_reducible apply ok_eqI) | (with_reducible apply ok_neI) | (with_reducible apply ok_eqS) | (with_reducible apply ok_neS) | (with_reducible apply ok_int) | (with_reducible apply ok_lenL) | (with_reducible apply ok_lenT) | (with_reducible apply ok_tupOfL) | (with_reducible apply ok_tupOfT) | (with_reducible apply bl_mk) | (with_reducible apply it_lst) | (with_reducible apply it_tup) | (with_reducible apply it_rls) | (with_reducible apply en_lst) | (with_reducible apply en_tup) | (with_reducible apply rt_seqOf) | (with_reducible apply nx_seqOf) | (with_reducible apply rt_of) | (with_reducible apply nx_of) | (with_reducible apply nx_nx) | (with_reducible apply rt_rt) | (with_reducible apply nx_nil) | (with_reducible apply rt_seqNil) | (with_reducible apply nx_asg) | (with_reducible apply ok_isNN))
  refine isList_ok ht ?_
  repeat (first | ((with_reducible apply ok_var); exact rfl) | ((with_reducible apply ok_calls); exact rfl) | ((with_reducible apply ok_tupL); exact Nat.le_of_ble_eq_true rfl) | ((with_reducible apply ok_lstL); exact Nat.le_of_ble_eq_true rfl) | ((with_reducible apply ok_lstC); exact Nat.le_of_ble_eq_true rfl) | (with_reducible apply ok_e2) | (with_reducible apply ok_c) | (with_reducible apply ok_cons) | (with_reducible apply ok_nil) | (with_reducible apply ok_ofL) | (with_reducible apply ok_call) | (with_reducible apply ok_meth) | (with_reducible apply ok_bV) | (with_reducible apply ok_bNot) | (with_reducible apply ok_bAnd) | (with_reducible apply ok_bOr) | (with_reducible apply ok_eAnd) | (with_reducible apply ok_eOr) | (with_reducible apply ok_eNot) | (with_reducible apply ok_eIf) | (with_reducible apply ok_iVal) | (with_reducible apply ok_range) | (with_reducible apply ok_range2) | (with_reducible apply ok_listRange) | (with_reducible apply ok_enum) | (with_reducible apply ok_bYes) | (with_reducible apply ok_mkL) | (with_reducible apply ok_mkC) | (with_reducible apply ok_ok) | (with_reducible apply ok_addI) | (with_reducible apply ok_gtI) | (with_reducible apply ok_geI) | (with_reducible apply ok_ltI) | (with_reducible apply ok_leI) | (with_reducible apply ok_leS) | (with_reducible apply ok_eqI) | (with_reducible apply ok_neI) | (with_reducible apply ok_eqS) | (with_reducible apply ok_neS) | (with_reducible apply ok_int) | (with_reducible apply ok_lenL) | (with_reducible apply ok_lenT) | (with_reducible apply ok_tupOfL) | (with_reducible apply ok_tupOfT) | (with_reducible apply bl_mk) | (with_reducible apply it_lst) | (with_reducible apply it_tup) | (with_reducible apply it_rls) | (with_reducible apply en_lst) | (with_reducible apply en_tup) | (with_reducible apply rt_seqOf) | (with_reducible apply nx_seqOf) | (with_reducible apply rt_of) | (with_reducible apply nx_of) | (with_reducible apply nx_nx) | (with_reducible apply rt_rt) | (with_reducible apply nx_nil) | (with_reducible apply rt_seqNil) | (with_reducible apply nx_asg) | (with_reducible apply ok_isNN))
  rw [Bool.not_true, if_neg (by decide)]
  refine ok_bNot (ok_bV (ok_ofL (ok_cons (ok_compM xs T.str (fun _ => true) (fun _ => .bl true) ?_))))
  refine ok_iVal (ok_var rfl ⟨_, hi, rfl, by unfold lim; omega, ?_, ?_⟩)
  · intro x hx
    refine ⟨_, rfl, ok_bYes ⟨rfl, rfl, fun _ => ?_⟩⟩
    repeat (first | ((with_reducible apply ok_var); exact rfl) | ((with_reducible apply ok_calls); exact rfl) | ((with_reducible apply ok_tupL); exact Nat.le_of_ble_eq_true rfl) | ((with_reducible apply ok_lstL); exact Nat.le_of_ble_eq_true rfl) | ((with_reducible apply ok_lstC); exact Nat.le_of_ble_eq_true rfl) | (with_reducible apply ok_e2) | (with_reducible apply ok_c) | (with_reducible apply ok_cons) | (with_reducible apply ok_nil) | (with_reducible apply ok_ofL) | (with_reducible apply ok_call) | (with_reducible apply ok_meth) | (with_reducible apply ok_bV) | (with_reducible apply ok_bNot) | (with_reducible apply ok_bAnd) | (with_reducible apply ok_bOr) | (with_reducible apply ok_eAnd) | (with_reducible apply ok_eOr) | (with_reducible apply ok_eNot) | (with_reducible apply ok_eIf) | (with_reducible apply ok_iVal) | (with_reducible apply ok_range) | (with_reducible apply ok_range2) | (with_reducible apply ok_listRange) | (with_reducible apply ok_enum) | (with_reducible apply ok_bYes) | (with_reducible apply ok_mkL) | (with_reducible apply ok_mkC) | (with_reducible apply ok_ok) | (with_reducible apply ok_addI) | (with_reducible apply ok_gtI) | (with_reducible apply ok_geI) | (with_reducible apply ok_ltI) | (with_reducible apply ok_leI) | (with_reducible apply ok_leS) | (with_reducible apply ok_eqI) | (with_reducible apply ok_neI) | (with_reducible apply ok_eqS) | (with_reducible apply ok_neS) | (with_reducible apply ok_int) | (with_reducible apply ok_lenL) | (with_reducible apply ok_lenT) | (with_reducible apply ok_tupOfL) | (with_reducible apply ok_tupOfT) | (with_reducible apply bl_mk) | (with_reducible apply it_lst) | (with_reducible apply it_tup) | (with_reducible apply it_rls) | (with_reducible apply en_lst) | (with_reducible apply en_tup) | (with_reducible apply rt_seqOf) | (with_reducible apply nx_seqOf) | (with_reducible apply rt_of) | (with_reducible apply nx_of) | (with_reducible apply nx_nx) | (with_reducible apply rt_rt) | (with_reducible apply nx_nil) | (with_reducible apply rt_seqNil) | (with_reducible apply nx_asg) | (with_reducible apply ok_isNN))
    exact isName_ok (hg x hx) ⟨rfl, rfl⟩
  · rw [filter_yes]
    repeat (first | ((with_reducible apply ok_var); exact rfl) | ((with_reducible apply ok_calls); exact rfl) | ((with_reducible apply ok_tupL); exact Nat.le_of_ble_eq_true rfl) | ((with_reducible apply ok_lstL); exact Nat.le_of_ble_eq_true rfl) | ((with_reducible apply ok_lstC); exact Nat.le_of_ble_eq_true rfl) | (with_reducible apply ok_e2) | (with_reducible apply ok_c) | (with_reducible apply ok_cons) | (with_reducible apply ok_nil) | (with_reducible apply ok_ofL) | (with_reducible apply ok_call) | (with_reducible apply ok_meth) | (with_reducible apply ok_bV) | (with_reducible apply ok_bNot) | (with_reducible apply ok_bAnd) | (with_reducible apply ok_bOr) | (with_reducible apply ok_eAnd) | (with_reducible apply ok_eOr) | (with_reducible apply ok_eNot) | (with_reducible apply ok_eIf) | (with_reducible apply ok_iVal) | (with_reducible apply ok_range) | (with_reducible apply ok_range2) | (with_reducible apply ok_listRange) | (with_reducible apply ok_enum) | (with_reducible apply ok_bYes) | (with_reducible apply ok_mkL) | (with_reducible apply ok_mkC) | (with_reducible apply ok_ok) | (with_reducible apply ok_addI) | (with_reducible apply ok_gtI) | (with_reducible apply ok_geI) | (with_reducible apply ok_ltI) | (with_reducible apply ok_leI) | (with_reducible apply ok_leS) | (with_reducible apply ok_eqI) | (with_reducible apply ok_neI) | (with_reducible apply ok_eqS) | (with_reducible apply ok_neS) | (with_reducible apply ok_int) | (with_reducible apply ok_lenL) | (with_reducible apply ok_lenT) | (with_reducible apply ok_tupOfL) | (with_reducible apply ok_tupOfT) | (with_reducible apply bl_mk) | (with_reducible apply it_lst) | (with_reducible apply it_tup) | (with_reducible apply it_rls) | (with_reducible apply en_lst) | (with_reducible apply en_tup) | (with_reducible apply rt_seqOf) | (with_reducible apply nx_seqOf) | (with_reducible apply rt_of) | (with_reducible apply nx_of) | (with_reducible apply nx_nx) | (with_reducible apply rt_rt) | (with_reducible apply nx_nil) | (with_reducible apply rt_seqNil) | (with_reducible apply nx_asg) | (with_reducible apply ok_isNN))
    refine ok_allL (f := fun _ => true) (bl_mk ?_)
    rw [show (xs.all fun _ => true) = true by simp, Bool.not_true, if_neg (by decide)]
    refine rt_seqNil (rt_of (ok_e2 ⟨.int (xs.length : Nat), m, ?_, ?_⟩))
    · unfold eLenSet
      have hs : asSeq m t = some (xs.map T.str) := by rcases ht with rfl | rfl <;> rfl
      have ev : eVar 0 [some t, none] m = .ok t m := rfl
      simp only [ev, Out.bind, hs, txts_map, if_pos (show xs.length ≤ 4000 by omega), ucnt_nodup hn xs.length (Nat.le_refl _)]
    · repeat (first | ((with_reducible apply ok_var); exact rfl) | ((with_reducible apply ok_calls); exact rfl) | ((with_reducible apply ok_tupL); exact Nat.le_of_ble_eq_true rfl) | ((with_reducible apply ok_lstL); exact Nat.le_of_ble_eq_true rfl) | ((with_reducible apply ok_lstC); exact Nat.le_of_ble_eq_true rfl) | (with_reducible apply ok_e2) | (with_reducible apply ok_c) | (with_reducible apply ok_cons) | (with_reducible apply ok_nil) | (with_reducible apply ok_ofL) | (with_reducible apply ok_call) | (with_reducible apply ok_meth) | (with_reducible apply ok_bV) | (with_reducible apply ok_bNot) | (with_reducible apply ok_bAnd) | (with_reducible apply ok_bOr) | (with_reducible apply ok_eAnd) | (with_reducible apply ok_eOr) | (with_reducible apply ok_eNot) | (with_reducible apply ok_eIf) | (with_reducible apply ok_iVal) | (with_reducible apply ok_range) | (with_reducible apply ok_range2) | (with_reducible apply ok_listRange) | (with_reducible apply ok_enum) | (with_reducible apply ok_bYes) | (with_reducible apply ok_mkL) | (with_reducible apply ok_mkC) | (with_reducible apply ok_ok) | (with_reducible apply ok_addI) | (with_reducible apply ok_gtI) | (with_reducible apply ok_geI) | (with_reducible apply ok_ltI) | (with_reducible apply ok_leI) | (with_reducible apply ok_leS) | (with_reducible apply ok_eqI) | (with_reducible apply ok_neI) | (with_reducible apply ok_eqS) | (with_reducible apply ok_neS) | (with_reducible apply ok_int) | (with_reducible apply ok_lenL) | (with_reducible apply ok_lenT) | (with_reducible apply ok_tupOfL) | (with_reducible apply ok_tupOfT) | (with_reducible apply bl_mk) | (with_reducible apply it_lst) | (with_reducible apply it_tup) | (with_reducible apply it_rls) | (with_reducible apply en_lst) | (with_reducible apply en_tup) | (with_reducible apply rt_seqOf) | (with_reducible apply nx_seqOf) | (with_reducible apply rt_of) | (with_reducible apply nx_of) | (with_reducible apply nx_nx) | (with_reducible apply rt_rt) | (with_reducible apply nx_nil) | (with_reducible apply rt_seqNil) | (with_reducible apply nx_asg) | (with_reducible apply ok_isNN))
      rcases ht with rfl | rfl
      · repeat (first | ((with_reducible apply ok_var); exact rfl) | ((with_reducible apply ok_calls); exact rfl) | ((with_reducible apply ok_tupL); exact Nat.le_of_ble_eq_true rfl) | ((with_reducible apply ok_lstL); exact Nat.le_of_ble_eq_true rfl) | ((with_reducible apply ok_lstC); exact Nat.le_of_ble_eq_true rfl) | (with_reducible apply ok_e2) | (with_reducible apply ok_c) | (with_reducible apply ok_cons) | (with_reducible apply ok_nil) | (with_reducible apply ok_ofL) | (with_reducible apply ok_call) | (with_reducible apply ok_meth) | (with_reducible apply ok_bV) | (with_reducible apply ok_bNot) | (with_reducible apply ok_bAnd) | (with_reducible apply ok_bOr) | (with_reducible apply ok_eAnd) | (with_reducible apply ok_eOr) | (with_reducible apply ok_eNot) | (with_reducible apply ok_eIf) | (with_reducible apply ok_iVal) | (with_reducible apply ok_range) | (with_reducible apply ok_range2) | (with_reducible apply ok_listRange) | (with_reducible apply ok_enum) | (with_reducible apply ok_bYes) | (with_reducible apply ok_mkL) | (with_reducible apply ok_mkC) | (with_reducible apply ok_ok) | (with_reducible apply ok_addI) | (with_reducible apply ok_gtI) | (with_reducible apply ok_geI) | (with_reducible apply ok_ltI) | (with_reducible apply ok_leI) | (with_reducible apply ok_leS) | (with_reducible apply ok_eqI) | (with_reducible apply ok_neI) | (with_reducible apply ok_eqS) | (with_reducible apply ok_neS) | (with_reducible apply ok_int) | (with_reducible apply ok_lenL) | (with_reducible apply ok_lenT) | (with_reducible apply ok_tupOfL) | (with_reducible apply ok_tupOfT) | (with_reducible apply bl_mk) | (with_reducible apply it_lst) | (with_reducible apply it_tup) | (with_reducible apply it_rls) | (with_reducible apply en_lst) | (with_reducible apply en_tup) | (with_reducible apply rt_seqOf) | (with_reducible apply nx_seqOf) | (with_reducible apply rt_of) | (with_reducible apply nx_of) | (with_reducible apply nx_nx) | (with_reducible apply rt_rt) | (with_reducible apply nx_nil) | (with_reducible apply rt_seqNil) | (with_reducible apply nx_asg) | (with_reducible apply ok_isNN))
        rw [List.length_map, decide_eq_true rfl]; exact h
      · repeat (first | ((with_reducible apply ok_var); exact rfl) | ((with_reducible apply ok_calls); exact rfl) | ((with_reducible apply ok_tupL); exact Nat.le_of_ble_eq_true rfl) | ((with_reducible apply ok_lstL); exact Nat.le_of_ble_eq_true rfl) | ((with_reducible apply ok_lstC); exact Nat.le_of_ble_eq_true rfl) | (with_reducible apply ok_e2) | (with_reducible apply ok_c) | (with_reducible apply ok_cons) | (with_reducible apply ok_nil) | (with_reducible apply ok_ofL) | (with_reducible apply ok_call) | (with_reducible apply ok_meth) | (with_reducible apply ok_bV) | (with_reducible apply ok_bNot) | (with_reducible apply ok_bAnd) | (with_reducible apply ok_bOr) | (with_reducible apply ok_eAnd) | (with_reducible apply ok_eOr) | (with_reducible apply ok_eNot) | (with_reducible apply ok_eIf) | (with_reducible apply ok_iVal) | (with_reducible apply ok_range) | (with_reducible apply ok_range2) | (with_reducible apply ok_listRange) | (with_reducible apply ok_enum) | (with_reducible apply ok_bYes) | (with_reducible apply ok_mkL) | (with_reducible apply ok_mkC) | (with_reducible apply ok_ok) | (with_reducible apply ok_addI) | (with_reducible apply ok_gtI) | (with_reducible apply ok_geI) | (with_reducible apply ok_ltI) | (with_reducible apply ok_leI) | (with_reducible apply ok_leS) | (with_reducible apply ok_eqI) | (with_reducible apply ok_neI) | (with_reducible apply ok_eqS) | (with_reducible apply ok_neS) | (with_reducible apply ok_int) | (with_reducible apply ok_lenL) | (with_reducible apply ok_lenT) | (with_reducible apply ok_tupOfL) | (with_reducible apply ok_tupOfT) | (with_reducible apply bl_mk) | (with_reducible apply it_lst) | (with_reducible apply it_tup) | (with_reducible apply it_rls) | (with_reducible apply en_lst) | (with_reducible apply en_tup) | (with_reducible apply rt_seqOf) | (with_reducible apply nx_seqOf) | (with_reducible apply rt_of) | (with_reducible apply nx_of) | (with_reducible apply nx_nx) | (with_reducible apply rt_rt) | (with_reducible apply nx_nil) | (with_reducible apply rt_seqNil) | (with_reducible apply nx_asg) | (with_reducible apply ok_isNN))
        rw [List.length_map, decide_eq_true rfl]; exact h
end M

namespace M
open PySem hiding Env
open L2 Ev G
theorem isDigit_ok {m : Mem} {P : T → Mem → Prop} {i : Int} (h0 : 0 ≤ i) (h1 : i ≤ 9) (h : P (.bl true) m) : Ok (F_is_digit [.int i] m) P := by
  unfold F_is_digit B_is_digit
  refine ok_fn ?_
  try simp only [List.map_cons, List.map_nil, List.cons_append, List.nil_append, List.length_cons, List.length_nil, Nat.reduceAdd, Nat.reduceSub, List.replicate_succ, List.replicate_zero, List.set_cons_succ, List.set_cons_zero]
  repeat (first | ((with_reducible apply ok_var); exact rfl) | ((with_reducible apply ok_calls); exact rfl) | ((with_reducible apply ok_tupL); exact Nat.le_of_ble_eq_true rfl) | ((with_reducible apply ok_lstL); exact Nat.le_of_ble_eq_true rfl) | ((with_reducible apply ok_lstC); exact Nat.le_of_ble_eq_true rfl) | (with_reducible apply ok_e2) | (with_reducible apply ok_c) | (with_reducible apply ok_cons) | (with_reducible apply ok_nil) | (with_reducible apply ok_ofL) | (with_reducible apply ok_call) | (with_reducible apply ok_meth) | (with_reducible apply ok_bV) | (with_reducible apply ok_bNot) | (with_reducible apply ok_bAnd) | (with_reducible apply ok_bOr) | (with_reducible apply ok_eAnd) | (with_reducible apply ok_eOr) | (with_reducible apply ok_eNot) | (with_reducible apply ok_eIf) | (with_reducible apply ok_iVal) | (with_reducible apply ok_range) | (with_reducible apply ok_range2) | (with_reducible apply ok_listRange) | (with_reducible apply ok_enum) | (with_reducible apply ok_bYes) | (with_reducible apply ok_mkL) | (with_reducible apply ok_mkC) | (with_reducible apply ok_ok) | (with_reducible apply ok_addI) | (with_reducible apply ok_gtI) | (with_reducible apply ok_geI) | (with_reducible apply ok_ltI) | (with_reducible apply ok_leI) | (with_reducible apply ok_leS) | (with_reducible apply ok_eqI) | (with_reducible apply ok_neI) | (with_reducible apply ok_eqS) | (with_reducible apply ok_neS) | (with_reducible apply ok_int) | (with_reducible apply ok_lenL) | (with_reducible apply ok_lenT) | (with_reducible apply ok_tupOfL) | (with_reducible apply ok_tupOfT) | (with_reducible apply bl_mk) | (with_reducible apply it_lst) | (with_reducible apply it_tup) | (with_reducible apply it_rls) | (with_reducible apply en_lst) | (with_reducible apply en_tup) | (with_reducible apply rt_seqOf) | (with_reducible apply nx_seqOf) | (with_reducible apply rt_of) | (with_reducible apply nx_of) | (with_reducible apply nx_nx) | (with_reducible apply rt_rt) | (with_reducible apply nx_nil) | (with_reducible apply rt_seqNil) | (with_reducible apply nx_asg) | (with_reducible apply ok_isNN))
  refine ok_isi (a := "int") (b := true) rfl (by decide +kernel) ?_
  repeat (first | ((with_reducible apply ok_var); exact rfl) | ((with_reducible apply ok_calls); exact rfl) | ((with_reducible apply ok_tupL); exact Nat.le_of_ble_eq_true rfl) | ((with_reducible apply ok_lstL); exact Nat.le_of_ble_eq_true rfl) | ((with_reducible apply ok_lstC); exact Nat.le_of_ble_eq_true rfl) | (with_reducible apply ok_e2) | (with_reducible apply ok_c) | (with_reducible apply ok_cons) | (with_reducible apply ok_nil) | (with_reducible apply ok_ofL) | (with_reducible apply ok_call) | (with_reducible apply ok_meth) | (with_reducible apply ok_bV) | (with_reducible apply ok_bNot) | (with_reducible apply ok_bAnd) | (with_reducible apply ok_bOr) | (with_reducible apply ok_eAnd) | (with_reducible apply ok_eOr) | (with_reducible apply ok_eNot) | (with_reducible apply ok_eIf) | (with_reducible apply ok_iVal) | (with_reducible apply ok_range) | (with_reducible apply ok_range2) | (with_reducible apply ok_listRange) | (with_reducible apply ok_enum) | (with_reducible apply ok_bYes) | (with_reducible apply ok_mkL) | (with_reducible apply ok_mkC) | (with_reducible apply ok_ok) | (with_reducible apply ok_addI) | (with_reducible apply ok_gtI) | (with_reducible apply ok_geI) | (with_reducible apply ok_ltI) | (with_reducible apply ok_leI) | (with_reducible apply ok_leS) | (with_reducible apply ok_eqI) | (with_reducible apply ok_neI) | (with_reducible apply ok_eqS) | (with_reducible apply ok_neS) | (with_reducible apply ok_int) | (with_reducible apply ok_lenL) | (with_reducible apply ok_lenT) | (with_reducible apply ok_tupOfL) | (with_reducible apply ok_tupOfT) | (with_reducible apply bl_mk) | (with_reducible apply it_lst) | (with_reducible apply it_tup) | (with_reducible apply it_rls) | (with_reducible apply en_lst) | (with_reducible apply en_tup) | (with_reducible apply rt_seqOf) | (with_reducible apply nx_seqOf) | (with_reducible apply rt_of) | (with_reducible apply nx_of) | (with_reducible apply nx_nx) | (with_reducible apply rt_rt) | (with_reducible apply nx_nil) | (with_reducible apply rt_seqNil) | (with_reducible apply nx_asg) | (with_reducible apply ok_isNN))
  rw [if_pos rfl]
  repeat (first | ((with_reducible apply ok_var); exact rfl) | ((with_reducible apply ok_calls); exact rfl) | ((with_reducible apply ok_tupL); exact Nat.le_of_ble_eq_true rfl) | ((with_reducible apply ok_lstL); exact Nat.le_of_ble_eq_true rfl) | ((with_reducible apply ok_lstC); exact Nat.le_of_ble_eq_true rfl) | (with_reducible apply ok_e2) | (with_reducible apply ok_c) | (with_reducible apply ok_cons) | (with_reducible apply ok_nil) | (with_reducible apply ok_ofL) | (with_reducible apply ok_call) | (with_reducible apply ok_meth) | (with_reducible apply ok_bV) | (with_reducible apply ok_bNot) | (with_reducible apply ok_bAnd) | (with_reducible apply ok_bOr) | (with_reducible apply ok_eAnd) | (with_reducible apply ok_eOr) | (with_reducible apply ok_eNot) | (with_reducible apply ok_eIf) | (with_reducible apply ok_iVal) | (with_reducible apply ok_range) | (with_reducible apply ok_range2) | (with_reducible apply ok_listRange) | (with_reducible apply ok_enum) | (with_reducible apply ok_bYes) | (with_reducible apply ok_mkL) | (with_reducible apply ok_mkC) | (with_reducible apply ok_ok) | (with_reducible apply ok_addI) | (with_reducible apply ok_gtI) | (with_reducible apply ok_geI) | (with_reducible apply ok_ltI) | (with_reducible apply ok_leI) | (with_reducible apply ok_leS) | (with_reducible apply ok_eqI) | (with_reducible apply ok_neI) | (with_reducible apply ok_eqS) | (with_reducible apply ok_neS) | (with_reducible apply ok_int) | (with_reducible apply ok_lenL) | (with_reducible apply ok_lenT) | (with_reducible apply ok_tupOfL) | (with_reducible apply ok_tupOfT) | (with_reducible apply bl_mk) | (with_reducible apply it_lst) | (with_reducible apply it_tup) | (with_reducible apply it_rls) | (with_reducible apply en_lst) | (with_reducible apply en_tup) | (with_reducible apply rt_seqOf) | (with_reducible apply nx_seqOf) | (with_reducible apply rt_of) | (with_reducible apply nx_of) | (with_reducible apply nx_nx) | (with_reducible apply rt_rt) | (with_reducible apply nx_nil) | (with_reducible apply rt_seqNil) | (with_reducible apply nx_asg) | (with_reducible apply ok_isNN))
  refine ok_isi (a := "int") (b := false) rfl (by decide +kernel) ?_
  repeat (first | ((with_reducible apply ok_var); exact rfl) | ((with_reducible apply ok_calls); exact rfl) | ((with_reducible apply ok_tupL); exact Nat.le_of_ble_eq_true rfl) | ((with_reducible apply ok_lstL); exact Nat.le_of_ble_eq_true rfl) | ((with_reducible apply ok_lstC); exact Nat.le_of_ble_eq_true rfl) | (with_reducible apply ok_e2) | (with_reducible apply ok_c) | (with_reducible apply ok_cons) | (with_reducible apply ok_nil) | (with_reducible apply ok_ofL) | (with_reducible apply ok_call) | (with_reducible apply ok_meth) | (with_reducible apply ok_bV) | (with_reducible apply ok_bNot) | (with_reducible apply ok_bAnd) | (with_reducible apply ok_bOr) | (with_reducible apply ok_eAnd) | (with_reducible apply ok_eOr) | (with_reducible apply ok_eNot) | (with_reducible apply ok_eIf) | (with_reducible apply ok_iVal) | (with_reducible apply ok_range) | (with_reducible apply ok_range2) | (with_reducible apply ok_listRange) | (with_reducible apply ok_enum) | (with_reducible apply ok_bYes) | (with_reducible apply ok_mkL) | (with_reducible apply ok_mkC) | (with_reducible apply ok_ok) | (with_reducible apply ok_addI) | (with_reducible apply ok_gtI) | (with_reducible apply ok_geI) | (with_reducible apply ok_ltI) | (with_reducible apply ok_leI) | (with_reducible apply ok_leS) | (with_reducible apply ok_eqI) | (with_reducible apply ok_neI) | (with_reducible apply ok_eqS) | (with_reducible apply ok_neS) | (with_reducible apply ok_int) | (with_reducible apply ok_lenL) | (with_reducible apply ok_lenT) | (with_reducible apply ok_tupOfL) | (with_reducible apply ok_tupOfT) | (with_reducible apply bl_mk) | (with_reducible apply it_lst) | (with_reducible apply it_tup) | (with_reducible apply it_rls) | (with_reducible apply en_lst) | (with_reducible apply en_tup) | (with_reducible apply rt_seqOf) | (with_reducible apply nx_seqOf) | (with_reducible apply rt_of) | (with_reducible apply nx_of) | (with_reducible apply nx_nx) | (with_reducible apply rt_rt) | (with_reducible apply nx_nil) | (with_reducible apply rt_seqNil) | (with_reducible apply nx_asg) | (with_reducible apply ok_isNN))
  rw [Bool.not_false]
  repeat (first | ((with_reducible apply ok_var); exact rfl) | ((with_reducible apply ok_calls); exact rfl) | ((with_reducible apply ok_tupL); exact Nat.le_of_ble_eq_true rfl) | ((with_reducible apply ok_lstL); exact Nat.le_of_ble_eq_true rfl) | ((with_reducible apply ok_lstC); exact Nat.le_of_ble_eq_true rfl) | (with_reducible apply ok_e2) | (with_reducible apply ok_c) | (with_reducible apply ok_cons) | (with_reducible apply ok_nil) | (with_reducible apply ok_ofL) | (with_reducible apply ok_call) | (with_reducible apply ok_meth) | (with_reducible apply ok_bV) | (with_reducible apply ok_bNot) | (with_reducible apply ok_bAnd) | (with_reducible apply ok_bOr) | (with_reducible apply ok_eAnd) | (with_reducible apply ok_eOr) | (with_reducible apply ok_eNot) | (with_reducible apply ok_eIf) | (with_reducible apply ok_iVal) | (with_reducible apply ok_range) | (with_reducible apply ok_range2) | (with_reducible apply ok_listRange) | (with_reducible apply ok_enum) | (with_reducible apply ok_bYes) | (with_reducible apply ok_mkL) | (with_reducible apply ok_mkC) | (with_reducible apply ok_ok) | (with_reducible apply ok_addI) | (with_reducible apply ok_gtI) | (with_reducible apply ok_geI) | (with_reducible apply ok_ltI) | (with_reducible apply ok_leI) | (with_reducible apply ok_leS) | (with_reducible apply ok_eqI) | (with_reducible apply ok_neI) | (with_reducible apply ok_eqS) | (with_reducible apply ok_neS) | (with_reducible apply ok_int) | (with_reducible apply ok_lenL) | (with_reducible apply ok_lenT) | (with_reducible apply ok_tupOfL) | (with_reducible apply ok_tupOfT) | (with_reducible apply bl_mk) | (with_reducible apply it_lst) | (with_reducible apply it_tup) | (with_reducible apply it_rls) | (with_reducible apply en_lst) | (with_reducible apply en_tup) | (with_reducible apply rt_seqOf) | (with_reducible apply nx_seqOf) | (with_reducible apply rt_of) | (with_reducible apply nx_of) | (with_reducible apply nx_nx) | (with_reducible apply rt_rt) | (with_reducible apply nx_nil) | (with_reducible apply rt_seqNil) | (with_reducible apply nx_asg) | (with_reducible apply ok_isNN))
  rw [if_pos rfl]
  refine ok_chain ?_
  repeat (first | ((with_reducible apply ok_var); exact rfl) | ((with_reducible apply ok_calls); exact rfl) | ((with_reducible apply ok_tupL); exact Nat.le_of_ble_eq_true rfl) | ((with_reducible apply ok_lstL); exact Nat.le_of_ble_eq_true rfl) | ((with_reducible apply ok_lstC); exact Nat.le_of_ble_eq_true rfl) | (with_reducible apply ok_e2) | (with_reducible apply ok_c) | (with_reducible apply ok_cons) | (with_reducible apply ok_nil) | (with_reducible apply ok_ofL) | (with_reducible apply ok_call) | (with_reducible apply ok_meth) | (with_reducible apply ok_bV) | (with_reducible apply ok_bNot) | (with_reducible apply ok_bAnd) | (with_reducible apply ok_bOr) | (with_reducible apply ok_eAnd) | (with_reducible apply ok_eOr) | (with_reducible apply ok_eNot) | (with_reducible apply ok_eIf) | (with_reducible apply ok_iVal) | (with_reducible apply ok_range) | (with_reducible apply ok_range2) | (with_reducible apply ok_listRange) | (with_reducible apply ok_enum) | (with_reducible apply ok_bYes) | (with_reducible apply ok_mkL) | (with_reducible apply ok_mkC) | (with_reducible apply ok_ok) | (with_reducible apply ok_addI) | (with_reducible apply ok_gtI) | (with_reducible apply ok_geI) | (with_reducible apply ok_ltI) | (with_reducible apply ok_leI) | (with_reducible apply ok_leS) | (with_reducible apply ok_eqI) | (with_reducible apply ok_neI) | (with_reducible apply ok_eqS) | (with_reducible apply ok_neS) | (with_reducible apply ok_int) | (with_reducible apply ok_lenL) | (with_reducible apply ok_lenT) | (with_reducible apply ok_tupOfL) | (with_reducible apply ok_tupOfT) | (with_reducible apply bl_mk) | (with_reducible apply it_lst) | (with_reducible apply it_tup) | (with_reducible apply it_rls) | (with_reducible apply en_lst) | (with_reducible apply en_tup) | (with_reducible apply rt_seqOf) | (with_reducible apply nx_seqOf) | (with_reducible apply rt_of) | (with_reducible apply nx_of) | (with_reducible apply nx_nx) | (with_reducible apply rt_rt) | (with_reducible apply nx_nil) | (with_reducible apply rt_seqNil) | (with_reducible apply nx_asg) | (with_reducible apply ok_isNN))
  rw [decide_eq_true h0, if_pos rfl]
  repeat (first | ((with_reducible apply ok_var); exact rfl) | ((with_reducible apply ok_calls); exact rfl) | ((with_reducible apply ok_tupL); exact Nat.le_of_ble_eq_true rfl) | ((with_reducible apply ok_lstL); exact Nat.le_of_ble_eq_true rfl) | ((with_reducible apply ok_lstC); exact Nat.le_of_ble_eq_true rfl) | (with_reducible apply ok_e2) | (with_reducible apply ok_c) | (with_reducible apply ok_cons) | (with_reducible apply ok_nil) | (with_reducible apply ok_ofL) | (with_reducible apply ok_call) | (with_reducible apply ok_meth) | (with_reducible apply ok_bV) | (with_reducible apply ok_bNot) | (with_reducible apply ok_bAnd) | (with_reducible apply ok_bOr) | (with_reducible apply ok_eAnd) | (with_reducible apply ok_eOr) | (with_reducible apply ok_eNot) | (with_reducible apply ok_eIf) | (with_reducible apply ok_iVal) | (with_reducible apply ok_range) | (with_reducible apply ok_range2) | (with_reducible apply ok_listRange) | (with_reducible apply ok_enum) | (with_reducible apply ok_bYes) | (with_reducible apply ok_mkL) | (with_reducible apply ok_mkC) | (with_reducible apply ok_ok) | (with_reducible apply ok_addI) | (with_reducible apply ok_gtI) | (with_reducible apply ok_geI) | (with_reducible apply ok_ltI) | (with_reducible apply ok_leI) | (with_reducible apply ok_leS) | (with_reducible apply ok_eqI) | (with_reducible apply ok_neI) | (with_reducible apply ok_eqS) | (with_reducible apply ok_neS) | (with_reducible apply ok_int) | (with_reducible apply ok_lenL) | (with_reducible apply ok_lenT) | (with_reducible apply ok_tupOfL) | (with_reducible apply ok_tupOfT) | (with_reducible apply bl_mk) | (with_reducible apply it_lst) | (with_reducible apply it_tup) | (with_reducible apply it_rls) | (with_reducible apply en_lst) | (with_reducible apply en_tup) | (with_reducible apply rt_seqOf) | (with_reducible apply nx_seqOf) | (with_reducible apply rt_of) | (with_reducible apply nx_of) | (with_reducible apply nx_nx) | (with_reducible apply rt_rt) | (with_reducible apply nx_nil) | (with_reducible apply rt_seqNil) | (with_reducible apply nx_asg) | (with_reducible apply ok_isNN))
  rw [decide_eq_true h1]
  exact h
theorem isCond_ok {m : Mem} {P : T → Mem → Prop} {xs : List Str} {c : Cond} (hg : ∀ x ∈ xs, Good x) (hl : c.names.length ≤ 1000) (hf : c.Fine xs) (h : P (.bl true) m) : Ok (F_is_condition [c.t] m) P := by
  unfold F_is_condition B_is_condition
  refine ok_fn ?_
  try simp only [List.map_cons, List.map_nil, List.cons_append, List.nil_append, List.length_cons, List.length_nil, Nat.reduceAdd, Nat.reduceSub, List.replicate_succ, List.replicate_zero, List.set_cons_succ, List.set_cons_zero]
  refine rt_seqIf ?_
  repeat (first | ((with_reducible apply ok_var); exact rfl) | ((with_reducible apply ok_calls); exact rfl) | ((with_reducible apply ok_tupL); exact Nat.le_of_ble_eq_true rfl) | ((with_reducible apply ok_lstL); exact Nat.le_of_ble_eq_true rfl) | ((with_reducible apply ok_lstC); exact Nat.le_of_ble_eq_true rfl) | (with_reducible apply ok_e2) | (with_reducible apply ok_c) | (with_reducible apply ok_cons) | (with_reducible apply ok_nil) | (with_reducible apply ok_ofL) | (with_reducible apply ok_call) | (with_reducible apply ok_meth) | (with_reducible apply ok_bV) | (with_reducible apply ok_bNot) | (with_reducible apply ok_bAnd) | (with_reducible apply ok_bOr) | (with_reducible apply ok_eAnd) | (with_reducible apply ok_eOr) | (with_reducible apply ok_eNot) | (with_reducible apply ok_eIf) | (with_reducible apply ok_iVal) | (with_reducible apply ok_range) | (with_reducible apply ok_range2) | (with_reducible apply ok_listRange) | (with_reducible apply ok_enum) | (with_reducible apply ok_bYes) | (with_reducible apply ok_mkL) | (with_reducible apply ok_mkC) | (with_reducible apply ok_ok) | (with_reducible apply ok_addI) | (with_reducible apply ok_gtI) | (with_reducible apply ok_geI) | (with_reducible apply ok_ltI) | (with_reducible apply ok_leI) | (with_reducible apply ok_leS) | (with_reducible apply ok_eqI) | (with_reducible apply ok_neI) | (with_reducible apply ok_eqS) | (with_reducible apply ok_neS) | (with_reducible apply ok_int) | (with_reducible apply ok_lenL) | (with_reducible apply ok_lenT) | (with_reducible apply ok_tupOfL) | (with_reducible apply ok_tupOfT) | (with_reducible apply bl_mk) | (with_reducible apply it_lst) | (with_reducible apply it_tup) | (with_reducible apply it_rls) | (with_reducible apply en_lst) | (with_reducible apply en_tup) | (with_reducible apply rt_seqOf) | (with_reducible apply nx_seqOf) | (with_reducible apply rt_of) | (with_reducible apply nx_of) | (with_reducible apply nx_nx) | (with_reducible apply rt_rt) | (with_reducible apply nx_nil) | (with_reducible apply rt_seqNil) | (with_reducible apply nx_asg) | (with_reducible apply ok_isNN))
  refine isList_ok (ts := [.int c.lo, moT c.mo, .tup (c.names.map T.str)]) (.inr rfl) ?_
  repeat (first | ((with_reducible apply ok_var); exact rfl) | ((with_reducible apply ok_calls); exact rfl) | ((with_reducible apply ok_tupL); exact Nat.le_of_ble_eq_true rfl) | ((with_reducible apply ok_lstL); exact Nat.le_of_ble_eq_true rfl) | ((with_reducible apply ok_lstC); exact Nat.le_of_ble_eq_true rfl) | (with_reducible apply ok_e2) | (with_reducible apply ok_c) | (with_reducible apply ok_cons) | (with_reducible apply ok_nil) | (with_reducible apply ok_ofL) | (with_reducible apply ok_call) | (with_reducible apply ok_meth) | (with_reducible apply ok_bV) | (with_reducible apply ok_bNot) | (with_reducible apply ok_bAnd) | (with_reducible apply ok_bOr) | (with_reducible apply ok_eAnd) | (with_reducible apply ok_eOr) | (with_reducible apply ok_eNot) | (with_reducible apply ok_eIf) | (with_reducible apply ok_iVal) | (with_reducible apply ok_range) | (with_reducible apply ok_range2) | (with_reducible apply ok_listRange) | (with_reducible apply ok_enum) | (with_reducible apply ok_bYes) | (with_reducible apply ok_mkL) | (with_reducible apply ok_mkC) | (with_reducible apply ok_ok) | (with_reducible apply ok_addI) | (with_reducible apply ok_gtI) | (with_reducible apply ok_geI) | (with_reducible apply ok_ltI) | (with_reducible apply ok_leI) | (with_reducible apply ok_leS) | (with_reducible apply ok_eqI) | (with_reducible apply ok_neI) | (with_reducible apply ok_eqS) | (with_reducible apply ok_neS) | (with_reducible apply ok_int) | (with_reducible apply ok_lenL) | (with_reducible apply ok_lenT) | (with_reducible apply ok_tupOfL) | (with_reducible apply ok_tupOfT) | (with_reducible apply bl_mk) | (with_reducible apply it_lst) | (with_reducible apply it_tup) | (with_reducible apply it_rls) | (with_reducible apply en_lst) | (with_reducible apply en_tup) | (with_reducible apply rt_seqOf) | (with_reducible apply nx_seqOf) | (with_reducible apply rt_of) | (with_reducible apply nx_of) | (with_reducible apply nx_nx) | (with_reducible apply rt_rt) | (with_reducible apply nx_nil) | (with_reducible apply rt_seqNil) | (with_reducible apply nx_asg) | (with_reducible apply ok_isNN))
  rw [Bool.not_true, if_neg (by decide)]
  refine ok_bV (ok_e2 (ok_ofL (ok_cons (ok_var rfl (ok_nil (ok_lenT (ok_c (ok_neI (bl_mk ?_)))))))))
  rw [if_neg (by simp)]
  refine rt_seqNil (rt_seq (nx_asg (ok_var rfl ⟨_, rfl, ?_⟩)))
  try simp only [List.map_cons, List.map_nil, List.cons_append, List.nil_append, List.length_cons, List.length_nil, Nat.reduceAdd, Nat.reduceSub, List.replicate_succ, List.replicate_zero, List.set_cons_succ, List.set_cons_zero]
  refine rt_seqIf ?_
  repeat (first | ((with_reducible apply ok_var); exact rfl) | ((with_reducible apply ok_calls); exact rfl) | ((with_reducible apply ok_tupL); exact Nat.le_of_ble_eq_true rfl) | ((with_reducible apply ok_lstL); exact Nat.le_of_ble_eq_true rfl) | ((with_reducible apply ok_lstC); exact Nat.le_of_ble_eq_true rfl) | (with_reducible apply ok_e2) | (with_reducible apply ok_c) | (with_reducible apply ok_cons) | (with_reducible apply ok_nil) | (with_reducible apply ok_ofL) | (with_reducible apply ok_call) | (with_reducible apply ok_meth) | (with_reducible apply ok_bV) | (with_reducible apply ok_bNot) | (with_reducible apply ok_bAnd) | (with_reducible apply ok_bOr) | (with_reducible apply ok_eAnd) | (with_reducible apply ok_eOr) | (with_reducible apply ok_eNot) | (with_reducible apply ok_eIf) | (with_reducible apply ok_iVal) | (with_reducible apply ok_range) | (with_reducible apply ok_range2) | (with_reducible apply ok_listRange) | (with_reducible apply ok_enum) | (with_reducible apply ok_bYes) | (with_reducible apply ok_mkL) | (with_reducible apply ok_mkC) | (with_reducible apply ok_ok) | (with_reducible apply ok_addI) | (with_reducible apply ok_gtI) | (with_reducible apply ok_geI) | (with_reducible apply ok_ltI) | (with_reducible apply ok_leI) | (with_reducible apply ok_leS) | (with_reducible apply ok_eqI) | (with_reducible apply ok_neI) | (with_reducible apply ok_eqS) | (with_reducible apply ok_neS) | (with_reducible apply ok_int) | (with_reducible apply ok_lenL) | (with_reducible apply ok_lenT) | (with_reducible apply ok_tupOfL) | (with_reducible apply ok_tupOfT) | (with_reducible apply bl_mk) | (with_reducible apply it_lst) | (with_reducible apply it_tup) | (with_reducible apply it_rls) | (with_reducible apply en_lst) | (with_reducible apply en_tup) | (with_reducible apply rt_seqOf) | (with_reducible apply nx_seqOf) | (with_reducible apply rt_of) | (with_reducible apply nx_of) | (with_reducible apply nx_nx) | (with_reducible apply rt_rt) | (with_reducible apply nx_nil) | (with_reducible apply rt_seqNil) | (with_reducible apply nx_asg) | (with_reducible apply ok_isNN))
  refine isDigit_ok hf.l0 hf.l1 ?_
  repeat (first | ((with_reducible apply ok_var); exact rfl) | ((with_reducible apply ok_calls); exact rfl) | ((with_reducible apply ok_tupL); exact Nat.le_of_ble_eq_true rfl) | ((with_reducible apply ok_lstL); exact Nat.le_of_ble_eq_true rfl) | ((with_reducible apply ok_lstC); exact Nat.le_of_ble_eq_true rfl) | (with_reducible apply ok_e2) | (with_reducible apply ok_c) | (with_reducible apply ok_cons) | (with_reducible apply ok_nil) | (with_reducible apply ok_ofL) | (with_reducible apply ok_call) | (with_reducible apply ok_meth) | (with_reducible apply ok_bV) | (with_reducible apply ok_bNot) | (with_reducible apply ok_bAnd) | (with_reducible apply ok_bOr) | (with_reducible apply ok_eAnd) | (with_reducible apply ok_eOr) | (with_reducible apply ok_eNot) | (with_reducible apply ok_eIf) | (with_reducible apply ok_iVal) | (with_reducible apply ok_range) | (with_reducible apply ok_range2) | (with_reducible apply ok_listRange) | (with_reducible apply ok_enum) | (with_reducible apply ok_bYes) | (with_reducible apply ok_mkL) | (with_reducible apply ok_mkC) | (with_reducible apply ok_ok) | (with_reducible apply ok_addI) | (with_reducible apply ok_gtI) | (with_reducible apply ok_geI) | (with_reducible apply ok_ltI) | (with_reducible apply ok_leI) | (with_reducible apply ok_leS) | (with_reducible apply ok_eqI) | (with_reducible apply ok_neI) | (with_reducible apply ok_eqS) | (with_reducible apply ok_neS) | (with_reducible apply ok_int) | (with_reducible apply ok_lenL) | (with_reducible apply ok_lenT) | (with_reducible apply ok_tupOfL) | (with_reducible apply ok_tupOfT) | (with_reducible apply bl_mk) | (with_reducible apply it_lst) | (with_reducible apply it_tup) | (with_reducible apply it_rls) | (with_reducible apply en_lst) | (with_reducible apply en_tup) | (with_reducible apply rt_seqOf) | (with_reducible apply nx_seqOf) | (with_reducible apply rt_of) | (with_reducible apply nx_of) | (with_reducible apply nx_nx) | (with_reducible apply rt_rt) | (with_reducible apply nx_nil) | (with_reducible apply rt_seqNil) | (with_reducible apply nx_asg) | (with_reducible apply ok_isNN))
  rw [Bool.not_true, if_neg (by decide)]
  have fin : Rt (sOf (eAnd (eCall 1 F_are_names (lCons (eVar 3) lNil)) (e2 gGt (eOfL gLen (lCons (eVar 3) lNil)) (eC (.int 0)))) (fun t _ m => .rt t m) [some c.t, some (.int c.lo), some (moT c.mo), some (.tup (c.names.map T.str))] m) P := by
    have hpos : 0 < c.names.length := List.length_pos_iff.mpr hf.ne
    refine rt_of (ok_eAnd (ok_call (ok_cons (ok_var rfl (ok_nil (ok_calls rfl (areNames_ok (.inr rfl) hl hf.nd (fun x hx => hg x (hf.sub x hx)) (bl_mk ?_))))))))
    rw [if_pos rfl]
    repeat (first | ((with_reducible apply ok_var); exact rfl) | ((with_reducible apply ok_calls); exact rfl) | ((with_reducible apply ok_tupL); exact Nat.le_of_ble_eq_true rfl) | ((with_reducible apply ok_lstL); exact Nat.le_of_ble_eq_true rfl) | ((with_reducible apply ok_lstC); exact Nat.le_of_ble_eq_true rfl) | (with_reducible apply ok_e2) | (with_reducible apply ok_c) | (with_reducible apply ok_cons) | (with_reducible apply ok_nil) | (with_reducible apply ok_ofL) | (with_reducible apply ok_call) | (with_reducible apply ok_meth) | (with_reducible apply ok_bV) | (with_reducible apply ok_bNot) | (with_reducible apply ok_bAnd) | (with_reducible apply ok_bOr) | (with_reducible apply ok_eAnd) | (with_reducible apply ok_eOr) | (with_reducible apply ok_eNot) | (with_reducible apply ok_eIf) | (with_reducible apply ok_iVal) | (with_reducible apply ok_range) | (with_reducible apply ok_range2) | (with_reducible apply ok_listRange) | (with_reducible apply ok_enum) | (with_reducible apply ok_bYes) | (with_reducible apply ok_mkL) | (with_reducible apply ok_mkC) | (with_reducible apply ok_ok) | (with_reducible apply ok_addI) | (with_reducible apply ok_gtI) | (with_reducible apply ok_geI) | (with_reducible apply ok_ltI) | (with_reducible apply ok_leI) | (with_reducible apply ok_leS) | (with_reducible apply ok_eqI) | (with_reducible apply ok_neI) | (with_reducible apply ok_eqS) | (with_reducible apply ok_neS) | (with_reducible apply ok_int) | (with_reducible apply ok_lenL) | (with_reducible apply ok_lenT) | (with_reducible apply ok_tupOfL) | (with_reducible apply ok_tupOfT) | (with_reducible apply bl_mk) | (with_reducible apply it_lst) | (with_reducible apply it_tup) | (with_reducible apply it_rls) | (with_reducible apply en_lst) | (with_reducible apply en_tup) | (with_reducible apply rt_seqOf) | (with_reducible apply nx_seqOf) | (with_reducible apply rt_of) | (with_reducible apply nx_of) | (with_reducible apply nx_nx) | (with_reducible apply rt_rt) | (with_reducible apply nx_nil) | (with_reducible apply rt_seqNil) | (with_reducible apply nx_asg) | (with_reducible apply ok_isNN))
    rw [List.length_map, decide_eq_true (show (0 : Int) < (c.names.length : Int) by omega)]
    exact h
  refine ok_bNot (ok_bOr (ok_bV (ok_e2 (ok_var rfl (ok_c ?_)))))
  cases hm : c.mo with
  | none =>
    refine ok_isNN (bl_mk ?_)
    rw [if_pos rfl, Bool.not_true, if_neg (by decide)]
    rw [hm] at fin
    exact rt_seqNil fin
  | some b =>
    have := hf.mo b hm
    refine ok_isN (t := .int b) (fun e => by cases e) (bl_mk ?_)
    rw [if_neg (by decide)]
    refine ok_bV (ok_call (ok_cons (ok_var (t := .int b) rfl (ok_nil (ok_calls rfl (isDigit_ok this.1 this.2 (bl_mk ?_)))))))
    rw [Bool.not_true, if_neg (by decide)]
    rw [hm] at fin
    exact rt_seqNil fin
theorem isClause_ok {m : Mem} {P : T → Mem → Prop} {xs : List Str} {c : Clause} (hg : ∀ x ∈ xs, Good x) (hl : ∀ d ∈ c.cs, d.names.length ≤ 1000) (hf : c.Fine xs) (h : P (.bl true) m) : Ok (F_is_clause [c.t] m) P := by
  have hfew := hf.few
  unfold F_is_clause B_is_clause
  refine ok_fn ?_
  try simp only [List.map_cons, List.map_nil, List.cons_append, List.nil_append, List.length_cons, List.length_nil, Nat.reduceAdd, Nat.reduceSub, List.replicate_succ, List.replicate_zero, List.set_cons_succ, List.set_cons_zero]
  refine rt_seqIf ?_
  repeat (first | ((with_reducible apply ok_var); exact rfl) | ((with_reducible apply ok_calls); exact rfl) | ((with_reducible apply ok_tupL); exact Nat.le_of_ble_eq_true rfl) | ((with_reducible apply ok_lstL); exact Nat.le_of_ble_eq_true rfl) | ((with_reducible apply ok_lstC); exact Nat.le_of_ble_eq_true rfl) | (with_reducible apply ok_e2) | (with_reducible apply ok_c) | (with_reducible apply ok_cons) | (with_reducible apply ok_nil) | (with_reducible apply ok_ofL) | (with_reducible apply ok_call) | (with_reducible apply ok_meth) | (with_reducible apply ok_bV) | (with_reducible apply ok_bNot) | (with_reducible apply ok_bAnd) | (with_reducible apply ok_bOr) | (with_reducible apply ok_eAnd) | (with_reducible apply ok_eOr) | (with_reducible apply ok_eNot) | (with_reducible apply ok_eIf) | (with_reducible apply ok_iVal) | (with_reducible apply ok_range) | (with_reducible apply ok_range2) | (with_reducible apply ok_listRange) | (with_reducible apply ok_enum) | (with_reducible apply ok_bYes) | (with_reducible apply ok_mkL) | (with_reducible apply ok_mkC) | (with_reducible apply ok_ok) | (with_reducible apply ok_addI) | (with_reducible apply ok_gtI) | (with_reducible apply ok_geI) | (with_reducible apply ok_ltI) | (with_reducible apply ok_leI) | (with_reducible apply ok_leS) | (with_reducible apply ok_eqI) | (with_reducible apply ok_neI) | (with_reducible apply ok_eqS) | (with_reducible apply ok_neS) | (with_reducible apply ok_int) | (with_reducible apply ok_lenL) | (with_reducible apply ok_lenT) | (with_reducible apply ok_tupOfL) | (with_reducible apply ok_tupOfT) | (with_reducible apply bl_mk) | (with_reducible apply it_lst) | (with_reducible apply it_tup) | (with_reducible apply it_rls) | (with_reducible apply en_lst) | (with_reducible apply en_tup) | (with_reducible apply rt_seqOf) | (with_reducible apply nx_seqOf) | (with_reducible apply rt_of) | (with_reducible apply nx_of) | (with_reducible apply nx_nx) | (with_reducible apply rt_rt) | (with_reducible apply nx_nil) | (with_reducible apply rt_seqNil) | (with_reducible apply nx_asg) | (with_reducible apply ok_isNN))
  refine isList_ok (ts := [.str c.st, .tup (c.cs.map Cond.t)]) (.inr rfl) ?_
  repeat (first | ((with_reducible apply ok_var); exact rfl) | ((with_reducible apply ok_calls); exact rfl) | ((with_reducible apply ok_tupL); exact Nat.le_of_ble_eq_true rfl) | ((with_reducible apply ok_lstL); exact Nat.le_of_ble_eq_true rfl) | ((with_reducible apply ok_lstC); exact Nat.le_of_ble_eq_true rfl) | (with_reducible apply ok_e2) | (with_reducible apply ok_c) | (with_reducible apply ok_cons) | (with_reducible apply ok_nil) | (with_reducible apply ok_ofL) | (with_reducible apply ok_call) | (with_reducible apply ok_meth) | (with_reducible apply ok_bV) | (with_reducible apply ok_bNot) | (with_reducible apply ok_bAnd) | (with_reducible apply ok_bOr) | (with_reducible apply ok_eAnd) | (with_reducible apply ok_eOr) | (with_reducible apply ok_eNot) | (with_reducible apply ok_eIf) | (with_reducible apply ok_iVal) | (with_reducible apply ok_range) | (with_reducible apply ok_range2) | (with_reducible apply ok_listRange) | (with_reducible apply ok_enum) | (with_reducible apply ok_bYes) | (with_reducible apply ok_mkL) | (with_reducible apply ok_mkC) | (with_reducible apply ok_ok) | (with_reducible apply ok_addI) | (with_reducible apply ok_gtI) | (with_reducible apply ok_geI) | (with_reducible apply ok_ltI) | (with_reducible apply ok_leI) | (with_reducible apply ok_leS) | (with_reducible apply ok_eqI) | (with_reducible apply ok_neI) | (with_reducible apply ok_eqS) | (with_reducible apply ok_neS) | (with_reducible apply ok_int) | (with_reducible apply ok_lenL) | (with_reducible apply ok_lenT) | (with_reducible apply ok_tupOfL) | (with_reducible apply ok_tupOfT) | (with_reducible apply bl_mk) | (with_reducible apply it_lst) | (with_reducible apply it_tup) | (with_reducible apply it_rls) | (with_reducible apply en_lst) | (with_reducible apply en_tup) | (with_reducible apply rt_seqOf) | (with_reducible apply nx_seqOf) | (with_reducible apply rt_of) | (with_reducible apply nx_of) | (with_reducible apply nx_nx) | (with_reducible apply rt_rt) | (with_reducible apply nx_nil) | (with_reducible apply rt_seqNil) | (with_reducible apply nx_asg) | (with_reducible apply ok_isNN))
  rw [Bool.not_true, if_neg (by decide)]
  refine ok_bV (ok_e2 (ok_ofL (ok_cons (ok_var rfl (ok_nil (ok_lenT (ok_c (ok_neI (bl_mk ?_)))))))))
  rw [if_neg (by simp)]
  refine rt_seqNil (rt_seq (nx_asg (ok_var rfl ⟨_, rfl, ?_⟩)))
  try simp only [List.map_cons, List.map_nil, List.cons_append, List.nil_append, List.length_cons, List.length_nil, Nat.reduceAdd, Nat.reduceSub, List.replicate_succ, List.replicate_zero, List.set_cons_succ, List.set_cons_zero]
  refine rt_seqIf ?_
  repeat (first | ((with_reducible apply ok_var); exact rfl) | ((with_reducible apply ok_calls); exact rfl) | ((with_reducible apply ok_tupL); exact Nat.le_of_ble_eq_true rfl) | ((with_reducible apply ok_lstL); exact Nat.le_of_ble_eq_true rfl) | ((with_reducible apply ok_lstC); exact Nat.le_of_ble_eq_true rfl) | (with_reducible apply ok_e2) | (with_reducible apply ok_c) | (with_reducible apply ok_cons) | (with_reducible apply ok_nil) | (with_reducible apply ok_ofL) | (with_reducible apply ok_call) | (with_reducible apply ok_meth) | (with_reducible apply ok_bV) | (with_reducible apply ok_bNot) | (with_reducible apply ok_bAnd) | (with_reducible apply ok_bOr) | (with_reducible apply ok_eAnd) | (with_reducible apply ok_eOr) | (with_reducible apply ok_eNot) | (with_reducible apply ok_eIf) | (with_reducible apply ok_iVal) | (with_reducible apply ok_range) | (with_reducible apply ok_range2) | (with_reducible apply ok_listRange) | (with_reducible apply ok_enum) | (with_reducible apply ok_bYes) | (with_reducible apply ok_mkL) | (with_reducible apply ok_mkC) | (with_reducible apply ok_ok) | (with_reducible apply ok_addI) | (with_reducible apply ok_gtI) | (with_reducible apply ok_geI) | (with_reducible apply ok_ltI) | (with_reducible apply ok_leI) | (with_reducible apply ok_leS) | (with_reducible apply ok_eqI) | (with_reducible apply ok_neI) | (with_reducible apply ok_eqS) | (with_reducible apply ok_neS) | (with_reducible apply ok_int) | (with_reducible apply ok_lenL) | (with_reducible apply ok_lenT) | (with_reducible apply ok_tupOfL) | (with_reducible apply ok_tupOfT) | (with_reducible apply bl_mk) | (with_reducible apply it_lst) | (with_reducible apply it_tup) | (with_reducible apply it_rls) | (with_reducible apply en_lst) | (with_reducible apply en_tup) | (with_reducible apply rt_seqOf) | (with_reducible apply nx_seqOf) | (with_reducible apply rt_of) | (with_reducible apply nx_of) | (with_reducible apply nx_nx) | (with_reducible apply rt_rt) | (with_reducible apply nx_nil) | (with_reducible apply rt_seqNil) | (with_reducible apply nx_asg) | (with_reducible apply ok_isNN))
  refine isName_ok (hg _ hf.st) ?_
  repeat (first | ((with_reducible apply ok_var); exact rfl) | ((with_reducible apply ok_calls); exact rfl) | ((with_reducible apply ok_tupL); exact Nat.le_of_ble_eq_true rfl) | ((with_reducible apply ok_lstL); exact Nat.le_of_ble_eq_true rfl) | ((with_reducible apply ok_lstC); exact Nat.le_of_ble_eq_true rfl) | (with_reducible apply ok_e2) | (with_reducible apply ok_c) | (with_reducible apply ok_cons) | (with_reducible apply ok_nil) | (with_reducible apply ok_ofL) | (with_reducible apply ok_call) | (with_reducible apply ok_meth) | (with_reducible apply ok_bV) | (with_reducible apply ok_bNot) | (with_reducible apply ok_bAnd) | (with_reducible apply ok_bOr) | (with_reducible apply ok_eAnd) | (with_reducible apply ok_eOr) | (with_reducible apply ok_eNot) | (with_reducible apply ok_eIf) | (with_reducible apply ok_iVal) | (with_reducible apply ok_range) | (with_reducible apply ok_range2) | (with_reducible apply ok_listRange) | (with_reducible apply ok_enum) | (with_reducible apply ok_bYes) | (with_reducible apply ok_mkL) | (with_reducible apply ok_mkC) | (with_reducible apply ok_ok) | (with_reducible apply ok_addI) | (with_reducible apply ok_gtI) | (with_reducible apply ok_geI) | (with_reducible apply ok_ltI) | (with_reducible apply ok_leI) | (with_reducible apply ok_leS) | (with_reducible apply ok_eqI) | (with_reducible apply ok_neI) | (with_reducible apply ok_eqS) | (with_reducible apply ok_neS) | (with_reducible apply ok_int) | (with_reducible apply ok_lenL) | (with_reducible apply ok_lenT) | (with_reducible apply ok_tupOfL) | (with_reducible apply ok_tupOfT) | (with_reducible apply bl_mk) | (with_reducible apply it_lst) | (with_reducible apply it_tup) | (with_reducible apply it_rls) | (with_reducible apply en_lst) | (with_reducible apply en_tup) | (with_reducible apply rt_seqOf) | (with_reducible apply nx_seqOf) | (with_reducible apply rt_of) | (with_reducible apply nx_of) | (with_reducible apply nx_nx) | (with_reducible apply rt_rt) | (with_reducible apply nx_nil) | (with_reducible apply rt_seqNil) | (with_reducible apply nx_asg) | (with_reducible apply ok_isNN))
  rw [Bool.not_true, if_neg (by decide)]
  repeat (first | ((with_reducible apply ok_var); exact rfl) | ((with_reducible apply ok_calls); exact rfl) | ((with_reducible apply ok_tupL); exact Nat.le_of_ble_eq_true rfl) | ((with_reducible apply ok_lstL); exact Nat.le_of_ble_eq_true rfl) | ((with_reducible apply ok_lstC); exact Nat.le_of_ble_eq_true rfl) | (with_reducible apply ok_e2) | (with_reducible apply ok_c) | (with_reducible apply ok_cons) | (with_reducible apply ok_nil) | (with_reducible apply ok_ofL) | (with_reducible apply ok_call) | (with_reducible apply ok_meth) | (with_reducible apply ok_bV) | (with_reducible apply ok_bNot) | (with_reducible apply ok_bAnd) | (with_reducible apply ok_bOr) | (with_reducible apply ok_eAnd) | (with_reducible apply ok_eOr) | (with_reducible apply ok_eNot) | (with_reducible apply ok_eIf) | (with_reducible apply ok_iVal) | (with_reducible apply ok_range) | (with_reducible apply ok_range2) | (with_reducible apply ok_listRange) | (with_reducible apply ok_enum) | (with_reducible apply ok_bYes) | (with_reducible apply ok_mkL) | (with_reducible apply ok_mkC) | (with_reducible apply ok_ok) | (with_reducible apply ok_addI) | (with_reducible apply ok_gtI) | (with_reducible apply ok_geI) | (with_reducible apply ok_ltI) | (with_reducible apply ok_leI) | (with_reducible apply ok_leS) | (with_reducible apply ok_eqI) | (with_reducible apply ok_neI) | (with_reducible apply ok_eqS) | (with_reducible apply ok_neS) | (with_reducible apply ok_int) | (with_reducible apply ok_lenL) | (with_reducible apply ok_lenT) | (with_reducible apply ok_tupOfL) | (with_reducible apply ok_tupOfT) | (with_reducible apply bl_mk) | (with_reducible apply it_lst) | (with_reducible apply it_tup) | (with_reducible apply it_rls) | (with_reducible apply en_lst) | (with_reducible apply en_tup) | (with_reducible apply rt_seqOf) | (with_reducible apply nx_seqOf) | (with_reducible apply rt_of) | (with_reducible apply nx_of) | (with_reducible apply nx_nx) | (with_reducible apply rt_rt) | (with_reducible apply nx_nil) | (with_reducible apply rt_seqNil) | (with_reducible apply nx_asg) | (with_reducible apply ok_isNN))
  refine isList_ok (.inr rfl) ?_
  repeat (first | ((with_reducible apply ok_var); exact rfl) | ((with_reducible apply ok_calls); exact rfl) | ((with_reducible apply ok_tupL); exact Nat.le_of_ble_eq_true rfl) | ((with_reducible apply ok_lstL); exact Nat.le_of_ble_eq_true rfl) | ((with_reducible apply ok_lstC); exact Nat.le_of_ble_eq_true rfl) | (with_reducible apply ok_e2) | (with_reducible apply ok_c) | (with_reducible apply ok_cons) | (with_reducible apply ok_nil) | (with_reducible apply ok_ofL) | (with_reducible apply ok_call) | (with_reducible apply ok_meth) | (with_reducible apply ok_bV) | (with_reducible apply ok_bNot) | (with_reducible apply ok_bAnd) | (with_reducible apply ok_bOr) | (with_reducible apply ok_eAnd) | (with_reducible apply ok_eOr) | (with_reducible apply ok_eNot) | (with_reducible apply ok_eIf) | (with_reducible apply ok_iVal) | (with_reducible apply ok_range) | (with_reducible apply ok_range2) | (with_reducible apply ok_listRange) | (with_reducible apply ok_enum) | (with_reducible apply ok_bYes) | (with_reducible apply ok_mkL) | (with_reducible apply ok_mkC) | (with_reducible apply ok_ok) | (with_reducible apply ok_addI) | (with_reducible apply ok_gtI) | (with_reducible apply ok_geI) | (with_reducible apply ok_ltI) | (with_reducible apply ok_leI) | (with_reducible apply ok_leS) | (with_reducible apply ok_eqI) | (with_reducible apply ok_neI) | (with_reducible apply ok_eqS) | (with_reducible apply ok_neS) | (with_reducible apply ok_int) | (with_reducible apply ok_lenL) | (with_reducible apply ok_lenT) | (with_reducible apply ok_tupOfL) | (with_reducible apply ok_tupOfT) | (with_reducible apply bl_mk) | (with_reducible apply it_lst) | (with_reducible apply it_tup) | (with_reducible apply it_rls) | (with_reducible apply en_lst) | (with_reducible apply en_tup) | (with_reducible apply rt_seqOf) | (with_reducible apply nx_seqOf) | (with_reducible apply rt_of) | (with_reducible apply nx_of) | (with_reducible apply nx_nx) | (with_reducible apply rt_rt) | (with_reducible apply nx_nil) | (with_reducible apply rt_seqNil) | (with_reducible apply nx_asg) | (with_reducible apply ok_isNN))
  rw [Bool.not_true, if_neg (by decide)]
  repeat (first | ((with_reducible apply ok_var); exact rfl) | ((with_reducible apply ok_calls); exact rfl) | ((with_reducible apply ok_tupL); exact Nat.le_of_ble_eq_true rfl) | ((with_reducible apply ok_lstL); exact Nat.le_of_ble_eq_true rfl) | ((with_reducible apply ok_lstC); exact Nat.le_of_ble_eq_true rfl) | (with_reducible apply ok_e2) | (with_reducible apply ok_c) | (with_reducible apply ok_cons) | (with_reducible apply ok_nil) | (with_reducible apply ok_ofL) | (with_reducible apply ok_call) | (with_reducible apply ok_meth) | (with_reducible apply ok_bV) | (with_reducible apply ok_bNot) | (with_reducible apply ok_bAnd) | (with_reducible apply ok_bOr) | (with_reducible apply ok_eAnd) | (with_reducible apply ok_eOr) | (with_reducible apply ok_eNot) | (with_reducible apply ok_eIf) | (with_reducible apply ok_iVal) | (with_reducible apply ok_range) | (with_reducible apply ok_range2) | (with_reducible apply ok_listRange) | (with_reducible apply ok_enum) | (with_reducible apply ok_bYes) | (with_reducible apply ok_mkL) | (with_reducible apply ok_mkC) | (with_reducible apply ok_ok) | (with_reducible apply ok_addI) | (with_reducible apply ok_gtI) | (with_reducible apply ok_geI) | (with_reducible apply ok_ltI) | (with_reducible apply ok_leI) | (with_reducible apply ok_leS) | (with_reducible apply ok_eqI) | (with_reducible apply ok_neI) | (with_reducible apply ok_eqS) | (with_reducible apply ok_neS) | (with_reducible apply ok_int) | (with_reducible apply ok_lenL) | (with_reducible apply ok_lenT) | (with_reducible apply ok_tupOfL) | (with_reducible apply ok_tupOfT) | (with_reducible apply bl_mk) | (with_reducible apply it_lst) | (with_reducible apply it_tup) | (with_reducible apply it_rls) | (with_reducible apply en_lst) | (with_reducible apply en_tup) | (with_reducible apply rt_seqOf) | (with_reducible apply nx_seqOf) | (with_reducible apply rt_of) | (with_reducible apply nx_of) | (with_reducible apply nx_nx) | (with_reducible apply rt_rt) | (with_reducible apply nx_nil) | (with_reducible apply rt_seqNil) | (with_reducible apply nx_asg) | (with_reducible apply ok_isNN))
  rw [List.length_map, decide_eq_false (show ¬ (4 : Int) < (c.cs.length : Int) by omega), if_neg (by decide)]
  refine rt_seqNil (rt_of (ok_ofL (ok_cons (ok_compM c.cs Cond.t (fun _ => true) (fun _ => .bl true) ?_))))
  refine ok_iVal (ok_var rfl ⟨_, rfl, rfl, by unfold lim; omega, ?_, ?_⟩)
  · intro d hd
    refine ⟨_, rfl, ok_bYes ⟨rfl, rfl, fun _ => ?_⟩⟩
    repeat (first | ((with_reducible apply ok_var); exact rfl) | ((with_reducible apply ok_calls); exact rfl) | ((with_reducible apply ok_tupL); exact Nat.le_of_ble_eq_true rfl) | ((with_reducible apply ok_lstL); exact Nat.le_of_ble_eq_true rfl) | ((with_reducible apply ok_lstC); exact Nat.le_of_ble_eq_true rfl) | (with_reducible apply ok_e2) | (with_reducible apply ok_c) | (with_reducible apply ok_cons) | (with_reducible apply ok_nil) | (with_reducible apply ok_ofL) | (with_reducible apply ok_call) | (with_reducible apply ok_meth) | (with_reducible apply ok_bV) | (with_reducible apply ok_bNot) | (with_reducible apply ok_bAnd) | (with_reducible apply ok_bOr) | (with_reducible apply ok_eAnd) | (with_reducible apply ok_eOr) | (with_reducible apply ok_eNot) | (with_reducible apply ok_eIf) | (with_reducible apply ok_iVal) | (with_reducible apply ok_range) | (with_reducible apply ok_range2) | (with_reducible apply ok_listRange) | (with_reducible apply ok_enum) | (with_reducible apply ok_bYes) | (with_reducible apply ok_mkL) | (with_reducible apply ok_mkC) | (with_reducible apply ok_ok) | (with_reducible apply ok_addI) | (with_reducible apply ok_gtI) | (with_reducible apply ok_geI) | (with_reducible apply ok_ltI) | (with_reducible apply ok_leI) | (with_reducible apply ok_leS) | (with_reducible apply ok_eqI) | (with_reducible apply ok_neI) | (with_reducible apply ok_eqS) | (with_reducible apply ok_neS) | (with_reducible apply ok_int) | (with_reducible apply ok_lenL) | (with_reducible apply ok_lenT) | (with_reducible apply ok_tupOfL) | (with_reducible apply ok_tupOfT) | (with_reducible apply bl_mk) | (with_reducible apply it_lst) | (with_reducible apply it_tup) | (with_reducible apply it_rls) | (with_reducible apply en_lst) | (with_reducible apply en_tup) | (with_reducible apply rt_seqOf) | (with_reducible apply nx_seqOf) | (with_reducible apply rt_of) | (with_reducible apply nx_of) | (with_reducible apply nx_nx) | (with_reducible apply rt_rt) | (with_reducible apply nx_nil) | (with_reducible apply rt_seqNil) | (with_reducible apply nx_asg) | (with_reducible apply ok_isNN))
    exact isCond_ok hg (hl d hd) (hf.cs d hd) ⟨rfl, rfl⟩
  · rw [filter_yes]
    repeat (first | ((with_reducible apply ok_var); exact rfl) | ((with_reducible apply ok_calls); exact rfl) | ((with_reducible apply ok_tupL); exact Nat.le_of_ble_eq_true rfl) | ((with_reducible apply ok_lstL); exact Nat.le_of_ble_eq_true rfl) | ((with_reducible apply ok_lstC); exact Nat.le_of_ble_eq_true rfl) | (with_reducible apply ok_e2) | (with_reducible apply ok_c) | (with_reducible apply ok_cons) | (with_reducible apply ok_nil) | (with_reducible apply ok_ofL) | (with_reducible apply ok_call) | (with_reducible apply ok_meth) | (with_reducible apply ok_bV) | (with_reducible apply ok_bNot) | (with_reducible apply ok_bAnd) | (with_reducible apply ok_bOr) | (with_reducible apply ok_eAnd) | (with_reducible apply ok_eOr) | (with_reducible apply ok_eNot) | (with_reducible apply ok_eIf) | (with_reducible apply ok_iVal) | (with_reducible apply ok_range) | (with_reducible apply ok_range2) | (with_reducible apply ok_listRange) | (with_reducible apply ok_enum) | (with_reducible apply ok_bYes) | (with_reducible apply ok_mkL) | (with_reducible apply ok_mkC) | (with_reducible apply ok_ok) | (with_reducible apply ok_addI) | (with_reducible apply ok_gtI) | (with_reducible apply ok_geI) | (with_reducible apply ok_ltI) | (with_reducible apply ok_leI) | (with_reducible apply ok_leS) | (with_reducible apply ok_eqI) | (with_reducible apply ok_neI) | (with_reducible apply ok_eqS) | (with_reducible apply ok_neS) | (with_reducible apply ok_int) | (with_reducible apply ok_lenL) | (with_reducible apply ok_lenT) | (with_reducible apply ok_tupOfL) | (with_reducible apply ok_tupOfT) | (with_reducible apply bl_mk) | (with_reducible apply it_lst) | (with_reducible apply it_tup) | (with_reducible apply it_rls) | (with_reducible apply en_lst) | (with_reducible apply en_tup) | (with_reducible apply rt_seqOf) | (with_reducible apply nx_seqOf) | (with_reducible apply rt_of) | (with_reducible apply nx_of) | (with_reducible apply nx_nx) | (with_reducible apply rt_rt) | (with_reducible apply nx_nil) | (with_reducible apply rt_seqNil) | (with_reducible apply nx_asg) | (with_reducible apply ok_isNN))
    refine ok_allL (f := fun _ => true) (rt_rt ?_)
    rw [show (c.cs.all fun _ => true) = true by simp]
    exact h
theorem areClauses_ok {m : Mem} {P : T → Mem → Prop} {xs : List Str} {cl : List Clause} (hg : ∀ x ∈ xs, Good x) (hl : ∀ c ∈ cl, ∀ d ∈ c.cs, d.names.length ≤ 1000) (hc : cl.length ≤ 6) (hf : ∀ c ∈ cl, c.Fine xs) (h : P (.bl true) m) : Ok (F_are_clauses [.lst (cl.map Clause.t)] m) P := by
  unfold F_are_clauses B_are_clauses
  refine ok_fn ?_
  try simp only [List.map_cons, List.map_nil, List.cons_append, List.nil_append, List.length_cons, List.length_nil, Nat.reduceAdd, Nat.reduceSub, List.replicate_succ, List.replicate_zero, List.set_cons_succ, List.set_cons_zero]
  refine rt_seqIf ?_
  repeat (first | ((with_reducible apply ok_var); exact rfl) | ((with_reducible apply ok_calls); exact rfl) | ((with_reducible apply ok_tupL); exact Nat.le_of_ble_eq_true rfl) | ((with_reducible apply ok_lstL); exact Nat.le_of_ble_eq_true rfl) | ((with_reducible apply ok_lstC); exact Nat.le_of_ble_eq_true rfl) | (with_reducible apply ok_e2) | (with_reducible apply ok_c) | (with_reducible apply ok_cons) | (with_reducible apply ok_nil) | (with_reducible apply ok_ofL) | (with_reducible apply ok_call) | (with_reducible apply ok_meth) | (with_reducible apply ok_bV) | (with_reducible apply ok_bNot) | (with_reducible apply ok_bAnd) | (with_reducible apply ok_bOr) | (with_reducible apply ok_eAnd) | (with_reducible apply ok_eOr) | (with_reducible apply ok_eNot) | (with_reducible apply ok_eIf) | (with_reducible apply ok_iVal) | (with_reducible apply ok_range) | (with_reducible apply ok_range2) | (with_reducible apply ok_listRange) | (with_reducible apply ok_enum) | (with_reducible apply ok_bYes) | (with_reducible apply ok_mkL) | (with_reducible apply ok_mkC) | (with_reducible apply ok_ok) | (with_reducible apply ok_addI) | (with_reducible apply ok_gtI) | (with_reducible apply ok_geI) | (with_reducible apply ok_ltI) | (with_reducible apply ok_leI) | (with_reducible apply ok_leS) | (with_reducible apply ok_eqI) | (with_reducible apply ok_neI) | (with_reducible apply ok_eqS) | (with_reducible apply ok_neS) | (with_reducible apply ok_int) | (with_reducible apply ok_lenL) | (with_reducible apply ok_lenT) | (with_reducible apply ok_tupOfL) | (with_reducible apply ok_tupOfT) | (with_reducible apply bl_mk) | (with_reducible apply it_lst) | (with_reducible apply it_tup) | (with_reducible apply it_rls) | (with_reducible apply en_lst) | (with_reducible apply en_tup) | (with_reducible apply rt_seqOf) | (with_reducible apply nx_seqOf) | (with_reducible apply rt_of) | (with_reducible apply nx_of) | (with_reducible apply nx_nx) | (with_reducible apply rt_rt) | (with_reducible apply nx_nil) | (with_reducible apply rt_seqNil) | (with_reducible apply nx_asg) | (with_reducible apply ok_isNN))
  refine isList_ok (.inl rfl) ?_
  repeat (first | ((with_reducible apply ok_var); exact rfl) | ((with_reducible apply ok_calls); exact rfl) | ((with_reducible apply ok_tupL); exact Nat.le_of_ble_eq_true rfl) | ((with_reducible apply ok_lstL); exact Nat.le_of_ble_eq_true rfl) | ((with_reducible apply ok_lstC); exact Nat.le_of_ble_eq_true rfl) | (with_reducible apply ok_e2) | (with_reducible apply ok_c) | (with_reducible apply ok_cons) | (with_reducible apply ok_nil) | (with_reducible apply ok_ofL) | (with_reducible apply ok_call) | (with_reducible apply ok_meth) | (with_reducible apply ok_bV) | (with_reducible apply ok_bNot) | (with_reducible apply ok_bAnd) | (with_reducible apply ok_bOr) | (with_reducible apply ok_eAnd) | (with_reducible apply ok_eOr) | (with_reducible apply ok_eNot) | (with_reducible apply ok_eIf) | (with_reducible apply ok_iVal) | (with_reducible apply ok_range) | (with_reducible apply ok_range2) | (with_reducible apply ok_listRange) | (with_reducible apply ok_enum) | (with_reducible apply ok_bYes) | (with_reducible apply ok_mkL) | (with_reducible apply ok_mkC) | (with_reducible apply ok_ok) | (with_reducible apply ok_addI) | (with_reducible apply ok_gtI) | (with_reducible apply ok_geI) | (with_reducible apply ok_ltI) | (with_reducible apply ok_leI) | (with_reducible apply ok_leS) | (with_reducible apply ok_eqI) | (with_reducible apply ok_neI) | (with_reducible apply ok_eqS) | (with_reducible apply ok_neS) | (with_reducible apply ok_int) | (with_reducible apply ok_lenL) | (with_reducible apply ok_lenT) | (with_reducible apply ok_tupOfL) | (with_reducible apply ok_tupOfT) | (with_reducible apply bl_mk) | (with_reducible apply it_lst) | (with_reducible apply it_tup) | (with_reducible apply it_rls) | (with_reducible apply en_lst) | (with_reducible apply en_tup) | (with_reducible apply rt_seqOf) | (with_reducible apply nx_seqOf) | (with_reducible apply rt_of) | (with_reducible apply nx_of) | (with_reducible apply nx_nx) | (with_reducible apply rt_rt) | (with_reducible apply nx_nil) | (with_reducible apply rt_seqNil) | (with_reducible apply nx_asg) | (with_reducible apply ok_isNN))
  rw [Bool.not_true, if_neg (by decide)]
  repeat (first | ((with_reducible apply ok_var); exact rfl) | ((with_reducible apply ok_calls); exact rfl) | ((with_reducible apply ok_tupL); exact Nat.le_of_ble_eq_true rfl) | ((with_reducible apply ok_lstL); exact Nat.le_of_ble_eq_true rfl) | ((with_reducible apply ok_lstC); exact Nat.le_of_ble_eq_true rfl) | (with_reducible apply ok_e2) | (with_reducible apply ok_c) | (with_reducible apply ok_cons) | (with_reducible apply ok_nil) | (with_reducible apply ok_ofL) | (with_reducible apply ok_call) | (with_reducible apply ok_meth) | (with_reducible apply ok_bV) | (with_reducible apply ok_bNot) | (with_reducible apply ok_bAnd) | (with_reducible apply ok_bOr) | (with_reducible apply ok_eAnd) | (with_reducible apply ok_eOr) | (with_reducible apply ok_eNot) | (with_reducible apply ok_eIf) | (with_reducible apply ok_iVal) | (with_reducible apply ok_range) | (with_reducible apply ok_range2) | (with_reducible apply ok_listRange) | (with_reducible apply ok_enum) | (with_reducible apply ok_bYes) | (with_reducible apply ok_mkL) | (with_reducible apply ok_mkC) | (with_reducible apply ok_ok) | (with_reducible apply ok_addI) | (with_reducible apply ok_gtI) | (with_reducible apply ok_geI) | (with_reducible apply ok_ltI) | (with_reducible apply ok_leI) | (with_reducible apply ok_leS) | (with_reducible apply ok_eqI) | (with_reducible apply ok_neI) | (with_reducible apply ok_eqS) | (with_reducible apply ok_neS) | (with_reducible apply ok_int) | (with_reducible apply ok_lenL) | (with_reducible apply ok_lenT) | (with_reducible apply ok_tupOfL) | (with_reducible apply ok_tupOfT) | (with_reducible apply bl_mk) | (with_reducible apply it_lst) | (with_reducible apply it_tup) | (with_reducible apply it_rls) | (with_reducible apply en_lst) | (with_reducible apply en_tup) | (with_reducible apply rt_seqOf) | (with_reducible apply nx_seqOf) | (with_reducible apply rt_of) | (with_reducible apply nx_of) | (with_reducible apply nx_nx) | (with_reducible apply rt_rt) | (with_reducible apply nx_nil) | (with_reducible apply rt_seqNil) | (with_reducible apply nx_asg) | (with_reducible apply ok_isNN))
  rw [List.length_map, decide_eq_false (show ¬ (6 : Int) < (cl.length : Int) by omega), if_neg (by decide)]
  refine rt_seqNil (rt_of (ok_ofL (ok_cons (ok_compM cl Clause.t (fun _ => true) (fun _ => .bl true) ?_))))
  refine ok_iVal (ok_var rfl ⟨_, rfl, rfl, by unfold lim; omega, ?_, ?_⟩)
  · intro c hcc
    refine ⟨_, rfl, ok_bYes ⟨rfl, rfl, fun _ => ?_⟩⟩
    repeat (first | ((with_reducible apply ok_var); exact rfl) | ((with_reducible apply ok_calls); exact rfl) | ((with_reducible apply ok_tupL); exact Nat.le_of_ble_eq_true rfl) | ((with_reducible apply ok_lstL); exact Nat.le_of_ble_eq_true rfl) | ((with_reducible apply ok_lstC); exact Nat.le_of_ble_eq_true rfl) | (with_reducible apply ok_e2) | (with_reducible apply ok_c) | (with_reducible apply ok_cons) | (with_reducible apply ok_nil) | (with_reducible apply ok_ofL) | (with_reducible apply ok_call) | (with_reducible apply ok_meth) | (with_reducible apply ok_bV) | (with_reducible apply ok_bNot) | (with_reducible apply ok_bAnd) | (with_reducible apply ok_bOr) | (with_reducible apply ok_eAnd) | (with_reducible apply ok_eOr) | (with_reducible apply ok_eNot) | (with_reducible apply ok_eIf) | (with_reducible apply ok_iVal) | (with_reducible apply ok_range) | (with_reducible apply ok_range2) | (with_reducible apply ok_listRange) | (with_reducible apply ok_enum) | (with_reducible apply ok_bYes) | (with_reducible apply ok_mkL) | (with_reducible apply ok_mkC) | (with_reducible apply ok_ok) | (with_reducible apply ok_addI) | (with_reducible apply ok_gtI) | (with_reducible apply ok_geI) | (with_reducible apply ok_ltI) | (with_reducible apply ok_leI) | (with_reducible apply ok_leS) | (with_reducible apply ok_eqI) | (with_reducible apply ok_neI) | (with_reducible apply ok_eqS) | (with_reducible apply ok_neS) | (with_reducible apply ok_int) | (with_reducible apply ok_lenL) | (with_reducible apply ok_lenT) | (with_reducible apply ok_tupOfL) | (with_reducible apply ok_tupOfT) | (with_reducible apply bl_mk) | (with_reducible apply it_lst) | (with_reducible apply it_tup) | (with_reducible apply it_rls) | (with_reducible apply en_lst) | (with_reducible apply en_tup) | (with_reducible apply rt_seqOf) | (with_reducible apply nx_seqOf) | (with_reducible apply rt_of) | (with_reducible apply nx_of) | (with_reducible apply nx_nx) | (with_reducible apply rt_rt) | (with_reducible apply nx_nil) | (with_reducible apply rt_seqNil) | (with_reducible apply nx_asg) | (with_reducible apply ok_isNN))
    exact isClause_ok hg (hl c hcc) (hf c hcc) ⟨rfl, rfl⟩
  · rw [filter_yes]
    repeat (first | ((with_reducible apply ok_var); exact rfl) | ((with_reducible apply ok_calls); exact rfl) | ((with_reducible apply ok_tupL); exact Nat.le_of_ble_eq_true rfl) | ((with_reducible apply ok_lstL); exact Nat.le_of_ble_eq_true rfl) | ((with_reducible apply ok_lstC); exact Nat.le_of_ble_eq_true rfl) | (with_reducible apply ok_e2) | (with_reducible apply ok_c) | (with_reducible apply ok_cons) | (with_reducible apply ok_nil) | (with_reducible apply ok_ofL) | (with_reducible apply ok_call) | (with_reducible apply ok_meth) | (with_reducible apply ok_bV) | (with_reducible apply ok_bNot) | (with_reducible apply ok_bAnd) | (with_reducible apply ok_bOr) | (with_reducible apply ok_eAnd) | (with_reducible apply ok_eOr) | (with_reducible apply ok_eNot) | (with_reducible apply ok_eIf) | (with_reducible apply ok_iVal) | (with_reducible apply ok_range) | (with_reducible apply ok_range2) | (with_reducible apply ok_listRange) | (with_reducible apply ok_enum) | (with_reducible apply ok_bYes) | (with_reducible apply ok_mkL) | (with_reducible apply ok_mkC) | (with_reducible apply ok_ok) | (with_reducible apply ok_addI) | (with_reducible apply ok_gtI) | (with_reducible apply ok_geI) | (with_reducible apply ok_ltI) | (with_reducible apply ok_leI) | (with_reducible apply ok_leS) | (with_reducible apply ok_eqI) | (with_reducible apply ok_neI) | (with_reducible apply ok_eqS) | (with_reducible apply ok_neS) | (with_reducible apply ok_int) | (with_reducible apply ok_lenL) | (with_reducible apply ok_lenT) | (with_reducible apply ok_tupOfL) | (with_reducible apply ok_tupOfT) | (with_reducible apply bl_mk) | (with_reducible apply it_lst) | (with_reducible apply it_tup) | (with_reducible apply it_rls) | (with_reducible apply en_lst) | (with_reducible apply en_tup) | (with_reducible apply rt_seqOf) | (with_reducible apply nx_seqOf) | (with_reducible apply rt_of) | (with_reducible apply nx_of) | (with_reducible apply nx_nx) | (with_reducible apply rt_rt) | (with_reducible apply nx_nil) | (with_reducible apply rt_seqNil) | (with_reducible apply nx_asg) | (with_reducible apply ok_isNN))
    refine ok_allL (f := fun _ => true) (rt_rt ?_)
    rw [show (cl.all fun _ => true) = true by simp]
    exact h
/-! ### the copy -/
theorem insS_perm (x : Str) : ∀ ys : List Str, (insS x ys).Perm (x :: ys)
  | [] => .refl _
  | y :: ys => by
    unfold insS
    split
    · exact .refl _
    · exact ((insS_perm x ys).cons y).trans (.swap x y ys)
theorem sortS_perm : ∀ xs : List Str, (sortS xs).Perm xs
  | [] => .refl _
  | x :: xs => by
    unfold sortS
    exact (insS_perm x _).trans ((sortS_perm xs).cons x)
theorem ok_sorted {m : Mem} {P : T → Mem → Prop} {t : T} {xs : List Str} (e : asSeq m t = some (xs.map T.str)) (hl : xs.length ≤ lim) (h : P (.lst ((sortS xs).map T.str)) m) : Ok (gSorted false [t] m) P := ⟨_, _, by unfold gSorted; simp only [e, txts_map, if_pos hl]; rfl, h⟩
def Cond.srt (c : Cond) : Cond := ⟨c.lo, c.mo, sortS c.names⟩
def Clause.srt (c : Clause) : Clause := ⟨c.st, c.cs.map Cond.srt⟩
theorem copied_ok {m : Mem} {P : T → Mem → Prop} {c : Clause} (hl : ∀ d ∈ c.cs, d.names.length ≤ 1000) (hc : c.cs.length ≤ 10) (h : P c.srt.t m) : Ok (F_copied_clause [c.t] m) P := by
  unfold F_copied_clause B_copied_clause
  refine ok_fn ?_
  try simp only [List.map_cons, List.map_nil, List.cons_append, List.nil_append, List.length_cons, List.length_nil, Nat.reduceAdd, Nat.reduceSub, List.replicate_succ, List.replicate_zero, List.set_cons_succ, List.set_cons_zero]
  refine rt_seq (nx_asg (ok_var rfl ⟨_, rfl, ?_⟩))
  try simp only [List.map_cons, List.map_nil, List.cons_append, List.nil_append, List.length_cons, List.length_nil, Nat.reduceAdd, Nat.reduceSub, List.replicate_succ, List.replicate_zero, List.set_cons_succ, List.set_cons_zero]
  refine rt_of (ok_ofL (ok_cons (ok_var rfl (ok_cons (ok_ofL (ok_cons (ok_compM c.cs Cond.t (fun _ => true) (fun d => d.srt.t) ?_)))))))
  refine ok_iVal (ok_var rfl ⟨_, rfl, rfl, by unfold lim; omega, ?_, ?_⟩)
  · intro d hd
    refine ⟨_, rfl, ok_bYes ⟨rfl, rfl, fun _ => ?_⟩⟩
    repeat (first | ((with_reducible apply ok_var); exact rfl) | ((with_reducible apply ok_calls); exact rfl) | ((with_reducible apply ok_tupL); exact Nat.le_of_ble_eq_true rfl) | ((with_reducible apply ok_lstL); exact Nat.le_of_ble_eq_true rfl) | ((with_reducible apply ok_lstC); exact Nat.le_of_ble_eq_true rfl) | (with_reducible apply ok_e2) | (with_reducible apply ok_c) | (with_reducible apply ok_cons) | (with_reducible apply ok_nil) | (with_reducible apply ok_ofL) | (with_reducible apply ok_call) | (with_reducible apply ok_meth) | (with_reducible apply ok_bV) | (with_reducible apply ok_bNot) | (with_reducible apply ok_bAnd) | (with_reducible apply ok_bOr) | (with_reducible apply ok_eAnd) | (with_reducible apply ok_eOr) | (with_reducible apply ok_eNot) | (with_reducible apply ok_eIf) | (with_reducible apply ok_iVal) | (with_reducible apply ok_range) | (with_reducible apply ok_range2) | (with_reducible apply ok_listRange) | (with_reducible apply ok_enum) | (with_reducible apply ok_bYes) | (with_reducible apply ok_mkL) | (with_reducible apply ok_mkC) | (with_reducible apply ok_ok) | (with_reducible apply ok_addI) | (with_reducible apply ok_gtI) | (with_reducible apply ok_geI) | (with_reducible apply ok_ltI) | (with_reducible apply ok_leI) | (with_reducible apply ok_leS) | (with_reducible apply ok_eqI) | (with_reducible apply ok_neI) | (with_reducible apply ok_eqS) | (with_reducible apply ok_neS) | (with_reducible apply ok_int) | (with_reducible apply ok_lenL) | (with_reducible apply ok_lenT) | (with_reducible apply ok_tupOfL) | (with_reducible apply ok_tupOfT) | (with_reducible apply bl_mk) | (with_reducible apply it_lst) | (with_reducible apply it_tup) | (with_reducible apply it_rls) | (with_reducible apply en_lst) | (with_reducible apply en_tup) | (with_reducible apply rt_seqOf) | (with_reducible apply nx_seqOf) | (with_reducible apply rt_of) | (with_reducible apply nx_of) | (with_reducible apply nx_nx) | (with_reducible apply rt_rt) | (with_reducible apply nx_nil) | (with_reducible apply rt_seqNil) | (with_reducible apply nx_asg) | (with_reducible apply ok_isNN))
    refine ok_sorted (xs := d.names) rfl (by have := hl d hd; unfold lim; omega) ?_
    repeat (first | ((with_reducible apply ok_var); exact rfl) | ((with_reducible apply ok_calls); exact rfl) | ((with_reducible apply ok_tupL); exact Nat.le_of_ble_eq_true rfl) | ((with_reducible apply ok_lstL); exact Nat.le_of_ble_eq_true rfl) | ((with_reducible apply ok_lstC); exact Nat.le_of_ble_eq_true rfl) | (with_reducible apply ok_e2) | (with_reducible apply ok_c) | (with_reducible apply ok_cons) | (with_reducible apply ok_nil) | (with_reducible apply ok_ofL) | (with_reducible apply ok_call) | (with_reducible apply ok_meth) | (with_reducible apply ok_bV) | (with_reducible apply ok_bNot) | (with_reducible apply ok_bAnd) | (with_reducible apply ok_bOr) | (with_reducible apply ok_eAnd) | (with_reducible apply ok_eOr) | (with_reducible apply ok_eNot) | (with_reducible apply ok_eIf) | (with_reducible apply ok_iVal) | (with_reducible apply ok_range) | (with_reducible apply ok_range2) | (with_reducible apply ok_listRange) | (with_reducible apply ok_enum) | (with_reducible apply ok_bYes) | (with_reducible apply ok_mkL) | (with_reducible apply ok_mkC) | (with_reducible apply ok_ok) | (with_reducible apply ok_addI) | (with_reducible apply ok_gtI) | (with_reducible apply ok_geI) | (with_reducible apply ok_ltI) | (with_reducible apply ok_leI) | (with_reducible apply ok_leS) | (with_reducible apply ok_eqI) | (with_reducible apply ok_neI) | (with_reducible apply ok_eqS) | (with_reducible apply ok_neS) | (with_reducible apply ok_int) | (with_reducible apply ok_lenL) | (with_reducible apply ok_lenT) | (with_reducible apply ok_tupOfL) | (with_reducible apply ok_tupOfT) | (with_reducible apply bl_mk) | (with_reducible apply it_lst) | (with_reducible apply it_tup) | (with_reducible apply it_rls) | (with_reducible apply en_lst) | (with_reducible apply en_tup) | (with_reducible apply rt_seqOf) | (with_reducible apply nx_seqOf) | (with_reducible apply rt_of) | (with_reducible apply nx_of) | (with_reducible apply nx_nx) | (with_reducible apply rt_rt) | (with_reducible apply nx_nil) | (with_reducible apply rt_seqNil) | (with_reducible apply nx_asg) | (with_reducible apply ok_isNN))
    exact ⟨rfl, rfl⟩
  · rw [filter_yes]
    repeat (first | ((with_reducible apply ok_var); exact rfl) | ((with_reducible apply ok_calls); exact rfl) | ((with_reducible apply ok_tupL); exact Nat.le_of_ble_eq_true rfl) | ((with_reducible apply ok_lstL); exact Nat.le_of_ble_eq_true rfl) | ((with_reducible apply ok_lstC); exact Nat.le_of_ble_eq_true rfl) | (with_reducible apply ok_e2) | (with_reducible apply ok_c) | (with_reducible apply ok_cons) | (with_reducible apply ok_nil) | (with_reducible apply ok_ofL) | (with_reducible apply ok_call) | (with_reducible apply ok_meth) | (with_reducible apply ok_bV) | (with_reducible apply ok_bNot) | (with_reducible apply ok_bAnd) | (with_reducible apply ok_bOr) | (with_reducible apply ok_eAnd) | (with_reducible apply ok_eOr) | (with_reducible apply ok_eNot) | (with_reducible apply ok_eIf) | (with_reducible apply ok_iVal) | (with_reducible apply ok_range) | (with_reducible apply ok_range2) | (with_reducible apply ok_listRange) | (with_reducible apply ok_enum) | (with_reducible apply ok_bYes) | (with_reducible apply ok_mkL) | (with_reducible apply ok_mkC) | (with_reducible apply ok_ok) | (with_reducible apply ok_addI) | (with_reducible apply ok_gtI) | (with_reducible apply ok_geI) | (with_reducible apply ok_ltI) | (with_reducible apply ok_leI) | (with_reducible apply ok_leS) | (with_reducible apply ok_eqI) | (with_reducible apply ok_neI) | (with_reducible apply ok_eqS) | (with_reducible apply ok_neS) | (with_reducible apply ok_int) | (with_reducible apply ok_lenL) | (with_reducible apply ok_lenT) | (with_reducible apply ok_tupOfL) | (with_reducible apply ok_tupOfT) | (with_reducible apply bl_mk) | (with_reducible apply it_lst) | (with_reducible apply it_tup) | (with_reducible apply it_rls) | (with_reducible apply en_lst) | (with_reducible apply en_tup) | (with_reducible apply rt_seqOf) | (with_reducible apply nx_seqOf) | (with_reducible apply rt_of) | (with_reducible apply nx_of) | (with_reducible apply nx_nx) | (with_reducible apply rt_rt) | (with_reducible apply nx_nil) | (with_reducible apply rt_seqNil) | (with_reducible apply nx_asg) | (with_reducible apply ok_isNN))
    have e : T.tup [.str c.st, .tup (c.cs.map fun d => d.srt.t)] = c.srt.t := by
      unfold Clause.srt Clause.t
      simp
    rw [e]
    exact h
theorem cnt_sort (ws ss : List Str) : cnt (sortS ws) ss = cnt ws ss := by
  unfold cnt
  congr 1
  apply List.filter_congr
  intro x _
  exact decide_eq_decide.mpr (sortS_perm ws).mem_iff
theorem cnt_perm (ws : List Str) {ss st : List Str} (h : ss.Perm st) : cnt ws ss = cnt ws st := by
  unfold cnt
  exact (h.filter _).length_eq
theorem holds_same (c : Cond) {ss st : List Str} (h : ss.Perm st) : holdsB c.srt ss = holdsB c st := by
  rw [holds_fits, holds_fits]
  show fits c.lo (cnt (sortS c.names) ss) c.mo = _
  rw [cnt_sort, cnt_perm _ h]
theorem hit_same (c : Clause) {ss st : List Str} (h : ss.Perm st) : hit ss c.srt = hit st c := by
  unfold hit Clause.srt
  rw [List.all_map]
  congr 1
  funext d
  exact holds_same d h
theorem idx_same {ss st : List Str} (h : ss.Perm st) : ∀ cl : List Clause, idx ss (cl.map Clause.srt) = idx st cl
  | [] => rfl
  | c :: cl => by
    rw [List.map_cons]
    unfold idx
    rw [hit_same c h, idx_same h cl]
theorem told_same {ss st : List Str} (h : ss.Perm st) (cl : List Clause) (last : Str) : toldS (cl.map Clause.srt) last ss = toldS cl last st := by
  unfold toldS
  rw [idx_same h, List.getElem?_map]
  cases cl[idx st cl]? <;> rfl
end M

namespace M
open PySem hiding Env
open L2 Ev G
theorem nx_seqIf {b : BF} {f g k : SF} {env : Env} {m : Mem} {PE : Env → Mem → Prop} (h : Ok (b env m) fun x m1 => if x then Nx (sSeq f k env m1) PE else Nx (sSeq g k env m1) PE) : Nx (sSeq (sIf b f g) k env m) PE := by
  obtain ⟨t, m', e, p⟩ := h
  unfold sSeq sIf; rw [e]
  cases t <;> exact p
theorem nx_seqNil {k : SF} {env : Env} {m : Mem} {PE : Env → Mem → Prop} (h : Nx (k env m) PE) : Nx (sSeq sNil k env m) PE := h
theorem nx_fld {env : Env} {m : Mem} {PE : Env → Mem → Prop} {c f : Str} {fe : EF} {i n : Nat} {ns : List Str} {ts : List T} (e0 : env[i]? = some (some (.loc n))) (hn : ns.length < 900)
    (h : Ok (fe env m) fun t m1 => m1[n]? = some (some (.ins c ns ts)) ∧ PE env (m1.set n (some (.ins c (putN f t ns ts).1 (putN f t ns ts).2)))) : Nx (sFldT c f fe (eVar i) env m) PE := by
  obtain ⟨t, m1, e, hm, p⟩ := h
  refine ⟨_, _, ?_, p⟩
  unfold sFldT sOf
  have ev : eVar i env m1 = .ok (.loc n) m1 := by unfold eVar; rw [e0]
  simp only [e, ev, hm, hn, and_self, if_true]
theorem put1 (t : T) : putN "hand_states" t [] [] = (([("hand_states" : Str)] : List Str), [t]) := rfl
theorem put2 (a t : T) : putN "part_kinds" t ["hand_states"] [a] = (([("hand_states" : Str), "part_kinds"] : List Str), [a, t]) := by
  simp only [putN]
  rw [if_neg (by decide +kernel)]
theorem put3 (a b t : T) : putN "clause_row" t ["hand_states", "part_kinds"] [a, b] = (([("hand_states" : Str), "part_kinds", "clause_row"] : List Str), [a, b, t]) := by
  simp only [putN]
  rw [if_neg (by decide +kernel), if_neg (by decide +kernel)]
theorem put4 (a b c t : T) : putN "last_state" t ["hand_states", "part_kinds", "clause_row"] [a, b, c] = (KN, [a, b, c, t]) := by
  simp only [putN]
  rw [if_neg (by decide +kernel), if_neg (by decide +kernel), if_neg (by decide +kernel)]
structure KindOk (hs ps : List Str) (cl : List Clause) (last : Str) (xs : List Str) : Prop where
  hl : hs.length ≤ 1000
  hn : hs.Nodup
  hg : ∀ x ∈ hs, Good x
  pl : ps.length ≤ 1000
  pn : ps.Nodup
  pg : ∀ x ∈ ps, Good x
  some : ¬ (hs = [] ∧ ps = [])
  xg : ∀ x ∈ xs, Good x
  few : cl.length ≤ 6
  nl : ∀ c ∈ cl, ∀ d ∈ c.cs, d.names.length ≤ 1000
  cf : ∀ c ∈ cl, c.Fine xs
  last : Good last
theorem init_ok {m : Mem} {P : T → Mem → Prop} {n : Nat} {hs ps : List Str} {cl : List Clause} {last : Str} {xs : List Str} (hm : m[n]? = some (some (.ins "Kind" [] []))) (K : KindOk hs ps cl last xs)
    (h : ∀ m', m'[n]? = some (some (.ins "Kind" KN [.tup ((sortS hs).map T.str), .tup ((sortS ps).map T.str), .tup ((cl.map Clause.srt).map Clause.t), .str last])) → m'.length = m.length → (∀ i, i ≠ n → m'[i]? = m[i]?) → P .non m') :
    Ok (F_Kind___init__ [.loc n, .lst (hs.map T.str), .lst (ps.map T.str), .lst (cl.map Clause.t), .str last] m) P := by
  have hnl := (List.getElem?_eq_some_iff.mp hm).1
  unfold F_Kind___init__ B_Kind___init__
  refine ok_fnN ?_
  try simp only [List.map_cons, List.map_nil, List.cons_append, List.nil_append, List.length_cons, List.length_nil, Nat.reduceAdd, Nat.reduceSub, List.replicate_succ, List.replicate_zero, List.set_cons_succ, List.set_cons_zero]
  refine nx_seqIf (ok_bNot ?_)
  repeat (first | ((with_reducible apply ok_var); exact rfl) | ((with_reducible apply ok_calls); exact rfl) | ((with_reducible apply ok_tupL); exact Nat.le_of_ble_eq_true rfl) | ((with_reducible apply ok_lstL); exact Nat.le_of_ble_eq_true rfl) | ((with_reducible apply ok_lstC); exact Nat.le_of_ble_eq_true rfl) | (with_reducible apply ok_e2) | (with_reducible apply ok_c) | (with_reducible apply ok_cons) | (with_reducible apply ok_nil) | (with_reducible apply ok_ofL) | (with_reducible apply ok_call) | (with_reducible apply ok_meth) | (with_reducible apply ok_bV) | (with_reducible apply ok_bNot) | (with_reducible apply ok_bAnd) | (with_reducible apply ok_bOr) | (with_reducible apply ok_eAnd) | (with_reducible apply ok_eOr) | (with_reducible apply ok_eNot) | (with_reducible apply ok_eIf) | (with_reducible apply ok_iVal) | (with_reducible apply ok_range) | (with_reducible apply ok_range2) | (with_reducible apply ok_listRange) | (with_reducible apply ok_enum) | (with_reducible apply ok_bYes) | (with_reducible apply ok_mkL) | (with_reducible apply ok_mkC) | (with_reducible apply ok_ok) | (with_reducible apply ok_addI) | (with_reducible apply ok_gtI) | (with_reducible apply ok_geI) | (with_reducible apply ok_ltI) | (with_reducible apply ok_leI) | (with_reducible apply ok_leS) | (with_reducible apply ok_eqI) | (with_reducible apply ok_neI) | (with_reducible apply ok_eqS) | (with_reducible apply ok_neS) | (with_reducible apply ok_int) | (with_reducible apply ok_lenL) | (with_reducible apply ok_lenT) | (with_reducible apply ok_tupOfL) | (with_reducible apply ok_tupOfT) | (with_reducible apply bl_mk) | (with_reducible apply it_lst) | (with_reducible apply it_tup) | (with_reducible apply it_rls) | (with_reducible apply en_lst) | (with_reducible apply en_tup) | (with_reducible apply rt_seqOf) | (with_reducible apply nx_seqOf) | (with_reducible apply rt_of) | (with_reducible apply nx_of) | (with_reducible apply nx_nx) | (with_reducible apply rt_rt) | (with_reducible apply nx_nil) | (with_reducible apply rt_seqNil) | (with_reducible apply nx_asg) | (with_reducible apply ok_isNN))
  refine areNames_ok (.inl rfl) K.hl K.hn K.hg ?_
  repeat (first | ((with_reducible apply ok_var); exact rfl) | ((with_reducible apply ok_calls); exact rfl) | ((with_reducible apply ok_tupL); exact Nat.le_of_ble_eq_true rfl) | ((with_reducible apply ok_lstL); exact Nat.le_of_ble_eq_true rfl) | ((with_reducible apply ok_lstC); exact Nat.le_of_ble_eq_true rfl) | (with_reducible apply ok_e2) | (with_reducible apply ok_c) | (with_reducible apply ok_cons) | (with_reducible apply ok_nil) | (with_reducible apply ok_ofL) | (with_reducible apply ok_call) | (with_reducible apply ok_meth) | (with_reducible apply ok_bV) | (with_reducible apply ok_bNot) | (with_reducible apply ok_bAnd) | (with_reducible apply ok_bOr) | (with_reducible apply ok_eAnd) | (with_reducible apply ok_eOr) | (with_reducible apply ok_eNot) | (with_reducible apply ok_eIf) | (with_reducible apply ok_iVal) | (with_reducible apply ok_range) | (with_reducible apply ok_range2) | (with_reducible apply ok_listRange) | (with_reducible apply ok_enum) | (with_reducible apply ok_bYes) | (with_reducible apply ok_mkL) | (with_reducible apply ok_mkC) | (with_reducible apply ok_ok) | (with_reducible apply ok_addI) | (with_reducible apply ok_gtI) | (with_reducible apply ok_geI) | (with_reducible apply ok_ltI) | (with_reducible apply ok_leI) | (with_reducible apply ok_leS) | (with_reducible apply ok_eqI) | (with_reducible apply ok_neI) | (with_reducible apply ok_eqS) | (with_reducible apply ok_neS) | (with_reducible apply ok_int) | (with_reducible apply ok_lenL) | (with_reducible apply ok_lenT) | (with_reducible apply ok_tupOfL) | (with_reducible apply ok_tupOfT) | (with_reducible apply bl_mk) | (with_reducible apply it_lst) | (with_reducible apply it_tup) | (with_reducible apply it_rls) | (with_reducible apply en_lst) | (with_reducible apply en_tup) | (with_reducible apply rt_seqOf) | (with_reducible apply nx_seqOf) | (with_reducible apply rt_of) | (with_reducible apply nx_of) | (with_reducible apply nx_nx) | (with_reducible apply rt_rt) | (with_reducible apply nx_nil) | (with_reducible apply rt_seqNil) | (with_reducible apply nx_asg) | (with_reducible apply ok_isNN))
  rw [Bool.not_true, if_neg (by decide)]
  refine nx_seqNil (nx_seqIf (ok_bOr (ok_bNot ?_)))
  repeat (first | ((with_reducible apply ok_var); exact rfl) | ((with_reducible apply ok_calls); exact rfl) | ((with_reducible apply ok_tupL); exact Nat.le_of_ble_eq_true rfl) | ((with_reducible apply ok_lstL); exact Nat.le_of_ble_eq_true rfl) | ((with_reducible apply ok_lstC); exact Nat.le_of_ble_eq_true rfl) | (with_reducible apply ok_e2) | (with_reducible apply ok_c) | (with_reducible apply ok_cons) | (with_reducible apply ok_nil) | (with_reducible apply ok_ofL) | (with_reducible apply ok_call) | (with_reducible apply ok_meth) | (with_reducible apply ok_bV) | (with_reducible apply ok_bNot) | (with_reducible apply ok_bAnd) | (with_reducible apply ok_bOr) | (with_reducible apply ok_eAnd) | (with_reducible apply ok_eOr) | (with_reducible apply ok_eNot) | (with_reducible apply ok_eIf) | (with_reducible apply ok_iVal) | (with_reducible apply ok_range) | (with_reducible apply ok_range2) | (with_reducible apply ok_listRange) | (with_reducible apply ok_enum) | (with_reducible apply ok_bYes) | (with_reducible apply ok_mkL) | (with_reducible apply ok_mkC) | (with_reducible apply ok_ok) | (with_reducible apply ok_addI) | (with_reducible apply ok_gtI) | (with_reducible apply ok_geI) | (with_reducible apply ok_ltI) | (with_reducible apply ok_leI) | (with_reducible apply ok_leS) | (with_reducible apply ok_eqI) | (with_reducible apply ok_neI) | (with_reducible apply ok_eqS) | (with_reducible apply ok_neS) | (with_reducible apply ok_int) | (with_reducible apply ok_lenL) | (with_reducible apply ok_lenT) | (with_reducible apply ok_tupOfL) | (with_reducible apply ok_tupOfT) | (with_reducible apply bl_mk) | (with_reducible apply it_lst) | (with_reducible apply it_tup) | (with_reducible apply it_rls) | (with_reducible apply en_lst) | (with_reducible apply en_tup) | (with_reducible apply rt_seqOf) | (with_reducible apply nx_seqOf) | (with_reducible apply rt_of) | (with_reducible apply nx_of) | (with_reducible apply nx_nx) | (with_reducible apply rt_rt) | (with_reducible apply nx_nil) | (with_reducible apply rt_seqNil) | (with_reducible apply nx_asg) | (with_reducible apply ok_isNN))
  refine areNames_ok (.inl rfl) K.pl K.pn K.pg ?_
  repeat (first | ((with_reducible apply ok_var); exact rfl) | ((with_reducible apply ok_calls); exact rfl) | ((with_reducible apply ok_tupL); exact Nat.le_of_ble_eq_true rfl) | ((with_reducible apply ok_lstL); exact Nat.le_of_ble_eq_true rfl) | ((with_reducible apply ok_lstC); exact Nat.le_of_ble_eq_true rfl) | (with_reducible apply ok_e2) | (with_reducible apply ok_c) | (with_reducible apply ok_cons) | (with_reducible apply ok_nil) | (with_reducible apply ok_ofL) | (with_reducible apply ok_call) | (with_reducible apply ok_meth) | (with_reducible apply ok_bV) | (with_reducible apply ok_bNot) | (with_reducible apply ok_bAnd) | (with_reducible apply ok_bOr) | (with_reducible apply ok_eAnd) | (with_reducible apply ok_eOr) | (with_reducible apply ok_eNot) | (with_reducible apply ok_eIf) | (with_reducible apply ok_iVal) | (with_reducible apply ok_range) | (with_reducible apply ok_range2) | (with_reducible apply ok_listRange) | (with_reducible apply ok_enum) | (with_reducible apply ok_bYes) | (with_reducible apply ok_mkL) | (with_reducible apply ok_mkC) | (with_reducible apply ok_ok) | (with_reducible apply ok_addI) | (with_reducible apply ok_gtI) | (with_reducible apply ok_geI) | (with_reducible apply ok_ltI) | (with_reducible apply ok_leI) | (with_reducible apply ok_leS) | (with_reducible apply ok_eqI) | (with_reducible apply ok_neI) | (with_reducible apply ok_eqS) | (with_reducible apply ok_neS) | (with_reducible apply ok_int) | (with_reducible apply ok_lenL) | (with_reducible apply ok_lenT) | (with_reducible apply ok_tupOfL) | (with_reducible apply ok_tupOfT) | (with_reducible apply bl_mk) | (with_reducible apply it_lst) | (with_reducible apply it_tup) | (with_reducible apply it_rls) | (with_reducible apply en_lst) | (with_reducible apply en_tup) | (with_reducible apply rt_seqOf) | (with_reducible apply nx_seqOf) | (with_reducible apply rt_of) | (with_reducible apply nx_of) | (with_reducible apply nx_nx) | (with_reducible apply rt_rt) | (with_reducible apply nx_nil) | (with_reducible apply rt_seqNil) | (with_reducible apply nx_asg) | (with_reducible apply ok_isNN))
  rw [Bool.not_true, if_neg (by decide)]
  repeat (first | ((with_reducible apply ok_var); exact rfl) | ((with_reducible apply ok_calls); exact rfl) | ((with_reducible apply ok_tupL); exact Nat.le_of_ble_eq_true rfl) | ((with_reducible apply ok_lstL); exact Nat.le_of_ble_eq_true rfl) | ((with_reducible apply ok_lstC); exact Nat.le_of_ble_eq_true rfl) | (with_reducible apply ok_e2) | (with_reducible apply ok_c) | (with_reducible apply ok_cons) | (with_reducible apply ok_nil) | (with_reducible apply ok_ofL) | (with_reducible apply ok_call) | (with_reducible apply ok_meth) | (with_reducible apply ok_bV) | (with_reducible apply ok_bNot) | (with_reducible apply ok_bAnd) | (with_reducible apply ok_bOr) | (with_reducible apply ok_eAnd) | (with_reducible apply ok_eOr) | (with_reducible apply ok_eNot) | (with_reducible apply ok_eIf) | (with_reducible apply ok_iVal) | (with_reducible apply ok_range) | (with_reducible apply ok_range2) | (with_reducible apply ok_listRange) | (with_reducible apply ok_enum) | (with_reducible apply ok_bYes) | (with_reducible apply ok_mkL) | (with_reducible apply ok_mkC) | (with_reducible apply ok_ok) | (with_reducible apply ok_addI) | (with_reducible apply ok_gtI) | (with_reducible apply ok_geI) | (with_reducible apply ok_ltI) | (with_reducible apply ok_leI) | (with_reducible apply ok_leS) | (with_reducible apply ok_eqI) | (with_reducible apply ok_neI) | (with_reducible apply ok_eqS) | (with_reducible apply ok_neS) | (with_reducible apply ok_int) | (with_reducible apply ok_lenL) | (with_reducible apply ok_lenT) | (with_reducible apply ok_tupOfL) | (with_reducible apply ok_tupOfT) | (with_reducible apply bl_mk) | (with_reducible apply it_lst) | (with_reducible apply it_tup) | (with_reducible apply it_rls) | (with_reducible apply en_lst) | (with_reducible apply en_tup) | (with_reducible apply rt_seqOf) | (with_reducible apply nx_seqOf) | (with_reducible apply rt_of) | (with_reducible apply nx_of) | (with_reducible apply nx_nx) | (with_reducible apply rt_rt) | (with_reducible apply nx_nil) | (with_reducible apply rt_seqNil) | (with_reducible apply nx_asg) | (with_reducible apply ok_isNN))
  rw [List.length_map, List.length_map, decide_eq_false, if_neg (by decide)]
  rotate_left
  · intro e
    refine K.some ⟨List.eq_nil_of_length_eq_zero ?_, List.eq_nil_of_length_eq_zero ?_⟩ <;> omega
  refine nx_seqNil (nx_seqIf (ok_bNot ?_))
  repeat (first | ((with_reducible apply ok_var); exact rfl) | ((with_reducible apply ok_calls); exact rfl) | ((with_reducible apply ok_tupL); exact Nat.le_of_ble_eq_true rfl) | ((with_reducible apply ok_lstL); exact Nat.le_of_ble_eq_true rfl) | ((with_reducible apply ok_lstC); exact Nat.le_of_ble_eq_true rfl) | (with_reducible apply ok_e2) | (with_reducible apply ok_c) | (with_reducible apply ok_cons) | (with_reducible apply ok_nil) | (with_reducible apply ok_ofL) | (with_reducible apply ok_call) | (with_reducible apply ok_meth) | (with_reducible apply ok_bV) | (with_reducible apply ok_bNot) | (with_reducible apply ok_bAnd) | (with_reducible apply ok_bOr) | (with_reducible apply ok_eAnd) | (with_reducible apply ok_eOr) | (with_reducible apply ok_eNot) | (with_reducible apply ok_eIf) | (with_reducible apply ok_iVal) | (with_reducible apply ok_range) | (with_reducible apply ok_range2) | (with_reducible apply ok_listRange) | (with_reducible apply ok_enum) | (with_reducible apply ok_bYes) | (with_reducible apply ok_mkL) | (with_reducible apply ok_mkC) | (with_reducible apply ok_ok) | (with_reducible apply ok_addI) | (with_reducible apply ok_gtI) | (with_reducible apply ok_geI) | (with_reducible apply ok_ltI) | (with_reducible apply ok_leI) | (with_reducible apply ok_leS) | (with_reducible apply ok_eqI) | (with_reducible apply ok_neI) | (with_reducible apply ok_eqS) | (with_reducible apply ok_neS) | (with_reducible apply ok_int) | (with_reducible apply ok_lenL) | (with_reducible apply ok_lenT) | (with_reducible apply ok_tupOfL) | (with_reducible apply ok_tupOfT) | (with_reducible apply bl_mk) | (with_reducible apply it_lst) | (with_reducible apply it_tup) | (with_reducible apply it_rls) | (with_reducible apply en_lst) | (with_reducible apply en_tup) | (with_reducible apply rt_seqOf) | (with_reducible apply nx_seqOf) | (with_reducible apply rt_of) | (with_reducible apply nx_of) | (with_reducible apply nx_nx) | (with_reducible apply rt_rt) | (with_reducible apply nx_nil) | (with_reducible apply rt_seqNil) | (with_reducible apply nx_asg) | (with_reducible apply ok_isNN))
  refine areClauses_ok K.xg K.nl K.few K.cf ?_
  repeat (first | ((with_reducible apply ok_var); exact rfl) | ((with_reducible apply ok_calls); exact rfl) | ((with_reducible apply ok_tupL); exact Nat.le_of_ble_eq_true rfl) | ((with_reducible apply ok_lstL); exact Nat.le_of_ble_eq_true rfl) | ((with_reducible apply ok_lstC); exact Nat.le_of_ble_eq_true rfl) | (with_reducible apply ok_e2) | (with_reducible apply ok_c) | (with_reducible apply ok_cons) | (with_reducible apply ok_nil) | (with_reducible apply ok_ofL) | (with_reducible apply ok_call) | (with_reducible apply ok_meth) | (with_reducible apply ok_bV) | (with_reducible apply ok_bNot) | (with_reducible apply ok_bAnd) | (with_reducible apply ok_bOr) | (with_reducible apply ok_eAnd) | (with_reducible apply ok_eOr) | (with_reducible apply ok_eNot) | (with_reducible apply ok_eIf) | (with_reducible apply ok_iVal) | (with_reducible apply ok_range) | (with_reducible apply ok_range2) | (with_reducible apply ok_listRange) | (with_reducible apply ok_enum) | (with_reducible apply ok_bYes) | (with_reducible apply ok_mkL) | (with_reducible apply ok_mkC) | (with_reducible apply ok_ok) | (with_reducible apply ok_addI) | (with_reducible apply ok_gtI) | (with_reducible apply ok_geI) | (with_reducible apply ok_ltI) | (with_reducible apply ok_leI) | (with_reducible apply ok_leS) | (with_reducible apply ok_eqI) | (with_reducible apply ok_neI) | (with_reducible apply ok_eqS) | (with_reducible apply ok_neS) | (with_reducible apply ok_int) | (with_reducible apply ok_lenL) | (with_reducible apply ok_lenT) | (with_reducible apply ok_tupOfL) | (with_reducible apply ok_tupOfT) | (with_reducible apply bl_mk) | (with_reducible apply it_lst) | (with_reducible apply it_tup) | (with_reducible apply it_rls) | (with_reducible apply en_lst) | (with_reducible apply en_tup) | (with_reducible apply rt_seqOf) | (with_reducible apply nx_seqOf) | (with_reducible apply rt_of) | (with_reducible apply nx_of) | (with_reducible apply nx_nx) | (with_reducible apply rt_rt) | (with_reducible apply nx_nil) | (with_reducible apply rt_seqNil) | (with_reducible apply nx_asg) | (with_reducible apply ok_isNN))
  rw [Bool.not_true, if_neg (by decide)]
  refine nx_seqNil (nx_seqIf (ok_bNot ?_))
  repeat (first | ((with_reducible apply ok_var); exact rfl) | ((with_reducible apply ok_calls); exact rfl) | ((with_reducible apply ok_tupL); exact Nat.le_of_ble_eq_true rfl) | ((with_reducible apply ok_lstL); exact Nat.le_of_ble_eq_true rfl) | ((with_reducible apply ok_lstC); exact Nat.le_of_ble_eq_true rfl) | (with_reducible apply ok_e2) | (with_reducible apply ok_c) | (with_reducible apply ok_cons) | (with_reducible apply ok_nil) | (with_reducible apply ok_ofL) | (with_reducible apply ok_call) | (with_reducible apply ok_meth) | (with_reducible apply ok_bV) | (with_reducible apply ok_bNot) | (with_reducible apply ok_bAnd) | (with_reducible apply ok_bOr) | (with_reducible apply ok_eAnd) | (with_reducible apply ok_eOr) | (with_reducible apply ok_eNot) | (with_reducible apply ok_eIf) | (with_reducible apply ok_iVal) | (with_reducible apply ok_range) | (with_reducible apply ok_range2) | (with_reducible apply ok_listRange) | (with_reducible apply ok_enum) | (with_reducible apply ok_bYes) | (with_reducible apply ok_mkL) | (with_reducible apply ok_mkC) | (with_reducible apply ok_ok) | (with_reducible apply ok_addI) | (with_reducible apply ok_gtI) | (with_reducible apply ok_geI) | (with_reducible apply ok_ltI) | (with_reducible apply ok_leI) | (with_reducible apply ok_leS) | (with_reducible apply ok_eqI) | (with_reducible apply ok_neI) | (with_reducible apply ok_eqS) | (with_reducible apply ok_neS) | (with_reducible apply ok_int) | (with_reducible apply ok_lenL) | (with_reducible apply ok_lenT) | (with_reducible apply ok_tupOfL) | (with_reducible apply ok_tupOfT) | (with_reducible apply bl_mk) | (with_reducible apply it_lst) | (with_reducible apply it_tup) | (with_reducible apply it_rls) | (with_reducible apply en_lst) | (with_reducible apply en_tup) | (with_reducible apply rt_seqOf) | (with_reducible apply nx_seqOf) | (with_reducible apply rt_of) | (with_reducible apply nx_of) | (with_reducible apply nx_nx) | (with_reducible apply rt_rt) | (with_reducible apply nx_nil) | (with_reducible apply rt_seqNil) | (with_reducible apply nx_asg) | (with_reducible apply ok_isNN))
  refine isName_ok K.last ?_
  repeat (first | ((with_reducible apply ok_var); exact rfl) | ((with_reducible apply ok_calls); exact rfl) | ((with_reducible apply ok_tupL); exact Nat.le_of_ble_eq_true rfl) | ((with_reducible apply ok_lstL); exact Nat.le_of_ble_eq_true rfl) | ((with_reducible apply ok_lstC); exact Nat.le_of_ble_eq_true rfl) | (with_reducible apply ok_e2) | (with_reducible apply ok_c) | (with_reducible apply ok_cons) | (with_reducible apply ok_nil) | (with_reducible apply ok_ofL) | (with_reducible apply ok_call) | (with_reducible apply ok_meth) | (with_reducible apply ok_bV) | (with_reducible apply ok_bNot) | (with_reducible apply ok_bAnd) | (with_reducible apply ok_bOr) | (with_reducible apply ok_eAnd) | (with_reducible apply ok_eOr) | (with_reducible apply ok_eNot) | (with_reducible apply ok_eIf) | (with_reducible apply ok_iVal) | (with_reducible apply ok_range) | (with_reducible apply ok_range2) | (with_reducible apply ok_listRange) | (with_reducible apply ok_enum) | (with_reducible apply ok_bYes) | (with_reducible apply ok_mkL) | (with_reducible apply ok_mkC) | (with_reducible apply ok_ok) | (with_reducible apply ok_addI) | (with_reducible apply ok_gtI) | (with_reducible apply ok_geI) | (with_reducible apply ok_ltI) | (with_reducible apply ok_leI) | (with_reducible apply ok_leS) | (with_reducible apply ok_eqI) | (with_reducible apply ok_neI) | (with_reducible apply ok_eqS) | (with_reducible apply ok_neS) | (with_reducible apply ok_int) | (with_reducible apply ok_lenL) | (with_reducible apply ok_lenT) | (with_reducible apply ok_tupOfL) | (with_reducible apply ok_tupOfT) | (with_reducible apply bl_mk) | (with_reducible apply it_lst) | (with_reducible apply it_tup) | (with_reducible apply it_rls) | (with_reducible apply en_lst) | (with_reducible apply en_tup) | (with_reducible apply rt_seqOf) | (with_reducible apply nx_seqOf) | (with_reducible apply rt_of) | (with_reducible apply nx_of) | (with_reducible apply nx_nx) | (with_reducible apply rt_rt) | (with_reducible apply nx_nil) | (with_reducible apply rt_seqNil) | (with_reducible apply nx_asg) | (with_reducible apply ok_isNN))
  rw [Bool.not_true, if_neg (by decide)]
  have limK : ∀ {zs : List Str}, zs.length ≤ 1000 → zs.length ≤ lim := fun h => by unfold lim; omega
  refine nx_seqNil (nx_seq (nx_fld (n := n) (ns := []) (ts := []) rfl (by decide) ?_))
  repeat (first | ((with_reducible apply ok_var); exact rfl) | ((with_reducible apply ok_calls); exact rfl) | ((with_reducible apply ok_tupL); exact Nat.le_of_ble_eq_true rfl) | ((with_reducible apply ok_lstL); exact Nat.le_of_ble_eq_true rfl) | ((with_reducible apply ok_lstC); exact Nat.le_of_ble_eq_true rfl) | (with_reducible apply ok_e2) | (with_reducible apply ok_c) | (with_reducible apply ok_cons) | (with_reducible apply ok_nil) | (with_reducible apply ok_ofL) | (with_reducible apply ok_call) | (with_reducible apply ok_meth) | (with_reducible apply ok_bV) | (with_reducible apply ok_bNot) | (with_reducible apply ok_bAnd) | (with_reducible apply ok_bOr) | (with_reducible apply ok_eAnd) | (with_reducible apply ok_eOr) | (with_reducible apply ok_eNot) | (with_reducible apply ok_eIf) | (with_reducible apply ok_iVal) | (with_reducible apply ok_range) | (with_reducible apply ok_range2) | (with_reducible apply ok_listRange) | (with_reducible apply ok_enum) | (with_reducible apply ok_bYes) | (with_reducible apply ok_mkL) | (with_reducible apply ok_mkC) | (with_reducible apply ok_ok) | (with_reducible apply ok_addI) | (with_reducible apply ok_gtI) | (with_reducible apply ok_geI) | (with_reducible apply ok_ltI) | (with_reducible apply ok_leI) | (with_reducible apply ok_leS) | (with_reducible apply ok_eqI) | (with_reducible apply ok_neI) | (with_reducible apply ok_eqS) | (with_reducible apply ok_neS) | (with_reducible apply ok_int) | (with_reducible apply ok_lenL) | (with_reducible apply ok_lenT) | (with_reducible apply ok_tupOfL) | (with_reducible apply ok_tupOfT) | (with_reducible apply bl_mk) | (with_reducible apply it_lst) | (with_reducible apply it_tup) | (with_reducible apply it_rls) | (with_reducible apply en_lst) | (with_reducible apply en_tup) | (with_reducible apply rt_seqOf) | (with_reducible apply nx_seqOf) | (with_reducible apply rt_of) | (with_reducible apply nx_of) | (with_reducible apply nx_nx) | (with_reducible apply rt_rt) | (with_reducible apply nx_nil) | (with_reducible apply rt_seqNil) | (with_reducible apply nx_asg) | (with_reducible apply ok_isNN))
  refine ok_sorted (xs := hs) rfl (limK K.hl) ?_
  repeat (first | ((with_reducible apply ok_var); exact rfl) | ((with_reducible apply ok_calls); exact rfl) | ((with_reducible apply ok_tupL); exact Nat.le_of_ble_eq_true rfl) | ((with_reducible apply ok_lstL); exact Nat.le_of_ble_eq_true rfl) | ((with_reducible apply ok_lstC); exact Nat.le_of_ble_eq_true rfl) | (with_reducible apply ok_e2) | (with_reducible apply ok_c) | (with_reducible apply ok_cons) | (with_reducible apply ok_nil) | (with_reducible apply ok_ofL) | (with_reducible apply ok_call) | (with_reducible apply ok_meth) | (with_reducible apply ok_bV) | (with_reducible apply ok_bNot) | (with_reducible apply ok_bAnd) | (with_reducible apply ok_bOr) | (with_reducible apply ok_eAnd) | (with_reducible apply ok_eOr) | (with_reducible apply ok_eNot) | (with_reducible apply ok_eIf) | (with_reducible apply ok_iVal) | (with_reducible apply ok_range) | (with_reducible apply ok_range2) | (with_reducible apply ok_listRange) | (with_reducible apply ok_enum) | (with_reducible apply ok_bYes) | (with_reducible apply ok_mkL) | (with_reducible apply ok_mkC) | (with_reducible apply ok_ok) | (with_reducible apply ok_addI) | (with_reducible apply ok_gtI) | (with_reducible apply ok_geI) | (with_reducible apply ok_ltI) | (with_reducible apply ok_leI) | (with_reducible apply ok_leS) | (with_reducible apply ok_eqI) | (with_reducible apply ok_neI) | (with_reducible apply ok_eqS) | (with_reducible apply ok_neS) | (with_reducible apply ok_int) | (with_reducible apply ok_lenL) | (with_reducible apply ok_lenT) | (with_reducible apply ok_tupOfL) | (with_reducible apply ok_tupOfT) | (with_reducible apply bl_mk) | (with_reducible apply it_lst) | (with_reducible apply it_tup) | (with_reducible apply it_rls) | (with_reducible apply en_lst) | (with_reducible apply en_tup) | (with_reducible apply rt_seqOf) | (with_reducible apply nx_seqOf) | (with_reducible apply rt_of) | (with_reducible apply nx_of) | (with_reducible apply nx_nx) | (with_reducible apply rt_rt) | (with_reducible apply nx_nil) | (with_reducible apply rt_seqNil) | (with_reducible apply nx_asg) | (with_reducible apply ok_isNN))
  refine ⟨hm, ?_⟩
  rw [put1]
  refine nx_seq (nx_fld (n := n) (ns := ["hand_states"]) (ts := [.tup ((sortS hs).map T.str)]) rfl (by decide) ?_)
  repeat (first | ((with_reducible apply ok_var); exact rfl) | ((with_reducible apply ok_calls); exact rfl) | ((with_reducible apply ok_tupL); exact Nat.le_of_ble_eq_true rfl) | ((with_reducible apply ok_lstL); exact Nat.le_of_ble_eq_true rfl) | ((with_reducible apply ok_lstC); exact Nat.le_of_ble_eq_true rfl) | (with_reducible apply ok_e2) | (with_reducible apply ok_c) | (with_reducible apply ok_cons) | (with_reducible apply ok_nil) | (with_reducible apply ok_ofL) | (with_reducible apply ok_call) | (with_reducible apply ok_meth) | (with_reducible apply ok_bV) | (with_reducible apply ok_bNot) | (with_reducible apply ok_bAnd) | (with_reducible apply ok_bOr) | (with_reducible apply ok_eAnd) | (with_reducible apply ok_eOr) | (with_reducible apply ok_eNot) | (with_reducible apply ok_eIf) | (with_reducible apply ok_iVal) | (with_reducible apply ok_range) | (with_reducible apply ok_range2) | (with_reducible apply ok_listRange) | (with_reducible apply ok_enum) | (with_reducible apply ok_bYes) | (with_reducible apply ok_mkL) | (with_reducible apply ok_mkC) | (with_reducible apply ok_ok) | (with_reducible apply ok_addI) | (with_reducible apply ok_gtI) | (with_reducible apply ok_geI) | (with_reducible apply ok_ltI) | (with_reducible apply ok_leI) | (with_reducible apply ok_leS) | (with_reducible apply ok_eqI) | (with_reducible apply ok_neI) | (with_reducible apply ok_eqS) | (with_reducible apply ok_neS) | (with_reducible apply ok_int) | (with_reducible apply ok_lenL) | (with_reducible apply ok_lenT) | (with_reducible apply ok_tupOfL) | (with_reducible apply ok_tupOfT) | (with_reducible apply bl_mk) | (with_reducible apply it_lst) | (with_reducible apply it_tup) | (with_reducible apply it_rls) | (with_reducible apply en_lst) | (with_reducible apply en_tup) | (with_reducible apply rt_seqOf) | (with_reducible apply nx_seqOf) | (with_reducible apply rt_of) | (with_reducible apply nx_of) | (with_reducible apply nx_nx) | (with_reducible apply rt_rt) | (with_reducible apply nx_nil) | (with_reducible apply rt_seqNil) | (with_reducible apply nx_asg) | (with_reducible apply ok_isNN))
  refine ok_sorted (xs := ps) rfl (limK K.pl) ?_
  repeat (first | ((with_reducible apply ok_var); exact rfl) | ((with_reducible apply ok_calls); exact rfl) | ((with_reducible apply ok_tupL); exact Nat.le_of_ble_eq_true rfl) | ((with_reducible apply ok_lstL); exact Nat.le_of_ble_eq_true rfl) | ((with_reducible apply ok_lstC); exact Nat.le_of_ble_eq_true rfl) | (with_reducible apply ok_e2) | (with_reducible apply ok_c) | (with_reducible apply ok_cons) | (with_reducible apply ok_nil) | (with_reducible apply ok_ofL) | (with_reducible apply ok_call) | (with_reducible apply ok_meth) | (with_reducible apply ok_bV) | (with_reducible apply ok_bNot) | (with_reducible apply ok_bAnd) | (with_reducible apply ok_bOr) | (with_reducible apply ok_eAnd) | (with_reducible apply ok_eOr) | (with_reducible apply ok_eNot) | (with_reducible apply ok_eIf) | (with_reducible apply ok_iVal) | (with_reducible apply ok_range) | (with_reducible apply ok_range2) | (with_reducible apply ok_listRange) | (with_reducible apply ok_enum) | (with_reducible apply ok_bYes) | (with_reducible apply ok_mkL) | (with_reducible apply ok_mkC) | (with_reducible apply ok_ok) | (with_reducible apply ok_addI) | (with_reducible apply ok_gtI) | (with_reducible apply ok_geI) | (with_reducible apply ok_ltI) | (with_reducible apply ok_leI) | (with_reducible apply ok_leS) | (with_reducible apply ok_eqI) | (with_reducible apply ok_neI) | (with_reducible apply ok_eqS) | (with_reducible apply ok_neS) | (with_reducible apply ok_int) | (with_reducible apply ok_lenL) | (with_reducible apply ok_lenT) | (with_reducible apply ok_tupOfL) | (with_reducible apply ok_tupOfT) | (with_reducible apply bl_mk) | (with_reducible apply it_lst) | (with_reducible apply it_tup) | (with_reducible apply it_rls) | (with_reducible apply en_lst) | (with_reducible apply en_tup) | (with_reducible apply rt_seqOf) | (with_reducible apply nx_seqOf) | (with_reducible apply rt_of) | (with_reducible apply nx_of) | (with_reducible apply nx_nx) | (with_reducible apply rt_rt) | (with_reducible apply nx_nil) | (with_reducible apply rt_seqNil) | (with_reducible apply nx_asg) | (with_reducible apply ok_isNN))
  refine ⟨List.getElem?_set_self hnl, ?_⟩
  rw [put2, List.set_set]
  refine nx_seq (nx_fld (n := n) (ns := ["hand_states", "part_kinds"]) (ts := [.tup ((sortS hs).map T.str), .tup ((sortS ps).map T.str)]) rfl (by decide) ?_)
  refine ok_ofL (ok_cons (ok_compM cl Clause.t (fun _ => true) (fun c => c.srt.t) ?_))
  refine ok_iVal (ok_var rfl ⟨_, rfl, rfl, by have := K.few; unfold lim; omega, ?_, ?_⟩)
  · intro c hc
    refine ⟨_, rfl, ok_bYes ⟨rfl, rfl, fun _ => ?_⟩⟩
    repeat (first | ((with_reducible apply ok_var); exact rfl) | ((with_reducible apply ok_calls); exact rfl) | ((with_reducible apply ok_tupL); exact Nat.le_of_ble_eq_true rfl) | ((with_reducible apply ok_lstL); exact Nat.le_of_ble_eq_true rfl) | ((with_reducible apply ok_lstC); exact Nat.le_of_ble_eq_true rfl) | (with_reducible apply ok_e2) | (with_reducible apply ok_c) | (with_reducible apply ok_cons) | (with_reducible apply ok_nil) | (with_reducible apply ok_ofL) | (with_reducible apply ok_call) | (with_reducible apply ok_meth) | (with_reducible apply ok_bV) | (with_reducible apply ok_bNot) | (with_reducible apply ok_bAnd) | (with_reducible apply ok_bOr) | (with_reducible apply ok_eAnd) | (with_reducible apply ok_eOr) | (with_reducible apply ok_eNot) | (with_reducible apply ok_eIf) | (with_reducible apply ok_iVal) | (with_reducible apply ok_range) | (with_reducible apply ok_range2) | (with_reducible apply ok_listRange) | (with_reducible apply ok_enum) | (with_reducible apply ok_bYes) | (with_reducible apply ok_mkL) | (with_reducible apply ok_mkC) | (with_reducible apply ok_ok) | (with_reducible apply ok_addI) | (with_reducible apply ok_gtI) | (with_reducible apply ok_geI) | (with_reducible apply ok_ltI) | (with_reducible apply ok_leI) | (with_reducible apply ok_leS) | (with_reducible apply ok_eqI) | (with_reducible apply ok_neI) | (with_reducible apply ok_eqS) | (with_reducible apply ok_neS) | (with_reducible apply ok_int) | (with_reducible apply ok_lenL) | (with_reducible apply ok_lenT) | (with_reducible apply ok_tupOfL) | (with_reducible apply ok_tupOfT) | (with_reducible apply bl_mk) | (with_reducible apply it_lst) | (with_reducible apply it_tup) | (with_reducible apply it_rls) | (with_reducible apply en_lst) | (with_reducible apply en_tup) | (with_reducible apply rt_seqOf) | (with_reducible apply nx_seqOf) | (with_reducible apply rt_of) | (with_reducible apply nx_of) | (with_reducible apply nx_nx) | (with_reducible apply rt_rt) | (with_reducible apply nx_nil) | (with_reducible apply rt_seqNil) | (with_reducible apply nx_asg) | (with_reducible apply ok_isNN))
    exact copied_ok (K.nl c hc) (by have := (K.cf c hc).few; omega) ⟨rfl, rfl⟩
  · rw [filter_yes]
    repeat (first | ((with_reducible apply ok_var); exact rfl) | ((with_reducible apply ok_calls); exact rfl) | ((with_reducible apply ok_tupL); exact Nat.le_of_ble_eq_true rfl) | ((with_reducible apply ok_lstL); exact Nat.le_of_ble_eq_true rfl) | ((with_reducible apply ok_lstC); exact Nat.le_of_ble_eq_true rfl) | (with_reducible apply ok_e2) | (with_reducible apply ok_c) | (with_reducible apply ok_cons) | (with_reducible apply ok_nil) | (with_reducible apply ok_ofL) | (with_reducible apply ok_call) | (with_reducible apply ok_meth) | (with_reducible apply ok_bV) | (with_reducible apply ok_bNot) | (with_reducible apply ok_bAnd) | (with_reducible apply ok_bOr) | (with_reducible apply ok_eAnd) | (with_reducible apply ok_eOr) | (with_reducible apply ok_eNot) | (with_reducible apply ok_eIf) | (with_reducible apply ok_iVal) | (with_reducible apply ok_range) | (with_reducible apply ok_range2) | (with_reducible apply ok_listRange) | (with_reducible apply ok_enum) | (with_reducible apply ok_bYes) | (with_reducible apply ok_mkL) | (with_reducible apply ok_mkC) | (with_reducible apply ok_ok) | (with_reducible apply ok_addI) | (with_reducible apply ok_gtI) | (with_reducible apply ok_geI) | (with_reducible apply ok_ltI) | (with_reducible apply ok_leI) | (with_reducible apply ok_leS) | (with_reducible apply ok_eqI) | (with_reducible apply ok_neI) | (with_reducible apply ok_eqS) | (with_reducible apply ok_neS) | (with_reducible apply ok_int) | (with_reducible apply ok_lenL) | (with_reducible apply ok_lenT) | (with_reducible apply ok_tupOfL) | (with_reducible apply ok_tupOfT) | (with_reducible apply bl_mk) | (with_reducible apply it_lst) | (with_reducible apply it_tup) | (with_reducible apply it_rls) | (with_reducible apply en_lst) | (with_reducible apply en_tup) | (with_reducible apply rt_seqOf) | (with_reducible apply nx_seqOf) | (with_reducible apply rt_of) | (with_reducible apply nx_of) | (with_reducible apply nx_nx) | (with_reducible apply rt_rt) | (with_reducible apply nx_nil) | (with_reducible apply rt_seqNil) | (with_reducible apply nx_asg) | (with_reducible apply ok_isNN))
    refine ⟨List.getElem?_set_self hnl, ?_⟩
    rw [put3, List.set_set]
    refine nx_fld (n := n) (ns := ["hand_states", "part_kinds", "clause_row"]) (ts := [.tup ((sortS hs).map T.str), .tup ((sortS ps).map T.str), .tup (cl.map fun c => c.srt.t)]) rfl (by decide) ?_
    repeat (first | ((with_reducible apply ok_var); exact rfl) | ((with_reducible apply ok_calls); exact rfl) | ((with_reducible apply ok_tupL); exact Nat.le_of_ble_eq_true rfl) | ((with_reducible apply ok_lstL); exact Nat.le_of_ble_eq_true rfl) | ((with_reducible apply ok_lstC); exact Nat.le_of_ble_eq_true rfl) | (with_reducible apply ok_e2) | (with_reducible apply ok_c) | (with_reducible apply ok_cons) | (with_reducible apply ok_nil) | (with_reducible apply ok_ofL) | (with_reducible apply ok_call) | (with_reducible apply ok_meth) | (with_reducible apply ok_bV) | (with_reducible apply ok_bNot) | (with_reducible apply ok_bAnd) | (with_reducible apply ok_bOr) | (with_reducible apply ok_eAnd) | (with_reducible apply ok_eOr) | (with_reducible apply ok_eNot) | (with_reducible apply ok_eIf) | (with_reducible apply ok_iVal) | (with_reducible apply ok_range) | (with_reducible apply ok_range2) | (with_reducible apply ok_listRange) | (with_reducible apply ok_enum) | (with_reducible apply ok_bYes) | (with_reducible apply ok_mkL) | (with_reducible apply ok_mkC) | (with_reducible apply ok_ok) | (with_reducible apply ok_addI) | (with_reducible apply ok_gtI) | (with_reducible apply ok_geI) | (with_reducible apply ok_ltI) | (with_reducible apply ok_leI) | (with_reducible apply ok_leS) | (with_reducible apply ok_eqI) | (with_reducible apply ok_neI) | (with_reducible apply ok_eqS) | (with_reducible apply ok_neS) | (with_reducible apply ok_int) | (with_reducible apply ok_lenL) | (with_reducible apply ok_lenT) | (with_reducible apply ok_tupOfL) | (with_reducible apply ok_tupOfT) | (with_reducible apply bl_mk) | (with_reducible apply it_lst) | (with_reducible apply it_tup) | (with_reducible apply it_rls) | (with_reducible apply en_lst) | (with_reducible apply en_tup) | (with_reducible apply rt_seqOf) | (with_reducible apply nx_seqOf) | (with_reducible apply rt_of) | (with_reducible apply nx_of) | (with_reducible apply nx_nx) | (with_reducible apply rt_rt) | (with_reducible apply nx_nil) | (with_reducible apply rt_seqNil) | (with_reducible apply nx_asg) | (with_reducible apply ok_isNN))
    refine ⟨List.getElem?_set_self hnl, ?_⟩
    rw [put4, List.set_set]
    refine h _ ?_ (by simp) fun i hi => by rw [List.getElem?_set_ne (by omega)]
    rw [List.getElem?_set_self hnl]
    simp
theorem make_ok {env : Env} {m : Mem} {P : T → Mem → Prop} {fs : LF} {hs ps : List Str} {cl : List Clause} {last : Str} {xs : List Str} (K : KindOk hs ps cl last xs)
    (h : Ok (fs env m) fun ts m1 => ts = [.lst (hs.map T.str), .lst (ps.map T.str), .lst (cl.map Clause.t), .str last] ∧ ∀ m2, App m1 m2 → P (kindT ((sortS hs).map T.str) ((sortS ps).map T.str) (cl.map Clause.srt) (.str last)) m2) :
    Ok (eMake true "Kind" 4 F_Kind___init__ fs env m) P := by
  refine Ok.bind (h.imp fun ts m1 ⟨e, k⟩ => ?_)
  subst e
  rw [if_pos (show [T.lst (hs.map T.str), T.lst (ps.map T.str), T.lst (cl.map Clause.t), T.str last].length = 4 from rfl)]
  obtain ⟨t, m2, e2, rfl, h3, h4, h5⟩ := init_ok (m := m1 ++ [some (.ins "Kind" [] [])]) (n := m1.length) (P := fun t m' => t = .non ∧ m'[m1.length]? = some (some (.ins "Kind" KN [.tup ((sortS hs).map T.str), .tup ((sortS ps).map T.str), .tup ((cl.map Clause.srt).map Clause.t), .str last])) ∧ m'.length = m1.length + 1 ∧ ∀ i, i ≠ m1.length → m'[i]? = (m1 ++ [some (.ins "Kind" [] [])])[i]?) (by simp) K (fun m' a b c => ⟨rfl, a, by simpa using b, c⟩)
  refine ⟨_, _, ?_, k (m2.set m1.length none) ⟨by simp; omega, fun i hi => ?_⟩⟩
  · simp only [e2, h3, if_true]; rfl
  · rw [List.getElem?_set_ne (by omega), h5 i (by omega), List.getElem?_append_left hi]
end M

namespace M
open PySem hiding Env
open L2 Ev G
abbrev rowT (z : List Str) : T := .lst (z.map T.str)
theorem ok_neg {env : Env} {m : Mem} {P : T → Mem → Prop} {f : EF} (h : Ok (f env m) fun t m1 => ∃ i, t = .int i ∧ P (.int (-i)) m1) : Ok (eNeg f env m) P :=
  Ok.bind (h.imp fun t m1 ⟨i, e, p⟩ => by subst e; exact ⟨_, _, rfl, p⟩)
theorem at_last {z : List Str} (h : z ≠ []) : ∃ l, l ∈ z ∧ atI (z.map T.str) (-1) = some (.str l) := by
  have hp : 0 < z.length := List.length_pos_iff.mpr h
  refine ⟨z[z.length - 1], List.getElem_mem _, ?_⟩
  unfold atI ixN
  rw [if_neg (by decide), if_pos (by rw [List.length_map]; omega)]
  rw [Option.bind_some, List.length_map, List.getElem?_map]
  have : (-1 + (z.length : Int)).toNat = z.length - 1 := by omega
  rw [this, List.getElem?_eq_getElem (by omega)]; rfl
structure RowsOk (xs : List Str) (k : Nat) (zs : List (List Str)) : Prop where
  len : ∀ z ∈ zs, z.length ≤ k
  sub : ∀ z ∈ zs, ∀ x ∈ z, x ∈ xs
/-- the rows that go on from one -/
def ongo (xs : List Str) (z : List Str) (l : Str) : List (List Str) := (xs.filter fun s => z.isEmpty || !decide (s.cps.toList < l.cps.toList)).map fun s => z ++ [s]
theorem ongo_ok {xs : List Str} {z : List Str} {l : Str} {k : Nat} (hk : z.length ≤ k) (hz : ∀ x ∈ z, x ∈ xs) : RowsOk xs (k + 1) (ongo xs z l) ∧ (ongo xs z l).length ≤ xs.length := by
  refine ⟨⟨fun w hw => ?_, fun w hw x hx => ?_⟩, ?_⟩
  · obtain ⟨s, hs, rfl⟩ := List.mem_map.mp hw
    simp; omega
  · obtain ⟨s, hs, rfl⟩ := List.mem_map.mp hw
    rcases List.mem_append.mp hx with q | q
    · exact hz x q
    · rw [List.mem_singleton.mp q]; exact (List.mem_filter.mp hs).1
  · unfold ongo
    rw [List.length_map]; exact List.length_filter_le _ _
theorem RowsOk.append {xs : List Str} {k : Nat} {a b : List (List Str)} (ha : RowsOk xs k a) (hb : RowsOk xs k b) : RowsOk xs k (a ++ b) :=
  ⟨fun z hz => (List.mem_append.mp hz).elim (ha.len z) (hb.len z), fun z hz => (List.mem_append.mp hz).elim (ha.sub z) (hb.sub z)⟩
theorem RowsOk.mono {xs : List Str} {j k : Nat} {a : List (List Str)} (ha : RowsOk xs j a) (h : j ≤ k) : RowsOk xs k a := ⟨fun z hz => Nat.le_trans (ha.len z hz) h, ha.sub⟩
theorem longer_ok {env : Env} {m : Mem} {P : T → Mem → Prop} {xs z : List Str} (hg : ∀ x ∈ xs, Good x) (hz : ∀ x ∈ z, x ∈ xs) (hl : xs.length ≤ 1000) (hzl : z.length ≤ 10)
    (e0 : (wipeE env [7])[0]? = some (some (rowT xs))) (e6 : (wipeE env [7])[6]? = some (some (rowT z))) (h7 : 7 < (wipeE env [7]).length) (e00 : env[0]? = some (some (rowT xs)))
    (h : ∀ l, P (.lst ((ongo xs z l).map rowT)) m) :
    Ok (eComp false [7] (iVal (eVar 0)) (gN 7) (bOr (bV (e2 gEq (eVar 6) (eOfL (gLstL false) lNil))) (bV (e2 gLe (e2 gIx (eVar 6) (eNeg (eC (.int 1)))) (eVar 7)))) (e2 (gAdd false) (eVar 6) (eOfL (gLstL false) (lCons (eVar 7) lNil))) env m) P := by
  obtain ⟨l, hlast⟩ : ∃ l : Str, z = [] ∨ (z ≠ [] ∧ atI (z.map T.str) (-1) = some (.str l)) := by
    by_cases q : z = []
    · exact ⟨Str.empty, .inl q⟩
    · obtain ⟨l, _, h2⟩ := at_last q
      exact ⟨l, .inr ⟨q, h2⟩⟩
  refine ok_compM xs T.str (fun s => z.isEmpty || !decide (s.cps.toList < l.cps.toList)) (fun s => rowT (z ++ [s])) ?_
  refine ok_iVal (ok_var e00 ⟨_, rfl, rfl, by unfold lim; omega, ?_, ?_⟩)
  · intro s hs
    have g6 : ((wipeE env [7]).set 7 (some (T.str s)))[6]? = some (some (rowT z)) := by rw [List.getElem?_set_ne (by decide)]; exact e6
    have g7 : ((wipeE env [7]).set 7 (some (T.str s)))[7]? = some (some (.str s)) := List.getElem?_set_self h7
    refine ⟨_, rfl, ok_bOr (ok_bV (ok_e2 (ok_var g6 (ok_ofL (ok_nil (ok_lstL (Nat.zero_le _) (ok_eqNil (fun x hx => hg x (hz x hx)) (bl_mk ?_))))))))⟩
    have add : Ok (e2 (gAdd false) (eVar 6) (eOfL (gLstL false) (lCons (eVar 7) lNil)) ((wipeE env [7]).set 7 (some (T.str s))) m) fun t m3 => m3 = m ∧ t = rowT (z ++ [s]) := by
      refine ok_e2 (ok_var g6 (ok_ofL (ok_cons (ok_var g7 (ok_nil (ok_lstL (Nat.le_of_ble_eq_true rfl) (ok_addL ?_ ⟨rfl, ?_⟩)))))))
      · rw [List.length_map]; simp; unfold lim; omega
      · show _ = T.lst ((z ++ [s]).map T.str)
        rw [List.map_append]; rfl
    rcases hlast with rfl | ⟨hne, hat⟩
    · rw [List.isEmpty_nil, if_pos rfl]
      exact ⟨rfl, rfl, fun _ => add⟩
    · have : z.isEmpty = false := by cases z with
        | nil => exact absurd rfl hne
        | cons a b => rfl
      rw [this, if_neg (by decide)]
      refine ok_bV (ok_e2 (ok_e2 (ok_var g6 (ok_neg (ok_c ⟨1, rfl, ok_ixL hat (ok_var g7 (ok_leS (bl_mk ⟨rfl, rfl, fun _ => add⟩)))⟩)))))
  · refine ok_mkL ?_
    have := h l
    unfold ongo at this
    rw [List.map_map] at this
    exact this
theorem lists_ok {m : Mem} {P : T → Mem → Prop} {xs : List Str} (hg : ∀ x ∈ xs, Good x) (hl : xs.length ≤ 5)
    (h : ∀ rows m', RowsOk xs 4 rows → rows.length ≤ 2500 → App m m' → P (.lst (rows.map rowT)) m') : Ok (F__law_lists [rowT xs, .int 4] m) P := by
  unfold F__law_lists B__law_lists
  refine ok_fn ?_
  try simp only [List.map_cons, List.map_nil, List.cons_append, List.nil_append, List.length_cons, List.length_nil, Nat.reduceAdd, Nat.reduceSub, List.replicate_succ, List.replicate_zero, List.set_cons_succ, List.set_cons_zero]
  refine rt_seq (nx_par ?_)
  repeat (first | ((with_reducible apply ok_var); exact rfl) | ((with_reducible apply ok_calls); exact rfl) | ((with_reducible apply ok_tupL); exact Nat.le_of_ble_eq_true rfl) | ((with_reducible apply ok_lstL); exact Nat.le_of_ble_eq_true rfl) | ((with_reducible apply ok_lstC); exact Nat.le_of_ble_eq_true rfl) | (with_reducible apply ok_e2) | (with_reducible apply ok_c) | (with_reducible apply ok_cons) | (with_reducible apply ok_nil) | (with_reducible apply ok_ofL) | (with_reducible apply ok_call) | (with_reducible apply ok_meth) | (with_reducible apply ok_bV) | (with_reducible apply ok_bNot) | (with_reducible apply ok_bAnd) | (with_reducible apply ok_bOr) | (with_reducible apply ok_eAnd) | (with_reducible apply ok_eOr) | (with_reducible apply ok_eNot) | (with_reducible apply ok_eIf) | (with_reducible apply ok_iVal) | (with_reducible apply ok_range) | (with_reducible apply ok_range2) | (with_reducible apply ok_listRange) | (with_reducible apply ok_enum) | (with_reducible apply ok_bYes) | (with_reducible apply ok_mkL) | (with_reducible apply ok_mkC) | (with_reducible apply ok_ok) | (with_reducible apply ok_addI) | (with_reducible apply ok_gtI) | (with_reducible apply ok_geI) | (with_reducible apply ok_ltI) | (with_reducible apply ok_leI) | (with_reducible apply ok_leS) | (with_reducible apply ok_eqI) | (with_reducible apply ok_neI) | (with_reducible apply ok_eqS) | (with_reducible apply ok_neS) | (with_reducible apply ok_int) | (with_reducible apply ok_lenL) | (with_reducible apply ok_lenT) | (with_reducible apply ok_tupOfL) | (with_reducible apply ok_tupOfT) | (with_reducible apply bl_mk) | (with_reducible apply it_lst) | (with_reducible apply it_tup) | (with_reducible apply it_rls) | (with_reducible apply en_lst) | (with_reducible apply en_tup) | (with_reducible apply rt_seqOf) | (with_reducible apply nx_seqOf) | (with_reducible apply rt_of) | (with_reducible apply nx_of) | (with_reducible apply nx_nx) | (with_reducible apply rt_rt) | (with_reducible apply nx_nil) | (with_reducible apply rt_seqNil) | (with_reducible apply nx_asg) | (with_reducible apply ok_isNN))
  refine ⟨_, _, rfl, ?_⟩
  try simp only [List.map_cons, List.map_nil, List.cons_append, List.nil_append, List.length_cons, List.length_nil, Nat.reduceAdd, Nat.reduceSub, List.replicate_succ, List.replicate_zero, List.set_cons_succ, List.set_cons_zero]
  refine rt_seq (nx_for (fun p env m2 => ∃ (found level : List (List Str)) (w4 w5 w6 w7 : Option T), env = [some (rowT xs), some (.int 4), some (.lst (found.map rowT)), some (.lst (level.map rowT)), w4, w5, w6, w7] ∧ RowsOk xs 4 found ∧ RowsOk xs p.length level ∧ level.length ≤ 5 ^ p.length ∧ found.length ≤ 625 * p.length ∧ App m m2) ?_)
  repeat (first | ((with_reducible apply ok_var); exact rfl) | ((with_reducible apply ok_calls); exact rfl) | ((with_reducible apply ok_tupL); exact Nat.le_of_ble_eq_true rfl) | ((with_reducible apply ok_lstL); exact Nat.le_of_ble_eq_true rfl) | ((with_reducible apply ok_lstC); exact Nat.le_of_ble_eq_true rfl) | (with_reducible apply ok_e2) | (with_reducible apply ok_c) | (with_reducible apply ok_cons) | (with_reducible apply ok_nil) | (with_reducible apply ok_ofL) | (with_reducible apply ok_call) | (with_reducible apply ok_meth) | (with_reducible apply ok_bV) | (with_reducible apply ok_bNot) | (with_reducible apply ok_bAnd) | (with_reducible apply ok_bOr) | (with_reducible apply ok_eAnd) | (with_reducible apply ok_eOr) | (with_reducible apply ok_eNot) | (with_reducible apply ok_eIf) | (with_reducible apply ok_iVal) | (with_reducible apply ok_range) | (with_reducible apply ok_range2) | (with_reducible apply ok_listRange) | (with_reducible apply ok_enum) | (with_reducible apply ok_bYes) | (with_reducible apply ok_mkL) | (with_reducible apply ok_mkC) | (with_reducible apply ok_ok) | (with_reducible apply ok_addI) | (with_reducible apply ok_gtI) | (with_reducible apply ok_geI) | (with_reducible apply ok_ltI) | (with_reducible apply ok_leI) | (with_reducible apply ok_leS) | (with_reducible apply ok_eqI) | (with_reducible apply ok_neI) | (with_reducible apply ok_eqS) | (with_reducible apply ok_neS) | (with_reducible apply ok_int) | (with_reducible apply ok_lenL) | (with_reducible apply ok_lenT) | (with_reducible apply ok_tupOfL) | (with_reducible apply ok_tupOfT) | (with_reducible apply bl_mk) | (with_reducible apply it_lst) | (with_reducible apply it_tup) | (with_reducible apply it_rls) | (with_reducible apply en_lst) | (with_reducible apply en_tup) | (with_reducible apply rt_seqOf) | (with_reducible apply nx_seqOf) | (with_reducible apply rt_of) | (with_reducible apply nx_of) | (with_reducible apply nx_nx) | (with_reducible apply rt_rt) | (with_reducible apply nx_nil) | (with_reducible apply rt_seqNil) | (with_reducible apply nx_asg) | (with_reducible apply ok_isNN))
  refine rg_mk (by decide) (by decide) ⟨⟨[], [[]], none, none, none, none, rfl, ⟨by simp, by simp⟩, ⟨by simp, by simp⟩, by simp, by simp, .refl⟩, ?_, ?_⟩
  · rintro p t q env m2 hp ⟨found, level, w4, w5, w6, w7, rfl, hf, hlv, hll, hfl, ha⟩
    have hpl : p.length < 4 := by
      have := congrArg List.length hp
      have e4 : (rng 0 4).length = 4 := rng_len 4
      rw [e4] at this; simp at this; omega
    have hpow : 5 ^ p.length ≤ 125 := by
      have : 5 ^ p.length ≤ 5 ^ 3 := Nat.pow_le_pow_right (by decide) (by omega)
      omega
    refine ⟨_, rfl, ?_⟩
    try simp only [List.map_cons, List.map_nil, List.cons_append, List.nil_append, List.length_cons, List.length_nil, Nat.reduceAdd, Nat.reduceSub, List.replicate_succ, List.replicate_zero, List.set_cons_succ, List.set_cons_zero]
    repeat (first | ((with_reducible apply ok_var); exact rfl) | ((with_reducible apply ok_calls); exact rfl) | ((with_reducible apply ok_tupL); exact Nat.le_of_ble_eq_true rfl) | ((with_reducible apply ok_lstL); exact Nat.le_of_ble_eq_true rfl) | ((with_reducible apply ok_lstC); exact Nat.le_of_ble_eq_true rfl) | (with_reducible apply ok_e2) | (with_reducible apply ok_c) | (with_reducible apply ok_cons) | (with_reducible apply ok_nil) | (with_reducible apply ok_ofL) | (with_reducible apply ok_call) | (with_reducible apply ok_meth) | (with_reducible apply ok_bV) | (with_reducible apply ok_bNot) | (with_reducible apply ok_bAnd) | (with_reducible apply ok_bOr) | (with_reducible apply ok_eAnd) | (with_reducible apply ok_eOr) | (with_reducible apply ok_eNot) | (with_reducible apply ok_eIf) | (with_reducible apply ok_iVal) | (with_reducible apply ok_range) | (with_reducible apply ok_range2) | (with_reducible apply ok_listRange) | (with_reducible apply ok_enum) | (with_reducible apply ok_bYes) | (with_reducible apply ok_mkL) | (with_reducible apply ok_mkC) | (with_reducible apply ok_ok) | (with_reducible apply ok_addI) | (with_reducible apply ok_gtI) | (with_reducible apply ok_geI) | (with_reducible apply ok_ltI) | (with_reducible apply ok_leI) | (with_reducible apply ok_leS) | (with_reducible apply ok_eqI) | (with_reducible apply ok_neI) | (with_reducible apply ok_eqS) | (with_reducible apply ok_neS) | (with_reducible apply ok_int) | (with_reducible apply ok_lenL) | (with_reducible apply ok_lenT) | (with_reducible apply ok_tupOfL) | (with_reducible apply ok_tupOfT) | (with_reducible apply bl_mk) | (with_reducible apply it_lst) | (with_reducible apply it_tup) | (with_reducible apply it_rls) | (with_reducible apply en_lst) | (with_reducible apply en_tup) | (with_reducible apply rt_seqOf) | (with_reducible apply nx_seqOf) | (with_reducible apply rt_of) | (with_reducible apply nx_of) | (with_reducible apply nx_nx) | (with_reducible apply rt_rt) | (with_reducible apply nx_nil) | (with_reducible apply rt_seqNil) | (with_reducible apply nx_asg) | (with_reducible apply ok_isNN))
    try simp only [List.map_cons, List.map_nil, List.cons_append, List.nil_append, List.length_cons, List.length_nil, Nat.reduceAdd, Nat.reduceSub, List.replicate_succ, List.replicate_zero, List.set_cons_succ, List.set_cons_zero]
    refine nx_seq (nx_for (fun p' env m3 => ∃ (longer : List (List Str)) (w6 w7 : Option T), env = [some (rowT xs), some (.int 4), some (.lst (found.map rowT)), some (.lst (level.map rowT)), some t, some (.loc m2.length), w6, w7] ∧ RowsOk xs (p.length + 1) longer ∧ longer.length ≤ 5 * p'.length ∧ m3[m2.length]? = some (some (.lst (longer.map rowT))) ∧ App m2 m3) ?_)
    refine ok_iVal (ok_var rfl (it_lst ⟨⟨[], _, _, rfl, ⟨by simp, by simp⟩, by simp, by simp, App.app _⟩, ?_, ?_⟩))
    · rintro p' t' q' env m3 hp' ⟨longer, w6, w7, rfl, hlo, hln, hm, ha3⟩
      obtain ⟨xp, z, xq, hz, rfl, rfl, rfl⟩ := split_map hp'
      have hzm : z ∈ level := by rw [hz]; simp
      have hxl : xp.length < level.length := by rw [hz]; simp
      rw [List.length_map] at hln
      refine ⟨_, rfl, ?_⟩
      try simp only [List.map_cons, List.map_nil, List.cons_append, List.nil_append, List.length_cons, List.length_nil, Nat.reduceAdd, Nat.reduceSub, List.replicate_succ, List.replicate_zero, List.set_cons_succ, List.set_cons_zero]
      refine nx_of (ok_meth (ok_var rfl ⟨isl hm, ok_cons (longer_ok (z := z) hg (hlv.sub z hzm) (by omega) (by have := hlv.len z hzm; omega) rfl rfl (by simp [wipeE]) rfl fun l => ?_)⟩))
      obtain ⟨o1, o2⟩ := ongo_ok (xs := xs) (z := z) (l := l) (k := p.length) (hlv.len z hzm) (hlv.sub z hzm)
      refine ok_nil (ok_ext hm ?_ (nx_nx ⟨longer ++ ongo xs z l, _, _, rfl, hlo.append o1, ?_, ?_, ha3.set (Nat.le_refl _) _⟩))
      · rw [List.length_map, List.length_map]; unfold lim; omega
      · simp; omega
      · have hl3 : m2.length < m3.length := (List.getElem?_eq_some_iff.mp hm).1
        rw [List.getElem?_set_self hl3, List.map_append]
    · rintro env m3 ⟨longer, w6, w7, rfl, hlo, hln, hm, ha3⟩
      rw [List.length_map] at hln
      have hll5 : longer.length ≤ 5 ^ (p.length + 1) := by rw [Nat.pow_succ]; omega
      refine nx_frz (frz_of rfl hm) (nx_par ?_)
      try simp only [List.map_cons, List.map_nil, List.cons_append, List.nil_append, List.length_cons, List.length_nil, Nat.reduceAdd, Nat.reduceSub, List.replicate_succ, List.replicate_zero, List.set_cons_succ, List.set_cons_zero]
      repeat (first | ((with_reducible apply ok_var); exact rfl) | ((with_reducible apply ok_calls); exact rfl) | ((with_reducible apply ok_tupL); exact Nat.le_of_ble_eq_true rfl) | ((with_reducible apply ok_lstL); exact Nat.le_of_ble_eq_true rfl) | ((with_reducible apply ok_lstC); exact Nat.le_of_ble_eq_true rfl) | (with_reducible apply ok_e2) | (with_reducible apply ok_c) | (with_reducible apply ok_cons) | (with_reducible apply ok_nil) | (with_reducible apply ok_ofL) | (with_reducible apply ok_call) | (with_reducible apply ok_meth) | (with_reducible apply ok_bV) | (with_reducible apply ok_bNot) | (with_reducible apply ok_bAnd) | (with_reducible apply ok_bOr) | (with_reducible apply ok_eAnd) | (with_reducible apply ok_eOr) | (with_reducible apply ok_eNot) | (with_reducible apply ok_eIf) | (with_reducible apply ok_iVal) | (with_reducible apply ok_range) | (with_reducible apply ok_range2) | (with_reducible apply ok_listRange) | (with_reducible apply ok_enum) | (with_reducible apply ok_bYes) | (with_reducible apply ok_mkL) | (with_reducible apply ok_mkC) | (with_reducible apply ok_ok) | (with_reducible apply ok_addI) | (with_reducible apply ok_gtI) | (with_reducible apply ok_geI) | (with_reducible apply ok_ltI) | (with_reducible apply ok_leI) | (with_reducible apply ok_leS) | (with_reducible apply ok_eqI) | (with_reducible apply ok_neI) | (with_reducible apply ok_eqS) | (with_reducible apply ok_neS) | (with_reducible apply ok_int) | (with_reducible apply ok_lenL) | (with_reducible apply ok_lenT) | (with_reducible apply ok_tupOfL) | (with_reducible apply ok_tupOfT) | (with_reducible apply bl_mk) | (with_reducible apply it_lst) | (with_reducible apply it_tup) | (with_reducible apply it_rls) | (with_reducible apply en_lst) | (with_reducible apply en_tup) | (with_reducible apply rt_seqOf) | (with_reducible apply nx_seqOf) | (with_reducible apply rt_of) | (with_reducible apply nx_of) | (with_reducible apply nx_nx) | (with_reducible apply rt_rt) | (with_reducible apply nx_nil) | (with_reducible apply rt_seqNil) | (with_reducible apply nx_asg) | (with_reducible apply ok_isNN))
      refine ok_addL (by rw [List.length_map, List.length_map]; unfold lim; omega) ?_
      repeat (first | ((with_reducible apply ok_var); exact rfl) | ((with_reducible apply ok_calls); exact rfl) | ((with_reducible apply ok_tupL); exact Nat.le_of_ble_eq_true rfl) | ((with_reducible apply ok_lstL); exact Nat.le_of_ble_eq_true rfl) | ((with_reducible apply ok_lstC); exact Nat.le_of_ble_eq_true rfl) | (with_reducible apply ok_e2) | (with_reducible apply ok_c) | (with_reducible apply ok_cons) | (with_reducible apply ok_nil) | (with_reducible apply ok_ofL) | (with_reducible apply ok_call) | (with_reducible apply ok_meth) | (with_reducible apply ok_bV) | (with_reducible apply ok_bNot) | (with_reducible apply ok_bAnd) | (with_reducible apply ok_bOr) | (with_reducible apply ok_eAnd) | (with_reducible apply ok_eOr) | (with_reducible apply ok_eNot) | (with_reducible apply ok_eIf) | (with_reducible apply ok_iVal) | (with_reducible apply ok_range) | (with_reducible apply ok_range2) | (with_reducible apply ok_listRange) | (with_reducible apply ok_enum) | (with_reducible apply ok_bYes) | (with_reducible apply ok_mkL) | (with_reducible apply ok_mkC) | (with_reducible apply ok_ok) | (with_reducible apply ok_addI) | (with_reducible apply ok_gtI) | (with_reducible apply ok_geI) | (with_reducible apply ok_ltI) | (with_reducible apply ok_leI) | (with_reducible apply ok_leS) | (with_reducible apply ok_eqI) | (with_reducible apply ok_neI) | (with_reducible apply ok_eqS) | (with_reducible apply ok_neS) | (with_reducible apply ok_int) | (with_reducible apply ok_lenL) | (with_reducible apply ok_lenT) | (with_reducible apply ok_tupOfL) | (with_reducible apply ok_tupOfT) | (with_reducible apply bl_mk) | (with_reducible apply it_lst) | (with_reducible apply it_tup) | (with_reducible apply it_rls) | (with_reducible apply en_lst) | (with_reducible apply en_tup) | (with_reducible apply rt_seqOf) | (with_reducible apply nx_seqOf) | (with_reducible apply rt_of) | (with_reducible apply nx_of) | (with_reducible apply nx_nx) | (with_reducible apply rt_rt) | (with_reducible apply nx_nil) | (with_reducible apply rt_seqNil) | (with_reducible apply nx_asg) | (with_reducible apply ok_isNN))
      refine ⟨_, _, rfl, found ++ longer, longer, some t, some (.lst (longer.map rowT)), w6, w7, ?_, hf.append (hlo.mono (by omega)), by simpa using hlo, by simpa using hll5, by simp; omega, (ha.trans ha3).set ha.len _⟩
      rw [List.map_append]
  · rintro env m2 ⟨found, level, w4, w5, w6, w7, rfl, hf, hlv, hll, hfl, ha⟩
    have e4 : (rng 0 4).length = 4 := rng_len 4
    rw [e4] at hfl
    repeat (first | ((with_reducible apply ok_var); exact rfl) | ((with_reducible apply ok_calls); exact rfl) | ((with_reducible apply ok_tupL); exact Nat.le_of_ble_eq_true rfl) | ((with_reducible apply ok_lstL); exact Nat.le_of_ble_eq_true rfl) | ((with_reducible apply ok_lstC); exact Nat.le_of_ble_eq_true rfl) | (with_reducible apply ok_e2) | (with_reducible apply ok_c) | (with_reducible apply ok_cons) | (with_reducible apply ok_nil) | (with_reducible apply ok_ofL) | (with_reducible apply ok_call) | (with_reducible apply ok_meth) | (with_reducible apply ok_bV) | (with_reducible apply ok_bNot) | (with_reducible apply ok_bAnd) | (with_reducible apply ok_bOr) | (with_reducible apply ok_eAnd) | (with_reducible apply ok_eOr) | (with_reducible apply ok_eNot) | (with_reducible apply ok_eIf) | (with_reducible apply ok_iVal) | (with_reducible apply ok_range) | (with_reducible apply ok_range2) | (with_reducible apply ok_listRange) | (with_reducible apply ok_enum) | (with_reducible apply ok_bYes) | (with_reducible apply ok_mkL) | (with_reducible apply ok_mkC) | (with_reducible apply ok_ok) | (with_reducible apply ok_addI) | (with_reducible apply ok_gtI) | (with_reducible apply ok_geI) | (with_reducible apply ok_ltI) | (with_reducible apply ok_leI) | (with_reducible apply ok_leS) | (with_reducible apply ok_eqI) | (with_reducible apply ok_neI) | (with_reducible apply ok_eqS) | (with_reducible apply ok_neS) | (with_reducible apply ok_int) | (with_reducible apply ok_lenL) | (with_reducible apply ok_lenT) | (with_reducible apply ok_tupOfL) | (with_reducible apply ok_tupOfT) | (with_reducible apply bl_mk) | (with_reducible apply it_lst) | (with_reducible apply it_tup) | (with_reducible apply it_rls) | (with_reducible apply en_lst) | (with_reducible apply en_tup) | (with_reducible apply rt_seqOf) | (with_reducible apply nx_seqOf) | (with_reducible apply rt_of) | (with_reducible apply nx_of) | (with_reducible apply nx_nx) | (with_reducible apply rt_rt) | (with_reducible apply nx_nil) | (with_reducible apply rt_seqNil) | (with_reducible apply nx_asg) | (with_reducible apply ok_isNN))
    exact h found m2 hf hfl ha
end M

namespace M
open PySem hiding Env
open L2 Ev G
theorem perm_strs {z : List Str} {us : List T} (h : us.Perm (z.map T.str)) : ∃ st : List Str, us = st.map T.str ∧ st.Perm z := by
  obtain ⟨st, rfl, _⟩ := strs_of (xs := z) fun u hu => h.mem_iff.mp hu
  refine ⟨st, rfl, ?_⟩
  have := h.map strOf
  have e : ∀ ws : List Str, (ws.map T.str).map strOf = ws := fun ws => by rw [List.map_map]; exact List.map_id' ws
  rwa [e, e] at this
theorem rep_strs (x : Str) (n : Nat) : (List.replicate n [T.str x]).flatten = (List.replicate n x).map T.str := by
  induction n with
  | zero => rfl
  | succ n ih => rw [List.replicate_succ, List.flatten_cons, ih, List.replicate_succ]; rfl
theorem picks_ok {env : Env} {m : Mem} {s c : Nat} {sl : List Nat} {i0 i1 j : Nat} {xs : List Str} {fi : LF} {P : T → Mem → Prop} (e0 : (wipeE env sl)[i0]? = some (some (.loc s))) (e1 : (wipeE env sl)[i1]? = some (some (.lst (xs.map T.str)))) (h0 : i0 ≠ j) (h1 : i1 ≠ j)
    (hl : 0 < xs.length) (hl2 : xs.length < 1000)
    (h : Ok (fi env m) fun zs m1 => ∃ n : Nat, zs = rng 0 n ∧ n ≤ 100 ∧ c + 1000 < 900000 ∧ Src m1 s c ∧ ∀ (ys : List Str) (m2 : Mem), ys.length = n → (∀ y ∈ ys, y ∈ xs) → Src m2 s (c + n) → Fr s m1 m2 → P (.lst (ys.map T.str)) m2) :
    Ok (eComp false sl fi (gN j) bYes (eCall 2 F__law_pick (lCons (eVar i0) (lCons (eVar i1) lNil))) env m) P := by
  obtain ⟨zs, m1, e, n, rfl, hn2, hc, hs, k⟩ := h
  refine ok_comp (fun p zs m2 => ∃ ys : List Str, zs = ys.map T.str ∧ ys.length = p.length ∧ (∀ y ∈ ys, y ∈ xs) ∧ Src m2 s (c + p.length) ∧ Fr s m1 m2) ⟨_, _, e, by rw [rng_len]; unfold lim; omega, ⟨[], rfl, rfl, by simp, hs, Fr.refl⟩, ?_, ?_⟩
  · rintro p t q zs m2 hp ⟨ys, rfl, hz, hys, hs, hf⟩
    have hpl := congrArg List.length hp
    rw [rng_len] at hpl
    simp at hpl
    refine ⟨_, rfl, ?_⟩
    repeat (first | ((with_reducible apply ok_var); exact rfl) | ((with_reducible apply ok_calls); exact rfl) | ((with_reducible apply ok_tupL); exact Nat.le_of_ble_eq_true rfl) | ((with_reducible apply ok_lstL); exact Nat.le_of_ble_eq_true rfl) | ((with_reducible apply ok_lstC); exact Nat.le_of_ble_eq_true rfl) | (with_reducible apply ok_e2) | (with_reducible apply ok_c) | (with_reducible apply ok_cons) | (with_reducible apply ok_nil) | (with_reducible apply ok_ofL) | (with_reducible apply ok_call) | (with_reducible apply ok_meth) | (with_reducible apply ok_bV) | (with_reducible apply ok_bNot) | (with_reducible apply ok_bAnd) | (with_reducible apply ok_bOr) | (with_reducible apply ok_eAnd) | (with_reducible apply ok_eOr) | (with_reducible apply ok_eNot) | (with_reducible apply ok_eIf) | (with_reducible apply ok_iVal) | (with_reducible apply ok_range) | (with_reducible apply ok_range2) | (with_reducible apply ok_listRange) | (with_reducible apply ok_enum) | (with_reducible apply ok_bYes) | (with_reducible apply ok_mkL) | (with_reducible apply ok_mkC) | (with_reducible apply ok_ok) | (with_reducible apply ok_addI) | (with_reducible apply ok_gtI) | (with_reducible apply ok_geI) | (with_reducible apply ok_ltI) | (with_reducible apply ok_leI) | (with_reducible apply ok_leS) | (with_reducible apply ok_eqI) | (with_reducible apply ok_neI) | (with_reducible apply ok_eqS) | (with_reducible apply ok_neS) | (with_reducible apply ok_int) | (with_reducible apply ok_lenL) | (with_reducible apply ok_lenT) | (with_reducible apply ok_tupOfL) | (with_reducible apply ok_tupOfT) | (with_reducible apply bl_mk) | (with_reducible apply it_lst) | (with_reducible apply it_tup) | (with_reducible apply it_rls) | (with_reducible apply en_lst) | (with_reducible apply en_tup) | (with_reducible apply rt_seqOf) | (with_reducible apply nx_seqOf) | (with_reducible apply rt_of) | (with_reducible apply nx_of) | (with_reducible apply nx_nx) | (with_reducible apply rt_rt) | (with_reducible apply nx_nil) | (with_reducible apply rt_seqNil) | (with_reducible apply nx_asg) | (with_reducible apply ok_isNN))
    rw [if_pos rfl]
    refine ok_call (ok_cons (ok_var (t := .loc s) ?_ (ok_cons (ok_var (t := .lst (xs.map T.str)) ?_ (ok_nil (ok_calls rfl ?_))))))
    · rw [List.getElem?_set_ne (by omega)]; exact e0
    · rw [List.getElem?_set_ne (by omega)]; exact e1
    · refine pick_ok hs (by omega) (by rw [List.length_map]; omega) (by rw [List.length_map]; omega) fun t m3 ht hs3 hf3 => ?_
      obtain ⟨x, hx, rfl⟩ := List.mem_map.mp ht
      refine ⟨ys ++ [x], by simp, by simp [hz], ?_, by simpa [Nat.add_assoc] using hs3, hf.trans hf3⟩
      intro y hy
      rcases List.mem_append.mp hy with q | q
      · exact hys y q
      · rw [List.mem_singleton.mp q]; exact hx
  · rintro zs m2 ⟨ys, rfl, hz, hys, hs, hf⟩
    rw [rng_len] at hz hs
    exact ok_mkL (k ys m2 hz hys hs hf)
/-- told and counting both ways -/
theorem same_ok {env : Env} {m : Mem} {PB : Bool → Mem → Prop} {i j k r : Nat} {a b : T} {hs ps : List T} {cl : List Clause} {last : Str} {st : T} {ss zs : List Str} {fst : EF}
    (ek : env[i]? = some (some (kindT hs ps (cl.map Clause.srt) (.str last)))) (er : env[r]? = some (some (.tup [a, b, .lst (cl.map Clause.t), .str last]))) (ez : env[k]? = some (some (rowT zs)))
    (hst : ∀ (m1 : Mem) (P : T → Mem → Prop), P st m1 → Ok (fst env m1) P) (hi : items st = some (ss.map T.str)) (hp : ss.Perm zs) (hl : zs.length < 100000) (hc : cl.length ≤ 10) (hd : ∀ c ∈ cl, c.cs.length ≤ 10) (h : ∀ m', App m m' → PB false m') :
    Ok (bV (e2 gNe (eMethO "Kind" "counting" 2 F_Kind_counting (eVar i) (lCons fst lNil)) (eCall 2 F__law_index (lCons (eVar r) (lCons (eVar k) lNil)))) env m) PB := by
  have hls : ss.length < 100000 := by rw [hp.length_eq]; exact hl
  have hc2 : (cl.map Clause.srt).length ≤ 10 := by rw [List.length_map]; exact hc
  have hd2 : ∀ c ∈ cl.map Clause.srt, c.cs.length ≤ 10 := by
    intro c hcc
    obtain ⟨d, hdd, rfl⟩ := List.mem_map.mp hcc
    show (d.cs.map Cond.srt).length ≤ 10
    rw [List.length_map]; exact hd d hdd
  refine ok_bV (ok_e2 (ok_methO (ok_var ek ⟨_, _, rfl, counting_no, ok_cons (hst _ _ (ok_nil ⟨rfl, counting_ok hi hls hc2 hd2 ?_⟩))⟩)))
  refine ok_call (ok_cons (ok_var er (ok_cons (ok_var ez (ok_nil (ok_calls rfl (index_ok hl hc hd fun m' ha => ok_neI (bl_mk ?_))))))))
  rw [idx_same hp, decide_eq_true rfl]
  exact h m' ha
theorem same2_ok {env : Env} {m : Mem} {PB : Bool → Mem → Prop} {i j k r : Nat} {a b : T} {hs ps : List T} {cl : List Clause} {last : Str} {st : T} {ss zs : List Str} {fst : EF}
    (ek : env[i]? = some (some (kindT hs ps (cl.map Clause.srt) (.str last)))) (er : env[r]? = some (some (.tup [a, b, .lst (cl.map Clause.t), .str last]))) (ez : env[k]? = some (some (rowT zs)))
    (hst : ∀ (m1 : Mem) (P : T → Mem → Prop), P st m1 → Ok (fst env m1) P) (hi : items st = some (ss.map T.str)) (hp : ss.Perm zs) (hl : zs.length < 100000) (hc : cl.length ≤ 10) (hd : ∀ c ∈ cl, c.cs.length ≤ 10) (h : ∀ m', App m m' → PB false m') :
    Ok (bV (e2 gNe (eMethO "Kind" "told" 2 F_Kind_told (eVar i) (lCons fst lNil)) (eCall 2 F__law_told (lCons (eVar r) (lCons (eVar k) lNil)))) env m) PB := by
  have hls : ss.length < 100000 := by rw [hp.length_eq]; exact hl
  have hc2 : (cl.map Clause.srt).length ≤ 10 := by rw [List.length_map]; exact hc
  have hd2 : ∀ c ∈ cl.map Clause.srt, c.cs.length ≤ 10 := by
    intro c hcc
    obtain ⟨d, hdd, rfl⟩ := List.mem_map.mp hcc
    show (d.cs.map Cond.srt).length ≤ 10
    rw [List.length_map]; exact hd d hdd
  refine ok_bV (ok_e2 (ok_methO (ok_var ek ⟨_, _, rfl, told_no, ok_cons (hst _ _ (ok_nil ⟨rfl, told_ok hi hls hc2 hd2 ?_⟩))⟩)))
  refine ok_call (ok_cons (ok_var er (ok_cons (ok_var ez (ok_nil (ok_calls rfl (ltold_ok hl hc hd fun m' ha => ok_neS (bl_mk ?_))))))))
  rw [told_same hp, decide_eq_true rfl]
  exact h m' ha
end M

namespace M
open PySem hiding Env
open L2 Ev G
theorem few_cls {xs : List Str} {cls : List T} {k : Nat} (h : ∀ t ∈ cls, ClauseT k (xs.map T.str) t) (hk : k ≤ 4) : ∀ t ∈ cls, ClauseT 4 (xs.map T.str) t := fun t ht => by
  obtain ⟨st, cs, e, a, b, c⟩ := h t ht
  exact ⟨st, cs, e, a, by omega, c⟩
theorem good_a : Good "a" := by decide +kernel
theorem good_z6 : Good "zzzzzz" := by decide +kernel
abbrev st14 (xs hand parts : List Str) (cls : List T) (last : T) (w7 w8 : Option T) : Env := [w7, some (.loc 0), some (rowT xs), some (rowT hand), some (rowT parts), some (.lst cls), some last, w8, none, none, none, none, none, none, none]
/-- the first half: up to the clauses that are put in -/
theorem law_wide {s : T} {xs hand parts : List Str} {cls : List T} {last : T} {m : Mem} {c : Nat} {PE : Env → Mem → Prop} (hx : 0 < xs.length) (hx2 : xs.length < 50) (hn : xs.Nodup) (hcl : ∀ t ∈ cls, ClauseT 4 (xs.map T.str) t) (hcf : cls.length ≤ 3) (hs : Src m 0 c) (hc : c + 3000 < 900000)
    (h : ∀ cls' w7 m', (∀ t ∈ cls', ClauseT 4 (xs.map T.str) t) → cls'.length ≤ 4 → Src m' 0 (c + 1000) → PE [some s, some (.loc 0), some (rowT xs), some (rowT hand), some (rowT parts), some (.lst cls'), some last, w7, none, none, none, none, none, none, none] m') :
    Nx (sIf (bV (e2 gEq (eCall 2 F__law_draw (lCons (eVar 1) (lCons (eC (.int 2)) lNil))) (eC (.int 0)))) (sSeq (sOf (eComp false [14] (iRange (lCons (e2 (gAdd false) (eC (.int 3)) (eCall 2 F__law_draw (lCons (eVar 1) (lCons (eC (.int 2)) lNil)))) lNil)) (gN 14) bYes (eCall 2 F__law_condition (lCons (eVar 1) (lCons (eVar 2) lNil)))) fun t env m => .nx (env.set 7 (some t)) m)
    (sOf (e2 (gAdd false) (e2 (gAdd false) (eSlice false (eVar 5) oNone (oSome (eC (.int 2)))) (eOfL (gLstL false) (lCons (eOfL gTupL (lCons (eCall 2 F__law_pick (lCons (eVar 1) (lCons (eVar 2) lNil))) (lCons (eOfL gTuple (lCons (eVar 7) lNil)) lNil))) lNil))) (eSlice false (eVar 5) (oSome (eC (.int 2))) oNone)) fun t env m => .nx (env.set 5 (some t)) m)) sNil
      [some s, some (.loc 0), some (rowT xs), some (rowT hand), some (rowT parts), some (.lst cls), some last, none, none, none, none, none, none, none, none] m) PE := by
  have hxl : (xs.map T.str).length = xs.length := List.length_map _
  refine nx_if ?_
  repeat (first | ((with_reducible apply ok_var); exact rfl) | ((with_reducible apply ok_calls); exact rfl) | ((with_reducible apply ok_tupL); exact Nat.le_of_ble_eq_true rfl) | ((with_reducible apply ok_lstL); exact Nat.le_of_ble_eq_true rfl) | ((with_reducible apply ok_lstC); exact Nat.le_of_ble_eq_true rfl) | (with_reducible apply ok_e2) | (with_reducible apply ok_c) | (with_reducible apply ok_cons) | (with_reducible apply ok_nil) | (with_reducible apply ok_ofL) | (with_reducible apply ok_call) | (with_reducible apply ok_meth) | (with_reducible apply ok_bV) | (with_reducible apply ok_bNot) | (with_reducible apply ok_bAnd) | (with_reducible apply ok_bOr) | (with_reducible apply ok_eAnd) | (with_reducible apply ok_eOr) | (with_reducible apply ok_eNot) | (with_reducible apply ok_eIf) | (with_reducible apply ok_iVal) | (with_reducible apply ok_range) | (with_reducible apply ok_range2) | (with_reducible apply ok_listRange) | (with_reducible apply ok_enum) | (with_reducible apply ok_bYes) | (with_reducible apply ok_mkL) | (with_reducible apply ok_mkC) | (with_reducible apply ok_ok) | (with_reducible apply ok_addI) | (with_reducible apply ok_gtI) | (with_reducible apply ok_geI) | (with_reducible apply ok_ltI) | (with_reducible apply ok_leI) | (with_reducible apply ok_leS) | (with_reducible apply ok_eqI) | (with_reducible apply ok_neI) | (with_reducible apply ok_eqS) | (with_reducible apply ok_neS) | (with_reducible apply ok_int) | (with_reducible apply ok_lenL) | (with_reducible apply ok_lenT) | (with_reducible apply ok_tupOfL) | (with_reducible apply ok_tupOfT) | (with_reducible apply bl_mk) | (with_reducible apply it_lst) | (with_reducible apply it_tup) | (with_reducible apply it_rls) | (with_reducible apply en_lst) | (with_reducible apply en_tup) | (with_reducible apply rt_seqOf) | (with_reducible apply nx_seqOf) | (with_reducible apply rt_of) | (with_reducible apply nx_of) | (with_reducible apply nx_nx) | (with_reducible apply rt_rt) | (with_reducible apply nx_nil) | (with_reducible apply rt_seqNil) | (with_reducible apply nx_asg) | (with_reducible apply ok_isNN))
  refine draw_ok hs (by omega) (by omega) (by omega) fun d m1 d0 d1 hs1 hf1 => ?_
  repeat (first | ((with_reducible apply ok_var); exact rfl) | ((with_reducible apply ok_calls); exact rfl) | ((with_reducible apply ok_tupL); exact Nat.le_of_ble_eq_true rfl) | ((with_reducible apply ok_lstL); exact Nat.le_of_ble_eq_true rfl) | ((with_reducible apply ok_lstC); exact Nat.le_of_ble_eq_true rfl) | (with_reducible apply ok_e2) | (with_reducible apply ok_c) | (with_reducible apply ok_cons) | (with_reducible apply ok_nil) | (with_reducible apply ok_ofL) | (with_reducible apply ok_call) | (with_reducible apply ok_meth) | (with_reducible apply ok_bV) | (with_reducible apply ok_bNot) | (with_reducible apply ok_bAnd) | (with_reducible apply ok_bOr) | (with_reducible apply ok_eAnd) | (with_reducible apply ok_eOr) | (with_reducible apply ok_eNot) | (with_reducible apply ok_eIf) | (with_reducible apply ok_iVal) | (with_reducible apply ok_range) | (with_reducible apply ok_range2) | (with_reducible apply ok_listRange) | (with_reducible apply ok_enum) | (with_reducible apply ok_bYes) | (with_reducible apply ok_mkL) | (with_reducible apply ok_mkC) | (with_reducible apply ok_ok) | (with_reducible apply ok_addI) | (with_reducible apply ok_gtI) | (with_reducible apply ok_geI) | (with_reducible apply ok_ltI) | (with_reducible apply ok_leI) | (with_reducible apply ok_leS) | (with_reducible apply ok_eqI) | (with_reducible apply ok_neI) | (with_reducible apply ok_eqS) | (with_reducible apply ok_neS) | (with_reducible apply ok_int) | (with_reducible apply ok_lenL) | (with_reducible apply ok_lenT) | (with_reducible apply ok_tupOfL) | (with_reducible apply ok_tupOfT) | (with_reducible apply bl_mk) | (with_reducible apply it_lst) | (with_reducible apply it_tup) | (with_reducible apply it_rls) | (with_reducible apply en_lst) | (with_reducible apply en_tup) | (with_reducible apply rt_seqOf) | (with_reducible apply nx_seqOf) | (with_reducible apply rt_of) | (with_reducible apply nx_of) | (with_reducible apply nx_nx) | (with_reducible apply rt_rt) | (with_reducible apply nx_nil) | (with_reducible apply rt_seqNil) | (with_reducible apply nx_asg) | (with_reducible apply ok_isNN))
  split
  · refine nx_seqOf (conds_ok (s := 0) (c := c + 2) (ts := xs.map T.str) rfl rfl (by decide) (by decide) (by omega) (by omega) (nodup_strs hn) ?_)
    repeat (first | ((with_reducible apply ok_var); exact rfl) | ((with_reducible apply ok_calls); exact rfl) | ((with_reducible apply ok_tupL); exact Nat.le_of_ble_eq_true rfl) | ((with_reducible apply ok_lstL); exact Nat.le_of_ble_eq_true rfl) | ((with_reducible apply ok_lstC); exact Nat.le_of_ble_eq_true rfl) | (with_reducible apply ok_e2) | (with_reducible apply ok_c) | (with_reducible apply ok_cons) | (with_reducible apply ok_nil) | (with_reducible apply ok_ofL) | (with_reducible apply ok_call) | (with_reducible apply ok_meth) | (with_reducible apply ok_bV) | (with_reducible apply ok_bNot) | (with_reducible apply ok_bAnd) | (with_reducible apply ok_bOr) | (with_reducible apply ok_eAnd) | (with_reducible apply ok_eOr) | (with_reducible apply ok_eNot) | (with_reducible apply ok_eIf) | (with_reducible apply ok_iVal) | (with_reducible apply ok_range) | (with_reducible apply ok_range2) | (with_reducible apply ok_listRange) | (with_reducible apply ok_enum) | (with_reducible apply ok_bYes) | (with_reducible apply ok_mkL) | (with_reducible apply ok_mkC) | (with_reducible apply ok_ok) | (with_reducible apply ok_addI) | (with_reducible apply ok_gtI) | (with_reducible apply ok_geI) | (with_reducible apply ok_ltI) | (with_reducible apply ok_leI) | (with_reducible apply ok_leS) | (with_reducible apply ok_eqI) | (with_reducible apply ok_neI) | (with_reducible apply ok_eqS) | (with_reducible apply ok_neS) | (with_reducible apply ok_int) | (with_reducible apply ok_lenL) | (with_reducible apply ok_lenT) | (with_reducible apply ok_tupOfL) | (with_reducible apply ok_tupOfT) | (with_reducible apply bl_mk) | (with_reducible apply it_lst) | (with_reducible apply it_tup) | (with_reducible apply it_rls) | (with_reducible apply en_lst) | (with_reducible apply en_tup) | (with_reducible apply rt_seqOf) | (with_reducible apply nx_seqOf) | (with_reducible apply rt_of) | (with_reducible apply nx_of) | (with_reducible apply nx_nx) | (with_reducible apply rt_rt) | (with_reducible apply nx_nil) | (with_reducible apply rt_seqNil) | (with_reducible apply nx_asg) | (with_reducible apply ok_isNN))
    refine draw_ok hs1 (by omega) (by omega) (by omega) fun e m2 e0 e1 hs2 hf2 => ?_
    repeat (first | ((with_reducible apply ok_var); exact rfl) | ((with_reducible apply ok_calls); exact rfl) | ((with_reducible apply ok_tupL); exact Nat.le_of_ble_eq_true rfl) | ((with_reducible apply ok_lstL); exact Nat.le_of_ble_eq_true rfl) | ((with_reducible apply ok_lstC); exact Nat.le_of_ble_eq_true rfl) | (with_reducible apply ok_e2) | (with_reducible apply ok_c) | (with_reducible apply ok_cons) | (with_reducible apply ok_nil) | (with_reducible apply ok_ofL) | (with_reducible apply ok_call) | (with_reducible apply ok_meth) | (with_reducible apply ok_bV) | (with_reducible apply ok_bNot) | (with_reducible apply ok_bAnd) | (with_reducible apply ok_bOr) | (with_reducible apply ok_eAnd) | (with_reducible apply ok_eOr) | (with_reducible apply ok_eNot) | (with_reducible apply ok_eIf) | (with_reducible apply ok_iVal) | (with_reducible apply ok_range) | (with_reducible apply ok_range2) | (with_reducible apply ok_listRange) | (with_reducible apply ok_enum) | (with_reducible apply ok_bYes) | (with_reducible apply ok_mkL) | (with_reducible apply ok_mkC) | (with_reducible apply ok_ok) | (with_reducible apply ok_addI) | (with_reducible apply ok_gtI) | (with_reducible apply ok_geI) | (with_reducible apply ok_ltI) | (with_reducible apply ok_leI) | (with_reducible apply ok_leS) | (with_reducible apply ok_eqI) | (with_reducible apply ok_neI) | (with_reducible apply ok_eqS) | (with_reducible apply ok_neS) | (with_reducible apply ok_int) | (with_reducible apply ok_lenL) | (with_reducible apply ok_lenT) | (with_reducible apply ok_tupOfL) | (with_reducible apply ok_tupOfT) | (with_reducible apply bl_mk) | (with_reducible apply it_lst) | (with_reducible apply it_tup) | (with_reducible apply it_rls) | (with_reducible apply en_lst) | (with_reducible apply en_tup) | (with_reducible apply rt_seqOf) | (with_reducible apply nx_seqOf) | (with_reducible apply rt_of) | (with_reducible apply nx_of) | (with_reducible apply nx_nx) | (with_reducible apply rt_rt) | (with_reducible apply nx_nil) | (with_reducible apply rt_seqNil) | (with_reducible apply nx_asg) | (with_reducible apply ok_isNN))
    obtain ⟨n, rfl⟩ := Int.eq_ofNat_of_zero_le e0
    refine rg_mk (by omega) (by omega) ⟨n + 3, by rw [Int.add_comm]; rfl, by omega, by omega, hs2, fun cs m3 hl3 hcs hs3 hf3 => ?_⟩
    refine nx_nx ?_
    try simp only [List.map_cons, List.map_nil, List.cons_append, List.nil_append, List.length_cons, List.length_nil, Nat.reduceAdd, Nat.reduceSub, List.replicate_succ, List.replicate_zero, List.set_cons_succ, List.set_cons_zero]
    refine nx_of (ok_e2 (ok_e2 (ok_slice (ok_var rfl (ok_oNone (ok_oSome (ok_c ⟨_, rfl, ok_sliceL ?_⟩)))))))
    repeat (first | ((with_reducible apply ok_var); exact rfl) | ((with_reducible apply ok_calls); exact rfl) | ((with_reducible apply ok_tupL); exact Nat.le_of_ble_eq_true rfl) | ((with_reducible apply ok_lstL); exact Nat.le_of_ble_eq_true rfl) | ((with_reducible apply ok_lstC); exact Nat.le_of_ble_eq_true rfl) | (with_reducible apply ok_e2) | (with_reducible apply ok_c) | (with_reducible apply ok_cons) | (with_reducible apply ok_nil) | (with_reducible apply ok_ofL) | (with_reducible apply ok_call) | (with_reducible apply ok_meth) | (with_reducible apply ok_bV) | (with_reducible apply ok_bNot) | (with_reducible apply ok_bAnd) | (with_reducible apply ok_bOr) | (with_reducible apply ok_eAnd) | (with_reducible apply ok_eOr) | (with_reducible apply ok_eNot) | (with_reducible apply ok_eIf) | (with_reducible apply ok_iVal) | (with_reducible apply ok_range) | (with_reducible apply ok_range2) | (with_reducible apply ok_listRange) | (with_reducible apply ok_enum) | (with_reducible apply ok_bYes) | (with_reducible apply ok_mkL) | (with_reducible apply ok_mkC) | (with_reducible apply ok_ok) | (with_reducible apply ok_addI) | (with_reducible apply ok_gtI) | (with_reducible apply ok_geI) | (with_reducible apply ok_ltI) | (with_reducible apply ok_leI) | (with_reducible apply ok_leS) | (with_reducible apply ok_eqI) | (with_reducible apply ok_neI) | (with_reducible apply ok_eqS) | (with_reducible apply ok_neS) | (with_reducible apply ok_int) | (with_reducible apply ok_lenL) | (with_reducible apply ok_lenT) | (with_reducible apply ok_tupOfL) | (with_reducible apply ok_tupOfT) | (with_reducible apply bl_mk) | (with_reducible apply it_lst) | (with_reducible apply it_tup) | (with_reducible apply it_rls) | (with_reducible apply en_lst) | (with_reducible apply en_tup) | (with_reducible apply rt_seqOf) | (with_reducible apply nx_seqOf) | (with_reducible apply rt_of) | (with_reducible apply nx_of) | (with_reducible apply nx_nx) | (with_reducible apply rt_rt) | (with_reducible apply nx_nil) | (with_reducible apply rt_seqNil) | (with_reducible apply nx_asg) | (with_reducible apply ok_isNN))
    refine pick_ok hs3 (by omega) (by omega) (by omega) fun st m4 hst hs4 hf4 => ?_
    repeat (first | ((with_reducible apply ok_var); exact rfl) | ((with_reducible apply ok_calls); exact rfl) | ((with_reducible apply ok_tupL); exact Nat.le_of_ble_eq_true rfl) | ((with_reducible apply ok_lstL); exact Nat.le_of_ble_eq_true rfl) | ((with_reducible apply ok_lstC); exact Nat.le_of_ble_eq_true rfl) | (with_reducible apply ok_e2) | (with_reducible apply ok_c) | (with_reducible apply ok_cons) | (with_reducible apply ok_nil) | (with_reducible apply ok_ofL) | (with_reducible apply ok_call) | (with_reducible apply ok_meth) | (with_reducible apply ok_bV) | (with_reducible apply ok_bNot) | (with_reducible apply ok_bAnd) | (with_reducible apply ok_bOr) | (with_reducible apply ok_eAnd) | (with_reducible apply ok_eOr) | (with_reducible apply ok_eNot) | (with_reducible apply ok_eIf) | (with_reducible apply ok_iVal) | (with_reducible apply ok_range) | (with_reducible apply ok_range2) | (with_reducible apply ok_listRange) | (with_reducible apply ok_enum) | (with_reducible apply ok_bYes) | (with_reducible apply ok_mkL) | (with_reducible apply ok_mkC) | (with_reducible apply ok_ok) | (with_reducible apply ok_addI) | (with_reducible apply ok_gtI) | (with_reducible apply ok_geI) | (with_reducible apply ok_ltI) | (with_reducible apply ok_leI) | (with_reducible apply ok_leS) | (with_reducible apply ok_eqI) | (with_reducible apply ok_neI) | (with_reducible apply ok_eqS) | (with_reducible apply ok_neS) | (with_reducible apply ok_int) | (with_reducible apply ok_lenL) | (with_reducible apply ok_lenT) | (with_reducible apply ok_tupOfL) | (with_reducible apply ok_tupOfT) | (with_reducible apply bl_mk) | (with_reducible apply it_lst) | (with_reducible apply it_tup) | (with_reducible apply it_rls) | (with_reducible apply en_lst) | (with_reducible apply en_tup) | (with_reducible apply rt_seqOf) | (with_reducible apply nx_seqOf) | (with_reducible apply rt_of) | (with_reducible apply nx_of) | (with_reducible apply nx_nx) | (with_reducible apply rt_rt) | (with_reducible apply nx_nil) | (with_reducible apply rt_seqNil) | (with_reducible apply nx_asg) | (with_reducible apply ok_isNN))
    rw [cut_take (by decide)]
    refine ok_addL (by simp; unfold lim; omega) ?_
    refine ok_slice (ok_var rfl (ok_oSome (ok_c ⟨_, rfl, ok_oNone (ok_sliceL ?_)⟩)))
    rw [cut_drop (by decide)]
    refine ok_addL (by simp; unfold lim; omega) ?_
    repeat (first | ((with_reducible apply ok_var); exact rfl) | ((with_reducible apply ok_calls); exact rfl) | ((with_reducible apply ok_tupL); exact Nat.le_of_ble_eq_true rfl) | ((with_reducible apply ok_lstL); exact Nat.le_of_ble_eq_true rfl) | ((with_reducible apply ok_lstC); exact Nat.le_of_ble_eq_true rfl) | (with_reducible apply ok_e2) | (with_reducible apply ok_c) | (with_reducible apply ok_cons) | (with_reducible apply ok_nil) | (with_reducible apply ok_ofL) | (with_reducible apply ok_call) | (with_reducible apply ok_meth) | (with_reducible apply ok_bV) | (with_reducible apply ok_bNot) | (with_reducible apply ok_bAnd) | (with_reducible apply ok_bOr) | (with_reducible apply ok_eAnd) | (with_reducible apply ok_eOr) | (with_reducible apply ok_eNot) | (with_reducible apply ok_eIf) | (with_reducible apply ok_iVal) | (with_reducible apply ok_range) | (with_reducible apply ok_range2) | (with_reducible apply ok_listRange) | (with_reducible apply ok_enum) | (with_reducible apply ok_bYes) | (with_reducible apply ok_mkL) | (with_reducible apply ok_mkC) | (with_reducible apply ok_ok) | (with_reducible apply ok_addI) | (with_reducible apply ok_gtI) | (with_reducible apply ok_geI) | (with_reducible apply ok_ltI) | (with_reducible apply ok_leI) | (with_reducible apply ok_leS) | (with_reducible apply ok_eqI) | (with_reducible apply ok_neI) | (with_reducible apply ok_eqS) | (with_reducible apply ok_neS) | (with_reducible apply ok_int) | (with_reducible apply ok_lenL) | (with_reducible apply ok_lenT) | (with_reducible apply ok_tupOfL) | (with_reducible apply ok_tupOfT) | (with_reducible apply bl_mk) | (with_reducible apply it_lst) | (with_reducible apply it_tup) | (with_reducible apply it_rls) | (with_reducible apply en_lst) | (with_reducible apply en_tup) | (with_reducible apply rt_seqOf) | (with_reducible apply nx_seqOf) | (with_reducible apply rt_of) | (with_reducible apply nx_of) | (with_reducible apply nx_nx) | (with_reducible apply rt_rt) | (with_reducible apply nx_nil) | (with_reducible apply rt_seqNil) | (with_reducible apply nx_asg) | (with_reducible apply ok_isNN))
    refine h _ _ _ ?_ ?_ (hs4.mono (by omega))
    · intro t ht
      rcases List.mem_append.mp ht with q | q
      · rcases List.mem_append.mp q with q | q
        · exact hcl t (List.mem_of_mem_take q)
        · rw [List.mem_singleton.mp q]; exact ⟨st, cs, rfl, hst, by omega, hcs⟩
      · exact hcl t (List.mem_of_mem_drop q)
    · simp; omega
  · repeat (first | ((with_reducible apply ok_var); exact rfl) | ((with_reducible apply ok_calls); exact rfl) | ((with_reducible apply ok_tupL); exact Nat.le_of_ble_eq_true rfl) | ((with_reducible apply ok_lstL); exact Nat.le_of_ble_eq_true rfl) | ((with_reducible apply ok_lstC); exact Nat.le_of_ble_eq_true rfl) | (with_reducible apply ok_e2) | (with_reducible apply ok_c) | (with_reducible apply ok_cons) | (with_reducible apply ok_nil) | (with_reducible apply ok_ofL) | (with_reducible apply ok_call) | (with_reducible apply ok_meth) | (with_reducible apply ok_bV) | (with_reducible apply ok_bNot) | (with_reducible apply ok_bAnd) | (with_reducible apply ok_bOr) | (with_reducible apply ok_eAnd) | (with_reducible apply ok_eOr) | (with_reducible apply ok_eNot) | (with_reducible apply ok_eIf) | (with_reducible apply ok_iVal) | (with_reducible apply ok_range) | (with_reducible apply ok_range2) | (with_reducible apply ok_listRange) | (with_reducible apply ok_enum) | (with_reducible apply ok_bYes) | (with_reducible apply ok_mkL) | (with_reducible apply ok_mkC) | (with_reducible apply ok_ok) | (with_reducible apply ok_addI) | (with_reducible apply ok_gtI) | (with_reducible apply ok_geI) | (with_reducible apply ok_ltI) | (with_reducible apply ok_leI) | (with_reducible apply ok_leS) | (with_reducible apply ok_eqI) | (with_reducible apply ok_neI) | (with_reducible apply ok_eqS) | (with_reducible apply ok_neS) | (with_reducible apply ok_int) | (with_reducible apply ok_lenL) | (with_reducible apply ok_lenT) | (with_reducible apply ok_tupOfL) | (with_reducible apply ok_tupOfT) | (with_reducible apply bl_mk) | (with_reducible apply it_lst) | (with_reducible apply it_tup) | (with_reducible apply it_rls) | (with_reducible apply en_lst) | (with_reducible apply en_tup) | (with_reducible apply rt_seqOf) | (with_reducible apply nx_seqOf) | (with_reducible apply rt_of) | (with_reducible apply nx_of) | (with_reducible apply nx_nx) | (with_reducible apply rt_rt) | (with_reducible apply nx_nil) | (with_reducible apply rt_seqNil) | (with_reducible apply nx_asg) | (with_reducible apply ok_isNN))
    exact h _ _ _ hcl (by omega) (hs1.mono (by omega))
/-- .. and the clause in front -/
theorem law_front {s : T} {xs hand parts : List Str} {cls : List T} {last : T} {m : Mem} {c : Nat} {w7 : Option T} {PE : Env → Mem → Prop} (hx : 0 < xs.length) (hx2 : xs.length < 50) (hn : xs.Nodup) (hcl : ∀ t ∈ cls, ClauseT 4 (xs.map T.str) t) (hcf : cls.length ≤ 4) (hs : Src m 0 c) (hc : c + 3000 < 900000)
    (h : ∀ cls' w8 m', (∀ t ∈ cls', ClauseT 4 (xs.map T.str) t) → cls'.length ≤ 5 → Src m' 0 (c + 10) → PE [some s, some (.loc 0), some (rowT xs), some (rowT hand), some (rowT parts), some (.lst cls'), some last, w7, w8, none, none, none, none, none, none] m') :
    Nx (sIf (bV (e2 gEq (eCall 2 F__law_draw (lCons (eVar 1) (lCons (eC (.int 4)) lNil))) (eC (.int 0)))) (sSeq (sOf (e2 (gAdd false) (eC (.int 4)) (eCall 2 F__law_draw (lCons (eVar 1) (lCons (eC (.int 6)) lNil)))) fun t env m => .nx (env.set 8 (some t)) m)
    (sOf (e2 (gAdd false) (eOfL (gLstL false) (lCons (eOfL gTupL (lCons (eCall 2 F__law_pick (lCons (eVar 1) (lCons (eVar 2) lNil))) (lCons (eOfL gTupL (lCons (eOfL gTupL (lCons (eCall 2 F__law_draw (lCons (eVar 1) (lCons (eC (.int 10)) lNil))) (lCons (eVar 8) (lCons (eOfL gTupL (lCons (e2 gIx (eVar 2) (eC (.int 0))) lNil)) lNil)))) lNil)) lNil))) lNil)) (eVar 5)) fun t env m => .nx (env.set 5 (some t)) m)) sNil
      [some s, some (.loc 0), some (rowT xs), some (rowT hand), some (rowT parts), some (.lst cls), some last, w7, none, none, none, none, none, none, none] m) PE := by
  have hxl : (xs.map T.str).length = xs.length := List.length_map _
  refine nx_if ?_
  repeat (first | ((with_reducible apply ok_var); exact rfl) | ((with_reducible apply ok_calls); exact rfl) | ((with_reducible apply ok_tupL); exact Nat.le_of_ble_eq_true rfl) | ((with_reducible apply ok_lstL); exact Nat.le_of_ble_eq_true rfl) | ((with_reducible apply ok_lstC); exact Nat.le_of_ble_eq_true rfl) | (with_reducible apply ok_e2) | (with_reducible apply ok_c) | (with_reducible apply ok_cons) | (with_reducible apply ok_nil) | (with_reducible apply ok_ofL) | (with_reducible apply ok_call) | (with_reducible apply ok_meth) | (with_reducible apply ok_bV) | (with_reducible apply ok_bNot) | (with_reducible apply ok_bAnd) | (with_reducible apply ok_bOr) | (with_reducible apply ok_eAnd) | (with_reducible apply ok_eOr) | (with_reducible apply ok_eNot) | (with_reducible apply ok_eIf) | (with_reducible apply ok_iVal) | (with_reducible apply ok_range) | (with_reducible apply ok_range2) | (with_reducible apply ok_listRange) | (with_reducible apply ok_enum) | (with_reducible apply ok_bYes) | (with_reducible apply ok_mkL) | (with_reducible apply ok_mkC) | (with_reducible apply ok_ok) | (with_reducible apply ok_addI) | (with_reducible apply ok_gtI) | (with_reducible apply ok_geI) | (with_reducible apply ok_ltI) | (with_reducible apply ok_leI) | (with_reducible apply ok_leS) | (with_reducible apply ok_eqI) | (with_reducible apply ok_neI) | (with_reducible apply ok_eqS) | (with_reducible apply ok_neS) | (with_reducible apply ok_int) | (with_reducible apply ok_lenL) | (with_reducible apply ok_lenT) | (with_reducible apply ok_tupOfL) | (with_reducible apply ok_tupOfT) | (with_reducible apply bl_mk) | (with_reducible apply it_lst) | (with_reducible apply it_tup) | (with_reducible apply it_rls) | (with_reducible apply en_lst) | (with_reducible apply en_tup) | (with_reducible apply rt_seqOf) | (with_reducible apply nx_seqOf) | (with_reducible apply rt_of) | (with_reducible apply nx_of) | (with_reducible apply nx_nx) | (with_reducible apply rt_rt) | (with_reducible apply nx_nil) | (with_reducible apply rt_seqNil) | (with_reducible apply nx_asg) | (with_reducible apply ok_isNN))
  refine draw_ok hs (by omega) (by omega) (by omega) fun d m1 d0 d1 hs1 hf1 => ?_
  repeat (first | ((with_reducible apply ok_var); exact rfl) | ((with_reducible apply ok_calls); exact rfl) | ((with_reducible apply ok_tupL); exact Nat.le_of_ble_eq_true rfl) | ((with_reducible apply ok_lstL); exact Nat.le_of_ble_eq_true rfl) | ((with_reducible apply ok_lstC); exact Nat.le_of_ble_eq_true rfl) | (with_reducible apply ok_e2) | (with_reducible apply ok_c) | (with_reducible apply ok_cons) | (with_reducible apply ok_nil) | (with_reducible apply ok_ofL) | (with_reducible apply ok_call) | (with_reducible apply ok_meth) | (with_reducible apply ok_bV) | (with_reducible apply ok_bNot) | (with_reducible apply ok_bAnd) | (with_reducible apply ok_bOr) | (with_reducible apply ok_eAnd) | (with_reducible apply ok_eOr) | (with_reducible apply ok_eNot) | (with_reducible apply ok_eIf) | (with_reducible apply ok_iVal) | (with_reducible apply ok_range) | (with_reducible apply ok_range2) | (with_reducible apply ok_listRange) | (with_reducible apply ok_enum) | (with_reducible apply ok_bYes) | (with_reducible apply ok_mkL) | (with_reducible apply ok_mkC) | (with_reducible apply ok_ok) | (with_reducible apply ok_addI) | (with_reducible apply ok_gtI) | (with_reducible apply ok_geI) | (with_reducible apply ok_ltI) | (with_reducible apply ok_leI) | (with_reducible apply ok_leS) | (with_reducible apply ok_eqI) | (with_reducible apply ok_neI) | (with_reducible apply ok_eqS) | (with_reducible apply ok_neS) | (with_reducible apply ok_int) | (with_reducible apply ok_lenL) | (with_reducible apply ok_lenT) | (with_reducible apply ok_tupOfL) | (with_reducible apply ok_tupOfT) | (with_reducible apply bl_mk) | (with_reducible apply it_lst) | (with_reducible apply it_tup) | (with_reducible apply it_rls) | (with_reducible apply en_lst) | (with_reducible apply en_tup) | (with_reducible apply rt_seqOf) | (with_reducible apply nx_seqOf) | (with_reducible apply rt_of) | (with_reducible apply nx_of) | (with_reducible apply nx_nx) | (with_reducible apply rt_rt) | (with_reducible apply nx_nil) | (with_reducible apply rt_seqNil) | (with_reducible apply nx_asg) | (with_reducible apply ok_isNN))
  split
  · repeat (first | ((with_reducible apply ok_var); exact rfl) | ((with_reducible apply ok_calls); exact rfl) | ((with_reducible apply ok_tupL); exact Nat.le_of_ble_eq_true rfl) | ((with_reducible apply ok_lstL); exact Nat.le_of_ble_eq_true rfl) | ((with_reducible apply ok_lstC); exact Nat.le_of_ble_eq_true rfl) | (with_reducible apply ok_e2) | (with_reducible apply ok_c) | (with_reducible apply ok_cons) | (with_reducible apply ok_nil) | (with_reducible apply ok_ofL) | (with_reducible apply ok_call) | (with_reducible apply ok_meth) | (with_reducible apply ok_bV) | (with_reducible apply ok_bNot) | (with_reducible apply ok_bAnd) | (with_reducible apply ok_bOr) | (with_reducible apply ok_eAnd) | (with_reducible apply ok_eOr) | (with_reducible apply ok_eNot) | (with_reducible apply ok_eIf) | (with_reducible apply ok_iVal) | (with_reducible apply ok_range) | (with_reducible apply ok_range2) | (with_reducible apply ok_listRange) | (with_reducible apply ok_enum) | (with_reducible apply ok_bYes) | (with_reducible apply ok_mkL) | (with_reducible apply ok_mkC) | (with_reducible apply ok_ok) | (with_reducible apply ok_addI) | (with_reducible apply ok_gtI) | (with_reducible apply ok_geI) | (with_reducible apply ok_ltI) | (with_reducible apply ok_leI) | (with_reducible apply ok_leS) | (with_reducible apply ok_eqI) | (with_reducible apply ok_neI) | (with_reducible apply ok_eqS) | (with_reducible apply ok_neS) | (with_reducible apply ok_int) | (with_reducible apply ok_lenL) | (with_reducible apply ok_lenT) | (with_reducible apply ok_tupOfL) | (with_reducible apply ok_tupOfT) | (with_reducible apply bl_mk) | (with_reducible apply it_lst) | (with_reducible apply it_tup) | (with_reducible apply it_rls) | (with_reducible apply en_lst) | (with_reducible apply en_tup) | (with_reducible apply rt_seqOf) | (with_reducible apply nx_seqOf) | (with_reducible apply rt_of) | (with_reducible apply nx_of) | (with_reducible apply nx_nx) | (with_reducible apply rt_rt) | (with_reducible apply nx_nil) | (with_reducible apply rt_seqNil) | (with_reducible apply nx_asg) | (with_reducible apply ok_isNN))
    refine draw_ok hs1 (by omega) (by omega) (by omega) fun e m2 e0 e1 hs2 hf2 => ?_
    repeat (first | ((with_reducible apply ok_var); exact rfl) | ((with_reducible apply ok_calls); exact rfl) | ((with_reducible apply ok_tupL); exact Nat.le_of_ble_eq_true rfl) | ((with_reducible apply ok_lstL); exact Nat.le_of_ble_eq_true rfl) | ((with_reducible apply ok_lstC); exact Nat.le_of_ble_eq_true rfl) | (with_reducible apply ok_e2) | (with_reducible apply ok_c) | (with_reducible apply ok_cons) | (with_reducible apply ok_nil) | (with_reducible apply ok_ofL) | (with_reducible apply ok_call) | (with_reducible apply ok_meth) | (with_reducible apply ok_bV) | (with_reducible apply ok_bNot) | (with_reducible apply ok_bAnd) | (with_reducible apply ok_bOr) | (with_reducible apply ok_eAnd) | (with_reducible apply ok_eOr) | (with_reducible apply ok_eNot) | (with_reducible apply ok_eIf) | (with_reducible apply ok_iVal) | (with_reducible apply ok_range) | (with_reducible apply ok_range2) | (with_reducible apply ok_listRange) | (with_reducible apply ok_enum) | (with_reducible apply ok_bYes) | (with_reducible apply ok_mkL) | (with_reducible apply ok_mkC) | (with_reducible apply ok_ok) | (with_reducible apply ok_addI) | (with_reducible apply ok_gtI) | (with_reducible apply ok_geI) | (with_reducible apply ok_ltI) | (with_reducible apply ok_leI) | (with_reducible apply ok_leS) | (with_reducible apply ok_eqI) | (with_reducible apply ok_neI) | (with_reducible apply ok_eqS) | (with_reducible apply ok_neS) | (with_reducible apply ok_int) | (with_reducible apply ok_lenL) | (with_reducible apply ok_lenT) | (with_reducible apply ok_tupOfL) | (with_reducible apply ok_tupOfT) | (with_reducible apply bl_mk) | (with_reducible apply it_lst) | (with_reducible apply it_tup) | (with_reducible apply it_rls) | (with_reducible apply en_lst) | (with_reducible apply en_tup) | (with_reducible apply rt_seqOf) | (with_reducible apply nx_seqOf) | (with_reducible apply rt_of) | (with_reducible apply nx_of) | (with_reducible apply nx_nx) | (with_reducible apply rt_rt) | (with_reducible apply nx_nil) | (with_reducible apply rt_seqNil) | (with_reducible apply nx_asg) | (with_reducible apply ok_isNN))
    try simp only [List.map_cons, List.map_nil, List.cons_append, List.nil_append, List.length_cons, List.length_nil, Nat.reduceAdd, Nat.reduceSub, List.replicate_succ, List.replicate_zero, List.set_cons_succ, List.set_cons_zero]
    refine pick_ok hs2 (by omega) (by omega) (by omega) fun st m3 hst hs3 hf3 => ?_
    repeat (first | ((with_reducible apply ok_var); exact rfl) | ((with_reducible apply ok_calls); exact rfl) | ((with_reducible apply ok_tupL); exact Nat.le_of_ble_eq_true rfl) | ((with_reducible apply ok_lstL); exact Nat.le_of_ble_eq_true rfl) | ((with_reducible apply ok_lstC); exact Nat.le_of_ble_eq_true rfl) | (with_reducible apply ok_e2) | (with_reducible apply ok_c) | (with_reducible apply ok_cons) | (with_reducible apply ok_nil) | (with_reducible apply ok_ofL) | (with_reducible apply ok_call) | (with_reducible apply ok_meth) | (with_reducible apply ok_bV) | (with_reducible apply ok_bNot) | (with_reducible apply ok_bAnd) | (with_reducible apply ok_bOr) | (with_reducible apply ok_eAnd) | (with_reducible apply ok_eOr) | (with_reducible apply ok_eNot) | (with_reducible apply ok_eIf) | (with_reducible apply ok_iVal) | (with_reducible apply ok_range) | (with_reducible apply ok_range2) | (with_reducible apply ok_listRange) | (with_reducible apply ok_enum) | (with_reducible apply ok_bYes) | (with_reducible apply ok_mkL) | (with_reducible apply ok_mkC) | (with_reducible apply ok_ok) | (with_reducible apply ok_addI) | (with_reducible apply ok_gtI) | (with_reducible apply ok_geI) | (with_reducible apply ok_ltI) | (with_reducible apply ok_leI) | (with_reducible apply ok_leS) | (with_reducible apply ok_eqI) | (with_reducible apply ok_neI) | (with_reducible apply ok_eqS) | (with_reducible apply ok_neS) | (with_reducible apply ok_int) | (with_reducible apply ok_lenL) | (with_reducible apply ok_lenT) | (with_reducible apply ok_tupOfL) | (with_reducible apply ok_tupOfT) | (with_reducible apply bl_mk) | (with_reducible apply it_lst) | (with_reducible apply it_tup) | (with_reducible apply it_rls) | (with_reducible apply en_lst) | (with_reducible apply en_tup) | (with_reducible apply rt_seqOf) | (with_reducible apply nx_seqOf) | (with_reducible apply rt_of) | (with_reducible apply nx_of) | (with_reducible apply nx_nx) | (with_reducible apply rt_rt) | (with_reducible apply nx_nil) | (with_reducible apply rt_seqNil) | (with_reducible apply nx_asg) | (with_reducible apply ok_isNN))
    refine draw_ok hs3 (by omega) (by omega) (by omega) fun g m4 g0 g1 hs4 hf4 => ?_
    repeat (first | ((with_reducible apply ok_var); exact rfl) | ((with_reducible apply ok_calls); exact rfl) | ((with_reducible apply ok_tupL); exact Nat.le_of_ble_eq_true rfl) | ((with_reducible apply ok_lstL); exact Nat.le_of_ble_eq_true rfl) | ((with_reducible apply ok_lstC); exact Nat.le_of_ble_eq_true rfl) | (with_reducible apply ok_e2) | (with_reducible apply ok_c) | (with_reducible apply ok_cons) | (with_reducible apply ok_nil) | (with_reducible apply ok_ofL) | (with_reducible apply ok_call) | (with_reducible apply ok_meth) | (with_reducible apply ok_bV) | (with_reducible apply ok_bNot) | (with_reducible apply ok_bAnd) | (with_reducible apply ok_bOr) | (with_reducible apply ok_eAnd) | (with_reducible apply ok_eOr) | (with_reducible apply ok_eNot) | (with_reducible apply ok_eIf) | (with_reducible apply ok_iVal) | (with_reducible apply ok_range) | (with_reducible apply ok_range2) | (with_reducible apply ok_listRange) | (with_reducible apply ok_enum) | (with_reducible apply ok_bYes) | (with_reducible apply ok_mkL) | (with_reducible apply ok_mkC) | (with_reducible apply ok_ok) | (with_reducible apply ok_addI) | (with_reducible apply ok_gtI) | (with_reducible apply ok_geI) | (with_reducible apply ok_ltI) | (with_reducible apply ok_leI) | (with_reducible apply ok_leS) | (with_reducible apply ok_eqI) | (with_reducible apply ok_neI) | (with_reducible apply ok_eqS) | (with_reducible apply ok_neS) | (with_reducible apply ok_int) | (with_reducible apply ok_lenL) | (with_reducible apply ok_lenT) | (with_reducible apply ok_tupOfL) | (with_reducible apply ok_tupOfT) | (with_reducible apply bl_mk) | (with_reducible apply it_lst) | (with_reducible apply it_tup) | (with_reducible apply it_rls) | (with_reducible apply en_lst) | (with_reducible apply en_tup) | (with_reducible apply rt_seqOf) | (with_reducible apply nx_seqOf) | (with_reducible apply rt_of) | (with_reducible apply nx_of) | (with_reducible apply nx_nx) | (with_reducible apply rt_rt) | (with_reducible apply nx_nil) | (with_reducible apply rt_seqNil) | (with_reducible apply nx_asg) | (with_reducible apply ok_isNN))
    obtain ⟨u, hu, _, hum⟩ := atB (ts := xs.map T.str) (i := 0) (by decide) (by omega)
    refine ok_ixL hu ?_
    repeat (first | ((with_reducible apply ok_var); exact rfl) | ((with_reducible apply ok_calls); exact rfl) | ((with_reducible apply ok_tupL); exact Nat.le_of_ble_eq_true rfl) | ((with_reducible apply ok_lstL); exact Nat.le_of_ble_eq_true rfl) | ((with_reducible apply ok_lstC); exact Nat.le_of_ble_eq_true rfl) | (with_reducible apply ok_e2) | (with_reducible apply ok_c) | (with_reducible apply ok_cons) | (with_reducible apply ok_nil) | (with_reducible apply ok_ofL) | (with_reducible apply ok_call) | (with_reducible apply ok_meth) | (with_reducible apply ok_bV) | (with_reducible apply ok_bNot) | (with_reducible apply ok_bAnd) | (with_reducible apply ok_bOr) | (with_reducible apply ok_eAnd) | (with_reducible apply ok_eOr) | (with_reducible apply ok_eNot) | (with_reducible apply ok_eIf) | (with_reducible apply ok_iVal) | (with_reducible apply ok_range) | (with_reducible apply ok_range2) | (with_reducible apply ok_listRange) | (with_reducible apply ok_enum) | (with_reducible apply ok_bYes) | (with_reducible apply ok_mkL) | (with_reducible apply ok_mkC) | (with_reducible apply ok_ok) | (with_reducible apply ok_addI) | (with_reducible apply ok_gtI) | (with_reducible apply ok_geI) | (with_reducible apply ok_ltI) | (with_reducible apply ok_leI) | (with_reducible apply ok_leS) | (with_reducible apply ok_eqI) | (with_reducible apply ok_neI) | (with_reducible apply ok_eqS) | (with_reducible apply ok_neS) | (with_reducible apply ok_int) | (with_reducible apply ok_lenL) | (with_reducible apply ok_lenT) | (with_reducible apply ok_tupOfL) | (with_reducible apply ok_tupOfT) | (with_reducible apply bl_mk) | (with_reducible apply it_lst) | (with_reducible apply it_tup) | (with_reducible apply it_rls) | (with_reducible apply en_lst) | (with_reducible apply en_tup) | (with_reducible apply rt_seqOf) | (with_reducible apply nx_seqOf) | (with_reducible apply rt_of) | (with_reducible apply nx_of) | (with_reducible apply nx_nx) | (with_reducible apply rt_rt) | (with_reducible apply nx_nil) | (with_reducible apply rt_seqNil) | (with_reducible apply nx_asg) | (with_reducible apply ok_isNN))
    refine ok_addL (by simp; unfold lim; omega) ?_
    repeat (first | ((with_reducible apply ok_var); exact rfl) | ((with_reducible apply ok_calls); exact rfl) | ((with_reducible apply ok_tupL); exact Nat.le_of_ble_eq_true rfl) | ((with_reducible apply ok_lstL); exact Nat.le_of_ble_eq_true rfl) | ((with_reducible apply ok_lstC); exact Nat.le_of_ble_eq_true rfl) | (with_reducible apply ok_e2) | (with_reducible apply ok_c) | (with_reducible apply ok_cons) | (with_reducible apply ok_nil) | (with_reducible apply ok_ofL) | (with_reducible apply ok_call) | (with_reducible apply ok_meth) | (with_reducible apply ok_bV) | (with_reducible apply ok_bNot) | (with_reducible apply ok_bAnd) | (with_reducible apply ok_bOr) | (with_reducible apply ok_eAnd) | (with_reducible apply ok_eOr) | (with_reducible apply ok_eNot) | (with_reducible apply ok_eIf) | (with_reducible apply ok_iVal) | (with_reducible apply ok_range) | (with_reducible apply ok_range2) | (with_reducible apply ok_listRange) | (with_reducible apply ok_enum) | (with_reducible apply ok_bYes) | (with_reducible apply ok_mkL) | (with_reducible apply ok_mkC) | (with_reducible apply ok_ok) | (with_reducible apply ok_addI) | (with_reducible apply ok_gtI) | (with_reducible apply ok_geI) | (with_reducible apply ok_ltI) | (with_reducible apply ok_leI) | (with_reducible apply ok_leS) | (with_reducible apply ok_eqI) | (with_reducible apply ok_neI) | (with_reducible apply ok_eqS) | (with_reducible apply ok_neS) | (with_reducible apply ok_int) | (with_reducible apply ok_lenL) | (with_reducible apply ok_lenT) | (with_reducible apply ok_tupOfL) | (with_reducible apply ok_tupOfT) | (with_reducible apply bl_mk) | (with_reducible apply it_lst) | (with_reducible apply it_tup) | (with_reducible apply it_rls) | (with_reducible apply en_lst) | (with_reducible apply en_tup) | (with_reducible apply rt_seqOf) | (with_reducible apply nx_seqOf) | (with_reducible apply rt_of) | (with_reducible apply nx_of) | (with_reducible apply nx_nx) | (with_reducible apply rt_rt) | (with_reducible apply nx_nil) | (with_reducible apply rt_seqNil) | (with_reducible apply nx_asg) | (with_reducible apply ok_isNN))
    refine h _ _ _ ?_ ?_ (hs4.mono (by omega))
    · intro t ht
      rcases List.mem_append.mp ht with q | q
      · rw [List.mem_singleton.mp q]
        refine ⟨st, _, rfl, hst, by simp, fun c hc => ?_⟩
        rw [List.mem_singleton.mp hc]
        exact ⟨g, .int (4 + e), [u], rfl, g0, by omega, .inr ⟨_, rfl, by omega, by omega⟩, by simp, by simp, by simpa using hum, by simp; omega⟩
      · exact hcl t q
    · simp; omega
  · repeat (first | ((with_reducible apply ok_var); exact rfl) | ((with_reducible apply ok_calls); exact rfl) | ((with_reducible apply ok_tupL); exact Nat.le_of_ble_eq_true rfl) | ((with_reducible apply ok_lstL); exact Nat.le_of_ble_eq_true rfl) | ((with_reducible apply ok_lstC); exact Nat.le_of_ble_eq_true rfl) | (with_reducible apply ok_e2) | (with_reducible apply ok_c) | (with_reducible apply ok_cons) | (with_reducible apply ok_nil) | (with_reducible apply ok_ofL) | (with_reducible apply ok_call) | (with_reducible apply ok_meth) | (with_reducible apply ok_bV) | (with_reducible apply ok_bNot) | (with_reducible apply ok_bAnd) | (with_reducible apply ok_bOr) | (with_reducible apply ok_eAnd) | (with_reducible apply ok_eOr) | (with_reducible apply ok_eNot) | (with_reducible apply ok_eIf) | (with_reducible apply ok_iVal) | (with_reducible apply ok_range) | (with_reducible apply ok_range2) | (with_reducible apply ok_listRange) | (with_reducible apply ok_enum) | (with_reducible apply ok_bYes) | (with_reducible apply ok_mkL) | (with_reducible apply ok_mkC) | (with_reducible apply ok_ok) | (with_reducible apply ok_addI) | (with_reducible apply ok_gtI) | (with_reducible apply ok_geI) | (with_reducible apply ok_ltI) | (with_reducible apply ok_leI) | (with_reducible apply ok_leS) | (with_reducible apply ok_eqI) | (with_reducible apply ok_neI) | (with_reducible apply ok_eqS) | (with_reducible apply ok_neS) | (with_reducible apply ok_int) | (with_reducible apply ok_lenL) | (with_reducible apply ok_lenT) | (with_reducible apply ok_tupOfL) | (with_reducible apply ok_tupOfT) | (with_reducible apply bl_mk) | (with_reducible apply it_lst) | (with_reducible apply it_tup) | (with_reducible apply it_rls) | (with_reducible apply en_lst) | (with_reducible apply en_tup) | (with_reducible apply rt_seqOf) | (with_reducible apply nx_seqOf) | (with_reducible apply rt_of) | (with_reducible apply nx_of) | (with_reducible apply nx_nx) | (with_reducible apply rt_rt) | (with_reducible apply nx_nil) | (with_reducible apply rt_seqNil) | (with_reducible apply nx_asg) | (with_reducible apply ok_isNN))
    exact h _ _ _ hcl (by omega) (hs1.mono (by omega))
end M

namespace M
open PySem hiding Env
open L2 Ev G
abbrev kT (hand parts : List Str) (cl : List Clause) (l : Str) : T := kindT ((sortS hand).map T.str) ((sortS parts).map T.str) (cl.map Clause.srt) (.str l)
abbrev rT (hand parts : List Str) (cl : List Clause) (l : Str) : T := .tup [rowT hand, rowT parts, .lst (cl.map Clause.t), .str l]
theorem law_lists {s : T} {xs hand parts : List Str} {cl : List Clause} {l : Str} {m : Mem} {c : Nat} {w7 w8 : Option T} {PE : Env → Mem → Prop} (hx : xs.length ≤ 4) (hg : ∀ x ∈ xs, Good x) (hc10 : cl.length ≤ 10) (hd : ∀ c ∈ cl, c.cs.length ≤ 10) (hs : Src m 0 c) (hc : c + 20000 < 900000)
    (h : ∀ w11 w12 m', Src m' 0 (c + 10000) → PE [some s, some (.loc 0), some (rowT xs), some (rowT hand), some (rowT parts), some (.lst (cl.map Clause.t)), some (.str l), w7, w8, some (rT hand parts cl l), some (kT hand parts cl l), w11, w12, none, none] m') :
    Nx (sFor (iVal (eCall 2 F__law_lists (lCons (e2 (gAdd false) (eOfL (gSorted false) (lCons (eVar 2) lNil)) (eOfL (gLstL false) (lCons (eC (.str "zzzzzz")) lNil))) (lCons (eC (.int 4)) lNil)))) (gN 11) (sSeq (sOf (eComp false [14] (iVal (eCall 2 F__law_order (lCons (eVar 1) (lCons (eOfL gLen (lCons (eVar 11) lNil)) lNil)))) (gN 14) bYes (e2 gIx (eVar 11) (eVar 14))) fun t env m => .nx (env.set 12 (some t)) m)
    (sIf (bOr (bV (e2 gNe (eMethO "Kind" "counting" 2 F_Kind_counting (eVar 10) (lCons (eVar 12) lNil)) (eCall 2 F__law_index (lCons (eVar 9) (lCons (eVar 11) lNil))))) (bV (e2 gNe (eMethO "Kind" "told" 2 F_Kind_told (eVar 10) (lCons (eOfL gTuple (lCons (eVar 12) lNil)) lNil)) (eCall 2 F__law_told (lCons (eVar 9) (lCons (eVar 11) lNil)))))) (sOf (eC (.bl false)) fun t _ m => .rt t m) sNil))
      [some s, some (.loc 0), some (rowT xs), some (rowT hand), some (rowT parts), some (.lst (cl.map Clause.t)), some (.str l), w7, w8, some (rT hand parts cl l), some (kT hand parts cl l), none, none, none, none] m) PE := by
  have hsl : (sortS xs).length = xs.length := (sortS_perm xs).length_eq
  have hzg : ∀ x ∈ sortS xs ++ [("zzzzzz" : Str)], Good x := by
    intro x hxx
    rcases List.mem_append.mp hxx with q | q
    · exact hg x ((sortS_perm xs).mem_iff.mp q)
    · rw [List.mem_singleton.mp q]; exact good_z6
  refine nx_for (fun p env m2 => ∃ w11 w12, env = [some s, some (.loc 0), some (rowT xs), some (rowT hand), some (rowT parts), some (.lst (cl.map Clause.t)), some (.str l), w7, w8, some (rT hand parts cl l), some (kT hand parts cl l), w11, w12, none, none] ∧ Src m2 0 (c + 4 * p.length)) ?_
  repeat (first | ((with_reducible apply ok_var); exact rfl) | ((with_reducible apply ok_calls); exact rfl) | ((with_reducible apply ok_tupL); exact Nat.le_of_ble_eq_true rfl) | ((with_reducible apply ok_lstL); exact Nat.le_of_ble_eq_true rfl) | ((with_reducible apply ok_lstC); exact Nat.le_of_ble_eq_true rfl) | (with_reducible apply ok_e2) | (with_reducible apply ok_c) | (with_reducible apply ok_cons) | (with_reducible apply ok_nil) | (with_reducible apply ok_ofL) | (with_reducible apply ok_call) | (with_reducible apply ok_meth) | (with_reducible apply ok_bV) | (with_reducible apply ok_bNot) | (with_reducible apply ok_bAnd) | (with_reducible apply ok_bOr) | (with_reducible apply ok_eAnd) | (with_reducible apply ok_eOr) | (with_reducible apply ok_eNot) | (with_reducible apply ok_eIf) | (with_reducible apply ok_iVal) | (with_reducible apply ok_range) | (with_reducible apply ok_range2) | (with_reducible apply ok_listRange) | (with_reducible apply ok_enum) | (with_reducible apply ok_bYes) | (with_reducible apply ok_mkL) | (with_reducible apply ok_mkC) | (with_reducible apply ok_ok) | (with_reducible apply ok_addI) | (with_reducible apply ok_gtI) | (with_reducible apply ok_geI) | (with_reducible apply ok_ltI) | (with_reducible apply ok_leI) | (with_reducible apply ok_leS) | (with_reducible apply ok_eqI) | (with_reducible apply ok_neI) | (with_reducible apply ok_eqS) | (with_reducible apply ok_neS) | (with_reducible apply ok_int) | (with_reducible apply ok_lenL) | (with_reducible apply ok_lenT) | (with_reducible apply ok_tupOfL) | (with_reducible apply ok_tupOfT) | (with_reducible apply bl_mk) | (with_reducible apply it_lst) | (with_reducible apply it_tup) | (with_reducible apply it_rls) | (with_reducible apply en_lst) | (with_reducible apply en_tup) | (with_reducible apply rt_seqOf) | (with_reducible apply nx_seqOf) | (with_reducible apply rt_of) | (with_reducible apply nx_of) | (with_reducible apply nx_nx) | (with_reducible apply rt_rt) | (with_reducible apply nx_nil) | (with_reducible apply rt_seqNil) | (with_reducible apply nx_asg) | (with_reducible apply ok_isNN))
  refine ok_sorted (xs := xs) rfl (by unfold lim; omega) ?_
  repeat (first | ((with_reducible apply ok_var); exact rfl) | ((with_reducible apply ok_calls); exact rfl) | ((with_reducible apply ok_tupL); exact Nat.le_of_ble_eq_true rfl) | ((with_reducible apply ok_lstL); exact Nat.le_of_ble_eq_true rfl) | ((with_reducible apply ok_lstC); exact Nat.le_of_ble_eq_true rfl) | (with_reducible apply ok_e2) | (with_reducible apply ok_c) | (with_reducible apply ok_cons) | (with_reducible apply ok_nil) | (with_reducible apply ok_ofL) | (with_reducible apply ok_call) | (with_reducible apply ok_meth) | (with_reducible apply ok_bV) | (with_reducible apply ok_bNot) | (with_reducible apply ok_bAnd) | (with_reducible apply ok_bOr) | (with_reducible apply ok_eAnd) | (with_reducible apply ok_eOr) | (with_reducible apply ok_eNot) | (with_reducible apply ok_eIf) | (with_reducible apply ok_iVal) | (with_reducible apply ok_range) | (with_reducible apply ok_range2) | (with_reducible apply ok_listRange) | (with_reducible apply ok_enum) | (with_reducible apply ok_bYes) | (with_reducible apply ok_mkL) | (with_reducible apply ok_mkC) | (with_reducible apply ok_ok) | (with_reducible apply ok_addI) | (with_reducible apply ok_gtI) | (with_reducible apply ok_geI) | (with_reducible apply ok_ltI) | (with_reducible apply ok_leI) | (with_reducible apply ok_leS) | (with_reducible apply ok_eqI) | (with_reducible apply ok_neI) | (with_reducible apply ok_eqS) | (with_reducible apply ok_neS) | (with_reducible apply ok_int) | (with_reducible apply ok_lenL) | (with_reducible apply ok_lenT) | (with_reducible apply ok_tupOfL) | (with_reducible apply ok_tupOfT) | (with_reducible apply bl_mk) | (with_reducible apply it_lst) | (with_reducible apply it_tup) | (with_reducible apply it_rls) | (with_reducible apply en_lst) | (with_reducible apply en_tup) | (with_reducible apply rt_seqOf) | (with_reducible apply nx_seqOf) | (with_reducible apply rt_of) | (with_reducible apply nx_of) | (with_reducible apply nx_nx) | (with_reducible apply rt_rt) | (with_reducible apply nx_nil) | (with_reducible apply rt_seqNil) | (with_reducible apply nx_asg) | (with_reducible apply ok_isNN))
  refine ok_addL (by simp; unfold lim; omega) ?_
  repeat (first | ((with_reducible apply ok_var); exact rfl) | ((with_reducible apply ok_calls); exact rfl) | ((with_reducible apply ok_tupL); exact Nat.le_of_ble_eq_true rfl) | ((with_reducible apply ok_lstL); exact Nat.le_of_ble_eq_true rfl) | ((with_reducible apply ok_lstC); exact Nat.le_of_ble_eq_true rfl) | (with_reducible apply ok_e2) | (with_reducible apply ok_c) | (with_reducible apply ok_cons) | (with_reducible apply ok_nil) | (with_reducible apply ok_ofL) | (with_reducible apply ok_call) | (with_reducible apply ok_meth) | (with_reducible apply ok_bV) | (with_reducible apply ok_bNot) | (with_reducible apply ok_bAnd) | (with_reducible apply ok_bOr) | (with_reducible apply ok_eAnd) | (with_reducible apply ok_eOr) | (with_reducible apply ok_eNot) | (with_reducible apply ok_eIf) | (with_reducible apply ok_iVal) | (with_reducible apply ok_range) | (with_reducible apply ok_range2) | (with_reducible apply ok_listRange) | (with_reducible apply ok_enum) | (with_reducible apply ok_bYes) | (with_reducible apply ok_mkL) | (with_reducible apply ok_mkC) | (with_reducible apply ok_ok) | (with_reducible apply ok_addI) | (with_reducible apply ok_gtI) | (with_reducible apply ok_geI) | (with_reducible apply ok_ltI) | (with_reducible apply ok_leI) | (with_reducible apply ok_leS) | (with_reducible apply ok_eqI) | (with_reducible apply ok_neI) | (with_reducible apply ok_eqS) | (with_reducible apply ok_neS) | (with_reducible apply ok_int) | (with_reducible apply ok_lenL) | (with_reducible apply ok_lenT) | (with_reducible apply ok_tupOfL) | (with_reducible apply ok_tupOfT) | (with_reducible apply bl_mk) | (with_reducible apply it_lst) | (with_reducible apply it_tup) | (with_reducible apply it_rls) | (with_reducible apply en_lst) | (with_reducible apply en_tup) | (with_reducible apply rt_seqOf) | (with_reducible apply nx_seqOf) | (with_reducible apply rt_of) | (with_reducible apply nx_of) | (with_reducible apply nx_nx) | (with_reducible apply rt_rt) | (with_reducible apply nx_nil) | (with_reducible apply rt_seqNil) | (with_reducible apply nx_asg) | (with_reducible apply ok_isNN))
  have e : (sortS xs).map T.str ++ [T.str "zzzzzz"] = (sortS xs ++ [("zzzzzz" : Str)]).map T.str := by rw [List.map_append]; rfl
  rw [e]
  refine lists_ok hzg (by simp; omega) fun rows m1 hr hrl ha => it_lst ⟨⟨_, _, rfl, ha.src hs⟩, ?_, ?_⟩
  · rintro p t q env m2 hp ⟨w11, w12, rfl, hs2⟩
    obtain ⟨xp, z, xq, hz, rfl, rfl, rfl⟩ := split_map hp
    have hzm : z ∈ rows := by rw [hz]; simp
    have hzl := hr.len z hzm
    have hxp : xp.length < rows.length := by rw [hz]; simp
    rw [List.length_map] at hs2
    refine ⟨_, rfl, ?_⟩
    try simp only [List.map_cons, List.map_nil, List.cons_append, List.nil_append, List.length_cons, List.length_nil, Nat.reduceAdd, Nat.reduceSub, List.replicate_succ, List.replicate_zero, List.set_cons_succ, List.set_cons_zero]
    refine nx_seqOf (mixed_ok (ts := z.map T.str) rfl (by simp [wipeE]) (by decide) (by simp; omega) ?_)
    repeat (first | ((with_reducible apply ok_var); exact rfl) | ((with_reducible apply ok_calls); exact rfl) | ((with_reducible apply ok_tupL); exact Nat.le_of_ble_eq_true rfl) | ((with_reducible apply ok_lstL); exact Nat.le_of_ble_eq_true rfl) | ((with_reducible apply ok_lstC); exact Nat.le_of_ble_eq_true rfl) | (with_reducible apply ok_e2) | (with_reducible apply ok_c) | (with_reducible apply ok_cons) | (with_reducible apply ok_nil) | (with_reducible apply ok_ofL) | (with_reducible apply ok_call) | (with_reducible apply ok_meth) | (with_reducible apply ok_bV) | (with_reducible apply ok_bNot) | (with_reducible apply ok_bAnd) | (with_reducible apply ok_bOr) | (with_reducible apply ok_eAnd) | (with_reducible apply ok_eOr) | (with_reducible apply ok_eNot) | (with_reducible apply ok_eIf) | (with_reducible apply ok_iVal) | (with_reducible apply ok_range) | (with_reducible apply ok_range2) | (with_reducible apply ok_listRange) | (with_reducible apply ok_enum) | (with_reducible apply ok_bYes) | (with_reducible apply ok_mkL) | (with_reducible apply ok_mkC) | (with_reducible apply ok_ok) | (with_reducible apply ok_addI) | (with_reducible apply ok_gtI) | (with_reducible apply ok_geI) | (with_reducible apply ok_ltI) | (with_reducible apply ok_leI) | (with_reducible apply ok_leS) | (with_reducible apply ok_eqI) | (with_reducible apply ok_neI) | (with_reducible apply ok_eqS) | (with_reducible apply ok_neS) | (with_reducible apply ok_int) | (with_reducible apply ok_lenL) | (with_reducible apply ok_lenT) | (with_reducible apply ok_tupOfL) | (with_reducible apply ok_tupOfT) | (with_reducible apply bl_mk) | (with_reducible apply it_lst) | (with_reducible apply it_tup) | (with_reducible apply it_rls) | (with_reducible apply en_lst) | (with_reducible apply en_tup) | (with_reducible apply rt_seqOf) | (with_reducible apply nx_seqOf) | (with_reducible apply rt_of) | (with_reducible apply nx_of) | (with_reducible apply nx_nx) | (with_reducible apply rt_rt) | (with_reducible apply nx_nil) | (with_reducible apply rt_seqNil) | (with_reducible apply nx_asg) | (with_reducible apply ok_isNN))
    refine order_ok hs2 (by rw [List.length_map]; omega) (by rw [List.length_map]; omega) fun zs m3 hpz hs3 hf3 => ?_
    repeat (first | ((with_reducible apply ok_var); exact rfl) | ((with_reducible apply ok_calls); exact rfl) | ((with_reducible apply ok_tupL); exact Nat.le_of_ble_eq_true rfl) | ((with_reducible apply ok_lstL); exact Nat.le_of_ble_eq_true rfl) | ((with_reducible apply ok_lstC); exact Nat.le_of_ble_eq_true rfl) | (with_reducible apply ok_e2) | (with_reducible apply ok_c) | (with_reducible apply ok_cons) | (with_reducible apply ok_nil) | (with_reducible apply ok_ofL) | (with_reducible apply ok_call) | (with_reducible apply ok_meth) | (with_reducible apply ok_bV) | (with_reducible apply ok_bNot) | (with_reducible apply ok_bAnd) | (with_reducible apply ok_bOr) | (with_reducible apply ok_eAnd) | (with_reducible apply ok_eOr) | (with_reducible apply ok_eNot) | (with_reducible apply ok_eIf) | (with_reducible apply ok_iVal) | (with_reducible apply ok_range) | (with_reducible apply ok_range2) | (with_reducible apply ok_listRange) | (with_reducible apply ok_enum) | (with_reducible apply ok_bYes) | (with_reducible apply ok_mkL) | (with_reducible apply ok_mkC) | (with_reducible apply ok_ok) | (with_reducible apply ok_addI) | (with_reducible apply ok_gtI) | (with_reducible apply ok_geI) | (with_reducible apply ok_ltI) | (with_reducible apply ok_leI) | (with_reducible apply ok_leS) | (with_reducible apply ok_eqI) | (with_reducible apply ok_neI) | (with_reducible apply ok_eqS) | (with_reducible apply ok_neS) | (with_reducible apply ok_int) | (with_reducible apply ok_lenL) | (with_reducible apply ok_lenT) | (with_reducible apply ok_tupOfL) | (with_reducible apply ok_tupOfT) | (with_reducible apply bl_mk) | (with_reducible apply it_lst) | (with_reducible apply it_tup) | (with_reducible apply it_rls) | (with_reducible apply en_lst) | (with_reducible apply en_tup) | (with_reducible apply rt_seqOf) | (with_reducible apply nx_seqOf) | (with_reducible apply rt_of) | (with_reducible apply nx_of) | (with_reducible apply nx_nx) | (with_reducible apply rt_rt) | (with_reducible apply nx_nil) | (with_reducible apply rt_seqNil) | (with_reducible apply nx_asg) | (with_reducible apply ok_isNN))
    refine ⟨hpz, fun us hu => ?_⟩
    obtain ⟨st, rfl, hst⟩ := perm_strs hu
    refine nx_nx ?_
    try simp only [List.map_cons, List.map_nil, List.cons_append, List.nil_append, List.length_cons, List.length_nil, Nat.reduceAdd, Nat.reduceSub, List.replicate_succ, List.replicate_zero, List.set_cons_succ, List.set_cons_zero]
    refine nx_if (ok_bOr (same_ok (hs := (sortS hand).map T.str) (ps := (sortS parts).map T.str) (cl := cl) (last := l) (a := rowT hand) (b := rowT parts) (zs := z) (ss := st) (st := .lst (st.map T.str)) (j := 0) rfl rfl rfl (fun _ _ => ok_var rfl) rfl hst (by omega) hc10 hd fun m4 ha4 => ?_))
    rw [if_neg (by decide)]
    refine same2_ok (hs := (sortS hand).map T.str) (ps := (sortS parts).map T.str) (cl := cl) (last := l) (a := rowT hand) (b := rowT parts) (zs := z) (ss := st) (st := .tup (st.map T.str)) (j := 0) rfl rfl rfl (fun _ _ h => ok_ofL (ok_cons (ok_var rfl (ok_nil (ok_tupOfL h))))) rfl hst (by omega) hc10 hd fun m5 ha5 => ?_
    rw [if_neg (by decide)]
    refine nx_nil ⟨_, _, rfl, ?_⟩
    refine (ha5.src (ha4.src hs3)).mono ?_
    simp; omega
  · rintro env m2 ⟨w11, w12, rfl, hs2⟩
    rw [List.length_map] at hs2
    exact h _ _ _ (hs2.mono (by omega))
theorem law_many {s : T} {xs hand parts : List Str} {cl : List Clause} {l : Str} {m : Mem} {c : Nat} {w7 w8 w11 w12 : Option T} {PE : Env → Mem → Prop} (hx0 : 0 < xs.length) (hx : xs.length ≤ 4) (hc10 : cl.length ≤ 10) (hd : ∀ c ∈ cl, c.cs.length ≤ 10) (hs : Src m 0 c) (hc : c + 20000 < 900000)
    (h : ∀ w7 w13 m', Src m' 0 (c + 1000) → PE [some s, some (.loc 0), some (rowT xs), some (rowT hand), some (rowT parts), some (.lst (cl.map Clause.t)), some (.str l), w7, w8, some (rT hand parts cl l), some (kT hand parts cl l), w11, w12, w13, none] m') :
    Nx (sFor (iRange2 (lCons (eC (.int 3)) (lCons (eC (.int 11)) lNil))) (gN 13) (sSeq (sOf (e2 (gAdd false) (e2 (gMul false) (eOfL (gLstL false) (lCons (e2 gIx (eVar 2) (eC (.int 0))) lNil)) (eVar 13)) (eComp false [14] (iRange (lCons (eCall 2 F__law_draw (lCons (eVar 1) (lCons (eC (.int 3)) lNil))) lNil)) (gN 14) bYes (eCall 2 F__law_pick (lCons (eVar 1) (lCons (eVar 2) lNil))))) fun t env m => .nx (env.set 7 (some t)) m)
    (sIf (bOr (bV (e2 gNe (eMethO "Kind" "told" 2 F_Kind_told (eVar 10) (lCons (eVar 7) lNil)) (eCall 2 F__law_told (lCons (eVar 9) (lCons (eVar 7) lNil))))) (bV (e2 gNe (eMethO "Kind" "counting" 2 F_Kind_counting (eVar 10) (lCons (eVar 7) lNil)) (eCall 2 F__law_index (lCons (eVar 9) (lCons (eVar 7) lNil)))))) (sOf (eC (.bl false)) fun t _ m => .rt t m) sNil))
      [some s, some (.loc 0), some (rowT xs), some (rowT hand), some (rowT parts), some (.lst (cl.map Clause.t)), some (.str l), w7, w8, some (rT hand parts cl l), some (kT hand parts cl l), w11, w12, none, none] m) PE := by
  have hxl : (xs.map T.str).length = xs.length := List.length_map _
  refine nx_for (fun p env m2 => ∃ w7 w13, env = [some s, some (.loc 0), some (rowT xs), some (rowT hand), some (rowT parts), some (.lst (cl.map Clause.t)), some (.str l), w7, w8, some (rT hand parts cl l), some (kT hand parts cl l), w11, w12, w13, none] ∧ Src m2 0 (c + 10 * p.length)) ?_
  repeat (first | ((with_reducible apply ok_var); exact rfl) | ((with_reducible apply ok_calls); exact rfl) | ((with_reducible apply ok_tupL); exact Nat.le_of_ble_eq_true rfl) | ((with_reducible apply ok_lstL); exact Nat.le_of_ble_eq_true rfl) | ((with_reducible apply ok_lstC); exact Nat.le_of_ble_eq_true rfl) | (with_reducible apply ok_e2) | (with_reducible apply ok_c) | (with_reducible apply ok_cons) | (with_reducible apply ok_nil) | (with_reducible apply ok_ofL) | (with_reducible apply ok_call) | (with_reducible apply ok_meth) | (with_reducible apply ok_bV) | (with_reducible apply ok_bNot) | (with_reducible apply ok_bAnd) | (with_reducible apply ok_bOr) | (with_reducible apply ok_eAnd) | (with_reducible apply ok_eOr) | (with_reducible apply ok_eNot) | (with_reducible apply ok_eIf) | (with_reducible apply ok_iVal) | (with_reducible apply ok_range) | (with_reducible apply ok_range2) | (with_reducible apply ok_listRange) | (with_reducible apply ok_enum) | (with_reducible apply ok_bYes) | (with_reducible apply ok_mkL) | (with_reducible apply ok_mkC) | (with_reducible apply ok_ok) | (with_reducible apply ok_addI) | (with_reducible apply ok_gtI) | (with_reducible apply ok_geI) | (with_reducible apply ok_ltI) | (with_reducible apply ok_leI) | (with_reducible apply ok_leS) | (with_reducible apply ok_eqI) | (with_reducible apply ok_neI) | (with_reducible apply ok_eqS) | (with_reducible apply ok_neS) | (with_reducible apply ok_int) | (with_reducible apply ok_lenL) | (with_reducible apply ok_lenT) | (with_reducible apply ok_tupOfL) | (with_reducible apply ok_tupOfT) | (with_reducible apply bl_mk) | (with_reducible apply it_lst) | (with_reducible apply it_tup) | (with_reducible apply it_rls) | (with_reducible apply en_lst) | (with_reducible apply en_tup) | (with_reducible apply rt_seqOf) | (with_reducible apply nx_seqOf) | (with_reducible apply rt_of) | (with_reducible apply nx_of) | (with_reducible apply nx_nx) | (with_reducible apply rt_rt) | (with_reducible apply nx_nil) | (with_reducible apply rt_seqNil) | (with_reducible apply nx_asg) | (with_reducible apply ok_isNN))
  have hlen : (rng 3 11).length = 8 := by decide +kernel
  refine ⟨3, 11, rfl, by decide, ⟨_, _, rfl, hs⟩, ?_, ?_⟩
  · rintro p t q env m2 hp ⟨w7, w13, rfl, hs2⟩
    have hpl := congrArg List.length hp
    rw [hlen] at hpl
    simp at hpl
    obtain ⟨k, rfl, k0, k1⟩ : ∃ k : Int, t = .int k ∧ 0 ≤ k ∧ k < 100 := by
      have : t ∈ rng 3 11 := by rw [hp]; simp
      unfold rng at this
      simp at this
      obtain ⟨i, hi, rfl⟩ := this
      exact ⟨_, rfl, by omega, by omega⟩
    refine ⟨_, rfl, ?_⟩
    try simp only [List.map_cons, List.map_nil, List.cons_append, List.nil_append, List.length_cons, List.length_nil, Nat.reduceAdd, Nat.reduceSub, List.replicate_succ, List.replicate_zero, List.set_cons_succ, List.set_cons_zero]
    repeat (first | ((with_reducible apply ok_var); exact rfl) | ((with_reducible apply ok_calls); exact rfl) | ((with_reducible apply ok_tupL); exact Nat.le_of_ble_eq_true rfl) | ((with_reducible apply ok_lstL); exact Nat.le_of_ble_eq_true rfl) | ((with_reducible apply ok_lstC); exact Nat.le_of_ble_eq_true rfl) | (with_reducible apply ok_e2) | (with_reducible apply ok_c) | (with_reducible apply ok_cons) | (with_reducible apply ok_nil) | (with_reducible apply ok_ofL) | (with_reducible apply ok_call) | (with_reducible apply ok_meth) | (with_reducible apply ok_bV) | (with_reducible apply ok_bNot) | (with_reducible apply ok_bAnd) | (with_reducible apply ok_bOr) | (with_reducible apply ok_eAnd) | (with_reducible apply ok_eOr) | (with_reducible apply ok_eNot) | (with_reducible apply ok_eIf) | (with_reducible apply ok_iVal) | (with_reducible apply ok_range) | (with_reducible apply ok_range2) | (with_reducible apply ok_listRange) | (with_reducible apply ok_enum) | (with_reducible apply ok_bYes) | (with_reducible apply ok_mkL) | (with_reducible apply ok_mkC) | (with_reducible apply ok_ok) | (with_reducible apply ok_addI) | (with_reducible apply ok_gtI) | (with_reducible apply ok_geI) | (with_reducible apply ok_ltI) | (with_reducible apply ok_leI) | (with_reducible apply ok_leS) | (with_reducible apply ok_eqI) | (with_reducible apply ok_neI) | (with_reducible apply ok_eqS) | (with_reducible apply ok_neS) | (with_reducible apply ok_int) | (with_reducible apply ok_lenL) | (with_reducible apply ok_lenT) | (with_reducible apply ok_tupOfL) | (with_reducible apply ok_tupOfT) | (with_reducible apply bl_mk) | (with_reducible apply it_lst) | (with_reducible apply it_tup) | (with_reducible apply it_rls) | (with_reducible apply en_lst) | (with_reducible apply en_tup) | (with_reducible apply rt_seqOf) | (with_reducible apply nx_seqOf) | (with_reducible apply rt_of) | (with_reducible apply nx_of) | (with_reducible apply nx_nx) | (with_reducible apply rt_rt) | (with_reducible apply nx_nil) | (with_reducible apply rt_seqNil) | (with_reducible apply nx_asg) | (with_reducible apply ok_isNN))
    obtain ⟨u, hu, _, hum⟩ := atB (ts := xs.map T.str) (i := 0) (by decide) (by omega)
    obtain ⟨x0, _, rfl⟩ := List.mem_map.mp hum
    refine ok_ixL hu ?_
    repeat (first | ((with_reducible apply ok_var); exact rfl) | ((with_reducible apply ok_calls); exact rfl) | ((with_reducible apply ok_tupL); exact Nat.le_of_ble_eq_true rfl) | ((with_reducible apply ok_lstL); exact Nat.le_of_ble_eq_true rfl) | ((with_reducible apply ok_lstC); exact Nat.le_of_ble_eq_true rfl) | (with_reducible apply ok_e2) | (with_reducible apply ok_c) | (with_reducible apply ok_cons) | (with_reducible apply ok_nil) | (with_reducible apply ok_ofL) | (with_reducible apply ok_call) | (with_reducible apply ok_meth) | (with_reducible apply ok_bV) | (with_reducible apply ok_bNot) | (with_reducible apply ok_bAnd) | (with_reducible apply ok_bOr) | (with_reducible apply ok_eAnd) | (with_reducible apply ok_eOr) | (with_reducible apply ok_eNot) | (with_reducible apply ok_eIf) | (with_reducible apply ok_iVal) | (with_reducible apply ok_range) | (with_reducible apply ok_range2) | (with_reducible apply ok_listRange) | (with_reducible apply ok_enum) | (with_reducible apply ok_bYes) | (with_reducible apply ok_mkL) | (with_reducible apply ok_mkC) | (with_reducible apply ok_ok) | (with_reducible apply ok_addI) | (with_reducible apply ok_gtI) | (with_reducible apply ok_geI) | (with_reducible apply ok_ltI) | (with_reducible apply ok_leI) | (with_reducible apply ok_leS) | (with_reducible apply ok_eqI) | (with_reducible apply ok_neI) | (with_reducible apply ok_eqS) | (with_reducible apply ok_neS) | (with_reducible apply ok_int) | (with_reducible apply ok_lenL) | (with_reducible apply ok_lenT) | (with_reducible apply ok_tupOfL) | (with_reducible apply ok_tupOfT) | (with_reducible apply bl_mk) | (with_reducible apply it_lst) | (with_reducible apply it_tup) | (with_reducible apply it_rls) | (with_reducible apply en_lst) | (with_reducible apply en_tup) | (with_reducible apply rt_seqOf) | (with_reducible apply nx_seqOf) | (with_reducible apply rt_of) | (with_reducible apply nx_of) | (with_reducible apply nx_nx) | (with_reducible apply rt_rt) | (with_reducible apply nx_nil) | (with_reducible apply rt_seqNil) | (with_reducible apply nx_asg) | (with_reducible apply ok_isNN))
    refine ok_mulL ?_ ?_
    · rw [small_of k0 (by omega)]
      simp; unfold lim; omega
    rw [rep_strs]
    refine picks_ok (s := 0) (c := c + 10 * p.length + 1) (xs := xs) rfl rfl (by decide) (by decide) hx0 (by omega) ?_
    repeat (first | ((with_reducible apply ok_var); exact rfl) | ((with_reducible apply ok_calls); exact rfl) | ((with_reducible apply ok_tupL); exact Nat.le_of_ble_eq_true rfl) | ((with_reducible apply ok_lstL); exact Nat.le_of_ble_eq_true rfl) | ((with_reducible apply ok_lstC); exact Nat.le_of_ble_eq_true rfl) | (with_reducible apply ok_e2) | (with_reducible apply ok_c) | (with_reducible apply ok_cons) | (with_reducible apply ok_nil) | (with_reducible apply ok_ofL) | (with_reducible apply ok_call) | (with_reducible apply ok_meth) | (with_reducible apply ok_bV) | (with_reducible apply ok_bNot) | (with_reducible apply ok_bAnd) | (with_reducible apply ok_bOr) | (with_reducible apply ok_eAnd) | (with_reducible apply ok_eOr) | (with_reducible apply ok_eNot) | (with_reducible apply ok_eIf) | (with_reducible apply ok_iVal) | (with_reducible apply ok_range) | (with_reducible apply ok_range2) | (with_reducible apply ok_listRange) | (with_reducible apply ok_enum) | (with_reducible apply ok_bYes) | (with_reducible apply ok_mkL) | (with_reducible apply ok_mkC) | (with_reducible apply ok_ok) | (with_reducible apply ok_addI) | (with_reducible apply ok_gtI) | (with_reducible apply ok_geI) | (with_reducible apply ok_ltI) | (with_reducible apply ok_leI) | (with_reducible apply ok_leS) | (with_reducible apply ok_eqI) | (with_reducible apply ok_neI) | (with_reducible apply ok_eqS) | (with_reducible apply ok_neS) | (with_reducible apply ok_int) | (with_reducible apply ok_lenL) | (with_reducible apply ok_lenT) | (with_reducible apply ok_tupOfL) | (with_reducible apply ok_tupOfT) | (with_reducible apply bl_mk) | (with_reducible apply it_lst) | (with_reducible apply it_tup) | (with_reducible apply it_rls) | (with_reducible apply en_lst) | (with_reducible apply en_tup) | (with_reducible apply rt_seqOf) | (with_reducible apply nx_seqOf) | (with_reducible apply rt_of) | (with_reducible apply nx_of) | (with_reducible apply nx_nx) | (with_reducible apply rt_rt) | (with_reducible apply nx_nil) | (with_reducible apply rt_seqNil) | (with_reducible apply nx_asg) | (with_reducible apply ok_isNN))
    refine draw_ok hs2 (by omega) (by omega) (by omega) fun e m3 e0 e1 hs3 hf3 => ?_
    repeat (first | ((with_reducible apply ok_var); exact rfl) | ((with_reducible apply ok_calls); exact rfl) | ((with_reducible apply ok_tupL); exact Nat.le_of_ble_eq_true rfl) | ((with_reducible apply ok_lstL); exact Nat.le_of_ble_eq_true rfl) | ((with_reducible apply ok_lstC); exact Nat.le_of_ble_eq_true rfl) | (with_reducible apply ok_e2) | (with_reducible apply ok_c) | (with_reducible apply ok_cons) | (with_reducible apply ok_nil) | (with_reducible apply ok_ofL) | (with_reducible apply ok_call) | (with_reducible apply ok_meth) | (with_reducible apply ok_bV) | (with_reducible apply ok_bNot) | (with_reducible apply ok_bAnd) | (with_reducible apply ok_bOr) | (with_reducible apply ok_eAnd) | (with_reducible apply ok_eOr) | (with_reducible apply ok_eNot) | (with_reducible apply ok_eIf) | (with_reducible apply ok_iVal) | (with_reducible apply ok_range) | (with_reducible apply ok_range2) | (with_reducible apply ok_listRange) | (with_reducible apply ok_enum) | (with_reducible apply ok_bYes) | (with_reducible apply ok_mkL) | (with_reducible apply ok_mkC) | (with_reducible apply ok_ok) | (with_reducible apply ok_addI) | (with_reducible apply ok_gtI) | (with_reducible apply ok_geI) | (with_reducible apply ok_ltI) | (with_reducible apply ok_leI) | (with_reducible apply ok_leS) | (with_reducible apply ok_eqI) | (with_reducible apply ok_neI) | (with_reducible apply ok_eqS) | (with_reducible apply ok_neS) | (with_reducible apply ok_int) | (with_reducible apply ok_lenL) | (with_reducible apply ok_lenT) | (with_reducible apply ok_tupOfL) | (with_reducible apply ok_tupOfT) | (with_reducible apply bl_mk) | (with_reducible apply it_lst) | (with_reducible apply it_tup) | (with_reducible apply it_rls) | (with_reducible apply en_lst) | (with_reducible apply en_tup) | (with_reducible apply rt_seqOf) | (with_reducible apply nx_seqOf) | (with_reducible apply rt_of) | (with_reducible apply nx_of) | (with_reducible apply nx_nx) | (with_reducible apply rt_rt) | (with_reducible apply nx_nil) | (with_reducible apply rt_seqNil) | (with_reducible apply nx_asg) | (with_reducible apply ok_isNN))
    obtain ⟨n, rfl⟩ := Int.eq_ofNat_of_zero_le e0
    refine rg_mk (by omega) (by omega) ⟨n, rfl, by omega, by omega, hs3, fun ys m4 hyl hys hs4 hf4 => ?_⟩
    refine ok_addL (by simp; unfold lim; omega) ?_
    rw [← List.map_append]
    have hwl : (List.replicate k.toNat x0 ++ ys).length ≤ 200 := by simp; omega
    generalize List.replicate k.toNat x0 ++ ys = ws at hwl ⊢
    refine nx_nx ?_
    try simp only [List.map_cons, List.map_nil, List.cons_append, List.nil_append, List.length_cons, List.length_nil, Nat.reduceAdd, Nat.reduceSub, List.replicate_succ, List.replicate_zero, List.set_cons_succ, List.set_cons_zero]
    refine nx_if (ok_bOr (same2_ok (hs := (sortS hand).map T.str) (ps := (sortS parts).map T.str) (cl := cl) (last := l) (a := rowT hand) (b := rowT parts) (zs := ws) (ss := ws) (st := .lst (ws.map T.str)) (j := 0) rfl rfl rfl (fun _ _ => ok_var rfl) rfl (.refl _) (by omega) hc10 hd fun m5 ha5 => ?_))
    rw [if_neg (by decide)]
    refine same_ok (hs := (sortS hand).map T.str) (ps := (sortS parts).map T.str) (cl := cl) (last := l) (a := rowT hand) (b := rowT parts) (zs := ws) (ss := ws) (st := .lst (ws.map T.str)) (j := 0) rfl rfl rfl (fun _ _ => ok_var rfl) rfl (.refl _) (by omega) hc10 hd fun m6 ha6 => ?_
    rw [if_neg (by decide)]
    refine nx_nil ⟨_, _, rfl, ?_⟩
    refine (ha6.src (ha5.src hs4)).mono ?_
    simp; omega
  · rintro env m2 ⟨w7, w13, rfl, hs2⟩
    rw [hlen] at hs2
    exact h _ _ _ (hs2.mono (by omega))
end M

namespace M
open PySem hiding Env
open L2 Ev G
theorem law_ok (ns : List Int) : Ok (F_law [.rls (ns.map T.int)] []) fun t _ => t = .bl true := by
  unfold F_law B_law
  refine ok_fn ?_
  try simp only [List.map_cons, List.map_nil, List.cons_append, List.nil_append, List.length_cons, List.length_nil, Nat.reduceAdd, Nat.reduceSub, List.replicate_succ, List.replicate_zero, List.set_cons_succ, List.set_cons_zero]
  refine rt_seqOf (ok_call (ok_cons (ok_var rfl (ok_nil (ok_calls rfl (source_ok fun m1 hl1 hs1 => ?_))))))
  refine nx_nx ?_
  try simp only [List.map_cons, List.map_nil, List.cons_append, List.nil_append, List.length_cons, List.length_nil, Nat.reduceAdd, Nat.reduceSub, List.replicate_succ, List.replicate_zero, List.set_cons_succ, List.set_cons_zero]
  have hs1 : Src m1 0 0 := hs1
  show Rt (sSeq _ _ [some (.rls (ns.map T.int)), some (.loc 0), none, none, none, none, none, none, none, none, none, none, none, none, none] m1) _
  generalize T.rls (ns.map T.int) = s
  repeat (first | ((with_reducible apply ok_var); exact rfl) | ((with_reducible apply ok_calls); exact rfl) | ((with_reducible apply ok_tupL); exact Nat.le_of_ble_eq_true rfl) | ((with_reducible apply ok_lstL); exact Nat.le_of_ble_eq_true rfl) | ((with_reducible apply ok_lstC); exact Nat.le_of_ble_eq_true rfl) | (with_reducible apply ok_e2) | (with_reducible apply ok_c) | (with_reducible apply ok_cons) | (with_reducible apply ok_nil) | (with_reducible apply ok_ofL) | (with_reducible apply ok_call) | (with_reducible apply ok_meth) | (with_reducible apply ok_bV) | (with_reducible apply ok_bNot) | (with_reducible apply ok_bAnd) | (with_reducible apply ok_bOr) | (with_reducible apply ok_eAnd) | (with_reducible apply ok_eOr) | (with_reducible apply ok_eNot) | (with_reducible apply ok_eIf) | (with_reducible apply ok_iVal) | (with_reducible apply ok_range) | (with_reducible apply ok_range2) | (with_reducible apply ok_listRange) | (with_reducible apply ok_enum) | (with_reducible apply ok_bYes) | (with_reducible apply ok_mkL) | (with_reducible apply ok_mkC) | (with_reducible apply ok_ok) | (with_reducible apply ok_addI) | (with_reducible apply ok_gtI) | (with_reducible apply ok_geI) | (with_reducible apply ok_ltI) | (with_reducible apply ok_leI) | (with_reducible apply ok_leS) | (with_reducible apply ok_eqI) | (with_reducible apply ok_neI) | (with_reducible apply ok_eqS) | (with_reducible apply ok_neS) | (with_reducible apply ok_int) | (with_reducible apply ok_lenL) | (with_reducible apply ok_lenT) | (with_reducible apply ok_tupOfL) | (with_reducible apply ok_tupOfT) | (with_reducible apply bl_mk) | (with_reducible apply it_lst) | (with_reducible apply it_tup) | (with_reducible apply it_rls) | (with_reducible apply en_lst) | (with_reducible apply en_tup) | (with_reducible apply rt_seqOf) | (with_reducible apply nx_seqOf) | (with_reducible apply rt_of) | (with_reducible apply nx_of) | (with_reducible apply nx_nx) | (with_reducible apply rt_rt) | (with_reducible apply nx_nil) | (with_reducible apply rt_seqNil) | (with_reducible apply nx_asg) | (with_reducible apply ok_isNN))
  refine draw_ok hs1 (by decide) (by decide) (by decide) fun d m2 d0 d1 hs2 hf2 => ?_
  obtain ⟨n, rfl⟩ := Int.eq_ofNat_of_zero_le d0
  repeat (first | ((with_reducible apply ok_var); exact rfl) | ((with_reducible apply ok_calls); exact rfl) | ((with_reducible apply ok_tupL); exact Nat.le_of_ble_eq_true rfl) | ((with_reducible apply ok_lstL); exact Nat.le_of_ble_eq_true rfl) | ((with_reducible apply ok_lstC); exact Nat.le_of_ble_eq_true rfl) | (with_reducible apply ok_e2) | (with_reducible apply ok_c) | (with_reducible apply ok_cons) | (with_reducible apply ok_nil) | (with_reducible apply ok_ofL) | (with_reducible apply ok_call) | (with_reducible apply ok_meth) | (with_reducible apply ok_bV) | (with_reducible apply ok_bNot) | (with_reducible apply ok_bAnd) | (with_reducible apply ok_bOr) | (with_reducible apply ok_eAnd) | (with_reducible apply ok_eOr) | (with_reducible apply ok_eNot) | (with_reducible apply ok_eIf) | (with_reducible apply ok_iVal) | (with_reducible apply ok_range) | (with_reducible apply ok_range2) | (with_reducible apply ok_listRange) | (with_reducible apply ok_enum) | (with_reducible apply ok_bYes) | (with_reducible apply ok_mkL) | (with_reducible apply ok_mkC) | (with_reducible apply ok_ok) | (with_reducible apply ok_addI) | (with_reducible apply ok_gtI) | (with_reducible apply ok_geI) | (with_reducible apply ok_ltI) | (with_reducible apply ok_leI) | (with_reducible apply ok_leS) | (with_reducible apply ok_eqI) | (with_reducible apply ok_neI) | (with_reducible apply ok_eqS) | (with_reducible apply ok_neS) | (with_reducible apply ok_int) | (with_reducible apply ok_lenL) | (with_reducible apply ok_lenT) | (with_reducible apply ok_tupOfL) | (with_reducible apply ok_tupOfT) | (with_reducible apply bl_mk) | (with_reducible apply it_lst) | (with_reducible apply it_tup) | (with_reducible apply it_rls) | (with_reducible apply en_lst) | (with_reducible apply en_tup) | (with_reducible apply rt_seqOf) | (with_reducible apply nx_seqOf) | (with_reducible apply rt_of) | (with_reducible apply nx_of) | (with_reducible apply nx_nx) | (with_reducible apply rt_rt) | (with_reducible apply nx_nil) | (with_reducible apply rt_seqNil) | (with_reducible apply nx_asg) | (with_reducible apply ok_isNN))
  have e2 : (2 + (n : Int)) = ((n + 2 : Nat) : Int) := by omega
  rw [e2]
  refine names_ok hs2 (by omega) (by omega) fun xs m3 hxl hn hg hs3 hf3 => ?_
  refine nx_nx ?_
  try simp only [List.map_cons, List.map_nil, List.cons_append, List.nil_append, List.length_cons, List.length_nil, Nat.reduceAdd, Nat.reduceSub, List.replicate_succ, List.replicate_zero, List.set_cons_succ, List.set_cons_zero]
  have hs3 : Src m3 0 100 := hs3.mono (by omega)
  refine rt_seq (nx_asg ?_)
  repeat (first | ((with_reducible apply ok_var); exact rfl) | ((with_reducible apply ok_calls); exact rfl) | ((with_reducible apply ok_tupL); exact Nat.le_of_ble_eq_true rfl) | ((with_reducible apply ok_lstL); exact Nat.le_of_ble_eq_true rfl) | ((with_reducible apply ok_lstC); exact Nat.le_of_ble_eq_true rfl) | (with_reducible apply ok_e2) | (with_reducible apply ok_c) | (with_reducible apply ok_cons) | (with_reducible apply ok_nil) | (with_reducible apply ok_ofL) | (with_reducible apply ok_call) | (with_reducible apply ok_meth) | (with_reducible apply ok_bV) | (with_reducible apply ok_bNot) | (with_reducible apply ok_bAnd) | (with_reducible apply ok_bOr) | (with_reducible apply ok_eAnd) | (with_reducible apply ok_eOr) | (with_reducible apply ok_eNot) | (with_reducible apply ok_eIf) | (with_reducible apply ok_iVal) | (with_reducible apply ok_range) | (with_reducible apply ok_range2) | (with_reducible apply ok_listRange) | (with_reducible apply ok_enum) | (with_reducible apply ok_bYes) | (with_reducible apply ok_mkL) | (with_reducible apply ok_mkC) | (with_reducible apply ok_ok) | (with_reducible apply ok_addI) | (with_reducible apply ok_gtI) | (with_reducible apply ok_geI) | (with_reducible apply ok_ltI) | (with_reducible apply ok_leI) | (with_reducible apply ok_leS) | (with_reducible apply ok_eqI) | (with_reducible apply ok_neI) | (with_reducible apply ok_eqS) | (with_reducible apply ok_neS) | (with_reducible apply ok_int) | (with_reducible apply ok_lenL) | (with_reducible apply ok_lenT) | (with_reducible apply ok_tupOfL) | (with_reducible apply ok_tupOfT) | (with_reducible apply bl_mk) | (with_reducible apply it_lst) | (with_reducible apply it_tup) | (with_reducible apply it_rls) | (with_reducible apply en_lst) | (with_reducible apply en_tup) | (with_reducible apply rt_seqOf) | (with_reducible apply nx_seqOf) | (with_reducible apply rt_of) | (with_reducible apply nx_of) | (with_reducible apply nx_nx) | (with_reducible apply rt_rt) | (with_reducible apply nx_nil) | (with_reducible apply rt_seqNil) | (with_reducible apply nx_asg) | (with_reducible apply ok_isNN))
  refine rules_ok (c := 100) (ks := ["a"]) hs3 (by omega) (by omega) (by omega) (by decide) hn hg (by intro x hx; rw [List.mem_singleton.mp hx]; exact good_a) fun hand parts cls last m4 R hs4 hf4 => ?_
  obtain ⟨l, hl, rfl⟩ := List.mem_map.mp R.last
  refine ⟨_, rfl, ?_⟩
  try simp only [List.map_cons, List.map_nil, List.cons_append, List.nil_append, List.length_cons, List.length_nil, Nat.reduceAdd, Nat.reduceSub, List.replicate_succ, List.replicate_zero, List.set_cons_succ, List.set_cons_zero]
  refine rt_seq (law_wide (c := 4100) (hand := hand) (parts := parts) (by omega) (by omega) hn (few_cls R.cl (by decide)) R.few hs4 (by omega) fun cls2 w7 m5 hcl2 hcf2 hs5 => ?_)
  refine rt_seq (law_front (c := 5100) (hand := hand) (parts := parts) (by omega) (by omega) hn hcl2 hcf2 hs5 (by omega) fun cls3 w8 m6 hcl3 hcf3 hs6 => ?_)
  obtain ⟨cl, rfl, hcf⟩ := clauses_of (Nat.le_refl 4) hcl3
  rw [List.length_map] at hcf3
  have hd : ∀ c ∈ cl, c.cs.length ≤ 10 := fun c hc => by have := (hcf c hc).few; omega
  refine rt_seqOf ?_
  repeat (first | ((with_reducible apply ok_var); exact rfl) | ((with_reducible apply ok_calls); exact rfl) | ((with_reducible apply ok_tupL); exact Nat.le_of_ble_eq_true rfl) | ((with_reducible apply ok_lstL); exact Nat.le_of_ble_eq_true rfl) | ((with_reducible apply ok_lstC); exact Nat.le_of_ble_eq_true rfl) | (with_reducible apply ok_e2) | (with_reducible apply ok_c) | (with_reducible apply ok_cons) | (with_reducible apply ok_nil) | (with_reducible apply ok_ofL) | (with_reducible apply ok_call) | (with_reducible apply ok_meth) | (with_reducible apply ok_bV) | (with_reducible apply ok_bNot) | (with_reducible apply ok_bAnd) | (with_reducible apply ok_bOr) | (with_reducible apply ok_eAnd) | (with_reducible apply ok_eOr) | (with_reducible apply ok_eNot) | (with_reducible apply ok_eIf) | (with_reducible apply ok_iVal) | (with_reducible apply ok_range) | (with_reducible apply ok_range2) | (with_reducible apply ok_listRange) | (with_reducible apply ok_enum) | (with_reducible apply ok_bYes) | (with_reducible apply ok_mkL) | (with_reducible apply ok_mkC) | (with_reducible apply ok_ok) | (with_reducible apply ok_addI) | (with_reducible apply ok_gtI) | (with_reducible apply ok_geI) | (with_reducible apply ok_ltI) | (with_reducible apply ok_leI) | (with_reducible apply ok_leS) | (with_reducible apply ok_eqI) | (with_reducible apply ok_neI) | (with_reducible apply ok_eqS) | (with_reducible apply ok_neS) | (with_reducible apply ok_int) | (with_reducible apply ok_lenL) | (with_reducible apply ok_lenT) | (with_reducible apply ok_tupOfL) | (with_reducible apply ok_tupOfT) | (with_reducible apply bl_mk) | (with_reducible apply it_lst) | (with_reducible apply it_tup) | (with_reducible apply it_rls) | (with_reducible apply en_lst) | (with_reducible apply en_tup) | (with_reducible apply rt_seqOf) | (with_reducible apply nx_seqOf) | (with_reducible apply rt_of) | (with_reducible apply nx_of) | (with_reducible apply nx_nx) | (with_reducible apply rt_rt) | (with_reducible apply nx_nil) | (with_reducible apply rt_seqNil) | (with_reducible apply nx_asg) | (with_reducible apply ok_isNN))
  try simp only [List.map_cons, List.map_nil, List.cons_append, List.nil_append, List.length_cons, List.length_nil, Nat.reduceAdd, Nat.reduceSub, List.replicate_succ, List.replicate_zero, List.set_cons_succ, List.set_cons_zero]
  have names_small : ∀ c ∈ cl, ∀ d ∈ c.cs, d.names.length ≤ 1000 := by
    intro c hc d hd
    have := ((hcf c hc).cs d hd)
    have h2 := pigeon this.nd this.sub
    omega
  have hps : ∀ x ∈ parts, x ∈ [("a" : Str)] := fun x hx => R.ps.subset hx
  have K : KindOk hand parts cl l xs := {
    hl := by have := pigeon R.hn R.hs; omega
    hn := R.hn
    hg := fun x hx => hg x (R.hs x hx)
    pl := by have := R.ps.length_le; simp at this; omega
    pn := (by simp : [("a" : Str)].Nodup).sublist R.ps
    pg := fun x hx => by rw [List.mem_singleton.mp (hps x hx)]; exact good_a
    some := fun ⟨a, b⟩ => R.some a b
    xg := hg
    few := by omega
    nl := names_small
    cf := hcf
    last := hg l hl }
  refine make_ok K ?_
  repeat (first | ((with_reducible apply ok_var); exact rfl) | ((with_reducible apply ok_calls); exact rfl) | ((with_reducible apply ok_tupL); exact Nat.le_of_ble_eq_true rfl) | ((with_reducible apply ok_lstL); exact Nat.le_of_ble_eq_true rfl) | ((with_reducible apply ok_lstC); exact Nat.le_of_ble_eq_true rfl) | (with_reducible apply ok_e2) | (with_reducible apply ok_c) | (with_reducible apply ok_cons) | (with_reducible apply ok_nil) | (with_reducible apply ok_ofL) | (with_reducible apply ok_call) | (with_reducible apply ok_meth) | (with_reducible apply ok_bV) | (with_reducible apply ok_bNot) | (with_reducible apply ok_bAnd) | (with_reducible apply ok_bOr) | (with_reducible apply ok_eAnd) | (with_reducible apply ok_eOr) | (with_reducible apply ok_eNot) | (with_reducible apply ok_eIf) | (with_reducible apply ok_iVal) | (with_reducible apply ok_range) | (with_reducible apply ok_range2) | (with_reducible apply ok_listRange) | (with_reducible apply ok_enum) | (with_reducible apply ok_bYes) | (with_reducible apply ok_mkL) | (with_reducible apply ok_mkC) | (with_reducible apply ok_ok) | (with_reducible apply ok_addI) | (with_reducible apply ok_gtI) | (with_reducible apply ok_geI) | (with_reducible apply ok_ltI) | (with_reducible apply ok_leI) | (with_reducible apply ok_leS) | (with_reducible apply ok_eqI) | (with_reducible apply ok_neI) | (with_reducible apply ok_eqS) | (with_reducible apply ok_neS) | (with_reducible apply ok_int) | (with_reducible apply ok_lenL) | (with_reducible apply ok_lenT) | (with_reducible apply ok_tupOfL) | (with_reducible apply ok_tupOfT) | (with_reducible apply bl_mk) | (with_reducible apply it_lst) | (with_reducible apply it_tup) | (with_reducible apply it_rls) | (with_reducible apply en_lst) | (with_reducible apply en_tup) | (with_reducible apply rt_seqOf) | (with_reducible apply nx_seqOf) | (with_reducible apply rt_of) | (with_reducible apply nx_of) | (with_reducible apply nx_nx) | (with_reducible apply rt_rt) | (with_reducible apply nx_nil) | (with_reducible apply rt_seqNil) | (with_reducible apply nx_asg) | (with_reducible apply ok_isNN))
  refine ok_ixT at0 ?_
  repeat (first | ((with_reducible apply ok_var); exact rfl) | ((with_reducible apply ok_calls); exact rfl) | ((with_reducible apply ok_tupL); exact Nat.le_of_ble_eq_true rfl) | ((with_reducible apply ok_lstL); exact Nat.le_of_ble_eq_true rfl) | ((with_reducible apply ok_lstC); exact Nat.le_of_ble_eq_true rfl) | (with_reducible apply ok_e2) | (with_reducible apply ok_c) | (with_reducible apply ok_cons) | (with_reducible apply ok_nil) | (with_reducible apply ok_ofL) | (with_reducible apply ok_call) | (with_reducible apply ok_meth) | (with_reducible apply ok_bV) | (with_reducible apply ok_bNot) | (with_reducible apply ok_bAnd) | (with_reducible apply ok_bOr) | (with_reducible apply ok_eAnd) | (with_reducible apply ok_eOr) | (with_reducible apply ok_eNot) | (with_reducible apply ok_eIf) | (with_reducible apply ok_iVal) | (with_reducible apply ok_range) | (with_reducible apply ok_range2) | (with_reducible apply ok_listRange) | (with_reducible apply ok_enum) | (with_reducible apply ok_bYes) | (with_reducible apply ok_mkL) | (with_reducible apply ok_mkC) | (with_reducible apply ok_ok) | (with_reducible apply ok_addI) | (with_reducible apply ok_gtI) | (with_reducible apply ok_geI) | (with_reducible apply ok_ltI) | (with_reducible apply ok_leI) | (with_reducible apply ok_leS) | (with_reducible apply ok_eqI) | (with_reducible apply ok_neI) | (with_reducible apply ok_eqS) | (with_reducible apply ok_neS) | (with_reducible apply ok_int) | (with_reducible apply ok_lenL) | (with_reducible apply ok_lenT) | (with_reducible apply ok_tupOfL) | (with_reducible apply ok_tupOfT) | (with_reducible apply bl_mk) | (with_reducible apply it_lst) | (with_reducible apply it_tup) | (with_reducible apply it_rls) | (with_reducible apply en_lst) | (with_reducible apply en_tup) | (with_reducible apply rt_seqOf) | (with_reducible apply nx_seqOf) | (with_reducible apply rt_of) | (with_reducible apply nx_of) | (with_reducible apply nx_nx) | (with_reducible apply rt_rt) | (with_reducible apply nx_nil) | (with_reducible apply rt_seqNil) | (with_reducible apply nx_asg) | (with_reducible apply ok_isNN))
  refine ok_ixT at1 ?_
  repeat (first | ((with_reducible apply ok_var); exact rfl) | ((with_reducible apply ok_calls); exact rfl) | ((with_reducible apply ok_tupL); exact Nat.le_of_ble_eq_true rfl) | ((with_reducible apply ok_lstL); exact Nat.le_of_ble_eq_true rfl) | ((with_reducible apply ok_lstC); exact Nat.le_of_ble_eq_true rfl) | (with_reducible apply ok_e2) | (with_reducible apply ok_c) | (with_reducible apply ok_cons) | (with_reducible apply ok_nil) | (with_reducible apply ok_ofL) | (with_reducible apply ok_call) | (with_reducible apply ok_meth) | (with_reducible apply ok_bV) | (with_reducible apply ok_bNot) | (with_reducible apply ok_bAnd) | (with_reducible apply ok_bOr) | (with_reducible apply ok_eAnd) | (with_reducible apply ok_eOr) | (with_reducible apply ok_eNot) | (with_reducible apply ok_eIf) | (with_reducible apply ok_iVal) | (with_reducible apply ok_range) | (with_reducible apply ok_range2) | (with_reducible apply ok_listRange) | (with_reducible apply ok_enum) | (with_reducible apply ok_bYes) | (with_reducible apply ok_mkL) | (with_reducible apply ok_mkC) | (with_reducible apply ok_ok) | (with_reducible apply ok_addI) | (with_reducible apply ok_gtI) | (with_reducible apply ok_geI) | (with_reducible apply ok_ltI) | (with_reducible apply ok_leI) | (with_reducible apply ok_leS) | (with_reducible apply ok_eqI) | (with_reducible apply ok_neI) | (with_reducible apply ok_eqS) | (with_reducible apply ok_neS) | (with_reducible apply ok_int) | (with_reducible apply ok_lenL) | (with_reducible apply ok_lenT) | (with_reducible apply ok_tupOfL) | (with_reducible apply ok_tupOfT) | (with_reducible apply bl_mk) | (with_reducible apply it_lst) | (with_reducible apply it_tup) | (with_reducible apply it_rls) | (with_reducible apply en_lst) | (with_reducible apply en_tup) | (with_reducible apply rt_seqOf) | (with_reducible apply nx_seqOf) | (with_reducible apply rt_of) | (with_reducible apply nx_of) | (with_reducible apply nx_nx) | (with_reducible apply rt_rt) | (with_reducible apply nx_nil) | (with_reducible apply rt_seqNil) | (with_reducible apply nx_asg) | (with_reducible apply ok_isNN))
  refine ok_ixT at2 ?_
  repeat (first | ((with_reducible apply ok_var); exact rfl) | ((with_reducible apply ok_calls); exact rfl) | ((with_reducible apply ok_tupL); exact Nat.le_of_ble_eq_true rfl) | ((with_reducible apply ok_lstL); exact Nat.le_of_ble_eq_true rfl) | ((with_reducible apply ok_lstC); exact Nat.le_of_ble_eq_true rfl) | (with_reducible apply ok_e2) | (with_reducible apply ok_c) | (with_reducible apply ok_cons) | (with_reducible apply ok_nil) | (with_reducible apply ok_ofL) | (with_reducible apply ok_call) | (with_reducible apply ok_meth) | (with_reducible apply ok_bV) | (with_reducible apply ok_bNot) | (with_reducible apply ok_bAnd) | (with_reducible apply ok_bOr) | (with_reducible apply ok_eAnd) | (with_reducible apply ok_eOr) | (with_reducible apply ok_eNot) | (with_reducible apply ok_eIf) | (with_reducible apply ok_iVal) | (with_reducible apply ok_range) | (with_reducible apply ok_range2) | (with_reducible apply ok_listRange) | (with_reducible apply ok_enum) | (with_reducible apply ok_bYes) | (with_reducible apply ok_mkL) | (with_reducible apply ok_mkC) | (with_reducible apply ok_ok) | (with_reducible apply ok_addI) | (with_reducible apply ok_gtI) | (with_reducible apply ok_geI) | (with_reducible apply ok_ltI) | (with_reducible apply ok_leI) | (with_reducible apply ok_leS) | (with_reducible apply ok_eqI) | (with_reducible apply ok_neI) | (with_reducible apply ok_eqS) | (with_reducible apply ok_neS) | (with_reducible apply ok_int) | (with_reducible apply ok_lenL) | (with_reducible apply ok_lenT) | (with_reducible apply ok_tupOfL) | (with_reducible apply ok_tupOfT) | (with_reducible apply bl_mk) | (with_reducible apply it_lst) | (with_reducible apply it_tup) | (with_reducible apply it_rls) | (with_reducible apply en_lst) | (with_reducible apply en_tup) | (with_reducible apply rt_seqOf) | (with_reducible apply nx_seqOf) | (with_reducible apply rt_of) | (with_reducible apply nx_of) | (with_reducible apply nx_nx) | (with_reducible apply rt_rt) | (with_reducible apply nx_nil) | (with_reducible apply rt_seqNil) | (with_reducible apply nx_asg) | (with_reducible apply ok_isNN))
  refine ok_ixT at3 ?_
  repeat (first | ((with_reducible apply ok_var); exact rfl) | ((with_reducible apply ok_calls); exact rfl) | ((with_reducible apply ok_tupL); exact Nat.le_of_ble_eq_true rfl) | ((with_reducible apply ok_lstL); exact Nat.le_of_ble_eq_true rfl) | ((with_reducible apply ok_lstC); exact Nat.le_of_ble_eq_true rfl) | (with_reducible apply ok_e2) | (with_reducible apply ok_c) | (with_reducible apply ok_cons) | (with_reducible apply ok_nil) | (with_reducible apply ok_ofL) | (with_reducible apply ok_call) | (with_reducible apply ok_meth) | (with_reducible apply ok_bV) | (with_reducible apply ok_bNot) | (with_reducible apply ok_bAnd) | (with_reducible apply ok_bOr) | (with_reducible apply ok_eAnd) | (with_reducible apply ok_eOr) | (with_reducible apply ok_eNot) | (with_reducible apply ok_eIf) | (with_reducible apply ok_iVal) | (with_reducible apply ok_range) | (with_reducible apply ok_range2) | (with_reducible apply ok_listRange) | (with_reducible apply ok_enum) | (with_reducible apply ok_bYes) | (with_reducible apply ok_mkL) | (with_reducible apply ok_mkC) | (with_reducible apply ok_ok) | (with_reducible apply ok_addI) | (with_reducible apply ok_gtI) | (with_reducible apply ok_geI) | (with_reducible apply ok_ltI) | (with_reducible apply ok_leI) | (with_reducible apply ok_leS) | (with_reducible apply ok_eqI) | (with_reducible apply ok_neI) | (with_reducible apply ok_eqS) | (with_reducible apply ok_neS) | (with_reducible apply ok_int) | (with_reducible apply ok_lenL) | (with_reducible apply ok_lenT) | (with_reducible apply ok_tupOfL) | (with_reducible apply ok_tupOfT) | (with_reducible apply bl_mk) | (with_reducible apply it_lst) | (with_reducible apply it_tup) | (with_reducible apply it_rls) | (with_reducible apply en_lst) | (with_reducible apply en_tup) | (with_reducible apply rt_seqOf) | (with_reducible apply nx_seqOf) | (with_reducible apply rt_of) | (with_reducible apply nx_of) | (with_reducible apply nx_nx) | (with_reducible apply rt_rt) | (with_reducible apply nx_nil) | (with_reducible apply rt_seqNil) | (with_reducible apply nx_asg) | (with_reducible apply ok_isNN))
  refine ⟨rfl, fun m7 ha7 => ?_⟩
  refine nx_nx ?_
  try simp only [List.map_cons, List.map_nil, List.cons_append, List.nil_append, List.length_cons, List.length_nil, Nat.reduceAdd, Nat.reduceSub, List.replicate_succ, List.replicate_zero, List.set_cons_succ, List.set_cons_zero]
  have hs7 := ha7.src hs6
  refine rt_seq (law_lists (c := 5110) (hand := hand) (parts := parts) (cl := cl) (l := l) (by omega) hg (by omega) hd hs7 (by omega) fun w11 w12 m8 hs8 => ?_)
  refine rt_seq (law_many (c := 15110) (hand := hand) (parts := parts) (cl := cl) (l := l) (by omega) (by omega) (by omega) hd hs8 (by omega) fun w7' w13 m9 hs9 => ?_)
  refine rt_seqOf (picks_ok (s := 0) (c := 16110) (xs := xs) rfl rfl (by decide) (by decide) (by omega) (by omega) ?_)
  repeat (first | ((with_reducible apply ok_var); exact rfl) | ((with_reducible apply ok_calls); exact rfl) | ((with_reducible apply ok_tupL); exact Nat.le_of_ble_eq_true rfl) | ((with_reducible apply ok_lstL); exact Nat.le_of_ble_eq_true rfl) | ((with_reducible apply ok_lstC); exact Nat.le_of_ble_eq_true rfl) | (with_reducible apply ok_e2) | (with_reducible apply ok_c) | (with_reducible apply ok_cons) | (with_reducible apply ok_nil) | (with_reducible apply ok_ofL) | (with_reducible apply ok_call) | (with_reducible apply ok_meth) | (with_reducible apply ok_bV) | (with_reducible apply ok_bNot) | (with_reducible apply ok_bAnd) | (with_reducible apply ok_bOr) | (with_reducible apply ok_eAnd) | (with_reducible apply ok_eOr) | (with_reducible apply ok_eNot) | (with_reducible apply ok_eIf) | (with_reducible apply ok_iVal) | (with_reducible apply ok_range) | (with_reducible apply ok_range2) | (with_reducible apply ok_listRange) | (with_reducible apply ok_enum) | (with_reducible apply ok_bYes) | (with_reducible apply ok_mkL) | (with_reducible apply ok_mkC) | (with_reducible apply ok_ok) | (with_reducible apply ok_addI) | (with_reducible apply ok_gtI) | (with_reducible apply ok_geI) | (with_reducible apply ok_ltI) | (with_reducible apply ok_leI) | (with_reducible apply ok_leS) | (with_reducible apply ok_eqI) | (with_reducible apply ok_neI) | (with_reducible apply ok_eqS) | (with_reducible apply ok_neS) | (with_reducible apply ok_int) | (with_reducible apply ok_lenL) | (with_reducible apply ok_lenT) | (with_reducible apply ok_tupOfL) | (with_reducible apply ok_tupOfT) | (with_reducible apply bl_mk) | (with_reducible apply it_lst) | (with_reducible apply it_tup) | (with_reducible apply it_rls) | (with_reducible apply en_lst) | (with_reducible apply en_tup) | (with_reducible apply rt_seqOf) | (with_reducible apply nx_seqOf) | (with_reducible apply rt_of) | (with_reducible apply nx_of) | (with_reducible apply nx_nx) | (with_reducible apply rt_rt) | (with_reducible apply nx_nil) | (with_reducible apply rt_seqNil) | (with_reducible apply nx_asg) | (with_reducible apply ok_isNN))
  refine rg_mk (by decide) (by decide) ⟨40, rfl, by decide, by decide, hs9, fun ys m10 hyl hys hs10 hf10 => ?_⟩
  refine nx_nx ?_
  try simp only [List.map_cons, List.map_nil, List.cons_append, List.nil_append, List.length_cons, List.length_nil, Nat.reduceAdd, Nat.reduceSub, List.replicate_succ, List.replicate_zero, List.set_cons_succ, List.set_cons_zero]
  have hc2 : (cl.map Clause.srt).length ≤ 10 := by rw [List.length_map]; omega
  have hd2 : ∀ c ∈ cl.map Clause.srt, c.cs.length ≤ 10 := by
    intro c hcc
    obtain ⟨d, hdd, rfl⟩ := List.mem_map.mp hcc
    show (d.cs.map Cond.srt).length ≤ 10
    rw [List.length_map]; exact hd d hdd
  refine rt_of (ok_eAnd (ok_e2 (ok_methO (ok_var rfl ⟨_, _, rfl, told_no, ok_cons (ok_var rfl (ok_nil ⟨rfl, told_ok (ss := ys) rfl (by omega) hc2 hd2 ?_⟩))⟩))))
  refine ok_call (ok_cons (ok_var rfl (ok_cons (ok_var rfl (ok_nil (ok_calls rfl (ltold_ok (by omega) (by omega) hd fun m' ha => ok_eqS (bl_mk ?_))))))))
  rw [told_same (.refl _), decide_eq_true rfl, if_pos rfl]
  refine ok_e2 (ok_methO (ok_var rfl ⟨_, _, rfl, counting_no, ok_cons (ok_var rfl (ok_nil ⟨rfl, counting_ok (ss := ys) rfl (by omega) hc2 hd2 ?_⟩))⟩))
  refine ok_call (ok_cons (ok_var rfl (ok_cons (ok_var rfl (ok_nil (ok_calls rfl (index_ok (by omega) (by omega) hd fun m' ha => ok_eqI (rt_rt ?_))))))))
  rw [idx_same (.refl _), decide_eq_true rfl]
end M
namespace G
open PySem hiding Env
open L2 Ev
theorem law_true (ns : List Int) (_ : ns.length ≤ 63) : ∃ m, F_law [.rls (ns.map T.int)] [] = .ok (.bl true) m := by
  obtain ⟨t, m, e, rfl⟩ := M.law_ok ns
  exact ⟨m, e⟩
end G

open PySem PySem.W PyProof.Rows
set_option maxRecDepth 100000 in
set_option maxHeartbeats 0 in
theorem PySem.Challenge.cw_partstold_k06_clauses_that_count_holds : PySem.Challenge.rw_partstold_k06_clauses_that_count.Holds := by
  w_on; o_law; k_head; (case hw => w_witness2)
  k_fill
  refine G.walk (l := PySem.Challenge.rw_partstold_k06_clauses_that_count) rfl rfl (fun w h Y => PySem.W.kIn_of Y) ?F
  case F =>
    intro w mg fa h KX HG hmg
    refine' G.all_mk G.law_true KX HG hmg ?aC_Kind ?pg_Kind ?hd_Kind ?po_Kind ?sa_Kind ?mk_Kind ?kc_Kind ?a_is_list ?l_is_list ?c_is_list ?k_is_list ?a_is_name ?l_is_name ?c_is_name ?k_is_name ?a_are_names ?l_are_names ?c_are_names ?k_are_names ?a_is_digit ?l_is_digit ?c_is_digit ?k_is_digit ?a_is_condition ?l_is_condition ?c_is_condition ?k_is_condition ?a_is_clause ?l_is_clause ?c_is_clause ?k_is_clause ?a_are_clauses ?l_are_clauses ?c_are_clauses ?k_are_clauses ?a_copied_clause ?l_copied_clause ?c_copied_clause ?k_copied_clause ?a_Kind___init__ ?i_Kind___init__ ?l_Kind___init__ ?c_Kind___init__ ?k_Kind___init__ ?a_holds ?l_holds ?c_holds ?k_holds ?a_Kind_counting ?i_Kind_counting ?l_Kind_counting ?c_Kind_counting ?k_Kind_counting ?a_Kind_told ?i_Kind_told ?l_Kind_told ?c_Kind_told ?k_Kind_told ?a__law_draw ?l__law_draw ?c__law_draw ?k__law_draw ?a__law_order ?l__law_order ?c__law_order ?k__law_order ?a__law_some ?l__law_some ?c__law_some ?k__law_some ?a__law_condition ?l__law_condition ?c__law_condition ?k__law_condition ?a__law_index ?l__law_index ?c__law_index ?k__law_index ?a__law_lists ?l__law_lists ?c__law_lists ?k__law_lists ?a__law_name ?l__law_name ?c__law_name ?k__law_name ?a__law_names ?l__law_names ?c__law_names ?k__law_names ?a__law_pick ?l__law_pick ?c__law_pick ?k__law_pick ?a__law_subset ?l__law_subset ?c__law_subset ?k__law_subset ?a__law_rules ?l__law_rules ?c__law_rules ?k__law_rules ?a__law_source ?l__law_source ?c__law_source ?k__law_source ?a__law_told ?l__law_told ?c__law_told ?k__law_told ?a_law ?l_law ?c_law ?k_law ?z_all ?z_bool ?z_enumerate ?z_int ?z_isinstance ?z_len ?z_list ?z_range ?z_set ?z_sorted ?z_str ?z_tuple ?v_MOST_CLAUSES ?v_MOST_CONDITIONS ?v_MOST_DIGIT ?v_MOST_LETTERS ?n_Kind_clause_row ?n_Kind_hand_states ?n_Kind_last_state ?n_Kind_part_kinds
    (case aC_Kind => k_is); (case pg_Kind => k_is); (case hd_Kind => k_is); (case po_Kind => k_is); (case sa_Kind => k_is); (case mk_Kind => k_is)
    (case kc_Kind => k_is); (case a_is_list => k_is); (case l_is_list => k_is); (case c_is_list => k_is); (case k_is_list => k_is); (case a_is_name => k_is)
    (case l_is_name => k_is); (case c_is_name => k_is); (case k_is_name => k_is); (case a_are_names => k_is); (case l_are_names => k_is); (case c_are_names => k_is)
    (case k_are_names => k_is); (case a_is_digit => k_is); (case l_is_digit => k_is); (case c_is_digit => k_is); (case k_is_digit => k_is); (case a_is_condition => k_is)
    (case l_is_condition => k_is); (case c_is_condition => k_is); (case k_is_condition => k_is); (case a_is_clause => k_is); (case l_is_clause => k_is); (case c_is_clause => k_is)
    (case k_is_clause => k_is); (case a_are_clauses => k_is); (case l_are_clauses => k_is); (case c_are_clauses => k_is); (case k_are_clauses => k_is); (case a_copied_clause => k_is)
    (case l_copied_clause => k_is); (case c_copied_clause => k_is); (case k_copied_clause => k_is); (case a_Kind___init__ => k_is); (case i_Kind___init__ => k_is); (case l_Kind___init__ => k_is)
    (case c_Kind___init__ => k_is); (case k_Kind___init__ => k_is); (case a_holds => k_is); (case l_holds => k_is); (case c_holds => k_is); (case k_holds => k_is)
    (case a_Kind_counting => k_is); (case i_Kind_counting => k_is); (case l_Kind_counting => k_is); (case c_Kind_counting => k_is); (case k_Kind_counting => k_is); (case a_Kind_told => k_is)
    (case i_Kind_told => k_is); (case l_Kind_told => k_is); (case c_Kind_told => k_is); (case k_Kind_told => k_is); (case a__law_draw => k_is); (case l__law_draw => k_is)
    (case c__law_draw => k_is); (case k__law_draw => k_is); (case a__law_order => k_is); (case l__law_order => k_is); (case c__law_order => k_is); (case k__law_order => k_is)
    (case a__law_some => k_is); (case l__law_some => k_is); (case c__law_some => k_is); (case k__law_some => k_is); (case a__law_condition => k_is); (case l__law_condition => k_is)
    (case c__law_condition => k_is); (case k__law_condition => k_is); (case a__law_index => k_is); (case l__law_index => k_is); (case c__law_index => k_is); (case k__law_index => k_is)
    (case a__law_lists => k_is); (case l__law_lists => k_is); (case c__law_lists => k_is); (case k__law_lists => k_is); (case a__law_name => k_is); (case l__law_name => k_is)
    (case c__law_name => k_is); (case k__law_name => k_is); (case a__law_names => k_is); (case l__law_names => k_is); (case c__law_names => k_is); (case k__law_names => k_is)
    (case a__law_pick => k_is); (case l__law_pick => k_is); (case c__law_pick => k_is); (case k__law_pick => k_is); (case a__law_subset => k_is); (case l__law_subset => k_is)
    (case c__law_subset => k_is); (case k__law_subset => k_is); (case a__law_rules => k_is); (case l__law_rules => k_is); (case c__law_rules => k_is); (case k__law_rules => k_is)
    (case a__law_source => k_is); (case l__law_source => k_is); (case c__law_source => k_is); (case k__law_source => k_is); (case a__law_told => k_is); (case l__law_told => k_is)
    (case c__law_told => k_is); (case k__law_told => k_is); (case a_law => k_is); (case l_law => k_is); (case c_law => k_is); (case k_law => k_is)
    (case z_all => k_is); (case z_bool => k_is); (case z_enumerate => k_is); (case z_int => k_is); (case z_isinstance => k_is); (case z_len => k_is)
    (case z_list => k_is); (case z_range => k_is); (case z_set => k_is); (case z_sorted => k_is); (case z_str => k_is); (case z_tuple => k_is)
    (case v_MOST_CLAUSES => k_is); (case v_MOST_CONDITIONS => k_is); (case v_MOST_DIGIT => k_is); (case v_MOST_LETTERS => k_is); (case n_Kind_clause_row => k_is); (case n_Kind_hand_states => k_is)
    (case n_Kind_last_state => k_is); (case n_Kind_part_kinds => k_is)
