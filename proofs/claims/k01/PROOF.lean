import PyProof.Rows.All
import Wide.All
import OpenK.AllK
import Wide.FinOn
import HandS.ForMost
import HandS.ForExc
import HandS.Wide
import HandS.IsInst
import HandS.SortInts
import HandS.RaiseMore
import HandS.EndBits
import HandS.TupAny
import HandS.TupMul
import HandS.Zip
import PyProof.TypeEq
import PyProof.ReprRoads
import PyProof.CallFns
import HandS.Walk
import KE.GoesEnum
import HandS.ExcInit
import HandS.ExcField
import PySem.Challenge.RW_enoughheard_k01_numbers_and_resiliences
set_option Elab.async false
set_option linter.all false
set_option maxRecDepth 100000
set_option maxHeartbeats 4000000
/-! # HD: a layer of data over the hand layer. Values that are never written again are plain data; lists that are still written stand in a small memory. -/
namespace HD
open PySem PySem.Spec PyProof.Rows L2

/-- the lists that are still written, by address -/
abbrev Mem := Addr → Option (List PyData)
def updM (M : Mem) (a : Addr) (ds : List PyData) : Mem := fun b => if b = a then some ds else M b
theorem updM_same {M : Mem} {a : Addr} {ds : List PyData} : updM M a ds a = some ds := by simp [updM]
theorem updM_ne {M : Mem} {a b : Addr} {ds : List PyData} (h : b ≠ a) : updM M a ds b = M b := by simp [updM, h]
theorem updM_updM {M : Mem} {a : Addr} {ds es : List PyData} : updM (updM M a ds) a es = updM M a es := by
  funext b; simp only [updM]; split <;> rfl

def StL (K : PySem.W.Frag) (H : Hp) (M : Mem) (a : Addr) (xs : List V) : Prop := (Rd H a (.lst xs) ∧ M a = none) ∨ SqL K (fun _ => none) a xs
def StT (K : PySem.W.Frag) (H : Hp) (M : Mem) (a : Addr) (xs : List V) : Prop := (Rd H a (.tup xs) ∧ M a = none) ∨ SqT K (fun _ => none) a xs
theorem noRd {a : Addr} {u : HO} : ¬ Rd (fun _ => none) a u := by
  intro h
  rcases h with h | ⟨o, h⟩
  · cases h
  · cases h
theorem StL.sq {K : PySem.W.Frag} {H : Hp} {M : Mem} {a : Addr} {xs : List V} (h : StL K H M a xs) : SqL K H a xs := by
  rcases h with ⟨h, _⟩ | h
  · exact .inl h
  · rcases h with h | h
    · exact absurd h noRd
    · exact .inr h
theorem StT.sq {K : PySem.W.Frag} {H : Hp} {M : Mem} {a : Addr} {xs : List V} (h : StT K H M a xs) : SqT K H a xs := by
  rcases h with ⟨h, _⟩ | h
  · exact .inl h
  · rcases h with h | h
    · exact absurd h noRd
    · exact .inr h

mutual
/-- v is the data d, for good -/
inductive Fz (K : PySem.W.Frag) (H : Hp) (M : Mem) : V → PyData → Prop
  | non : Fz K H M .non .none
  | bl (b : Bool) : Fz K H M (.bl b) (.bool b)
  | int (i : Int) : Fz K H M (.int i) (.int i)
  | str (x : Str) : Fz K H M (.str x) (.str x)
  | lst {a : Addr} {xs : List V} {ds : List PyData} : H a = some (.lst xs) → M a = none → FzA K H M xs ds → Fz K H M (.ref a) (.list ds)
  | tup {a : Addr} {xs : List V} {ds : List PyData} : StT K H M a xs → FzA K H M xs ds → Fz K H M (.ref a) (.tuple ds)
  | dic {a : Addr} : H a = some (.dK []) → M a = none → Fz K H M (.ref a) (.dict [])
inductive FzA (K : PySem.W.Frag) (H : Hp) (M : Mem) : List V → List PyData → Prop
  | nil : FzA K H M [] []
  | cons {v : V} {vs : List V} {d : PyData} {ds : List PyData} : Fz K H M v d → FzA K H M vs ds → FzA K H M (v :: vs) (d :: ds)
end

/-- what came about between two states: what stood for good stands -/
structure Ext (H : Hp) (M : Mem) (H' : Hp) (M' : Mem) : Prop where
  keep : ∀ a o, H a = some o → M a = none → H' a = some o
  good : ∀ a, H a ≠ none → M a = none → M' a = none
  dom : ∀ a, M a ≠ none → M' a ≠ none

theorem Ext.refl {H : Hp} {M : Mem} : Ext H M H M := ⟨fun _ _ h _ => h, fun _ _ h => h, fun _ h => h⟩
theorem Ext.trans {H H1 H2 : Hp} {M M1 M2 : Mem} (e : Ext H M H1 M1) (f : Ext H1 M1 H2 M2) : Ext H M H2 M2 :=
  ⟨fun a o h m => f.keep a o (e.keep a o h m) (e.good a (by rw [h]; simp) m),
   fun a h m => by
     cases q : H a with
     | none => exact absurd q h
     | some o => exact f.good a (by rw [e.keep a o q m]; simp) (e.good a h m),
   fun a h => f.dom a (e.dom a h)⟩

theorem Ext.rd {H H' : Hp} {M M' : Mem} {a : Addr} {u : HO} (e : Ext H M H' M') (r : Rd H a u) (m : M a = none) : Rd H' a u ∧ M' a = none := by
  rcases r with r | ⟨o, r⟩
  · exact ⟨.inl (e.keep a _ r m), e.good a (by rw [r]; simp) m⟩
  · exact ⟨.inr ⟨o, e.keep a _ r m⟩, e.good a (by rw [r]; simp) m⟩
theorem StL.ext {K : PySem.W.Frag} {H H' : Hp} {M M' : Mem} {a : Addr} {xs : List V} (e : Ext H M H' M') (h : StL K H M a xs) : StL K H' M' a xs := by
  rcases h with ⟨h, m⟩ | h
  · exact .inl (e.rd h m)
  · exact .inr h
theorem StT.ext {K : PySem.W.Frag} {H H' : Hp} {M M' : Mem} {a : Addr} {xs : List V} (e : Ext H M H' M') (h : StT K H M a xs) : StT K H' M' a xs := by
  rcases h with ⟨h, m⟩ | h
  · exact .inl (e.rd h m)
  · exact .inr h

mutual
theorem Fz.ext {K : PySem.W.Frag} {H H' : Hp} {M M' : Mem} (e : Ext H M H' M') : ∀ {v : V} {d : PyData}, Fz K H M v d → Fz K H' M' v d
  | _, _, .non => .non
  | _, _, .bl b => .bl b
  | _, _, .int i => .int i
  | _, _, .str x => .str x
  | _, _, .lst h m r => .lst (e.keep _ _ h m) (e.good _ (by rw [h]; simp) m) (FzA.ext e r)
  | _, _, .tup h r => .tup (h.ext e) (FzA.ext e r)
  | _, _, .dic h m => .dic (e.keep _ _ h m) (e.good _ (by rw [h]; simp) m)
theorem FzA.ext {K : PySem.W.Frag} {H H' : Hp} {M M' : Mem} (e : Ext H M H' M') : ∀ {vs : List V} {ds : List PyData}, FzA K H M vs ds → FzA K H' M' vs ds
  | _, _, .nil => .nil
  | _, _, .cons h r => .cons (Fz.ext e h) (FzA.ext e r)
end

theorem FzA.length {K : PySem.W.Frag} {H : Hp} {M : Mem} : ∀ {vs : List V} {ds : List PyData}, FzA K H M vs ds → vs.length = ds.length
  | _, _, .nil => rfl
  | _, _, .cons _ r => by simp [FzA.length r]
theorem FzA.get {K : PySem.W.Frag} {H : Hp} {M : Mem} : ∀ {vs : List V} {ds : List PyData} {i : Nat} {d : PyData}, FzA K H M vs ds → ds[i]? = some d → ∃ v, vs[i]? = some v ∧ Fz K H M v d
  | _, _, _, _, .nil, h => by simp at h
  | _, _, 0, _, .cons h _, e => by simp at e; subst e; exact ⟨_, rfl, h⟩
  | _, _, i + 1, _, .cons _ r, e => by
    obtain ⟨v, h1, h2⟩ := FzA.get (i := i) r (by simpa using e)
    exact ⟨v, by simpa using h1, h2⟩
theorem FzA.getV {K : PySem.W.Frag} {H : Hp} {M : Mem} : ∀ {vs : List V} {ds : List PyData} {i : Nat} {v : V}, FzA K H M vs ds → vs[i]? = some v → ∃ d, ds[i]? = some d ∧ Fz K H M v d
  | _, _, _, _, .nil, h => by simp at h
  | _, _, 0, _, .cons h _, e => by simp at e; subst e; exact ⟨_, rfl, h⟩
  | _, _, i + 1, _, .cons _ r, e => by
    obtain ⟨v, h1, h2⟩ := FzA.getV (i := i) r (by simpa using e)
    exact ⟨v, by simpa using h1, h2⟩
theorem FzA.append {K : PySem.W.Frag} {H : Hp} {M : Mem} : ∀ {vs ws : List V} {ds es : List PyData}, FzA K H M vs ds → FzA K H M ws es → FzA K H M (vs ++ ws) (ds ++ es)
  | _, _, _, _, .nil, s => s
  | _, _, _, _, .cons h r, s => .cons h (FzA.append r s)
theorem FzA.take {K : PySem.W.Frag} {H : Hp} {M : Mem} : ∀ {vs : List V} {ds : List PyData} (n : Nat), FzA K H M vs ds → FzA K H M (vs.take n) (ds.take n)
  | _, _, 0, _ => .nil
  | _, _, _ + 1, .nil => .nil
  | _, _, n + 1, .cons h r => .cons h (FzA.take n r)
theorem FzA.drop {K : PySem.W.Frag} {H : Hp} {M : Mem} : ∀ {vs : List V} {ds : List PyData} (n : Nat), FzA K H M vs ds → FzA K H M (vs.drop n) (ds.drop n)
  | _, _, 0, r => r
  | _, _, _ + 1, .nil => .nil
  | _, _, n + 1, .cons _ r => FzA.drop n r
theorem FzA.set {K : PySem.W.Frag} {H : Hp} {M : Mem} {v : V} {d : PyData} (h : Fz K H M v d) : ∀ {vs : List V} {ds : List PyData} (n : Nat), FzA K H M vs ds → FzA K H M (vs.set n v) (ds.set n d)
  | _, _, _, .nil => .nil
  | _, _, 0, .cons _ r => .cons h r
  | _, _, n + 1, .cons q r => .cons q (FzA.set h n r)
theorem FzA.reverse {K : PySem.W.Frag} {H : Hp} {M : Mem} : ∀ {vs : List V} {ds : List PyData}, FzA K H M vs ds → FzA K H M vs.reverse ds.reverse
  | _, _, .nil => .nil
  | _, _, .cons h r => by
    rw [List.reverse_cons, List.reverse_cons]
    exact (FzA.reverse r).append (.cons h .nil)

/-- what a name may hold -/
inductive DV where
  | d (x : PyData)
  | m (a : Addr)
  | e (a : Addr) (cls : Value) (d : Option Addr) (fs : List (Str × PyData))
  | s (a : Addr) (ns : List Int)

/-- the fields of an error in its own dict -/
def ExcAt (K : PySem.W.Frag) (H : Hp) (M : Mem) (d : Option Addr) (fs : List (Str × PyData)) : Prop :=
  fs = [] ∨ ∃ a fv, d = some a ∧ H a = some (.xd fv) ∧ M a = none ∧ fv.map (·.1) = fs.map (·.1) ∧ FzA K H M (fv.map (·.2)) (fs.map (·.2))
theorem ExcAt.ext {K : PySem.W.Frag} {H H' : Hp} {M M' : Mem} {d : Option Addr} {fs : List (Str × PyData)} (e : Ext H M H' M') (h : ExcAt K H M d fs) : ExcAt K H' M' d fs := by
  rcases h with h | ⟨a, fv, h1, h2, h3, h4, h5⟩
  · exact .inl h
  · exact .inr ⟨a, fv, h1, e.keep _ _ h2 h3, e.good _ (by rw [h2]; simp) h3, h4, h5.ext e⟩

def RV (K : PySem.W.Frag) (H : Hp) (M : Mem) (v : V) : DV → Prop
  | .d x => Fz K H M v x
  | .m a => v = .ref a ∧ M a ≠ none
  | .e a cls d fs => v = .ref a ∧ ExcAt K H M d fs
  | .s a ns => v = .ref a ∧ StL K H M a (ns.map V.int)
theorem RV.ext {K : PySem.W.Frag} {H H' : Hp} {M M' : Mem} (e : Ext H M H' M') {v : V} : ∀ {x : DV}, RV K H M v x → RV K H' M' v x
  | .d _, h => Fz.ext e h
  | .m _, h => ⟨h.1, e.dom _ h.2⟩
  | .e .., h => ⟨h.1, h.2.ext e⟩
  | .s .., h => ⟨h.1, h.2.ext e⟩

inductive RVs (K : PySem.W.Frag) (H : Hp) (M : Mem) : List V → List DV → Prop
  | nil : RVs K H M [] []
  | cons {v : V} {vs : List V} {x : DV} {xs : List DV} : RV K H M v x → RVs K H M vs xs → RVs K H M (v :: vs) (x :: xs)
theorem RVs.ext {K : PySem.W.Frag} {H H' : Hp} {M M' : Mem} (e : Ext H M H' M') : ∀ {vs : List V} {xs : List DV}, RVs K H M vs xs → RVs K H' M' vs xs
  | _, _, .nil => .nil
  | _, _, .cons h r => .cons (h.ext e) (RVs.ext e r)
theorem RVs.length {K : PySem.W.Frag} {H : Hp} {M : Mem} : ∀ {vs : List V} {xs : List DV}, RVs K H M vs xs → vs.length = xs.length
  | _, _, .nil => rfl
  | _, _, .cons _ r => by simp [RVs.length r]

/-- all of them data -/
def allD : List DV → Option (List PyData)
  | [] => some []
  | .d x :: r => (allD r).map (x :: ·)
  | _ :: _ => none
theorem RVs.allD {K : PySem.W.Frag} {H : Hp} {M : Mem} : ∀ {vs : List V} {xs : List DV} {ds : List PyData}, RVs K H M vs xs → HD.allD xs = some ds → FzA K H M vs ds
  | _, _, _, .nil, h => by cases h; exact .nil
  | _, .d x :: r, ds, .cons h t, e => by
    simp only [HD.allD, Option.map_eq_some_iff] at e
    obtain ⟨es, e1, rfl⟩ := e
    exact .cons h (RVs.allD t e1)
  | _, .m _ :: _, _, .cons _ _, e => by cases e
  | _, .e .. :: _, _, .cons _ _, e => by cases e
  | _, .s .. :: _, _, .cons _ _, e => by cases e

def MemOk (K : PySem.W.Frag) (H : Hp) (M : Mem) : Prop := ∀ a ds, M a = some ds → ∃ xs, H a = some (.lst xs) ∧ FzA K H M xs ds
theorem MemOk.out {K : PySem.W.Frag} {H : Hp} {M : Mem} {a : Addr} (o : MemOk K H M) (h : H a = none) : M a = none := by
  cases q : M a with
  | none => rfl
  | some ds => obtain ⟨xs, h1, _⟩ := o a ds q; rw [h] at h1; cases h1

/-- a new object that is data -/
theorem Ext.new {H : Hp} {M : Mem} {p : Addr} {o : HO} (hp : H p = none) : Ext H M (upd H p o) M :=
  ⟨fun a u h _ => by rw [upd_ne (ne_of_none h hp)]; exact h, fun _ _ h => h, fun _ h => h⟩
theorem MemOk.new {K : PySem.W.Frag} {H : Hp} {M : Mem} {p : Addr} {o : HO} (k : MemOk K H M) (hp : H p = none) : MemOk K (upd H p o) M := fun a ds h => by
  obtain ⟨xs, h1, h2⟩ := k a ds h
  exact ⟨xs, by rw [upd_ne (ne_of_none h1 hp)]; exact h1, h2.ext (Ext.new hp)⟩
/-- a new list that is going to be written -/
theorem Ext.newM {H : Hp} {M : Mem} {p : Addr} {o : HO} {ds : List PyData} (hp : H p = none) : Ext H M (upd H p o) (updM M p ds) :=
  ⟨fun a u h _ => by rw [upd_ne (ne_of_none h hp)]; exact h,
   fun a h m => by
     have : a ≠ p := fun q => by subst q; exact h hp
     rw [updM_ne this]; exact m,
   fun a h => by by_cases q : a = p
                 · subst q; rw [updM_same]; simp
                 · rw [updM_ne q]; exact h⟩
theorem MemOk.newM {K : PySem.W.Frag} {H : Hp} {M : Mem} {p : Addr} {xs : List V} {ds : List PyData} (k : MemOk K H M) (hp : H p = none) (h : FzA K H M xs ds) : MemOk K (upd H p (.lst xs)) (updM M p ds) := fun a es q => by
  by_cases e : a = p
  · subst e
    rw [updM_same] at q; cases q
    exact ⟨xs, upd_same, h.ext (Ext.newM hp)⟩
  · rw [updM_ne e] at q
    obtain ⟨ys, h1, h2⟩ := k a es q
    exact ⟨ys, by rw [upd_ne e]; exact h1, h2.ext (Ext.newM hp)⟩
/-- a list is written -/
theorem Ext.write {H : Hp} {M : Mem} {p : Addr} {o : HO} {ds es : List PyData} (hp : M p = some ds) : Ext H M (upd H p o) (updM M p es) :=
  ⟨fun a u h m => by
     have : a ≠ p := fun q => by subst q; rw [hp] at m; cases m
     rw [upd_ne this]; exact h,
   fun a h m => by
     have : a ≠ p := fun q => by subst q; rw [hp] at m; cases m
     rw [updM_ne this]; exact m,
   fun a h => by by_cases q : a = p
                 · subst q; rw [updM_same]; simp
                 · rw [updM_ne q]; exact h⟩
theorem MemOk.write {K : PySem.W.Frag} {H : Hp} {M : Mem} {p : Addr} {xs : List V} {ds es : List PyData} (k : MemOk K H M) (hp : M p = some ds) (h : FzA K H M xs es) : MemOk K (upd H p (.lst xs)) (updM M p es) := fun a fs q => by
  by_cases e : a = p
  · subst e
    rw [updM_same] at q; cases q
    exact ⟨xs, upd_same, h.ext (Ext.write hp)⟩
  · rw [updM_ne e] at q
    obtain ⟨ys, h1, h2⟩ := k a fs q
    exact ⟨ys, by rw [upd_ne e]; exact h1, h2.ext (Ext.write hp)⟩

/-! ### readings -/
abbrev DEnv := List (Option DV)
abbrev DK := DV → Mem → Prop
/-- what is wanted of an error: its class, its fields, the names as they stand, the memory -/
abbrev DX := Value → List (Str × PyData) → DEnv → Mem → Prop
abbrev DE := DX → DEnv → Mem → DK → Prop
abbrev DT := DX → DEnv → Mem → (Bool → Mem → Prop) → Prop
abbrev DA := DX → DEnv → Mem → (List DV → Mem → Prop) → Prop

structure Rel (K : PySem.W.Frag) (σ : L2.St) (H : Hp) (ρ : DEnv) (M : Mem) : Prop where
  mem : MemOk K H M
  len : σ.length = ρ.length
  env : ∀ (i : Nat) x, ρ[i]? = some (some x) → ∃ v, σ[i]? = some (some v) ∧ RV K H M v x
theorem Rel.ext {K : PySem.W.Frag} {σ : L2.St} {H H' : Hp} {ρ : DEnv} {M M' : Mem} (r : Rel K σ H ρ M) (e : Ext H M H' M') (k : MemOk K H' M') : Rel K σ H' ρ M' :=
  ⟨k, r.len, fun i x h => let ⟨v, h1, h2⟩ := r.env i x h; ⟨v, h1, h2.ext e⟩⟩

def XRel (K : PySem.W.Frag) (W : WX) (σ : L2.St) (H : Hp) (ρ : DEnv) (M : Mem) (Xd : DX) : Prop :=
  ∀ cls fs d H' M', Ext H M H' M' → MemOk K H' M' → ExcAt K H' M' d fs → Xd cls fs ρ M' → W cls d σ H'
theorem XRel.at {K : PySem.W.Frag} {W : WX} {σ : L2.St} {H H1 : Hp} {ρ : DEnv} {M M1 : Mem} {Xd : DX} (x : XRel K W σ H ρ M Xd) (e : Ext H M H1 M1) : XRel K W σ H1 ρ M1 Xd :=
  fun cls fs d H' M' e' k a h => x cls fs d H' M' (e.trans e') k a h

def emb (K : PySem.W.Frag) (W : WX) (f : DE) : TE := fun σ H Q => ∃ ρ M Xd, Rel K σ H ρ M ∧ XRel K W σ H ρ M Xd ∧
  f Xd ρ M fun x M' => ∀ v H', Ext H M H' M' → MemOk K H' M' → RV K H' M' v x → Q v H'
def embT (K : PySem.W.Frag) (W : WX) (f : DT) : TT := fun σ H Q => ∃ ρ M Xd, Rel K σ H ρ M ∧ XRel K W σ H ρ M Xd ∧
  f Xd ρ M fun b M' => ∀ H', Ext H M H' M' → MemOk K H' M' → Q b H'
def embA (K : PySem.W.Frag) (W : WX) (f : DA) : TA := fun σ H Q => ∃ ρ M Xd, Rel K σ H ρ M ∧ XRel K W σ H ρ M Xd ∧
  f Xd ρ M fun xs M' => ∀ vs H', Ext H M H' M' → MemOk K H' M' → RVs K H' M' vs xs → Q vs H'

structure CE (X : Cx) (W : WX) (e : Expr) (f : DE) : Prop where
  pe : PE X e (emb X.K W f)
  mono : ∀ Xd ρ M Q Q', (∀ x M', Q x M' → Q' x M') → f Xd ρ M Q → f Xd ρ M Q'
structure CT (X : Cx) (W : WX) (e : Expr) (f : DT) : Prop where
  pt : PT X e (embT X.K W f)
  mono : ∀ Xd ρ M Q Q', (∀ x M', Q x M' → Q' x M') → f Xd ρ M Q → f Xd ρ M Q'
structure CA (X : Cx) (W : WX) (es : List Expr) (f : DA) : Prop where
  pa : PA X es (embA X.K W f)
  mono : ∀ Xd ρ M Q Q', (∀ x M', Q x M' → Q' x M') → f Xd ρ M Q → f Xd ρ M Q'

section
variable {X : Cx} {W : WX} {e a b c : Expr} {es : List Expr} {t : TE} {f fa fb fc : DE} {pos : Pos}
theorem PE.weak {t t' : TE} (h : PE X e t) (w : ∀ σ H Q, t' σ H Q → t σ H Q) : PE X e t' := ⟨fun pins s σ H Q I q => h.run pins s σ H Q I (w σ H Q q)⟩
theorem PT.weak {t t' : TT} (h : PT X e t) (w : ∀ σ H Q, t' σ H Q → t σ H Q) : PT X e t' := ⟨fun pins s σ H Q I q => h.run pins s σ H Q I (w σ H Q q)⟩
theorem PA.weak {t t' : TA} (h : PA X es t) (w : ∀ σ H Q, t' σ H Q → t σ H Q) : PA X es t' := ⟨fun ps pins s σ H Q I q => h.run ps pins s σ H Q I (w σ H Q q)⟩

/-- after one piece, the next from what stands then -/
theorem emb.next {K : PySem.W.Frag} {W : WX} {σ : L2.St} {H : Hp} {ρ : DEnv} {M : Mem} {Xd : DX} {f : DE} {Q : DK} {P : VK} (r : Rel K σ H ρ M) (x : XRel K W σ H ρ M Xd) (m : ∀ Xd ρ M Q Q', (∀ x M', Q x M' → Q' x M') → f Xd ρ M Q → f Xd ρ M Q')
    (h : f Xd ρ M Q) (k : ∀ x M' v H', Ext H M H' M' → Rel K σ H' ρ M' → XRel K W σ H' ρ M' Xd → RV K H' M' v x → Q x M' → P v H') : emb K W f σ H P :=
  ⟨ρ, M, Xd, r, x, m _ _ _ _ _ (fun y M' q v H' e o rv => k y M' v H' e (r.ext e o) (x.at e) rv q) h⟩
theorem embT.next {K : PySem.W.Frag} {W : WX} {σ : L2.St} {H : Hp} {ρ : DEnv} {M : Mem} {Xd : DX} {f : DT} {Q : Bool → Mem → Prop} {P : Bool → Hp → Prop} (r : Rel K σ H ρ M) (x : XRel K W σ H ρ M Xd) (m : ∀ Xd ρ M Q Q', (∀ x M', Q x M' → Q' x M') → f Xd ρ M Q → f Xd ρ M Q')
    (h : f Xd ρ M Q) (k : ∀ b M' H', Ext H M H' M' → Rel K σ H' ρ M' → XRel K W σ H' ρ M' Xd → Q b M' → P b H') : embT K W f σ H P :=
  ⟨ρ, M, Xd, r, x, m _ _ _ _ _ (fun y M' q H' e o => k y M' H' e (r.ext e o) (x.at e) q) h⟩
theorem embA.next {K : PySem.W.Frag} {W : WX} {σ : L2.St} {H : Hp} {ρ : DEnv} {M : Mem} {Xd : DX} {f : DA} {Q : List DV → Mem → Prop} {P : List V → Hp → Prop} (r : Rel K σ H ρ M) (x : XRel K W σ H ρ M Xd) (m : ∀ Xd ρ M Q Q', (∀ x M', Q x M' → Q' x M') → f Xd ρ M Q → f Xd ρ M Q')
    (h : f Xd ρ M Q) (k : ∀ xs M' vs H', Ext H M H' M' → Rel K σ H' ρ M' → XRel K W σ H' ρ M' Xd → RVs K H' M' vs xs → Q xs M' → P vs H') : embA K W f σ H P :=
  ⟨ρ, M, Xd, r, x, m _ _ _ _ _ (fun y M' q v H' e o rv => k y M' v H' e (r.ext e o) (x.at e) rv q) h⟩

/-! names, constants -/
def dVar (i : Nat) : DE := fun _ ρ M Q => match ρ[i]? with | some (some x) => Q x M | _ => False
theorem ce_var {i : Nat} {x : Str} {pos : Pos} (hN : X.N[i]? = some x) (hv : Vis X.env.scope x) (hd : (x == ("__debug__" : Str)) = false := by decide) (hcd : (x == ("__classdict__" : Str)) = false := by decide) : CE X W (.Name x pos) (dVar i) where
  pe := PE.weak (pe_var hN hv hd hcd) fun σ H Q ⟨ρ, M, Xd, r, x, h⟩ => by
    unfold dVar at h
    split at h
    · rename_i x e
      obtain ⟨v, h1, h2⟩ := r.env i x e
      exact ⟨v, h1, h v H Ext.refl r.mem h2⟩
    · exact h.elim
  mono := fun Xd ρ M Q Q' hq h => by
    unfold dVar at h ⊢
    split at h
    · exact hq _ _ h
    · exact h.elim
def dC (x : PyData) : DE := fun _ _ M Q => Q (.d x) M
theorem dC.pe {v : V} {x : PyData} {e : Expr} (h : PE X e (tC v)) (hv : ∀ K H M, Fz K H M v x) : CE X W e (dC x) where
  pe := PE.weak h fun σ H Q ⟨ρ, M, Xd, r, _, h⟩ => h v H Ext.refl r.mem (hv _ _ _)
  mono := fun _ _ _ _ _ hq h => hq _ _ h
theorem ce_int {i j pos} : CE X W (.Constant (.int i) j pos) (dC (.int i)) := dC.pe pe_int fun _ _ _ => .int i
theorem ce_bl {i j pos} : CE X W (.Constant (.bool i) j pos) (dC (.bool i)) := dC.pe pe_bl fun _ _ _ => .bl i
theorem ce_non {j pos} : CE X W (.Constant .none j pos) (dC .none) := dC.pe pe_non fun _ _ _ => .non
theorem ce_str {i j pos} : CE X W (.Constant (.str i) j pos) (dC (.str i)) := dC.pe pe_str fun _ _ _ => .str i

/-! argument lists -/
def dNil : DA := fun _ _ M Q => Q [] M
def dCons (f : DE) (g : DA) : DA := fun Xd ρ M Q => f Xd ρ M fun x M1 => g Xd ρ M1 fun xs M2 => Q (x :: xs) M2
theorem ca_nil : CA X W [] dNil where
  pa := PA.weak pa_nil fun σ H Q ⟨ρ, M, Xd, r, _, h⟩ => h [] H Ext.refl r.mem .nil
  mono := fun _ _ _ _ _ hq h => hq _ _ h
theorem ca_cons {g : DA} (ha : CE X W e f) (hr : CA X W es g) (hs : starEach (e :: es) X.env = (false, eval e X.env) :: starEach es X.env := by rfl) : CA X W (e :: es) (dCons f g) where
  pa := PA.weak (pa_cons ha.pe hr.pa hs) fun σ H Q ⟨ρ, M, Xd, r, x, h⟩ => by
    refine emb.next r x ha.mono h fun y M1 v H1 e1 r1 x1 rv h1 => ?_
    refine embA.next r1 x1 hr.mono h1 fun ys M2 vs H2 e2 r2 _ rvs h2 => ?_
    exact h2 (v :: vs) H2 (e1.trans e2) r2.mem (.cons (rv.ext e2) rvs)
  mono := fun Xd ρ M Q Q' hq h => ha.mono _ _ _ _ _ (fun y M1 h1 => hr.mono _ _ _ _ _ (fun ys M2 h2 => hq _ _ h2) h1) h
end
end HD

namespace HD
open PySem PySem.Spec PyProof.Rows L2

/-! ### how a value is seen -/
def vw (M : Mem) : DV → Option PyData
  | .d x => some x
  | .m a => (M a).map .list
  | .e .. => none
  | .s .. => none
section
variable {K : PySem.W.Frag} {H : Hp} {M : Mem} {v : V} {x : DV}
theorem vw_int {i : Int} (r : RV K H M v x) (h : vw M x = some (.int i)) : v = .int i := by
  cases x with
  | d y => cases h; cases r; rfl
  | m a => simp only [vw, Option.map_eq_some_iff] at h; obtain ⟨_, _, q⟩ := h; cases q
  | e => cases h
  | s => cases h
theorem vw_bool {i : Bool} (r : RV K H M v x) (h : vw M x = some (.bool i)) : v = .bl i := by
  cases x with
  | d y => cases h; cases r; rfl
  | m a => simp only [vw, Option.map_eq_some_iff] at h; obtain ⟨_, _, q⟩ := h; cases q
  | e => cases h
  | s => cases h
theorem vw_none (r : RV K H M v x) (h : vw M x = some .none) : v = .non := by
  cases x with
  | d y => cases h; cases r; rfl
  | m a => simp only [vw, Option.map_eq_some_iff] at h; obtain ⟨_, _, q⟩ := h; cases q
  | e => cases h
  | s => cases h
theorem vw_str {i : Str} (r : RV K H M v x) (h : vw M x = some (.str i)) : v = .str i := by
  cases x with
  | d y => cases h; cases r; rfl
  | m a => simp only [vw, Option.map_eq_some_iff] at h; obtain ⟨_, _, q⟩ := h; cases q
  | e => cases h
  | s => cases h
theorem vw_tup {ds : List PyData} (r : RV K H M v x) (h : vw M x = some (.tuple ds)) : ∃ a xs, v = .ref a ∧ StT K H M a xs ∧ FzA K H M xs ds := by
  cases x with
  | d y => cases h; cases r with | tup h1 h2 => exact ⟨_, _, rfl, h1, h2⟩
  | m a => simp only [vw, Option.map_eq_some_iff] at h; obtain ⟨_, _, q⟩ := h; cases q
  | e => cases h
  | s => cases h
theorem vw_lst {ds : List PyData} (o : MemOk K H M) (r : RV K H M v x) (h : vw M x = some (.list ds)) : ∃ a xs, v = .ref a ∧ H a = some (.lst xs) ∧ FzA K H M xs ds := by
  cases x with
  | d y => cases h; cases r with | lst h1 _ h2 => exact ⟨_, _, rfl, h1, h2⟩
  | m a =>
    simp only [vw, Option.map_eq_some_iff] at h
    obtain ⟨es, e1, q⟩ := h
    cases q
    obtain ⟨xs, h1, h2⟩ := o a _ e1
    obtain ⟨rfl, _⟩ := r
    exact ⟨a, xs, rfl, h1, h2⟩
  | e => cases h
  | s => cases h
theorem vw_dic {kvs} (r : RV K H M v x) (h : vw M x = some (.dict kvs)) : ∃ a, v = .ref a ∧ kvs = [] ∧ H a = some (.dK []) ∧ M a = none := by
  cases x with
  | d y => cases h; cases r with | dic h1 h2 => exact ⟨_, rfl, rfl, h1, h2⟩
  | m a => simp only [vw, Option.map_eq_some_iff] at h; obtain ⟨_, _, q⟩ := h; cases q
  | e => cases h
  | s => cases h
end

/-! ### the data as the library reads it -/
section
variable {X : Cx} {pins : List (Addr × Obj)} {σ : L2.St} {H : Hp} {M : Mem} {s : Shared}
theorem not_sys (hs : ∃ o, X.base.get? sysModules = some o) (I : Inv X pins σ H s) {a : Addr} (h : H a ≠ none) : a ≠ sysModules := by
  obtain ⟨o, e⟩ := hs
  intro q
  subst q
  exact h (I.bs _ o e).2
mutual
theorem Fz.reads (I : Inv X pins σ H s) : ∀ {d : PyData} {v : V} {u : Value}, Fz X.K H M v d → RelV v u → ∃ as, Reads s.heap u d as ∧ ∀ b ∈ as, H b ≠ none
  | _, _, _, .non, r => by cases r; exact ⟨_, .none, by simp⟩
  | _, _, _, .bl b, r => by cases r; exact ⟨_, .bool b, by simp⟩
  | _, _, _, .int i, r => by obtain ⟨t, rfl⟩ := r; exact ⟨_, .int i t, by simp⟩
  | _, _, _, .str x, r => by obtain ⟨t, rfl⟩ := r; exact ⟨_, .str x t, by simp⟩
  | _, _, _, .lst h _ f, r => by
    cases r
    obtain ⟨its, rv, p, _⟩ := I.list (.of h)
    obtain ⟨as, ra, hn⟩ := FzA.reads I f rv
    obtain ⟨o, n, e, c, dd, hd⟩ := p
    refine ⟨_, .list e c hd (by simpa using ra), fun b hb => ?_⟩
    rcases List.mem_cons.mp hb with z | z
    · rw [z, h]; simp
    · exact hn b z
  | _, _, _, .tup h f, r => by
    cases r
    obtain ⟨its, rv, p, _⟩ := I.tuple h.sq
    obtain ⟨as, ra, hn⟩ := FzA.reads I f rv
    obtain ⟨o, e, c, n, hd⟩ := p
    exact ⟨_, .tuple e c hd (by simpa using ra), hn⟩
  | _, _, _, .dic h m, r => by
    cases r
    obtain ⟨_, _, vs, kv, o, es, ep, e, ex, hd, q⟩ := I.hok _ _ h
    cases kv
    have hz : es.toList = [] := by
      have q1 := q.2.1
      generalize es.toList = l at q1 ⊢
      cases l with
      | nil => rfl
      | cons a r => first | cases q1 | exact absurd q1 (by simp)
    exact ⟨_, .dict (as := []) (bs := []) e ex.1 hd (by rw [hz]; exact .nil) (by rw [hz]; exact .nil), fun b hb => by
      simp only [List.append_nil, List.mem_singleton] at hb
      rw [hb, h]; simp⟩
theorem FzA.reads (I : Inv X pins σ H s) : ∀ {ds : List PyData} {vs : List V} {us : List Value}, FzA X.K H M vs ds → Vals vs us → ∃ as, ReadsAll s.heap us ds as ∧ ∀ b ∈ as, H b ≠ none
  | _, _, _, .nil, .nil => ⟨_, .nil, by simp⟩
  | _, _, _, .cons h t, .cons r rs => by
    obtain ⟨as, q1, n1⟩ := Fz.reads I h r
    obtain ⟨bs, q2, n2⟩ := FzA.reads I t rs
    exact ⟨_, .cons q1 q2, fun b hb => (List.mem_append.mp hb).elim (n1 b) (n2 b)⟩
end
theorem vw.reads {v : V} {u : Value} {x : DV} {d : PyData} (I : Inv X pins σ H s) (o : MemOk X.K H M) (r : RV X.K H M v x) (h : vw M x = some d) (rv : RelV v u) : ∃ as, Reads s.heap u d as ∧ ∀ b ∈ as, H b ≠ none := by
  cases x with
  | d y => cases h; exact Fz.reads I r rv
  | m a =>
    simp only [vw, Option.map_eq_some_iff] at h
    obtain ⟨es, e1, q⟩ := h
    cases q
    obtain ⟨xs, h1, h2⟩ := o a _ e1
    obtain ⟨rfl, _⟩ := r
    cases rv
    obtain ⟨its, rv, p, _⟩ := I.list (.of h1)
    obtain ⟨as, ra, hn⟩ := FzA.reads I h2 rv
    obtain ⟨o, n, e, c, dd, hd⟩ := p
    refine ⟨_, .list e c hd (by simpa using ra), fun b hb => ?_⟩
    rcases List.mem_cons.mp hb with z | z
    · rw [z, h1]; simp
    · exact hn b z
  | e => cases h
  | s => cases h
end

/-! ### operations by values -/
def fin (K : PySem.W.Frag) (H : Hp) (M : Mem) (Q : VK) : DK := fun z M' => ∀ v H', Ext H M H' M' → MemOk K H' M' → RV K H' M' v z → Q v H'
abbrev D2 := DV → DV → Mem → DK → Prop
abbrev D1 := DV → Mem → DK → Prop
structure OpD (X : Cx) (f : Value → Value → Sem Value) (g : D2) : Prop where
  op : OpR X f fun x y H Q => ∃ M dx dy, MemOk X.K H M ∧ RV X.K H M x dx ∧ RV X.K H M y dy ∧ g dx dy M (fin X.K H M Q)
  mono : ∀ x y M Q Q', (∀ z M', Q z M' → Q' z M') → g x y M Q → g x y M Q'
structure UnD (X : Cx) (f : Value → Sem Value) (g : D1) : Prop where
  op : UnR X f fun x H Q => ∃ M dx, MemOk X.K H M ∧ RV X.K H M x dx ∧ g dx M (fin X.K H M Q)
  mono : ∀ x M Q Q', (∀ z M', Q z M' → Q' z M') → g x M Q → g x M Q'
abbrev DF := List DV → Mem → DK → Prop
structure CallD (X : Cx) (f : Value) (g : DF) : Prop where
  op : CallR X f fun xs H Q => ∃ M dxs, MemOk X.K H M ∧ RVs X.K H M xs dxs ∧ g dxs M (fin X.K H M Q)
  mono : ∀ x M Q Q', (∀ z M', Q z M' → Q' z M') → g x M Q → g x M Q'

theorem OpR.weak {X : Cx} {f : Value → Value → Sem Value} {r r' : R2} (h : OpR X f r) (w : ∀ x y H Q, r' x y H Q → r x y H Q) : OpR X f r' :=
  fun pins s σ H x y v u Q I rx ry q => h pins s σ H x y v u Q I rx ry (w _ _ _ _ q)
theorem OpR.orr {X : Cx} {f : Value → Value → Sem Value} {r r' : R2} (h : OpR X f r) (h' : OpR X f r') : OpR X f fun x y H Q => r x y H Q ∨ r' x y H Q :=
  fun pins s σ H x y v u Q I rx ry q => q.elim (h pins s σ H x y v u Q I rx ry) (h' pins s σ H x y v u Q I rx ry)
theorem CallR.weak {X : Cx} {f : Value} {r r' : List V → Hp → VK → Prop} (h : CallR X f r) (w : ∀ x H Q, r' x H Q → r x H Q) : CallR X f r' :=
  fun pins s σ H xs us Q I rx q => h pins s σ H xs us Q I rx (w _ _ _ q)
theorem CallR.orr {X : Cx} {f : Value} {r r' : List V → Hp → VK → Prop} (h : CallR X f r) (h' : CallR X f r') : CallR X f fun x H Q => r x H Q ∨ r' x H Q :=
  fun pins s σ H xs us Q I rx q => q.elim (h pins s σ H xs us Q I rx) (h' pins s σ H xs us Q I rx)

def dBin (g : D2) (fa fb : DE) : DE := fun Xd ρ M Q => fa Xd ρ M fun x M1 => fb Xd ρ M1 fun y M2 => g x y M2 Q
def dUn (g : D1) (fa : DE) : DE := fun Xd ρ M Q => fa Xd ρ M fun x M1 => g x M1 Q
def dFun (g : DF) (fa : DA) : DE := fun Xd ρ M Q => fa Xd ρ M fun xs M1 => g xs M1 Q

section
variable {X : Cx} {W : WX} {e a b c : Expr} {es : List Expr} {f fa fb fc : DE} {pos : Pos} {g g' : D2}
theorem bin_core (gm : ∀ x y M Q Q', (∀ z M', Q z M' → Q' z M') → g x y M Q → g x y M Q') (ha : CE X W a fa) (hb : CE X W b fb) {σ : L2.St} {H : Hp} {Q : VK} (h : emb X.K W (dBin g fa fb) σ H Q) :
    tOp (fun x y H Q => ∃ M dx dy, MemOk X.K H M ∧ RV X.K H M x dx ∧ RV X.K H M y dy ∧ g dx dy M (fin X.K H M Q)) (emb X.K W fa) (emb X.K W fb) σ H Q := by
  obtain ⟨ρ, M, Xd, r, x, h⟩ := h
  refine emb.next r x ha.mono h fun y M1 v H1 e1 r1 x1 rv h1 => ?_
  refine emb.next r1 x1 hb.mono h1 fun z M2 u H2 e2 r2 _ ru h2 => ?_
  exact ⟨M2, y, z, r2.mem, rv.ext e2, ru, gm _ _ _ _ _ (fun w M' q v' H' e3 o rw => q v' H' ((e1.trans e2).trans e3) o rw) h2⟩
theorem dBin.mono (gm : ∀ x y M Q Q', (∀ z M', Q z M' → Q' z M') → g x y M Q → g x y M Q') (ha : CE X W a fa) (hb : CE X W b fb) : ∀ Xd ρ M Q Q', (∀ x M', Q x M' → Q' x M') → dBin g fa fb Xd ρ M Q → dBin g fa fb Xd ρ M Q' :=
  fun Xd ρ M Q Q' hq h => ha.mono _ _ _ _ _ (fun _ _ h1 => hb.mono _ _ _ _ _ (fun _ _ h2 => gm _ _ _ _ _ hq h2) h1) h
theorem ce_bin {op : Operator} (o : OpD X (binaryOp op) g) (ha : CE X W a fa) (hb : CE X W b fb) : CE X W (.BinOp a op b pos) (dBin g fa fb) where
  pe := PE.weak (pe_op o.op ha.pe hb.pe) fun σ H Q h => bin_core o.mono ha hb h
  mono := dBin.mono o.mono ha hb
theorem ce_cmp {op : CmpOp} (o : OpD X (compareOp op) g) (ha : CE X W a fa) (hb : CE X W b fb) (hm : behindInMarks op b = false := by first | exact nomark _ | rfl) : CE X W (.Compare a [op] [b] pos) (dBin g fa fb) where
  pe := PE.weak (pe_cmpR o.op ha.pe hb.pe hm) fun σ H Q h => bin_core o.mono ha hb h
  mono := dBin.mono o.mono ha hb
theorem ce_ix (hr : IxR X fun x y H Q => ∃ M dx dy, MemOk X.K H M ∧ RV X.K H M x dx ∧ RV X.K H M y dy ∧ g dx dy M (fin X.K H M Q)) (gm : ∀ x y M Q Q', (∀ z M', Q z M' → Q' z M') → g x y M Q → g x y M Q')
    (ha : CE X W a fa) (hb : CE X W b fb) (hs : PlainIx b) : CE X W (.Subscript a b pos) (dBin g fa fb) where
  pe := PE.weak (pe_ix hr ha.pe hb.pe hs) fun σ H Q h => bin_core gm ha hb h
  mono := dBin.mono gm ha hb
theorem ce_un {op : UnaryOp} {g : D1} (o : UnD X (unaryOp op) g) (ha : CE X W a fa) : CE X W (.UnaryOp op a pos) (dUn g fa) where
  pe := PE.weak (pe_un o.op ha.pe) fun σ H Q h => by
    obtain ⟨ρ, M, Xd, r, x, h⟩ := h
    refine emb.next r x ha.mono h fun y M1 v H1 e1 r1 x1 rv h1 => ?_
    exact ⟨M1, y, r1.mem, rv, o.mono _ _ _ _ (fun w M' q v' H' e3 ok rw => q v' H' (e1.trans e3) ok rw) h1⟩
  mono := fun Xd ρ M Q Q' hq h => ha.mono _ _ _ _ _ (fun _ _ h1 => o.mono _ _ _ _ hq h1) h
def dNot (fa : DE) : DE := fun Xd ρ M Q => fa Xd ρ M fun x M1 => match x with | .d (.bool k) => Q (.d (.bool (!k))) M1 | _ => False
theorem ce_not (ha : CE X W a fa) : CE X W (.UnaryOp .Not a pos) (dNot fa) where
  pe := PE.weak (pe_not ha.pe) fun σ H Q h => by
    obtain ⟨ρ, M, Xd, r, x, h⟩ := h
    refine emb.next r x ha.mono h fun y M1 v H1 e1 r1 x1 rv h1 => ?_
    split at h1
    · cases rv; exact ⟨_, rfl, h1 _ _ e1 r1.mem (.bl _)⟩
    · exact h1.elim
  mono := fun Xd ρ M Q Q' hq h => ha.mono _ _ _ _ _ (fun x _ h1 => by
    split at h1
    · exact hq _ _ h1
    · exact h1.elim) h

def dChain (g g' : D2) (fa fb fc : DE) : DE := fun Xd ρ M Q => fa Xd ρ M fun x M1 => fb Xd ρ M1 fun y M2 => g x y M2 fun z M3 => match z with
  | .d (.bool true) => fc Xd ρ M3 fun w M4 => g' y w M4 Q
  | .d (.bool false) => Q (.d (.bool false)) M3
  | _ => False
theorem ce_chain {op op' : CmpOp} (o : OpD X (compareOp op) g) (o' : OpD X (compareOp op') g') (ha : CE X W a fa) (hb : CE X W b fb) (hc : CE X W c fc)
    (hm : lastMarks [op, op'] [b, c] = false := by with_unfolding_all rfl) : CE X W (.Compare a [op, op'] [b, c] pos) (dChain g g' fa fb fc) where
  pe := PE.weak (pe_chain o.op o'.op ha.pe hb.pe hc.pe hm) fun σ H Q h => by
    obtain ⟨ρ, M, Xd, r, x, h⟩ := h
    refine emb.next r x ha.mono h fun y M1 v H1 e1 r1 x1 rv h1 => ?_
    refine emb.next r1 x1 hb.mono h1 fun z M2 u H2 e2 r2 x2 ru h2 => ?_
    refine ⟨M2, y, z, r2.mem, rv.ext e2, ru, o.mono _ _ _ _ _ (fun w M3 q v' H3 e3 ok3 rw => ?_) h2⟩
    dsimp only at q
    split at q
    · cases rw
      refine ⟨true, rfl, ?_⟩
      rw [if_pos rfl]
      refine emb.next (r2.ext e3 ok3) (x2.at e3) hc.mono q fun z4 M4 u4 H4 e4 r4 x4 ru4 h4 => ?_
      exact ⟨M4, z, z4, r4.mem, (ru.ext e3).ext e4, ru4, o'.mono _ _ _ _ _ (fun w M' q v' H' e5 o rw => q v' H' ((((e1.trans e2).trans e3).trans e4).trans e5) o rw) h4⟩
    · cases rw
      refine ⟨false, rfl, ?_⟩
      rw [if_neg (by decide)]
      exact q _ _ ((e1.trans e2).trans e3) ok3 (.bl _)
    · exact q.elim
  mono := fun Xd ρ M Q Q' hq h => ha.mono _ _ _ _ _ (fun x _ h1 => hb.mono _ _ _ _ _ (fun y _ h2 => o.mono _ _ _ _ _ (fun z _ h3 => by
    split at h3
    · exact hc.mono _ _ _ _ _ (fun _ _ h4 => o'.mono _ _ _ _ _ hq h4) h3
    · exact hq _ _ h3
    · exact h3.elim) h2) h1) h

/-! calls of built-ins -/
theorem fun_core {g : DF} {t : DA} (gm : ∀ x M Q Q', (∀ z M', Q z M' → Q' z M') → g x M Q → g x M Q') (ha : CA X W es t) {σ : L2.St} {H : Hp} {Q : VK} (h : emb X.K W (dFun g t) σ H Q) :
    tCB (fun xs H Q => ∃ M dxs, MemOk X.K H M ∧ RVs X.K H M xs dxs ∧ g dxs M (fin X.K H M Q)) (embA X.K W t) σ H Q := by
  obtain ⟨ρ, M, Xd, r, x, h⟩ := h
  refine embA.next r x ha.mono h fun ys M1 vs H1 e1 r1 x1 rv h1 => ?_
  exact ⟨M1, ys, r1.mem, rv, gm _ _ _ _ (fun w M' q v' H' e3 ok rw => q v' H' (e1.trans e3) ok rw) h1⟩
theorem ce_callB {id : String} {x : Str} {p : Pos} {g : DF} {t : DA} (hc : CallD X (.builtin id) g) (hg : Gl X x) (hm : X.mg x = none) (hv : bootBuiltins x = some (.builtin id)) (ha : CA X W (e :: es) t) (hn : x ≠ "__name__" := by decide) (hdb : (x == ("__debug__" : Str)) = false := by decide)
    (he : starEach (e :: es) X.env = (false, eval e X.env) :: starEach es X.env := by rfl) (hpl : (backTo pos (starEach es X.env)).any (·.1) = false := by rfl) : CE X W (.Call (.Name x p) (e :: es) [] pos) (dFun g t) where
  pe := PE.weak (pe_callB hc.op hg hm hv ha.pa hn hdb he hpl) fun σ H Q h => fun_core hc.mono ha h
  mono := fun Xd ρ M Q Q' hq h => ha.mono _ _ _ _ _ (fun _ _ h1 => hc.mono _ _ _ _ hq h1) h
theorem ce_callTy {T : String} {x : Str} {p : Pos} {g : DF} {t : DA} (hc : CallD X (.type T) g) (hg : Gl X x) (hm : X.mg x = none) (hv : bootBuiltins x = some (.type T)) (ha : CA X W (e :: es) t) (hn : x ≠ "__name__" := by decide) (hdb : (x == ("__debug__" : Str)) = false := by decide)
    (he : starEach (e :: es) X.env = (false, eval e X.env) :: starEach es X.env := by rfl) (hpl : (backTo pos (starEach es X.env)).any (·.1) = false := by rfl) : CE X W (.Call (.Name x p) (e :: es) [] pos) (dFun g t) where
  pe := PE.weak (pe_callTy hc.op hg hm hv ha.pa hn hdb he hpl) fun σ H Q h => fun_core hc.mono ha h
  mono := fun Xd ρ M Q Q' hq h => ha.mono _ _ _ _ _ (fun _ _ h1 => hc.mono _ _ _ _ hq h1) h
end
end HD

namespace HD
open PySem PySem.Spec PyProof.Rows L2
section
variable {X : Cx} {W : WX} {e a b c : Expr} {es : List Expr} {f fa fb fc : DE} {pos : Pos}

/-! ### + - * % // ** -/
def gAdd : D2 := fun x y M Q => match vw M x, vw M y with
  | some (.int i), some (.int j) => Q (.d (.int (i + j))) M
  | some (.str i), some (.str j) => i.length + j.length ≤ sizeLine ∧ Q (.d (.str (i ++ j))) M
  | some (.tuple i), some (.tuple j) => i.length + j.length ≤ sizeLine ∧ Q (.d (.tuple (i ++ j))) M
  | some (.list i), some (.list j) => i.length + j.length ≤ sizeLine ∧ Q (.d (.list (i ++ j))) M
  | _, _ => False
/-- as gAdd; the new list is going to be written -/
def gAddM : D2 := fun x y M Q => match vw M x, vw M y with
  | some (.list i), some (.list j) => i.length + j.length ≤ sizeLine ∧ ∀ p, M p = none → Q (.m p) (updM M p (i ++ j))
  | _, _ => False
theorem FzA.nil_iff {K : PySem.W.Frag} {H : Hp} {M : Mem} {vs : List V} {ds : List PyData} (h : FzA K H M vs ds) : vs = [] ↔ ds = [] := by
  cases h <;> simp
theorem fin_d {K : PySem.W.Frag} {H : Hp} {M : Mem} {Q : VK} {x : PyData} (h : fin K H M Q (.d x) M) (o : MemOk K H M) {v : V} (r : Fz K H M v x) : Q v H := h v H Ext.refl o r
theorem fin_tup {K : PySem.W.Frag} {H : Hp} {M : Mem} {Q : VK} {ds : List PyData} (h : fin K H M Q (.d (.tuple ds)) M) (o : MemOk K H M) {vs : List V} (r : FzA K H M vs ds) {p : Addr} (hp : H p = none) : Q (.ref p) (upd H p (.tup vs)) :=
  h _ _ (Ext.new hp) (o.new hp) (.tup (.inl ⟨Rd.of upd_same, o.out hp⟩) (r.ext (Ext.new hp)))
theorem fin_lst {K : PySem.W.Frag} {H : Hp} {M : Mem} {Q : VK} {ds : List PyData} (h : fin K H M Q (.d (.list ds)) M) (o : MemOk K H M) {vs : List V} (r : FzA K H M vs ds) {p : Addr} (hp : H p = none) : Q (.ref p) (upd H p (.lst vs)) :=
  h _ _ (Ext.new hp) (o.new hp) (.lst upd_same (o.out hp) (r.ext (Ext.new hp)))
theorem fin_lstM {K : PySem.W.Frag} {H : Hp} {M : Mem} {Q : VK} {ds : List PyData} (h : ∀ p, M p = none → fin K H M Q (.m p) (updM M p ds)) (o : MemOk K H M) {vs : List V} (r : FzA K H M vs ds) {p : Addr} (hp : H p = none) : Q (.ref p) (upd H p (.lst vs)) :=
  h p (o.out hp) _ _ (Ext.newM hp) (o.newM hp r) ⟨rfl, by rw [updM_same]; simp⟩
theorem opd_add : OpD X (binaryOp .Add) gAdd where
  op := OpR.weak (OpR.orr (OpR.orr (OpR.orr op_add op_add_str) op_catA) op_cat) fun x y H Q ⟨M, dx, dy, o, rx, ry, h⟩ => by
    unfold gAdd at h
    split at h
    · rename_i i j e1 e2
      cases vw_int rx e1; cases vw_int ry e2
      exact .inl (.inl (.inl ⟨_, _, rfl, rfl, fin_d h o (.int _)⟩))
    · rename_i i j e1 e2
      cases vw_str rx e1; cases vw_str ry e2
      exact .inl (.inl (.inr ⟨_, _, rfl, rfl, h.1, fin_d h.2 o (.str _)⟩))
    · rename_i i j e1 e2
      obtain ⟨p, xs, rfl, h1, f1⟩ := vw_tup rx e1
      obtain ⟨q, ys, rfl, h2, f2⟩ := vw_tup ry e2
      refine .inl (.inr ⟨p, q, xs, ys, rfl, rfl, h1.sq, h2.sq, by rw [f1.length, f2.length]; exact h.1, fun z => ?_, fun _ z => ?_, fun _ _ r hr => fin_tup h.2 o (f1.append f2) hr⟩)
      · subst z
        cases f1
        exact fin_d h.2 o (.tup h2 f2)
      · subst z
        cases f2
        refine fin_d h.2 o ?_
        rw [List.append_nil]
        exact .tup h1 f1
    · rename_i i j e1 e2
      obtain ⟨p, xs, rfl, h1, f1⟩ := vw_lst o rx e1
      obtain ⟨q, ys, rfl, h2, f2⟩ := vw_lst o ry e2
      exact .inr ⟨p, q, xs, ys, rfl, rfl, h1, h2, by rw [f1.length, f2.length]; exact h.1, fun r hr => fin_lst h.2 o (f1.append f2) hr⟩
    · exact h.elim
  mono := fun x y M Q Q' hq h => by
    unfold gAdd at h ⊢
    split at h
    · exact hq _ _ h
    · exact ⟨h.1, hq _ _ h.2⟩
    · exact ⟨h.1, hq _ _ h.2⟩
    · exact ⟨h.1, hq _ _ h.2⟩
    · exact h.elim
theorem opd_addM : OpD X (binaryOp .Add) gAddM where
  op := OpR.weak op_cat fun x y H Q ⟨M, dx, dy, o, rx, ry, h⟩ => by
    unfold gAddM at h
    split at h
    · rename_i i j e1 e2
      obtain ⟨p, xs, rfl, h1, f1⟩ := vw_lst o rx e1
      obtain ⟨q, ys, rfl, h2, f2⟩ := vw_lst o ry e2
      exact ⟨p, q, xs, ys, rfl, rfl, h1, h2, by rw [f1.length, f2.length]; exact h.1, fun r hr => fin_lstM h.2 o (f1.append f2) hr⟩
    · exact h.elim
  mono := fun x y M Q Q' hq h => by
    unfold gAddM at h ⊢
    split at h
    · exact ⟨h.1, fun p hp => hq _ _ (h.2 p hp)⟩
    · exact h.elim

/-- two ints in, under a condition, a datum out -/
def gInt (C : Int → Int → Prop) (g : Int → Int → PyData) : D2 := fun x y M Q => match x, y with
  | .d (.int i), .d (.int j) => C i j ∧ Q (.d (g i j)) M
  | _, _ => False
theorem gInt.mono {C : Int → Int → Prop} {g : Int → Int → PyData} : ∀ x y M (Q Q' : DK), (∀ z M', Q z M' → Q' z M') → gInt C g x y M Q → gInt C g x y M Q' := fun x y M Q Q' hq h => by
  unfold gInt at h ⊢
  split at h
  · exact ⟨h.1, hq _ _ h.2⟩
  · exact h.elim
theorem opd_int {fv : Value → Value → Sem Value} {C : Int → Int → Prop} {g : Int → Int → PyData} {gv : Int → Int → V} (h : OpR X fv (rI C gv)) (hg : ∀ K H M i j, Fz K H M (gv i j) (g i j)) : OpD X fv (gInt C g) where
  op := OpR.weak h fun x y H Q ⟨M, dx, dy, o, rx, ry, h⟩ => by
    unfold gInt at h
    split at h
    · cases rx; cases ry
      exact ⟨_, _, rfl, rfl, h.1, fin_d h.2 o (hg _ _ _ _ _)⟩
    · exact h.elim
  mono := gInt.mono
def gInt0 (g : Int → Int → PyData) : D2 := fun x y M Q => match x, y with
  | .d (.int i), .d (.int j) => Q (.d (g i j)) M
  | _, _ => False
theorem opd_int0 {fv : Value → Value → Sem Value} {g : Int → Int → PyData} {gv : Int → Int → V} (h : OpR X fv (rI0 gv)) (hg : ∀ K H M i j, Fz K H M (gv i j) (g i j)) : OpD X fv (gInt0 g) where
  op := OpR.weak h fun x y H Q ⟨M, dx, dy, o, rx, ry, h⟩ => by
    unfold gInt0 at h
    split at h
    · cases rx; cases ry
      exact ⟨_, _, rfl, rfl, fin_d h o (hg _ _ _ _ _)⟩
    · exact h.elim
  mono := fun x y M Q Q' hq h => by
    unfold gInt0 at h ⊢
    split at h
    · exact hq _ _ h
    · exact h.elim
def gSub : D2 := gInt0 fun i j => .int (i - j)
theorem opd_sub : OpD X (binaryOp .Sub) gSub := opd_int0 op_sub fun _ _ _ _ _ => .int _
def gMod : D2 := gInt (fun _ j => 0 < j) fun i j => .int (i % j)
theorem opd_mod : OpD X (binaryOp .Mod) gMod := opd_int op_mod fun _ _ _ _ _ => .int _
def gFdiv : D2 := gInt CDivW fun i j => .int (i / j)
theorem opd_fdiv : OpD X (binaryOp .FloorDiv) gFdiv := opd_int op_fdivW fun _ _ _ _ _ => .int _
def gPow : D2 := gInt CPow fun i j => .int (i ^ j.toNat)
theorem opd_pow : OpD X (binaryOp .Pow) gPow := opd_int op_pow fun _ _ _ _ _ => .int _
def gLt : D2 := gInt0 fun i j => .bool (decide (i < j))
theorem opd_lt : OpD X (compareOp .Lt) gLt := opd_int0 op_lt fun _ _ _ _ _ => .bl _
def gLe : D2 := gInt0 fun i j => .bool (decide (i ≤ j))
theorem opd_le : OpD X (compareOp .LtE) gLe := opd_int0 op_le fun _ _ _ _ _ => .bl _
def gGt : D2 := gInt0 fun i j => .bool (decide (j < i))
theorem opd_gt : OpD X (compareOp .Gt) gGt := opd_int0 op_gt fun _ _ _ _ _ => .bl _
def gGe : D2 := gInt0 fun i j => .bool (decide (j ≤ i))
theorem opd_ge : OpD X (compareOp .GtE) gGe := opd_int0 op_ge fun _ _ _ _ _ => .bl _

/-- * of two ints, of a tuple or a list and an int -/
def gMul : D2 := fun x y M Q => match vw M x, vw M y with
  | some (.int i), some (.int j) => (CMul i j ∨ CMulW i j) ∧ Q (.d (.int (i * j))) M
  | some (.tuple xs), some (.int k) => (xs ≠ [] ∧ 2 ≤ k ∧ k ≤ 1000 ∧ xs.length ≤ 1000) ∧ Q (.d (.tuple (List.replicate k.toNat xs).flatten)) M
  | some (.list xs), some (.int k) => (-(2 ^ 63) ≤ k ∧ k < 2 ^ 63 ∧ xs.length * k.toNat ≤ sizeLine) ∧ Q (.d (.list (List.replicate k.toNat xs).flatten)) M
  | _, _ => False
theorem FzA.rep {K : PySem.W.Frag} {H : Hp} {M : Mem} {vs : List V} {ds : List PyData} (h : FzA K H M vs ds) : ∀ n : Nat, FzA K H M (List.replicate n vs).flatten (List.replicate n ds).flatten
  | 0 => .nil
  | n + 1 => by
    rw [List.replicate_succ, List.replicate_succ, List.flatten_cons, List.flatten_cons]
    exact h.append (FzA.rep h n)
theorem opd_mul : OpD X (binaryOp .Mult) gMul where
  op := OpR.weak (OpR.orr (OpR.orr (OpR.orr op_mul op_mulW) op_repT) op_rep) fun x y H Q ⟨M, dx, dy, o, rx, ry, h⟩ => by
    unfold gMul at h
    split at h
    · rename_i i j e1 e2
      cases vw_int rx e1; cases vw_int ry e2
      rcases h.1 with c | c
      · exact .inl (.inl (.inl ⟨_, _, rfl, rfl, c, fin_d h.2 o (.int _)⟩))
      · exact .inl (.inl (.inr ⟨_, _, rfl, rfl, c, fin_d h.2 o (.int _)⟩))
    · rename_i i j e1 e2
      obtain ⟨p, xs, rfl, h1, f1⟩ := vw_tup rx e1
      cases vw_int ry e2
      obtain ⟨⟨c1, c2, c3, c4⟩, q⟩ := h
      exact .inl (.inr ⟨p, j, xs, rfl, rfl, h1.sq, fun z => c1 (f1.nil_iff.mp z), c2, c3, by rw [f1.length]; exact c4, fun r hr => fin_tup q o (f1.rep _) hr⟩)
    · rename_i i j e1 e2
      obtain ⟨p, xs, rfl, h1, f1⟩ := vw_lst o rx e1
      cases vw_int ry e2
      obtain ⟨⟨c1, c2, c3⟩, q⟩ := h
      exact .inr ⟨p, j, xs, rfl, rfl, h1, c1, c2, by rw [f1.length]; exact c3, fun r hr => fin_lst q o (f1.rep _) hr⟩
    · exact h.elim
  mono := fun x y M Q Q' hq h => by
    unfold gMul at h ⊢
    split at h
    · exact ⟨h.1, hq _ _ h.2⟩
    · exact ⟨h.1, hq _ _ h.2⟩
    · exact ⟨h.1, hq _ _ h.2⟩
    · exact h.elim

def gNeg : D1 := fun x M Q => match x with
  | .d (.int i) => Q (.d (.int (-i))) M
  | _ => False
theorem und_neg : UnD X (unaryOp .USub) gNeg where
  op := fun pins s σ H x v Q I rv ⟨M, dx, o, rx, h⟩ => un_neg pins s σ H x v Q I rv (by
    unfold gNeg at h
    split at h
    · cases rx
      exact ⟨_, rfl, fin_d h o (.int _)⟩
    · exact h.elim)
  mono := fun x M Q Q' hq h => by
    unfold gNeg at h ⊢
    split at h
    · exact hq _ _ h
    · exact h.elim

/-! ### == and != -/
def gEq : D2 := fun x y M Q => match vw M x, vw M y with
  | some d, some e => (SeqAt.shaped d = true ∧ SeqAt.shaped e = true) ∧ Q (.d (.bool (PyData.eqv d e))) M
  | _, _ => False
def gNe : D2 := fun x y M Q => match vw M x, vw M y with
  | some d, some e => (SeqAt.shaped d = true ∧ SeqAt.shaped e = true) ∧ Q (.d (.bool (!PyData.eqv d e))) M
  | _, _ => False
theorem opd_eq (hu : X.A.units + 64 < cLine) : OpD X (compareOp .Eq) gEq where
  op := fun pins s σ H x y v u Q I rx ry ⟨M, dx, dy, o, qx, qy, h⟩ => by
    unfold gEq at h
    split at h
    · rename_i d e e1 e2
      obtain ⟨as, r1, _⟩ := vw.reads I o qx e1 rx
      obtain ⟨bs, r2, _⟩ := vw.reads I o qy e2 ry
      exact SeqAt.compareEq_shaped r1 r2 h.1.1 h.1.2 hu ⟨.bl _, H, I, rfl, fin_d h.2 o (.bl _)⟩
    · exact h.elim
  mono := fun x y M Q Q' hq h => by
    unfold gEq at h ⊢
    split at h
    · exact ⟨h.1, hq _ _ h.2⟩
    · exact h.elim
theorem opd_ne (hu : X.A.units + 64 < cLine) : OpD X (compareOp .NotEq) gNe where
  op := fun pins s σ H x y v u Q I rx ry ⟨M, dx, dy, o, qx, qy, h⟩ => by
    unfold gNe at h
    split at h
    · rename_i d e e1 e2
      obtain ⟨as, r1, _⟩ := vw.reads I o qx e1 rx
      obtain ⟨bs, r2, _⟩ := vw.reads I o qy e2 ry
      exact SeqAt.compareNe_shaped r1 r2 h.1.1 h.1.2 hu ⟨.bl _, H, I, rfl, fin_d h.2 o (.bl _)⟩
    · exact h.elim
  mono := fun x y M Q Q' hq h => by
    unfold gNe at h ⊢
    split at h
    · exact ⟨h.1, hq _ _ h.2⟩
    · exact h.elim

/-! ### displays -/
def dTup (t : DA) : DE := fun Xd ρ M Q => t Xd ρ M fun xs M1 => match allD xs with
  | some ds => ds.length ≤ sizeLine ∧ Q (.d (.tuple ds)) M1
  | none => False
def dLst (t : DA) : DE := fun Xd ρ M Q => t Xd ρ M fun xs M1 => match allD xs with
  | some ds => ds.length ≤ sizeLine ∧ Q (.d (.list ds)) M1
  | none => False
/-- a list that is going to be written -/
def dLstM (t : DA) : DE := fun Xd ρ M Q => t Xd ρ M fun xs M1 => match allD xs with
  | some ds => ds.length ≤ sizeLine ∧ ∀ p, M1 p = none → Q (.m p) (updM M1 p ds)
  | none => False
theorem ce_tup {x1} {t : DA} (h : CA X W es t) : CE X W (.Tuple es x1 pos) (dTup t) where
  pe := PE.weak (pe_tup h.pa) fun σ H Q ⟨ρ, M, Xd, r, x, q⟩ => by
    refine embA.next r x h.mono q fun ys M1 vs H1 e1 r1 x1 rv h1 => ?_
    split at h1
    · rename_i ds e
      refine ⟨by rw [(rv.allD e).length]; exact h1.1, fun p hp => ?_⟩
      exact h1.2 _ _ (e1.trans (Ext.new hp)) (r1.mem.new hp) (.tup (.inl ⟨Rd.of upd_same, r1.mem.out hp⟩) ((rv.allD e).ext (Ext.new hp)))
    · exact h1.elim
  mono := fun Xd ρ M Q Q' hq q => h.mono _ _ _ _ _ (fun xs M1 h1 => by
    split at h1
    · exact ⟨h1.1, hq _ _ h1.2⟩
    · exact h1.elim) q
theorem ce_lst {t : DA} (h : CA X W es t) : CE X W (.List es pos) (dLst t) where
  pe := PE.weak (pe_lst h.pa) fun σ H Q ⟨ρ, M, Xd, r, x, q⟩ => by
    refine embA.next r x h.mono q fun ys M1 vs H1 e1 r1 x1 rv h1 => ?_
    split at h1
    · rename_i ds e
      refine ⟨by rw [(rv.allD e).length]; exact h1.1, fun p hp => ?_⟩
      exact h1.2 _ _ (e1.trans (Ext.new hp)) (r1.mem.new hp) (.lst upd_same (r1.mem.out hp) ((rv.allD e).ext (Ext.new hp)))
    · exact h1.elim
  mono := fun Xd ρ M Q Q' hq q => h.mono _ _ _ _ _ (fun xs M1 h1 => by
    split at h1
    · exact ⟨h1.1, hq _ _ h1.2⟩
    · exact h1.elim) q
theorem ce_lstM {t : DA} (h : CA X W es t) : CE X W (.List es pos) (dLstM t) where
  pe := PE.weak (pe_lst h.pa) fun σ H Q ⟨ρ, M, Xd, r, x, q⟩ => by
    refine embA.next r x h.mono q fun ys M1 vs H1 e1 r1 x1 rv h1 => ?_
    split at h1
    · rename_i ds e
      refine ⟨by rw [(rv.allD e).length]; exact h1.1, fun p hp => ?_⟩
      exact h1.2 p (r1.mem.out hp) _ _ (e1.trans (Ext.newM hp)) (r1.mem.newM hp (rv.allD e)) ⟨rfl, by rw [updM_same]; simp⟩
    · exact h1.elim
  mono := fun Xd ρ M Q Q' hq q => h.mono _ _ _ _ _ (fun xs M1 h1 => by
    split at h1
    · exact ⟨h1.1, fun p hp => hq _ _ (h1.2 p hp)⟩
    · exact h1.elim) q

/-! ### and, or, if -/
def dAnd (fa fb : DE) : DE := fun Xd ρ M Q => fa Xd ρ M fun x M1 => match x with
  | .d (.bool true) => fb Xd ρ M1 Q
  | .d (.bool false) => Q (.d (.bool false)) M1
  | _ => False
def dOr (fa fb : DE) : DE := fun Xd ρ M Q => fa Xd ρ M fun x M1 => match x with
  | .d (.bool true) => Q (.d (.bool true)) M1
  | .d (.bool false) => fb Xd ρ M1 Q
  | _ => False
theorem ce_one {op} (h : CE X W a fa) : CE X W (.BoolOp op [a] pos) fa := ⟨pe_one h.pe, h.mono⟩
theorem ce_and (ha : CE X W a fa) (hb : CE X W (.BoolOp .And (b :: es) pos) fb) : CE X W (.BoolOp .And (a :: b :: es) pos) (dAnd fa fb) where
  pe := PE.weak (pe_and ha.pe hb.pe) fun σ H Q ⟨ρ, M, Xd, r, x, h⟩ => by
    refine emb.next r x ha.mono h fun y M1 v H1 e1 r1 x1 rv h1 => ?_
    split at h1
    · cases rv
      refine ⟨true, rfl, ?_⟩
      rw [if_pos rfl]
      exact emb.next r1 x1 hb.mono h1 fun z M2 u H2 e2 r2 _ ru q => q u H2 (e1.trans e2) r2.mem ru
    · cases rv
      refine ⟨false, rfl, ?_⟩
      rw [if_neg (by decide)]
      exact h1 _ _ e1 r1.mem (.bl _)
    · exact h1.elim
  mono := fun Xd ρ M Q Q' hq h => ha.mono _ _ _ _ _ (fun x _ h1 => by
    split at h1
    · exact hb.mono _ _ _ _ _ hq h1
    · exact hq _ _ h1
    · exact h1.elim) h
theorem ce_or (ha : CE X W a fa) (hb : CE X W (.BoolOp .Or (b :: es) pos) fb) : CE X W (.BoolOp .Or (a :: b :: es) pos) (dOr fa fb) where
  pe := PE.weak (pe_or ha.pe hb.pe) fun σ H Q ⟨ρ, M, Xd, r, x, h⟩ => by
    refine emb.next r x ha.mono h fun y M1 v H1 e1 r1 x1 rv h1 => ?_
    split at h1
    · cases rv
      refine ⟨true, rfl, ?_⟩
      rw [if_pos rfl]
      exact h1 _ _ e1 r1.mem (.bl _)
    · cases rv
      refine ⟨false, rfl, ?_⟩
      rw [if_neg (by decide)]
      exact emb.next r1 x1 hb.mono h1 fun z M2 u H2 e2 r2 _ ru q => q u H2 (e1.trans e2) r2.mem ru
    · exact h1.elim
  mono := fun Xd ρ M Q Q' hq h => ha.mono _ _ _ _ _ (fun x _ h1 => by
    split at h1
    · exact hq _ _ h1
    · exact hb.mono _ _ _ _ _ hq h1
    · exact h1.elim) h

/-! ### tests -/
def tVal (f : DE) : DT := fun Xd ρ M Q => f Xd ρ M fun x M1 => match x with
  | .d (.bool k) => Q k M1
  | _ => False
theorem ct_core {t : TE} {σ : L2.St} {H : Hp} {Q : Bool → Hp → Prop} (ha : CE X W a fa) (h : embT X.K W (tVal fa) σ H Q) : tB (emb X.K W fa) σ H Q := by
  obtain ⟨ρ, M, Xd, r, x, h⟩ := h
  refine emb.next r x ha.mono h fun y M1 v H1 e1 r1 x1 rv h1 => ?_
  split at h1
  · cases rv; exact ⟨_, rfl, h1 H1 e1 r1.mem⟩
  · exact h1.elim
theorem tVal.mono (ha : CE X W a fa) : ∀ Xd ρ M (Q Q' : Bool → Mem → Prop), (∀ x M', Q x M' → Q' x M') → tVal fa Xd ρ M Q → tVal fa Xd ρ M Q' := fun Xd ρ M Q Q' hq h => ha.mono _ _ _ _ _ (fun x _ h1 => by
    split at h1
    · exact hq _ _ h1
    · exact h1.elim) h
theorem ct_val (ha : CE X W a fa) (he : ∀ whole, isTrue a X.env whole = (do let v ← whole; standAt a.pos; holding [v] (truthy v)) := by intro _; rfl) : CT X W a (tVal fa) where
  pt := PT.weak (pt_val ha.pe he) fun σ H Q h => ct_core (t := emb X.K W fa) ha h
  mono := tVal.mono ha
theorem ct_cmp {op : CmpOp} {g : D2} (o : OpD X (compareOp op) g) (ha : CE X W a fa) (hb : CE X W b fb) (hm : behindInMarks op b = false := by first | exact nomark _ | rfl) : CT X W (.Compare a [op] [b] pos) (tVal (dBin g fa fb)) where
  pt := PT.weak (pt_cmpR o.op ha.pe hb.pe hm) fun σ H Q h => by
    obtain ⟨ρ, M, Xd, r, x, h⟩ := h
    have q := bin_core (X := X) (W := W) (σ := σ) (H := H) (Q := fun z H' => ∃ k, z = .bl k ∧ Q k H') o.mono ha hb ⟨ρ, M, Xd, r, x, dBin.mono o.mono ha hb _ _ _ _ _ (fun z M' hz v H' e ok rv => ?_) h⟩
    · exact q
    · split at hz
      · cases rv; exact ⟨_, rfl, hz H' e ok⟩
      · exact hz.elim
  mono := tVal.mono (ce_cmp o ha hb hm (pos := pos))
theorem ct_chain {op op' : CmpOp} {g g' : D2} (o : OpD X (compareOp op) g) (o' : OpD X (compareOp op') g') (ha : CE X W a fa) (hb : CE X W b fb) (hc : CE X W c fc)
    (hm : lastMarks [op, op'] [b, c] = false := by with_unfolding_all rfl) : CT X W (.Compare a [op, op'] [b, c] pos) (tVal (dChain g g' fa fb fc)) where
  pt := PT.weak (pt_chain o.op o'.op ha.pe hb.pe hc.pe hm) fun σ H Q h => by
    obtain ⟨ρ, M, Xd, r, x, h⟩ := h
    refine emb.next r x ha.mono h fun y M1 v H1 e1 r1 x1 rv h1 => ?_
    refine emb.next r1 x1 hb.mono h1 fun z M2 u H2 e2 r2 x2 ru h2 => ?_
    refine ⟨M2, y, z, r2.mem, rv.ext e2, ru, o.mono _ _ _ _ _ (fun w M3 q v' H3 e3 ok3 rw => ?_) h2⟩
    dsimp only at q
    split at q
    · cases rw
      refine ⟨true, rfl, ?_⟩
      rw [if_pos rfl]
      refine emb.next (r2.ext e3 ok3) (x2.at e3) hc.mono q fun z4 M4 u4 H4 e4 r4 x4 ru4 h4 => ?_
      refine ⟨M4, z, z4, r4.mem, (ru.ext e3).ext e4, ru4, o'.mono _ _ _ _ _ (fun w M' q v' H' e5 o rw => ?_) h4⟩
      split at q
      · cases rw; exact ⟨_, rfl, q H' ((((e1.trans e2).trans e3).trans e4).trans e5) o⟩
      · exact q.elim
    · cases rw
      refine ⟨false, rfl, ?_⟩
      rw [if_neg (by decide)]
      exact ⟨_, rfl, q _ ((e1.trans e2).trans e3) ok3⟩
    · exact q.elim
  mono := tVal.mono (ce_chain o o' ha hb hc hm (pos := pos))
def tAnd2 (t u : DT) : DT := fun Xd ρ M Q => t Xd ρ M fun k M1 => match k with | true => u Xd ρ M1 Q | false => Q false M1
def tOr2 (t u : DT) : DT := fun Xd ρ M Q => t Xd ρ M fun k M1 => match k with | true => Q true M1 | false => u Xd ρ M1 Q
def tNot1 (t : DT) : DT := fun Xd ρ M Q => t Xd ρ M fun k M1 => Q (!k) M1
/-- a test whatever its whole is -/
structure CW (X : Cx) (W : WX) (e : Expr) (f : DT) : Prop where
  pw : PW X e (embT X.K W f)
  mono : ∀ Xd ρ M Q Q', (∀ x M', Q x M' → Q' x M') → f Xd ρ M Q → f Xd ρ M Q'
theorem CW.ct {f : DT} (h : CW X W a f) : CT X W a f := ⟨h.pw.pt, h.mono⟩
variable {ta tb : DT}
theorem cw_and1 (h : CT X W a ta) : CW X W (.BoolOp .And [a] pos) ta := ⟨pw_and1 h.pt, h.mono⟩
theorem cw_or1 (h : CT X W a ta) : CW X W (.BoolOp .Or [a] pos) ta := ⟨pw_or1 h.pt, h.mono⟩
theorem PW.weak {t t' : TT} (h : PW X e t) (w : ∀ σ H Q, t' σ H Q → t σ H Q) : PW X e t' := ⟨fun wh pins s σ H Q I q => h.run wh pins s σ H Q I (w σ H Q q)⟩
theorem cw_and (ha : CT X W a ta) (hb : CW X W (.BoolOp .And (b :: es) pos) tb) : CW X W (.BoolOp .And (a :: b :: es) pos) (tAnd2 ta tb) where
  pw := PW.weak (pw_and ha.pt hb.pw) fun σ H Q ⟨ρ, M, Xd, r, x, h⟩ => by
    refine embT.next r x ha.mono h fun k M1 H1 e1 r1 x1 h1 => ?_
    cases k with
    | true => exact embT.next r1 x1 hb.mono h1 fun k2 M2 H2 e2 r2 x2 q => q H2 (e1.trans e2) r2.mem
    | false => exact h1 H1 e1 r1.mem
  mono := fun Xd ρ M Q Q' hq h => ha.mono _ _ _ _ _ (fun k _ h1 => by
    cases k with
    | true => exact hb.mono _ _ _ _ _ hq h1
    | false => exact hq _ _ h1) h
theorem cw_or (ha : CT X W a ta) (hb : CW X W (.BoolOp .Or (b :: es) pos) tb) : CW X W (.BoolOp .Or (a :: b :: es) pos) (tOr2 ta tb) where
  pw := PW.weak (pw_or ha.pt hb.pw) fun σ H Q ⟨ρ, M, Xd, r, x, h⟩ => by
    refine embT.next r x ha.mono h fun k M1 H1 e1 r1 x1 h1 => ?_
    cases k with
    | true => exact h1 H1 e1 r1.mem
    | false => exact embT.next r1 x1 hb.mono h1 fun k2 M2 H2 e2 r2 x2 q => q H2 (e1.trans e2) r2.mem
  mono := fun Xd ρ M Q Q' hq h => ha.mono _ _ _ _ _ (fun k _ h1 => by
    cases k with
    | true => exact hq _ _ h1
    | false => exact hb.mono _ _ _ _ _ hq h1) h
theorem ct_not (ha : CT X W a ta) : CT X W (.UnaryOp .Not a pos) (tNot1 ta) where
  pt := PT.weak (pt_not ha.pt) fun σ H Q ⟨ρ, M, Xd, r, x, h⟩ => embT.next r x ha.mono h fun k M1 H1 e1 r1 _ h1 => h1 H1 e1 r1.mem
  mono := fun Xd ρ M Q Q' hq h => ha.mono _ _ _ _ _ (fun k _ h1 => hq _ _ h1) h
def dIf (t : DT) (fa fb : DE) : DE := fun Xd ρ M Q => t Xd ρ M fun k M1 => match k with | true => fa Xd ρ M1 Q | false => fb Xd ρ M1 Q
theorem ce_if (hc : CT X W c ta) (ha : CE X W a fa) (hb : CE X W b fb) : CE X W (.IfExp c a b pos) (dIf ta fa fb) where
  pe := PE.weak (pe_ifExp hc.pt ha.pe hb.pe) fun σ H Q ⟨ρ, M, Xd, r, x, h⟩ => by
    refine embT.next r x hc.mono h fun k M1 H1 e1 r1 x1 h1 => ?_
    cases k with
    | true => exact emb.next r1 x1 ha.mono h1 fun z M2 u H2 e2 r2 _ ru q => q u H2 (e1.trans e2) r2.mem ru
    | false => exact emb.next r1 x1 hb.mono h1 fun z M2 u H2 e2 r2 _ ru q => q u H2 (e1.trans e2) r2.mem ru
  mono := fun Xd ρ M Q Q' hq h => hc.mono _ _ _ _ _ (fun k _ h1 => by
    cases k with
    | true => exact ha.mono _ _ _ _ _ hq h1
    | false => exact hb.mono _ _ _ _ _ hq h1) h
end
end HD

namespace HD
open PySem PySem.Spec PyProof.Rows L2
section
variable {X : Cx} {W : WX} {e a b c : Expr} {es : List Expr} {f fa fb fc : DE} {pos : Pos}

/-! ### subscripts -/
theorem atI_get {α : Type} {xs : List α} {i : Int} {x : α} (h : atI xs i = some x) : ∃ j, ixN xs.length i = some j ∧ xs[j]? = some x := by
  simp only [atI, Option.bind_eq_some_iff] at h
  exact h
theorem FzA.atI {K : PySem.W.Frag} {H : Hp} {M : Mem} {vs : List V} {ds : List PyData} {i : Int} {d : PyData} (h : FzA K H M vs ds) (e : L2.atI ds i = some d) : ∃ v, L2.atI vs i = some v ∧ Fz K H M v d := by
  obtain ⟨j, h1, h2⟩ := atI_get e
  obtain ⟨v, h3, h4⟩ := h.get h2
  refine ⟨v, ?_, h4⟩
  simp only [L2.atI, Option.bind_eq_some_iff]
  exact ⟨j, by rw [h.length]; exact h1, h3⟩
def gIx : D2 := fun x y M Q => match vw M x, vw M y with
  | some (.list ds), some (.int i) => match L2.atI ds i with
    | some d => Q (.d d) M
    | none => False
  | some (.tuple ds), some (.int i) => match L2.atI ds i with
    | some d => Q (.d d) M
    | none => False
  | _, _ => False
theorem gIx.mono : ∀ x y M (Q Q' : DK), (∀ z M', Q z M' → Q' z M') → gIx x y M Q → gIx x y M Q' := fun x y M Q Q' hq h => by
  unfold gIx at h ⊢
  split at h
  · split at h
    · exact hq _ _ h
    · exact h.elim
  · split at h
    · exact hq _ _ h
    · exact h.elim
  · exact h.elim
theorem ce_sub (ha : CE X W a fa) (hb : CE X W b fb) (hs : PlainIx b := by exact fun _ _ => rfl) : CE X W (.Subscript a b pos) (dBin gIx fa fb) := by
  have hr : IxR X fun x y H Q => ∃ M dx dy, MemOk X.K H M ∧ RV X.K H M x dx ∧ RV X.K H M y dy ∧ gIx dx dy M (fin X.K H M Q) := by
    intro value slice pins s σ H x y v u Q I rx ry ⟨M, dx, dy, o, qx, qy, h⟩ hs
    unfold gIx at h
    split at h
    · rename_i ds i e1 e2
      split at h
      · rename_i d e3
        obtain ⟨p, xs, rfl, h1, f1⟩ := vw_lst o qx e1
        cases vw_int qy e2
        obtain ⟨z, h2, h3⟩ := f1.atI e3
        exact ix_list value slice pins s σ H _ _ v u Q I rx ry ⟨p, xs, i, z, rfl, rfl, .of h1, h2, fin_d h o h3⟩ hs
      · exact h.elim
    · rename_i ds i e1 e2
      split at h
      · rename_i d e3
        obtain ⟨p, xs, rfl, h1, f1⟩ := vw_tup qx e1
        cases vw_int qy e2
        obtain ⟨z, h2, h3⟩ := f1.atI e3
        exact ix_tup value slice pins s σ H _ _ v u Q I rx ry ⟨p, xs, i, z, rfl, rfl, h1.sq, h2, fin_d h o h3⟩ hs
      · exact h.elim
    · exact h.elim
  exact ce_ix hr gIx.mono ha hb hs

/-! ### slices -/
abbrev DO := DX → DEnv → Mem → (Option Int → Mem → Prop) → Prop
def embO (K : PySem.W.Frag) (W : WX) (f : DO) : TO := fun σ H Q => ∃ ρ M Xd, Rel K σ H ρ M ∧ XRel K W σ H ρ M Xd ∧
  f Xd ρ M fun b M' => ∀ H', Ext H M H' M' → MemOk K H' M' → Q b H'
structure CO (X : Cx) (W : WX) (e : Option Expr) (f : DO) : Prop where
  po : PO X e (embO X.K W f)
  mono : ∀ Xd ρ M Q Q', (∀ x M', Q x M' → Q' x M') → f Xd ρ M Q → f Xd ρ M Q'
theorem PO.weak {e : Option Expr} {t t' : TO} (h : PO X e t) (w : ∀ σ H Q, t' σ H Q → t σ H Q) : PO X e t' := ⟨fun pins s σ H Q I q => h.run pins s σ H Q I (w σ H Q q)⟩
def oNo : DO := fun _ _ M Q => Q none M
def oSome (f : DE) : DO := fun Xd ρ M Q => f Xd ρ M fun x M1 => match x with
  | .d (.int i) => Q (some i) M1
  | _ => False
theorem co_none : CO X W none oNo where
  po := PO.weak po_none fun σ H Q ⟨ρ, M, Xd, r, x, h⟩ => h H Ext.refl r.mem
  mono := fun _ _ _ _ _ hq h => hq _ _ h
theorem co_some (ha : CE X W a fa) : CO X W (some a) (oSome fa) where
  po := PO.weak (po_some ha.pe) fun σ H Q ⟨ρ, M, Xd, r, x, h⟩ => by
    refine emb.next r x ha.mono h fun y M1 v H1 e1 r1 x1 rv h1 => ?_
    split at h1
    · cases rv; exact ⟨_, rfl, h1 H1 e1 r1.mem⟩
    · exact h1.elim
  mono := fun Xd ρ M Q Q' hq h => ha.mono _ _ _ _ _ (fun x _ h1 => by
    split at h1
    · exact hq _ _ h1
    · exact h1.elim) h
def cutD (ds : List PyData) (lo hi : Option Int) : List PyData := (ds.drop (HT.sIx ds.length 0 lo)).take (HT.sIx ds.length ds.length hi - HT.sIx ds.length 0 lo)
theorem FzA.cut {K : PySem.W.Frag} {H : Hp} {M : Mem} {vs : List V} {ds : List PyData} (h : FzA K H M vs ds) (lo hi : Option Int) : FzA K H M (cutV vs lo hi) (cutD ds lo hi) := by
  unfold cutV cutD
  rw [h.length]
  exact (h.drop _).take _
theorem FzA.ints {K : PySem.W.Frag} {H : Hp} {M : Mem} : ∀ ns : List Int, FzA K H M (ns.map V.int) (ns.map PyData.int)
  | [] => .nil
  | n :: r => .cons (.int n) (FzA.ints r)
def gSl : DV → Option Int → Option Int → Mem → DK → Prop := fun x lo hi M Q => match x with
  | .s _ ns => Q (.d (.list (cutD (ns.map .int) lo hi))) M
  | x => match vw M x with
    | some (.list ds) => Q (.d (.list (cutD ds lo hi))) M
    | some (.tuple ds) => Q (.d (.tuple (cutD ds lo hi))) M
    | _ => False
def dSl (f : DE) (l h : DO) : DE := fun Xd ρ M Q => f Xd ρ M fun x M1 => l Xd ρ M1 fun lo M2 => h Xd ρ M2 fun hi M3 => gSl x lo hi M3 Q
theorem gSl.mono : ∀ x lo hi M (Q Q' : DK), (∀ z M', Q z M' → Q' z M') → gSl x lo hi M Q → gSl x lo hi M Q' := fun x lo hi M Q Q' hq h => by
  unfold gSl at h ⊢
  split at h
  · exact hq _ _ h
  · split at h
    · exact hq _ _ h
    · exact hq _ _ h
    · exact h.elim
theorem cutV_whole {xs : List V} {lo hi : Option Int} (h : HT.sIx xs.length 0 lo = 0 ∧ HT.sIx xs.length xs.length hi = xs.length) : cutV xs lo hi = xs := by
  unfold cutV
  rw [h.1, h.2]
  simp
theorem cutD_whole {xs : List PyData} {lo hi : Option Int} (h : HT.sIx xs.length 0 lo = 0 ∧ HT.sIx xs.length xs.length hi = xs.length) : cutD xs lo hi = xs := by
  unfold cutD
  rw [h.1, h.2]
  simp
theorem ce_slice {l h : DO} {lo hi : Option Expr} {p2 : Pos} (ha : CE X W a fa) (hl : CO X W lo l) (hh : CO X W hi h) : CE X W (.Subscript a (.Slice lo hi none p2) pos) (dSl fa l h) where
  pe := PE.weak (pe_slice (SlR.or sl_list sl_tupA) ha.pe hl.po hh.po) fun σ H Q ⟨ρ, M, Xd, r, x, h⟩ => by
    refine emb.next r x ha.mono h fun y M1 v H1 e1 r1 x1 rv h1 => ?_
    refine ⟨ρ, M1, Xd, r1, x1, hl.mono _ _ _ _ _ (fun lo' M2 h2 H2 e2 o2 => ?_) h1⟩
    refine ⟨ρ, M2, Xd, r1.ext e2 o2, x1.at e2, hh.mono _ _ _ _ _ (fun hi' M3 h3 H3 e3 o3 => ?_) h2⟩
    have rv3 := (rv.ext e2).ext e3
    have e13 := (e1.trans e2).trans e3
    unfold gSl at h3
    split at h3
    · obtain ⟨rfl, hs⟩ := rv3
      exact .inl ⟨_, _, rfl, hs.sq, fun p hp => h3 _ _ (e13.trans (Ext.new hp)) (o3.new hp) (.lst upd_same (o3.out hp) ((FzA.ints _).cut _ _))⟩
    · split at h3
      · rename_i ds e4
        obtain ⟨p, xs, rfl, q1, f1⟩ := vw_lst o3 rv3 e4
        exact .inl ⟨p, xs, rfl, .of q1, fun p hp => h3 _ _ (e13.trans (Ext.new hp)) (o3.new hp) (.lst upd_same (o3.out hp) ((f1.cut _ _).ext (Ext.new hp)))⟩
      · rename_i ds e4
        obtain ⟨p, xs, rfl, q1, f1⟩ := vw_tup rv3 e4
        refine .inr ⟨p, xs, rfl, q1.sq, fun w => ?_, fun _ p hp => h3 _ _ (e13.trans (Ext.new hp)) (o3.new hp) (.tup (.inl ⟨Rd.of upd_same, o3.out hp⟩) ((f1.cut _ _).ext (Ext.new hp)))⟩
        refine h3 _ _ e13 o3 ?_
        rw [cutD_whole (by rw [← f1.length]; exact w)]
        exact .tup q1 f1
      · exact h3.elim
  mono := fun Xd ρ M Q Q' hq h => ha.mono _ _ _ _ _ (fun x _ h1 => hl.mono _ _ _ _ _ (fun _ _ h2 => hh.mono _ _ _ _ _ (fun _ _ h3 => gSl.mono _ _ _ _ _ _ hq h3) h2) h1) h

/-! ### built-ins -/
theorem RVs.one {K : PySem.W.Frag} {H : Hp} {M : Mem} {vs : List V} {x : DV} (h : RVs K H M vs [x]) : ∃ v, vs = [v] ∧ RV K H M v x := by
  cases h with | cons h t => cases t; exact ⟨_, rfl, h⟩
theorem RVs.two {K : PySem.W.Frag} {H : Hp} {M : Mem} {vs : List V} {x y : DV} (h : RVs K H M vs [x, y]) : ∃ v u, vs = [v, u] ∧ RV K H M v x ∧ RV K H M u y := by
  cases h with | cons h t => obtain ⟨u, rfl, hu⟩ := t.one; exact ⟨_, _, rfl, h, hu⟩
def gLen : DF := fun xs M Q => match xs with
  | [.s _ ns] => Q (.d (.int ns.length)) M
  | [x] => match vw M x with
    | some (.list ds) => Q (.d (.int ds.length)) M
    | some (.tuple ds) => Q (.d (.int ds.length)) M
    | some (.str s) => s.length ≤ sizeLine ∧ Q (.d (.int s.length)) M
    | _ => False
  | _ => False
theorem cd_len : CallD X (.builtin "len") gLen where
  op := CallR.weak (CallR.orr call_len_seq call_len_str) fun vs H Q ⟨M, xs, o, rx, h⟩ => by
    unfold gLen at h
    split at h
    · obtain ⟨v, rfl, rv⟩ := rx.one
      obtain ⟨rfl, hs⟩ := rv
      refine .inl ⟨_, _, rfl, .inl hs.sq, ?_⟩
      rw [List.length_map]
      exact fin_d h o (.int _)
    · obtain ⟨v, rfl, rv⟩ := rx.one
      split at h
      · rename_i ds e4
        obtain ⟨p, xs, rfl, q1, f1⟩ := vw_lst o rv e4
        refine .inl ⟨_, _, rfl, .inl (.of q1), ?_⟩
        rw [f1.length]
        exact fin_d h o (.int _)
      · rename_i ds e4
        obtain ⟨p, xs, rfl, q1, f1⟩ := vw_tup rv e4
        refine .inl ⟨_, _, rfl, .inr q1.sq, ?_⟩
        rw [f1.length]
        exact fin_d h o (.int _)
      · rename_i ds e4
        cases vw_str rv e4
        exact .inr ⟨_, rfl, h.1, fin_d h.2 o (.int _)⟩
      · exact h.elim
    · exact h.elim
  mono := fun x M Q Q' hq h => by
    unfold gLen at h ⊢
    split at h
    · exact hq _ _ h
    · split at h
      · exact hq _ _ h
      · exact hq _ _ h
      · exact ⟨h.1, hq _ _ h.2⟩
      · exact h.elim
    · exact h.elim
def gInt1 : DF := fun xs M Q => match xs with
  | [.d (.int i)] => Q (.d (.int i)) M
  | [.d (.bool k)] => Q (.d (.int (if k then 1 else 0))) M
  | _ => False
theorem cd_int : CallD X (.type "int") gInt1 where
  op := CallR.weak call_int1 fun vs H Q ⟨M, xs, o, rx, h⟩ => by
    unfold gInt1 at h
    split at h
    · obtain ⟨v, rfl, rv⟩ := rx.one; cases rv
      exact .inl ⟨_, rfl, fin_d h o (.int _)⟩
    · obtain ⟨v, rfl, rv⟩ := rx.one; cases rv
      exact .inr ⟨_, rfl, fin_d h o (.int _)⟩
    · exact h.elim
  mono := fun x M Q Q' hq h => by
    unfold gInt1 at h ⊢
    split at h
    · exact hq _ _ h
    · exact hq _ _ h
    · exact h.elim
def seqOf (M : Mem) : DV → Option (List PyData)
  | .s _ ns => some (ns.map .int)
  | x => match vw M x with
    | some (.list ds) => some ds
    | some (.tuple ds) => some ds
    | _ => none
theorem seqOf_is {K : PySem.W.Frag} {H : Hp} {M : Mem} {v : V} {x : DV} {ds : List PyData} (o : MemOk K H M) (r : RV K H M v x) (h : seqOf M x = some ds) : ∃ p xs, v = .ref p ∧ (SqL K H p xs ∨ SqT K H p xs) ∧ FzA K H M xs ds := by
  unfold seqOf at h
  split at h
  · cases h
    obtain ⟨rfl, hs⟩ := r
    exact ⟨_, _, rfl, .inl hs.sq, FzA.ints _⟩
  · split at h
    · cases h
      rename_i e4
      obtain ⟨p, xs, rfl, q1, f1⟩ := vw_lst o r e4
      exact ⟨_, _, rfl, .inl (.of q1), f1⟩
    · cases h
      rename_i e4
      obtain ⟨p, xs, rfl, q1, f1⟩ := vw_tup r e4
      exact ⟨_, _, rfl, .inr q1.sq, f1⟩
    · cases h
def gList : DF := fun xs M Q => match xs with
  | [x] => match seqOf M x with
    | some ds => Q (.d (.list ds)) M
    | none => False
  | _ => False
def gListM : DF := fun xs M Q => match xs with
  | [x] => match seqOf M x with
    | some ds => ∀ p, M p = none → Q (.m p) (updM M p ds)
    | none => False
  | _ => False
theorem cd_list : CallD X (.type "list") gList where
  op := CallR.weak call_list_of fun vs H Q ⟨M, xs, o, rx, h⟩ => by
    unfold gList at h
    split at h
    · obtain ⟨v, rfl, rv⟩ := rx.one
      split at h
      · rename_i ds e
        obtain ⟨p, xs, rfl, h1, f1⟩ := seqOf_is o rv e
        exact ⟨p, xs, rfl, h1, fun l hl => fin_lst h o f1 hl⟩
      · exact h.elim
    · exact h.elim
  mono := fun x M Q Q' hq h => by
    unfold gList at h ⊢
    split at h
    · split at h
      · exact hq _ _ h
      · exact h.elim
    · exact h.elim
theorem cd_listM : CallD X (.type "list") gListM where
  op := CallR.weak call_list_of fun vs H Q ⟨M, xs, o, rx, h⟩ => by
    unfold gListM at h
    split at h
    · obtain ⟨v, rfl, rv⟩ := rx.one
      split at h
      · rename_i ds e
        obtain ⟨p, xs, rfl, h1, f1⟩ := seqOf_is o rv e
        exact ⟨p, xs, rfl, h1, fun l hl => fin_lstM h o f1 hl⟩
      · exact h.elim
    · exact h.elim
  mono := fun x M Q Q' hq h => by
    unfold gListM at h ⊢
    split at h
    · split at h
      · exact fun p hp => hq _ _ (h p hp)
      · exact h.elim
    · exact h.elim
def gTuple : DF := fun xs M Q => match xs with
  | [x] => match vw M x with
    | some (.list ds) => Q (.d (.tuple ds)) M
    | some (.tuple ds) => Q (.d (.tuple ds)) M
    | _ => False
  | _ => False
theorem cd_tuple : CallD X (.type "tuple") gTuple where
  op := CallR.weak call_tuple_of fun vs H Q ⟨M, xs, o, rx, h⟩ => by
    unfold gTuple at h
    split at h
    · obtain ⟨v, rfl, rv⟩ := rx.one
      split at h
      · rename_i ds e
        obtain ⟨p, xs, rfl, h1, f1⟩ := vw_lst o rv e
        exact ⟨p, xs, rfl, .inl ⟨.of h1, fun l hl => fin_tup h o f1 hl⟩⟩
      · rename_i ds e
        obtain ⟨p, xs, rfl, h1, f1⟩ := vw_tup rv e
        exact ⟨p, xs, rfl, .inr ⟨h1.sq, fin_d h o (.tup h1 f1)⟩⟩
      · exact h.elim
    · exact h.elim
  mono := fun x M Q Q' hq h => by
    unfold gTuple at h ⊢
    split at h
    · split at h
      · exact hq _ _ h
      · exact hq _ _ h
      · exact h.elim
    · exact h.elim
def gMin2 : DF := fun xs M Q => match xs with
  | [.d (.int i), .d (.int j)] => Q (.d (.int (if j < i then j else i))) M
  | _ => False
theorem cd_min2 (hc : X.calm = true) : CallD X (.builtin "min") gMin2 where
  op := CallR.weak (call_min2 hc) fun vs H Q ⟨M, xs, o, rx, h⟩ => by
    unfold gMin2 at h
    split at h
    · obtain ⟨v, u, rfl, rv, ru⟩ := rx.two; cases rv; cases ru
      exact ⟨_, _, rfl, fin_d h o (.int _)⟩
    · exact h.elim
  mono := fun x M Q Q' hq h => by
    unfold gMin2 at h ⊢
    split at h
    · exact hq _ _ h
    · exact h.elim
def gMax2 : DF := fun xs M Q => match xs with
  | [.d (.int i), .d (.int j)] => Q (.d (.int (if j > i then j else i))) M
  | _ => False
theorem cd_max2 (hc : X.calm = true) : CallD X (.builtin "max") gMax2 where
  op := CallR.weak (call_max2 hc) fun vs H Q ⟨M, xs, o, rx, h⟩ => by
    unfold gMax2 at h
    split at h
    · obtain ⟨v, u, rfl, rv, ru⟩ := rx.two; cases rv; cases ru
      exact ⟨_, _, rfl, fin_d h o (.int _)⟩
    · exact h.elim
  mono := fun x M Q Q' hq h => by
    unfold gMax2 at h ⊢
    split at h
    · exact hq _ _ h
    · exact h.elim

/-! ### repr -/
/-- what the layer asks of where a def runs, beyond Room -/
structure Gd (A : Around) : Prop where
  guards : A.guards = some []
def Shows (d : PyData) : Prop := d.showable = true ∧ d.depth ≤ 60 ∧ d.shown.length ≤ sizeLine
def gRepr : DF := fun xs M Q => match xs with
  | [x] => match vw M x with
    | some d => Shows d ∧ Q (.d (.str d.shown)) M
    | none => False
  | _ => False
theorem cd_repr (g : Gd X.A) (hsys : ∃ o, X.base.get? sysModules = some o) (hu : X.A.units + 64 < cLine) : CallD X (.builtin "repr") gRepr where
  op := fun pins s σ H vs us Q I rv ⟨M, xs, o, rx, h⟩ => by
    unfold gRepr at h
    split at h
    · rename_i x
      obtain ⟨v, rfl, qv⟩ := rx.one
      obtain ⟨u, rfl, ru⟩ := vals1 rv
      split at h
      · rename_i d e
        obtain ⟨⟨h1, h3, h4⟩, hq⟩ := h
        have fin0 : ∀ (h' : Heap) (u' : Tok) (tk : Nat), (∀ b ob, s.heap.get? b = some ob → h'.get? b = some ob) → EP X pins σ Q (.str d.shown u') { s with heap := h', toks := tk } := fun h' u' tk k =>
          ⟨.str d.shown, H, I.kept (t' := tk) k, ⟨_, rfl⟩, fin_d hq o (.str _)⟩
        obtain ⟨as, rd, hn⟩ := vw.reads I o qv e ru
        have nsys : sysModules ∉ as := fun z => not_sys hsys I (hn _ z) rfl
        have fin1 : ∀ (u' : Tok) (tk : Nat), EP X pins σ Q (.str d.shown u') { s with toks := tk } := fun u' tk => fin0 s.heap u' tk fun _ _ q => q
        cases rd with
        | none => exact PySem.P.repr_of_none (fin1 _ _)
        | bool b => exact PySem.P.repr_of_bool (fin1 _ _)
        | int i t => exact PySem.P.repr_of_int (by simpa [PyData.showable] using h1) (fin1 _ _)
        | str y t => exact PySem.P.repr_of_str (fin1 _ _) h4
        | list a1 a2 a3 a4 => exact repr_of_reads' (.list a1 a2 a3 a4) h1 (fun _ => nsys) g.guards (by omega) (fun _ _ q => q) (fun h' u' tk k => fin0 h' u' tk k) h4
        | tuple a1 a2 a3 a4 => exact repr_of_reads' (.tuple a1 a2 a3 a4) h1 (fun _ => nsys) g.guards (by omega) (fun _ _ q => q) (fun h' u' tk k => fin0 h' u' tk k) h4
        | dict a1 a2 a3 a4 a5 => exact repr_of_reads' (.dict a1 a2 a3 a4 a5) h1 (fun _ => nsys) g.guards (by omega) (fun _ _ q => q) (fun h' u' tk k => fin0 h' u' tk k) h4
      · exact h.elim
    · exact h.elim
  mono := fun x M Q Q' hq h => by
    unfold gRepr at h ⊢
    split at h
    · split at h
      · exact ⟨h.1, hq _ _ h.2⟩
      · exact h.elim
    · exact h.elim
end
end HD

namespace HD
open PySem PySem.Spec PyProof.Rows L2

/-! ### a def, where no repr is under way -/
structure FnG (P : Program) (w : World) (K : PySem.W.Frag) (mg : Str → Option Value) (base : Heap) (k : Nat) (f : Addr) (fd : FuncData) (ps : List Str) (sp : Sp) : Prop where
  size : ∀ vs H Q E, sp vs H Q E → vs.length = ps.length
  goes : ∀ (A : Around) (outer : List Env) (s : Shared) (H : Hp) (args : Args) (us : List Value) (vs : List V) (Q : VK) (E : XK), Gd A → Room k A → Env0 P w K mg base A outer s H → BindsTo s fd args (ps.zip us) → Vals vs us → sp vs H Q E →
    codeAny (model P w) A (.call (.ref f) args) (CR (L2.CX P w) outer P w H s Q E) s
theorem FnG.lift {P : Program} {w : World} {K : PySem.W.Frag} {mg : Str → Option Value} {base : Heap} {j k : Nat} {f : Addr} {fd : FuncData} {ps : List Str} {sp : Sp} (F : FnG P w K mg base j f fd ps sp) (h : j ≤ k) : FnG P w K mg base k f fd ps sp :=
  ⟨F.size, fun A o s H a us vs Q E g r => F.goes A o s H a us vs Q E g (r.mono h)⟩
theorem Gd.deeper {A : Around} (g : Gd A) (env : Env) : Gd (A.deeper env) := ⟨g.guards⟩

section
variable {P : Program} {w : World} {K : PySem.W.Frag} {mg : Str → Option Value} {base : Heap}
/-- a def of the text by its body -/
theorem FnG.make {x qual : Str} {st : Stmt} {f : Addr} {fd : FuncData} {N ps : List Str} {k : Nat} {sp : Sp} (F : Fun K x qual st f fd) (S : FnScope N ps (defScope st)) (hlen : ∀ vs H Q E, sp vs H Q E → vs.length = ps.length)
    (body : ∀ (cdv : Value) (A : Around) (outer : List Env) (s : Shared) (H : Hp) (vs : List V) (Q : VK) (E : XK), Gd (A.deeper (envOfC qual (defScope st) s.heap.objs.size f cdv)) → Room k (A.deeper (envOfC qual (defScope st) s.heap.objs.size f cdv)) → sp vs H Q E →
      ∃ t, PSs (cxOf (L2.CX P w) P w K mg base N qual (defScope st) f cdv A outer s H E) (defBody st) t ∧ t { nx := fun _ H' => Q .non H', rt := Q } (start N vs) H) : FnG P w K mg base (k + 1) f fd ps sp := by
  obtain ⟨oc, od, kV, doc, pm, an, cdv, ct, osl, rfl, lk, hcode⟩ := F.ex
  refine ⟨hlen, ?_⟩
  intro A outer s H args us vs Q E g room e0 hb rv hsp
  have inK : K.In s.heap := e0.mod.kin.keeps fun b o e => (e0.bs b o e).1
  have nolim : s.heap.NoLimit := e0.mod.nolimit.keeps fun b o e => (e0.bs b o e).1
  have kinds : ∀ y ∈ ps.zip us, (defScope st).names.lookup y.1 = some .local ∨ ((defScope st).names.lookup y.1 = some .cell ∧ ((cellsFrom (s.heap.objs.size + 1) (defScope st).names []).lookup y.1).isSome = true) := by
    rintro ⟨n, v⟩ hy
    rcases S.par n (List.of_mem_zip hy).1 with q | q
    · exact Or.inl q
    · exact Or.inr ⟨q, PySem.W.cellsFrom_some _ _ _ (Or.inl q)⟩
  refine codeAny_call_function room.depth (inK _ _ lk) rfl S.co S.gen rfl (PySem.W.codeRec_of inK hcode) (hb _ _ _ _ ?_)
  refine wpAny_newFunctionEnv_cells S.kind kinds ?_
  intro env henv s1 inCall
  subst henv
  refine ⟨nolim.keeps inCall.toInCall.keep, codeAny_func ?_⟩
  obtain ⟨t, ht, hq⟩ := body cdv A outer s H vs Q E (g.deeper _) (room.deeper _) hsp
  have I := inv_start (CX := L2.CX P w) (P := P) (w := w) (mg := mg) (E := E) S room.hd e0 (hlen _ _ _ _ hsp) rv inCall
  refine wpAny_mono (ht.run [] s1 (start N vs) H _ I hq) ?_ (fun _ _ h => h)
  intro fl s' hs
  cases fl with
  | ret u =>
    obtain ⟨v, σ', H', J, rv', q⟩ := hs
    exact ⟨v, H', J.os, J.bare, J.base, J.hok, rv', q⟩
  | next =>
    obtain ⟨σ', H', J, q⟩ := hs
    exact ⟨V.non, H', J.os, J.bare, J.base, J.hok, (rfl : Value.none = Value.none), q⟩
  | brk => obtain ⟨_, _, _, q⟩ := hs; exact q.elim
  | cont => obtain ⟨_, _, _, q⟩ := hs; exact q.elim
end

section
variable {X : Cx} {W : WX} {k : Nat} {f : Addr} {fd : FuncData} {ps : List Str} {sp : Sp} {x : Str} {p pos : Pos} {e : Expr} {es : List Expr} {t : TA}
theorem FnG.runs {pins : List (Addr × Obj)} {σ : L2.St} {H : Hp} {s : Shared} {Q : VK} {us : List Value} {vs : List V} (F : FnG X.prog X.w X.K X.mg X.base k f fd ps sp) (g : Gd X.A) (room : Room k X.A) (hb : Binds X.K fd ps []) (tk : Takes X W)
    (I : Inv X pins σ H s) (rv : Vals vs us) (h : sp vs H Q (WE W σ)) : wpAny (model X.prog X.w) X.A (call (.ref f) us) (EP X pins σ Q) X.xe s := by
  have hl : us.length = ps.length := rv.length.symm.trans (F.size _ _ _ _ h)
  have b := hb s us I.kIn (by rw [List.append_nil]; exact hl)
  rw [List.append_nil] at b
  refine wpAny_call (codeAny_mono (F.goes X.A X.stack s H ⟨us, []⟩ us vs Q (WE W σ) g room I.env0 b rv h) ?_)
  intro r s' hr
  cases r with
  | error u => exact passAt tk σ pins H s u s' I hr
  | ok fl =>
    cases fl with
    | ret u => exact I.after hr
    | next => exact hr.elim
    | brk => exact hr.elim
    | cont => exact hr.elim
theorem peG_call (F : FnG X.prog X.w X.K X.mg X.base k f fd ps sp) (g : Gd X.A) (room : Room k X.A) (hg : Gl X x) (hm : X.mg x = some (.ref f)) (hk : PySem.W.keepIn X.K (.ref f) = true) (hb : Binds X.K fd ps []) (tk : Takes X W)
    (ha : PA X (e :: es) t) (hdb : (x == ("__debug__" : Str)) = false := by decide) (he : starEach (e :: es) X.env = (false, eval e X.env) :: starEach es X.env := by rfl) (hpl : (backTo pos (starEach es X.env)).any (·.1) = false := by rfl) :
    PE X (.Call (.Name x p) (e :: es) [] pos) (tCallS sp (WE W) t) := by
  constructor
  intro pins s σ H Q I h
  refine wpAny_Call_Name_kw (ld_glob I hg hm ?_ hdb)
  refine PySem.W.callWith_K (h₀ := X.base) I.ok.mod.kin hk (thn (ha.run pos pins s σ H _ I h) ?_) he hpl
  rintro us s1 ⟨vs, H1, I1, r, q⟩
  exact ⟨I1.kIn, F.runs g room hb tk I1 r q⟩
theorem peG_call0 (F : FnG X.prog X.w X.K X.mg X.base k f fd ps sp) (g : Gd X.A) (room : Room k X.A) (hg : Gl X x) (hm : X.mg x = some (.ref f)) (hk : PySem.W.keepIn X.K (.ref f) = true) (hb : Binds X.K fd ps []) (tk : Takes X W)
    (hdb : (x == ("__debug__" : Str)) = false := by decide) : PE X (.Call (.Name x p) [] [] pos) (tCallS sp (WE W) tNil) := by
  constructor
  intro pins s σ H Q I h
  refine wpAny_Call_Name_kw (ld_glob I hg hm ?_ hdb)
  exact PySem.W.callWith_K0 I.kIn hk (F.runs (us := []) g room hb tk I .nil h)
end

/-! ### what a def promises, told of data -/
structure DSp where
  pre : List DV → Mem → Prop
  post : List DV → Mem → DV → Mem → Prop
  err : List DV → Mem → Value → List (Str × PyData) → Mem → Prop := fun _ _ _ _ _ => False
def DSp.sp (K : PySem.W.Frag) (c : DSp) : Sp := fun vs H Q E => ∃ xs M, RVs K H M vs xs ∧ MemOk K H M ∧ c.pre xs M ∧
  (∀ x M' v H', Ext H M H' M' → MemOk K H' M' → RV K H' M' v x → c.post xs M x M' → Q v H') ∧
  (∀ cls fs d H' M', Ext H M H' M' → MemOk K H' M' → ExcAt K H' M' d fs → c.err xs M cls fs M' → E cls d H')
/-- what a call needs of where it stands -/
structure Cxe (X : Cx) (W : WX) (k : Nat) : Prop where
  tk : Takes X W
  calm : X.calm = true
  gd : Gd X.A
  room : Room k X.A
  nd : X.N.Nodup
  sys : ∃ o, X.base.get? sysModules = some o
def dCall (c : DSp) (t : DA) : DE := fun Xd ρ M Q => t Xd ρ M fun xs M1 => c.pre xs M1 ∧ (∀ x M2, c.post xs M1 x M2 → Q x M2) ∧ (∀ cls fs M2, c.err xs M1 cls fs M2 → Xd cls fs ρ M2)
section
variable {X : Cx} {W : WX} {j k : Nat} {f : Addr} {fd : FuncData} {ps : List Str} {c : DSp} {x : Str} {p pos : Pos} {e : Expr} {es : List Expr} {t : DA}
theorem ce_call (F : FnG X.prog X.w X.K X.mg X.base k f fd ps (c.sp X.K)) (cx : Cxe X W j) (hkj : k ≤ j) (hg : Gl X x) (hm : X.mg x = some (.ref f)) (hk : PySem.W.keepIn X.K (.ref f) = true) (hb : Binds X.K fd ps [])
    (ha : CA X W (e :: es) t) (hdb : (x == ("__debug__" : Str)) = false := by decide) (he : starEach (e :: es) X.env = (false, eval e X.env) :: starEach es X.env := by rfl) (hpl : (backTo pos (starEach es X.env)).any (·.1) = false := by rfl) :
    CE X W (.Call (.Name x p) (e :: es) [] pos) (dCall c t) where
  pe := PE.weak (peG_call F cx.gd (cx.room.mono hkj) hg hm hk hb cx.tk ha.pa hdb he hpl) fun σ H Q ⟨ρ, M, Xd, r, xr, h⟩ => by
    refine embA.next r xr ha.mono h fun ys M1 vs H1 e1 r1 x1 rv h1 => ?_
    obtain ⟨hp, hq, hx⟩ := h1
    exact ⟨ys, M1, rv, r1.mem, hp, fun z M2 v H2 e2 o2 rz q => hq z M2 q v H2 (e1.trans e2) o2 rz, fun cls fs d H2 M2 e2 o2 a q => x1 cls fs d H2 M2 e2 o2 a (hx cls fs M2 q)⟩
  mono := fun Xd ρ M Q Q' hq h => ha.mono _ _ _ _ _ (fun _ _ h1 => ⟨h1.1, fun x M2 q => hq _ _ (h1.2.1 x M2 q), h1.2.2⟩) h
theorem ce_call0 (F : FnG X.prog X.w X.K X.mg X.base k f fd ps (c.sp X.K)) (cx : Cxe X W j) (hkj : k ≤ j) (hg : Gl X x) (hm : X.mg x = some (.ref f)) (hk : PySem.W.keepIn X.K (.ref f) = true) (hb : Binds X.K fd ps [])
    (hdb : (x == ("__debug__" : Str)) = false := by decide) : CE X W (.Call (.Name x p) [] [] pos) (dCall c dNil) where
  pe := PE.weak (peG_call0 F cx.gd (cx.room.mono hkj) hg hm hk hb cx.tk hdb) fun σ H Q ⟨ρ, M, Xd, r, xr, h⟩ => by
    obtain ⟨hp, hq, hx⟩ := h
    exact ⟨[], M, .nil, r.mem, hp, fun z M2 v H2 e2 o2 rz q => hq z M2 q v H2 e2 o2 rz, fun cls fs d H2 M2 e2 o2 a q => xr cls fs d H2 M2 e2 o2 a (hx cls fs M2 q)⟩
  mono := fun Xd ρ M Q Q' hq h => ⟨h.1, fun x M2 q => hq _ _ (h.2.1 x M2 q), h.2.2⟩
end
end HD

namespace HD
open PySem PySem.Spec PyProof.Rows L2

structure DEnds where
  nx : DEnv → Mem → Prop
  rt : DV → Mem → Prop
  bk : DEnv → Mem → Prop
  ct : DEnv → Mem → Prop
  ex : DX
abbrev DS := DEnds → DEnv → Mem → Prop
structure EndsRel (K : PySem.W.Frag) (W : WX) (D : Ends) (Dd : DEnds) (H : Hp) (M : Mem) : Prop where
  nx : ∀ σ' H' ρ' M', Ext H M H' M' → Rel K σ' H' ρ' M' → Dd.nx ρ' M' → D.nx σ' H'
  rt : ∀ v H' x M', Ext H M H' M' → MemOk K H' M' → RV K H' M' v x → Dd.rt x M' → D.rt v H'
  bk : ∀ σ' H' ρ' M', Ext H M H' M' → Rel K σ' H' ρ' M' → Dd.bk ρ' M' → D.bk σ' H'
  ct : ∀ σ' H' ρ' M', Ext H M H' M' → Rel K σ' H' ρ' M' → Dd.ct ρ' M' → D.ct σ' H'
  ex : ∀ cls fs d σ' H' ρ' M', Ext H M H' M' → Rel K σ' H' ρ' M' → ExcAt K H' M' d fs → Dd.ex cls fs ρ' M' → W cls d σ' H'
theorem EndsRel.at {K : PySem.W.Frag} {W : WX} {D : Ends} {Dd : DEnds} {H H1 : Hp} {M M1 : Mem} (r : EndsRel K W D Dd H M) (e : Ext H M H1 M1) : EndsRel K W D Dd H1 M1 :=
  ⟨fun σ' H' ρ' M' e' => r.nx σ' H' ρ' M' (e.trans e'), fun v H' x M' e' => r.rt v H' x M' (e.trans e'), fun σ' H' ρ' M' e' => r.bk σ' H' ρ' M' (e.trans e'), fun σ' H' ρ' M' e' => r.ct σ' H' ρ' M' (e.trans e'), fun cls fs d σ' H' ρ' M' e' => r.ex cls fs d σ' H' ρ' M' (e.trans e')⟩
theorem EndsRel.x {K : PySem.W.Frag} {W : WX} {D : Ends} {Dd : DEnds} {σ : L2.St} {H : Hp} {ρ : DEnv} {M : Mem} (r : EndsRel K W D Dd H M) (q : Rel K σ H ρ M) : XRel K W σ H ρ M Dd.ex :=
  fun cls fs d H' M' e k a h => r.ex cls fs d σ H' ρ M' e (q.ext e k) a h
def embS (K : PySem.W.Frag) (W : WX) (g : DS) : TS := fun D σ H => ∃ ρ M Dd, Rel K σ H ρ M ∧ EndsRel K W D Dd H M ∧ g Dd ρ M
structure CS (X : Cx) (W : WX) (st : Stmt) (g : DS) : Prop where
  ps : PS X st (embS X.K W g)
structure CSs (X : Cx) (W : WX) (st : List Stmt) (g : DS) : Prop where
  pss : PSs X st (embS X.K W g)
theorem PS.weak {X : Cx} {st : Stmt} {t t' : TS} (h : PS X st t) (w : ∀ D σ H, t' D σ H → t D σ H) : PS X st t' := ⟨fun pins s σ H D I q => h.run pins s σ H D I (w D σ H q)⟩
theorem PSs.weak {X : Cx} {st : List Stmt} {t t' : TS} (h : PSs X st t) (w : ∀ D σ H, t' D σ H → t D σ H) : PSs X st t' := ⟨fun pins s σ H D I q => h.run pins s σ H D I (w D σ H q)⟩

theorem Rel.set {K : PySem.W.Frag} {σ : L2.St} {H : Hp} {ρ : DEnv} {M : Mem} (r : Rel K σ H ρ M) {v : V} {x : DV} (h : RV K H M v x) (i : Nat) : Rel K (σ.set i (some v)) H (ρ.set i (some x)) M where
  mem := r.mem
  len := by rw [List.length_set, List.length_set]; exact r.len
  env := fun j y q => by
    by_cases e : i = j
    · subst e
      by_cases hi : i < ρ.length
      · rw [List.getElem?_set_self hi] at q
        cases q
        exact ⟨v, List.getElem?_set_self (by rw [r.len]; exact hi), h⟩
      · rw [List.getElem?_eq_none (by rw [List.length_set]; omega)] at q
        cases q
    · rw [List.getElem?_set_ne e] at q
      obtain ⟨u, h1, h2⟩ := r.env j y q
      exact ⟨u, by rw [List.getElem?_set_ne e]; exact h1, h2⟩
theorem Rel.clear {K : PySem.W.Frag} {σ : L2.St} {H : Hp} {ρ : DEnv} {M : Mem} (r : Rel K σ H ρ M) (o : Option V) (i : Nat) : Rel K (σ.set i o) H (ρ.set i none) M where
  mem := r.mem
  len := by rw [List.length_set, List.length_set]; exact r.len
  env := fun j y q => by
    by_cases e : i = j
    · subst e
      by_cases hi : i < ρ.length
      · rw [List.getElem?_set_self hi] at q
        cases q
      · rw [List.getElem?_eq_none (by rw [List.length_set]; omega)] at q
        cases q
    · rw [List.getElem?_set_ne e] at q
      obtain ⟨u, h1, h2⟩ := r.env j y q
      exact ⟨u, by rw [List.getElem?_set_ne e]; exact h1, h2⟩

section
variable {X : Cx} {W : WX} {st : Stmt} {sts : List Stmt} {g g1 g2 : DS} {e : Expr} {f : DE} {pos pos' : Pos}
/-! ### blocks -/
def dNext : DS := fun D ρ M => D.nx ρ M
def dSeq (g1 g2 : DS) : DS := fun D ρ M => g1 { D with nx := fun ρ' M' => g2 D ρ' M' } ρ M
theorem css_nil : CSs X W [] dNext := ⟨PSs.weak pss_nil fun D σ H ⟨ρ, M, Dd, r, en, h⟩ => en.nx σ H ρ M Ext.refl r h⟩
theorem css_one (h : CS X W st g) : CSs X W [st] g := ⟨pss_one h.ps⟩
theorem css_cons (h1 : CS X W st g1) (h2 : CSs X W sts g2) : CSs X W (st :: sts) (dSeq g1 g2) :=
  ⟨PSs.weak (pss_cons h1.ps h2.pss) fun D σ H ⟨ρ, M, Dd, r, en, h⟩ => ⟨ρ, M, { Dd with nx := fun ρ' M' => g2 Dd ρ' M' }, r,
    ⟨fun σ' H' ρ' M' e r' q => ⟨ρ', M', Dd, r', en.at e, q⟩, en.rt, en.bk, en.ct, en.ex⟩, h⟩⟩
theorem cs_pass : CS X W (.Pass pos) dNext := ⟨PS.weak ps_pass fun D σ H ⟨ρ, M, Dd, r, en, h⟩ => en.nx σ H ρ M Ext.refl r h⟩
def dBreak : DS := fun D ρ M => D.bk ρ M
def dCont : DS := fun D ρ M => D.ct ρ M
theorem cs_break : CS X W (.Break pos) dBreak := ⟨PS.weak ps_break fun D σ H ⟨ρ, M, Dd, r, en, h⟩ => en.bk σ H ρ M Ext.refl r h⟩
theorem cs_cont : CS X W (.Continue pos) dCont := ⟨PS.weak ps_continue fun D σ H ⟨ρ, M, Dd, r, en, h⟩ => en.ct σ H ρ M Ext.refl r h⟩
def dDrop (f : DE) : DS := fun D ρ M => f D.ex ρ M fun _ M' => D.nx ρ M'
theorem cs_expr (h : CE X W e f) (hs : swapsWith e none pos.line X.env = pure false := by rfl) : CS X W (.Expr e pos) (dDrop f) :=
  ⟨PS.weak (ps_expr h.pe hs) fun D σ H ⟨ρ, M, Dd, r, en, q⟩ => emb.next r (en.x r) h.mono q fun x M' v H' e' r' _ _ hq => en.nx σ H' ρ M' e' r' hq⟩
def dRet (f : DE) : DS := fun D ρ M => f D.ex ρ M D.rt
theorem cs_ret (h : CE X W e f) : CS X W (.Return (some e) pos) (dRet f) :=
  ⟨PS.weak (ps_ret h.pe) fun D σ H ⟨ρ, M, Dd, r, en, q⟩ => emb.next r (en.x r) h.mono q fun x M' v H' e' r' _ rv hq => en.rt v H' x M' e' r'.mem rv hq⟩
def dRetN : DS := fun D _ M => D.rt (.d .none) M
theorem cs_retN : CS X W (.Return none pos) dRetN := ⟨PS.weak ps_retN fun D σ H ⟨ρ, M, Dd, r, en, q⟩ => en.rt .non H (.d .none) M Ext.refl r.mem Fz.non q⟩
def dIfS (t : DT) (g1 g2 : DS) : DS := fun D ρ M => t D.ex ρ M fun k M' => match k with | true => g1 D ρ M' | false => g2 D ρ M'
theorem cs_if {c : Expr} {t : DT} {a b : List Stmt} (hc : CT X W c t) (ha : CSs X W a g1) (hb : CSs X W b g2) : CS X W (.If c a b pos) (dIfS t g1 g2) :=
  ⟨PS.weak (ps_if hc.pt ha.pss hb.pss) fun D σ H ⟨ρ, M, Dd, r, en, q⟩ => embT.next r (en.x r) hc.mono q fun k M' H' e' r' _ hq => by
    cases k with
    | true => exact ⟨ρ, M', Dd, r', en.at e', hq⟩
    | false => exact ⟨ρ, M', Dd, r', en.at e', hq⟩⟩
theorem css_never : CSs X W sts fun _ _ _ => False := ⟨PSs.weak pss_never fun D σ H ⟨ρ, M, Dd, r, en, q⟩ => q⟩

/-! ### targets -/
/-- one name, or a tuple of names -/
inductive Tg where
  | one (i : Nat)
  | many (is : List Nat)
def setAll (ρ : DEnv) : List Nat → List PyData → Option DEnv
  | [], [] => some ρ
  | i :: is, d :: ds => setAll (ρ.set i (some (.d d))) is ds
  | _, _ => none
def setT (M : Mem) (ρ : DEnv) : Tg → DV → Option DEnv
  | .one i, x => some (ρ.set i (some x))
  | .many is, x => match vw M x with
    | some (.tuple ds) => setAll ρ is ds
    | _ => none
def gsOf : List Nat → TGs
  | [] => gNil
  | i :: is => gCons (gName i) (gsOf is)
def tgOf (K : PySem.W.Frag) : Tg → TG
  | .one i => gName i
  | .many is => gTup K is.length (gsOf is)
/-- the slots behind a store -/
def setV (σ : L2.St) : List Nat → List V → L2.St
  | i :: is, v :: vs => setV (σ.set i (some v)) is vs
  | _, _ => σ
theorem gsOf_run {K : PySem.W.Frag} {H : Hp} {M : Mem} : ∀ {is : List Nat} {vs : List V} {ds : List PyData} {σ : L2.St} {ρ ρ' : DEnv} {Q : L2.St → Hp → Prop}, FzA K H M vs ds → Rel K σ H ρ M → setAll ρ is ds = some ρ' →
    (Rel K (setV σ is vs) H ρ' M → Q (setV σ is vs) H) → gsOf is vs σ H Q
  | [], _, _, σ, ρ, ρ', Q, .nil, r, e, h => by cases e; exact ⟨rfl, h r⟩
  | [], _, _, σ, ρ, ρ', Q, .cons _ _, r, e, h => by cases e
  | i :: is, _, _, σ, ρ, ρ', Q, .nil, r, e, h => by cases e
  | i :: is, v :: vs, d :: ds, σ, ρ, ρ', Q, .cons hv t, r, e, h => ⟨v, vs, rfl, gsOf_run (is := is) t (r.set (x := .d d) hv i) e h⟩
/-- the target stores, and what stands behind it -/
theorem tgOf_run {K : PySem.W.Frag} {H : Hp} {M : Mem} {tg : Tg} {v : V} {x : DV} {σ : L2.St} {ρ ρ' : DEnv} {Q : L2.St → Hp → Prop} (rv : RV K H M v x) (r : Rel K σ H ρ M) (e : setT M ρ tg x = some ρ') (h : ∀ σ', Rel K σ' H ρ' M → Q σ' H) : tgOf K tg v σ H Q := by
  cases tg with
  | one i => cases e; exact h _ (r.set rv i)
  | many is =>
    simp only [setT] at e
    split at e
    · rename_i ds e1
      obtain ⟨a, xs, rfl, h1, f1⟩ := vw_tup rv e1
      refine ⟨a, xs, rfl, h1.sq, ?_, gsOf_run f1 r e fun r' => h _ r'⟩
      rw [f1.length]
      clear h1 f1 r h rv e1
      induction is generalizing ρ ds with
      | nil => cases ds with | nil => rfl | cons _ _ => cases e
      | cons i is ih => cases ds with | nil => cases e | cons d ds => simp only [setAll] at e; simp only [List.length_cons]; rw [ih ds e]
    · cases e
structure CG (X : Cx) (tg : Expr) (g : Tg) : Prop where
  pg : PG X tg (tgOf X.K g)
theorem cg_one {i : Nat} {x : Str} (hN : X.N.Nodup) (hi : X.N[i]? = some x) (hx : Loc X.env.scope x := by first | exact .inl rfl | exact .inr rfl) (hf : X.fn x = true ∨ X.env.scope.names.lookup x = some .local := by first | exact .inl rfl | exact .inr rfl) : CG X (.Name x pos) (.one i) := ⟨pg_name hN hi hx hf⟩
structure CGs (X : Cx) (tgs : List Expr) (is : List Nat) : Prop where
  pgs : PGs X tgs (gsOf is)
theorem cgs_nil : CGs X [] [] := ⟨pgs_nil⟩
theorem cgs_cons {i : Nat} {is : List Nat} {x : Str} {es : List Expr} (hN : X.N.Nodup) (hi : X.N[i]? = some x) (t : CGs X es is) (hx : Loc X.env.scope x := by first | exact .inl rfl | exact .inr rfl) (hf : X.fn x = true ∨ X.env.scope.names.lookup x = some .local := by first | exact .inl rfl | exact .inr rfl)
    (hs : (assignEach (.Name x pos :: es) X.env).map (·.2) = assign (.Name x pos) X.env :: (assignEach es X.env).map (·.2) := by rfl) : CGs X (.Name x pos :: es) (i :: is) := ⟨pgs_cons (pg_name hN hi hx hf) t.pgs hs⟩
theorem cg_many {is : List Nat} {es : List Expr} {kk : Nat} (hc : X.calm = true) (h : CGs X es is) (hn : (assignEach es X.env).length = is.length := by rfl) (hst : (assignEach es X.env).findIdx? (·.1) = none := by rfl) : CG X (.Tuple es kk pos) (.many is) := ⟨pg_tup hc h.pgs hn hst⟩
/-! ### stores -/
def dAsg (f : DE) (tg : Tg) : DS := fun D ρ M => f D.ex ρ M fun x M' => match setT M' ρ tg x with | some ρ' => D.nx ρ' M' | none => False
theorem cs_set {i : Nat} {x : Str} (hN : X.N.Nodup) (hi : X.N[i]? = some x) (h : CE X W e f) (hx : Loc X.env.scope x := by first | exact .inl rfl | exact .inr rfl) (hs : swapsWith e (some (.Name x pos')) pos.line X.env = pure false := by rfl) (hf : X.fn x = true ∨ X.env.scope.names.lookup x = some .local := by first | exact .inl rfl | exact .inr rfl) :
    CS X W (.Assign [.Name x pos'] e pos) (dAsg f (.one i)) :=
  ⟨PS.weak (ps_set hN hi hx h.pe hs hf) fun D σ H ⟨ρ, M, Dd, r, en, q⟩ => emb.next r (en.x r) h.mono q fun x M' v H' e' r' _ rv hq => en.nx _ H' _ M' e' (r'.set rv i) hq⟩
theorem cs_asg {tg : Expr} {t : Tg} (h : CE X W e f) (hg : CG X tg t) (hs : swapsWithSole [tg] e pos.line X.env = pure false := by rfl) (hw : swappedStores [tg] e X.env = pure none := by rfl)
    (h1 : (assignEach [tg] X.env).map (·.2) = [assign tg X.env] := by rfl) : CS X W (.Assign [tg] e pos) (dAsg f t) :=
  ⟨PS.weak (ps_asg h.pe hg.pg hs hw h1) fun D σ H ⟨ρ, M, Dd, r, en, q⟩ => emb.next r (en.x r) h.mono q fun x M' v H' e' r' _ rv hq => by
    split at hq
    · rename_i ρ' eq
      exact tgOf_run rv r' eq fun σ' r'' => en.nx σ' H' ρ' M' e' r'' hq
    · exact hq.elim⟩
def dPar (i j : Nat) (t : DA) : DS := fun D ρ M => t D.ex ρ M fun xs M' => match xs with | [x, y] => D.nx ((ρ.set i (some x)).set j (some y)) M' | _ => False
theorem cs_par {i j : Nat} {x y : Str} {a b : Expr} {t : DA} {px py pt : Pos} {kt k2 pt2} (hc : X.calm = true) (hN : X.N.Nodup) (hi : X.N[i]? = some x) (hj : X.N[j]? = some y) (hij : i ≠ j) (ha : CA X W [a, b] t)
    (hx : X.env.scope.names.lookup x = some .local := by rfl) (hy : X.env.scope.names.lookup y = some .local := by rfl)
    (hw : swappedStores [.Tuple [.Name x px, .Name y py] kt pt] (.Tuple [a, b] k2 pt2) X.env = pure (some [x, y]) := by rfl)
    (hs : swapsWithSole [.Tuple [.Name x px, .Name y py] kt pt] (.Tuple [a, b] k2 pt2) pos.line X.env = pure false := by rfl) :
    CS X W (.Assign [.Tuple [.Name x px, .Name y py] kt pt] (.Tuple [a, b] k2 pt2) pos) (dPar i j t) :=
  ⟨PS.weak (ps_par hc hN hi hj hij hx hy ha.pa hw hs) fun D σ H ⟨ρ, M, Dd, r, en, q⟩ => embA.next r (en.x r) ha.mono q fun xs M' vs H' e' r' _ rv hq => by
    split at hq
    · obtain ⟨v, u, rfl, rv1, rv2⟩ := rv.two
      exact ⟨v, u, rfl, en.nx _ H' _ M' e' ((r'.set rv1 i).set rv2 j) hq⟩
    · exact hq.elim⟩
/-- o[i] = e, o a list that is still written -/
def dPut (f fo fi : DE) : DS := fun D ρ M => f D.ex ρ M fun x M1 => fo D.ex ρ M1 fun o M2 => fi D.ex ρ M2 fun i M3 => match x, o, i with
  | .d d, .m a, .d (.int k) => match M3 a with
    | some ds => match ixN ds.length k with
      | some j => D.nx ρ (updM M3 a (ds.set j d))
      | none => False
    | none => False
  | _, _, _ => False
theorem cs_put {o i : Expr} {fo fi : DE} {pt : Pos} (he : CE X W e f) (ho : CE X W o fo) (hi : CE X W i fi)
    (ha : ∀ v, assign (.Subscript o i pt) X.env v = (do
      let ov ← holding [v] (eval o X.env)
      let iv ← holding [v, ov] (eval i X.env)
      standAt pt
      holding [v, ov, iv] (setItem ov iv v)
      release [v, ov, iv] []) := by intro _; rfl)
    (hs : swapsWithSole [.Subscript o i pt] e pos.line X.env = pure false := by rfl) (hw : swappedStores [.Subscript o i pt] e X.env = pure none := by rfl)
    (h1 : (assignEach [.Subscript o i pt] X.env).map (·.2) = [assign (.Subscript o i pt) X.env] := by rfl) : CS X W (.Assign [.Subscript o i pt] e pos) (dPut f fo fi) :=
  ⟨PS.weak (ps_asg he.pe (pg_sub ho.pe hi.pe set_list ha) hs hw h1) fun D σ H ⟨ρ, M, Dd, r, en, q⟩ => by
    refine emb.next r (en.x r) he.mono q fun x M1 v H1 e1 r1 x1 rv h1 => ?_
    refine emb.next r1 x1 ho.mono h1 fun y M2 u H2 e2 r2 x2 ru h2 => ?_
    refine emb.next r2 x2 hi.mono h2 fun z M3 z' H3 e3 r3 x3 rz h3 => ?_
    split at h3
    · rename_i d a kk
      split at h3
      · rename_i ds em
        split at h3
        · rename_i j ej
          obtain ⟨xs, hx, fx⟩ := r3.mem a ds em
          have hu : u = .ref a := (RV.ext e3 ru).1
          subst hu
          cases rz
          have fv : Fz X.K H3 M3 v d := ((rv.ext e2).ext e3 : RV X.K H3 M3 v (.d d))
          refine ⟨a, xs, kk, j, rfl, rfl, hx, by rw [fx.length]; exact ej, ?_⟩
          refine en.nx σ _ ρ _ (((e1.trans e2).trans e3).trans (Ext.write em)) ?_ h3
          exact r3.ext (Ext.write em) (r3.mem.write em (FzA.set fv j fx))
        · exact h3.elim
      · exact h3.elim
    · exact h3.elim⟩
end
end HD

namespace HD
open PySem PySem.Spec PyProof.Rows L2

/-! ### what is walked -/
/-- its: the items; keep: what must stay so of the memory -/
def DWalk (K : PySem.W.Frag) (J : It) (its : List DV) (keep : Mem → Prop) (H1 : Hp) (M1 : Mem) : Prop :=
  ∃ (G : Hp → Prop) (Y : Nat → Hp → V → Hp → Prop), L2.Walk J its.length G Y ∧
    (∀ H' M', Ext H1 M1 H' M' → MemOk K H' M' → keep M' → G H') ∧
    (∀ i v H' H'' M', i < its.length → Ext H1 M1 H' M' → MemOk K H' M' → keep M' → Y i H' v H'' → ∃ x, its[i]? = some x ∧ Ext H' M' H'' M' ∧ MemOk K H'' M' ∧ RV K H'' M' v x)
abbrev DI := DX → DEnv → Mem → (List DV → (Mem → Prop) → Mem → Prop) → Prop
def embI (K : PySem.W.Frag) (W : WX) (f : DI) : TI := fun σ H R => ∃ ρ M Xd, Rel K σ H ρ M ∧ XRel K W σ H ρ M Xd ∧
  f Xd ρ M fun its keep M1 => ∀ J H1, Ext H M H1 M1 → MemOk K H1 M1 → DWalk K J its keep H1 M1 → R J H1
structure CI (X : Cx) (W : WX) (tg iter : Expr) (f : DI) : Prop where
  pi : PI X tg iter (embI X.K W f)
  mono : ∀ Xd ρ M Q Q', (∀ its keep M', Q its keep M' → Q' its keep M') → f Xd ρ M Q → f Xd ρ M Q'
theorem PI.weak {X : Cx} {tg iter : Expr} {t t' : TI} (h : PI X tg iter t) (w : ∀ σ H R, t' σ H R → t σ H R) : PI X tg iter t' := ⟨fun pins s σ H R I q => h.run pins s σ H R I (w σ H R q)⟩

theorem FzA.at {K : PySem.W.Frag} {H : Hp} {M : Mem} {vs : List V} {ds : List PyData} {i : Nat} {v : V} (f : FzA K H M vs ds) (h : vs[i]? = some v) : ∃ x, (ds.map DV.d)[i]? = some x ∧ RV K H M v x := by
  obtain ⟨d, h1, h2⟩ := f.getV h
  exact ⟨.d d, by rw [List.getElem?_map, h1]; rfl, h2⟩
section
variable {K : PySem.W.Frag} {H : Hp} {M : Mem} {a b : Addr} {vs us : List V} {ds es : List PyData}
theorem dwalk_tup (h : StT K H M a vs) (f : FzA K H M vs ds) : DWalk K (Itt K a) (ds.map .d) (fun _ => True) H M :=
  ⟨fun H => SqT K H a vs, YAt vs, by rw [List.length_map, ← f.length]; exact walk_tup, fun H' M' e _ _ => (h.ext e).sq, fun i v H' H'' M' _ e o _ ⟨q, y⟩ => by
    subst q
    obtain ⟨x, h1, h2⟩ := (f.ext e).at y
    exact ⟨x, h1, Ext.refl, o, h2⟩⟩
theorem dwalk_lst (h : H a = some (.lst vs)) (m : M a = none) (f : FzA K H M vs ds) : DWalk K (Itl K a) (ds.map .d) (fun _ => True) H M :=
  ⟨fun H => SqL K H a vs, YAt vs, by rw [List.length_map, ← f.length]; exact walk_list, fun H' M' e _ _ => .of (e.keep _ _ h m), fun i v H' H'' M' _ e o _ ⟨q, y⟩ => by
    subst q
    obtain ⟨x, h1, h2⟩ := (f.ext e).at y
    exact ⟨x, h1, Ext.refl, o, h2⟩⟩
/-- a list that is still written, as long as it is not -/
theorem dwalk_m (hm : M a = some ds) (o1 : MemOk K H M) : DWalk K (Itl K a) (ds.map .d) (fun M' => M' a = some ds) H M := by
  refine ⟨fun H' => ∃ ws, H' a = some (.lst ws) ∧ ws.length = ds.length, fun i H' v H'' => H'' = H' ∧ ∀ ws, H' a = some (.lst ws) → ws[i]? = some v, ⟨fun i H' hi ⟨ws, h1, h2⟩ => ?_, fun H' ⟨ws, h1, h2⟩ => ?_, fun i H' v H'' hi g ⟨e, y⟩ => ⟨e, fun ws h => y ws (.of h)⟩⟩, ?_, ?_⟩
  · rw [List.length_map] at hi
    exact ⟨ws, ws[i]'(by omega), .of h1, by simp [h2, hi]⟩
  · exact ⟨ws, .of h1, by rw [List.length_map]; omega⟩
  · intro H' M' e o k
    obtain ⟨xs, h1, h2⟩ := o a ds k
    exact ⟨xs, h1, h2.length⟩
  · intro i v H' H'' M' _ e o k ⟨q, y⟩
    subst q
    obtain ⟨xs, h1, h2⟩ := o a ds k
    obtain ⟨x, h3, h4⟩ := h2.at (y xs h1)
    exact ⟨x, h3, Ext.refl, o, h4⟩
def rangeD (lo : Int) (n : Nat) : List DV := (List.range n).map fun (i : Nat) => .d (.int (lo + (i : Int)))
theorem dwalk_range {lo : Int} {n : Nat} : DWalk K (Itr lo n) (rangeD lo n) (fun _ => True) H M :=
  ⟨fun _ => True, YFn fun i => .int (lo + i), by rw [rangeD, List.length_map, List.length_range]; exact walk_range, fun _ _ _ _ _ => True.intro, fun i v H' H'' M' hi e o _ ⟨q, y⟩ => by
    subst q; subst y
    rw [rangeD, List.length_map, List.length_range] at hi
    exact ⟨.d (.int (lo + (i : Int))), by simp [rangeD, hi], Ext.refl, o, .int _⟩⟩
/-- a pair of each -/
def pairsD (xs ys : List PyData) : List DV := (xs.zip ys).map fun p => .d (.tuple [p.1, p.2])
theorem dwalk_zip (h : SqL K H a vs) (h' : SqL K H b us) (k : ∀ H' M', Ext H M H' M' → SqL K H' a vs ∧ SqL K H' b us) (f : FzA K H M vs ds) (f' : FzA K H M us es) : DWalk K (Itz K a b) (pairsD ds es) (fun _ => True) H M := by
  have hl : (pairsD ds es).length = min vs.length us.length := by rw [pairsD, List.length_map, List.length_zip, f.length, f'.length]
  refine ⟨fun H => SqL K H a vs ∧ SqL K H b us, YPair (fun i => vs[i]?) (fun i => us[i]?), by rw [hl]; exact walk_zip rfl, fun H' M' e _ _ => k H' M' e, fun i v H' H'' M' hi e o _ ⟨T, x, y, h1, h2, h3, h4, h5⟩ => ?_⟩
  subst h1; subst h3
  obtain ⟨d1, q1, r1⟩ := (f.ext e).getV h4
  obtain ⟨d2, q2, r2⟩ := (f'.ext e).getV h5
  refine ⟨.d (.tuple [d1, d2]), ?_, Ext.new h2, o.new h2, .tup (.inl ⟨Rd.of upd_same, o.out h2⟩) (.cons (r1.ext (Ext.new h2)) (.cons (r2.ext (Ext.new h2)) .nil))⟩
  rw [pairsD, List.getElem?_map]
  have : (ds.zip es)[i]? = some (d1, d2) := by rw [List.getElem?_zip_eq_some]; exact ⟨q1, q2⟩
  rw [this]; rfl
end

section
variable {X : Cx} {W : WX} {tg a b : Expr} {es : List Expr} {fa fb : DE} {t : DA} {p pos tpos : Pos}
/-- a tuple or a list as it stands -/
def iSeq (f : DE) : DI := fun Xd ρ M R => f Xd ρ M fun x M1 => match x with
  | .d (.tuple ds) => R (ds.map .d) (fun _ => True) M1
  | .d (.list ds) => R (ds.map .d) (fun _ => True) M1
  | .m a => match M1 a with
    | some ds => R (ds.map .d) (fun M' => M' a = some ds) M1
    | none => False
  | _ => False
theorem iSeq.mono (ha : CE X W a fa) : ∀ Xd ρ M Q Q', (∀ its keep M', Q its keep M' → Q' its keep M') → iSeq fa Xd ρ M Q → iSeq fa Xd ρ M Q' := fun Xd ρ M Q Q' hq h => ha.mono _ _ _ _ _ (fun x M1 h1 => by
  split at h1
  · exact hq _ _ _ h1
  · exact hq _ _ _ h1
  · split at h1
    · exact hq _ _ _ h1
    · exact h1.elim
  · exact h1.elim) h
/-- over a tuple -/
theorem ci_tup (ha : CE X W a fa) : CI X W tg a (fun Xd ρ M R => fa Xd ρ M fun x M1 => match x with | .d (.tuple ds) => R (ds.map .d) (fun _ => True) M1 | _ => False) where
  pi := PI.weak (pi_tup ha.pe) fun σ H R ⟨ρ, M, Xd, r, x, h⟩ => emb.next r x ha.mono h fun y M1 v H1 e1 r1 x1 rv h1 => by
    split at h1
    · cases rv with | tup h2 f => exact ⟨_, rfl, ⟨_, h2.sq⟩, h1 _ _ e1 r1.mem (dwalk_tup h2 f)⟩
    · exact h1.elim
  mono := fun Xd ρ M Q Q' hq h => ha.mono _ _ _ _ _ (fun x M1 h1 => by
    split at h1
    · exact hq _ _ _ h1
    · exact h1.elim) h
/-- over a list -/
def iLst (f : DE) : DI := fun Xd ρ M R => f Xd ρ M fun x M1 => match x with
  | .d (.list ds) => R (ds.map .d) (fun _ => True) M1
  | .m a => match M1 a with
    | some ds => R (ds.map .d) (fun M' => M' a = some ds) M1
    | none => False
  | _ => False
def iTupD (f : DE) : DI := fun Xd ρ M R => f Xd ρ M fun x M1 => match x with | .d (.tuple ds) => R (ds.map .d) (fun _ => True) M1 | _ => False
theorem ci_tupD (ha : CE X W a fa) : CI X W tg a (iTupD fa) := ci_tup ha
theorem ci_lst (ha : CE X W a fa) : CI X W tg a (iLst fa) where
  pi := PI.weak (pi_list ha.pe) fun σ H R ⟨ρ, M, Xd, r, x, h⟩ => emb.next r x ha.mono h fun y M1 v H1 e1 r1 x1 rv h1 => by
    split at h1
    · cases rv with | lst h2 m f => exact ⟨_, rfl, ⟨_, .of h2⟩, h1 _ _ e1 r1.mem (dwalk_lst h2 m f)⟩
    · split at h1
      · rename_i ds em
        obtain ⟨rfl, _⟩ := rv
        obtain ⟨xs, h2, _⟩ := r1.mem _ _ em
        exact ⟨_, rfl, ⟨_, .of h2⟩, h1 _ _ e1 r1.mem (dwalk_m em r1.mem)⟩
      · exact h1.elim
    · exact h1.elim
  mono := fun Xd ρ M Q Q' hq h => ha.mono _ _ _ _ _ (fun x M1 h1 => by
    split at h1
    · exact hq _ _ _ h1
    · split at h1
      · exact hq _ _ _ h1
      · exact h1.elim
    · exact h1.elim) h
def iRange1 (t : DA) : DI := fun Xd ρ M R => t Xd ρ M fun xs M1 => match xs with
  | [.d (.int j)] => (-(2 ^ 62) ≤ j ∧ j < 2 ^ 62) ∧ R (rangeD 0 j.toNat) (fun _ => True) M1
  | _ => False
theorem ci_range1 (hg : Gl X "range") (hm : X.mg "range" = none) (ha : CA X W [a] t) (hs : starEach [a] X.env = [(false, eval a X.env)] := by rfl) : CI X W tg (.Call (.Name "range" p) [a] [] pos) (iRange1 t) where
  pi := PI.weak (pi_range1 hg hm ha.pa hs) fun σ H R ⟨ρ, M, Xd, r, x, h⟩ => embA.next r x ha.mono h fun ys M1 vs H1 e1 r1 x1 rv h1 => by
    split at h1
    · obtain ⟨v, rfl, rv1⟩ := rv.one
      cases rv1
      exact ⟨_, rfl, h1.1.1, h1.1.2, h1.2 _ _ e1 r1.mem dwalk_range⟩
    · exact h1.elim
  mono := fun Xd ρ M Q Q' hq h => ha.mono _ _ _ _ _ (fun x M1 h1 => by
    split at h1
    · exact ⟨h1.1, hq _ _ _ h1.2⟩
    · exact h1.elim) h
def iRange2 (t : DA) : DI := fun Xd ρ M R => t Xd ρ M fun xs M1 => match xs with
  | [.d (.int i), .d (.int j)] => (-(2 ^ 62) ≤ i ∧ i < 2 ^ 62 ∧ -(2 ^ 62) ≤ j ∧ j < 2 ^ 62) ∧ R (rangeD i (j - i).toNat) (fun _ => True) M1
  | _ => False
theorem ci_range2 (hg : Gl X "range") (hm : X.mg "range" = none) (ha : CA X W [a, b] t) (hs : starEach [a, b] X.env = [(false, eval a X.env), (false, eval b X.env)] := by rfl) (hs2 : starEach [b] X.env = [(false, eval b X.env)] := by rfl) : CI X W tg (.Call (.Name "range" p) [a, b] [] pos) (iRange2 t) where
  pi := PI.weak (pi_range2 hg hm ha.pa hs hs2) fun σ H R ⟨ρ, M, Xd, r, x, h⟩ => embA.next r x ha.mono h fun ys M1 vs H1 e1 r1 x1 rv h1 => by
    split at h1
    · obtain ⟨v, u, rfl, rv1, rv2⟩ := rv.two
      cases rv1; cases rv2
      exact ⟨_, _, rfl, h1.1, h1.2 _ _ e1 r1.mem dwalk_range⟩
    · exact h1.elim
  mono := fun Xd ρ M Q Q' hq h => ha.mono _ _ _ _ _ (fun x M1 h1 => by
    split at h1
    · exact ⟨h1.1, hq _ _ _ h1.2⟩
    · exact h1.elim) h

/-! ### for -/
def forD (keep : Mem → Prop) (tg : Tg) (body : DS) : List DV → DEnds → DEnv → Mem → Prop
  | [], D, ρ, M => keep M ∧ D.nx ρ M
  | x :: r, D, ρ, M => keep M ∧ match setT M ρ tg x with
    | some ρ' => body { D with nx := fun ρ2 M2 => forD keep tg body r D ρ2 M2, ct := fun ρ2 M2 => forD keep tg body r D ρ2 M2, bk := D.nx } ρ' M
    | none => False
def dFor (f : DI) (tg : Tg) (body : DS) : DS := fun D ρ M => f D.ex ρ M fun its keep M1 => forD keep tg body its D ρ M1
structure Cxs (X : Cx) (W : WX) (k : Nat) : Prop extends Cxe X W k where
  po : PassesOwn (model X.prog X.w) X.A X.env X.xe
  stk : X.stack = X.env :: X.outer
  frm : X.env.frame = some X.env.locals
theorem cs_for {target iter : Expr} {body : List Stmt} {f : DI} {tg : Tg} {g : DS} {k : Nat} (cx : Cxs X W k) (hi : CI X W target iter f) (hg : CG X target tg) (hb : CSs X W body g)
    (hs : ∀ x, foldedSetIterable iter X.env x = pure x := by intro _; rfl) : CS X W (.For target iter body [] pos) (dFor f tg g) :=
  ⟨PS.weak (ps_for cx.po cx.calm hi.pi hg.pg hb.pss hs) fun D σ H ⟨ρ, M, Dd, r, en, q⟩ => by
    refine ⟨ρ, M, Dd.ex, r, en.x r, hi.mono _ _ _ _ _ (fun its keep M1 h1 J H1 e1 o1 w => ?_) q⟩
    obtain ⟨G, Y, w, hG, hY⟩ := w
    refine for_it w (fun i σ' H' => ∃ ρ' M', Ext H1 M1 H' M' ∧ Rel X.K σ' H' ρ' M' ∧ forD keep tg g (its.drop i) Dd ρ' M') ⟨ρ, M1, Ext.refl, r.ext e1 o1, h1⟩ ?_ ?_ ?_
    · rintro i σ' H' hi' ⟨ρ', M', e', r', hf⟩
      refine hG H' M' e' r'.mem ?_
      cases hd : its.drop i with
      | nil => rw [hd] at hf; exact hf.1
      | cons x rr => rw [hd] at hf; exact hf.1
    · rintro i v σ' H' H'' hi' ⟨ρ', M', e', r', hf⟩ hy
      have hd : its.drop i = its[i] :: its.drop (i + 1) := by rw [List.drop_eq_getElem_cons hi']
      rw [hd] at hf
      obtain ⟨hk, hf⟩ := hf
      obtain ⟨x, hx, e2, o2, rv⟩ := hY i v H' H'' M' hi' e' r'.mem hk hy
      have ex : its[i] = x := by rw [List.getElem?_eq_getElem hi'] at hx; exact Option.some.inj hx
      rw [ex] at hf
      split at hf
      · rename_i ρ2 eq
        refine tgOf_run rv (r'.ext e2 o2) eq fun σ2 r2 => ?_
        have e12 : Ext H1 M1 H'' M' := e'.trans e2
        refine ⟨ρ2, M', _, r2, ?_, hf⟩
        have en2 := en.at (e1.trans e12)
        exact ⟨fun σ3 H3 ρ3 M3 e3 r3 h3 => ⟨ρ3, M3, e12.trans e3, r3, h3⟩, en2.rt, en2.nx, fun σ3 H3 ρ3 M3 e3 r3 h3 => ⟨ρ3, M3, e12.trans e3, r3, h3⟩, en2.ex⟩
      · exact hf.elim
    · rintro σ' H' ⟨ρ', M', e', r', hf⟩
      rw [List.drop_length] at hf
      exact en.nx σ' H' ρ' M' (e1.trans e') r' hf.2⟩
end
end HD

namespace HD
open PySem PySem.Spec PyProof.Rows L2

/-! ### comprehensions -/
structure CTs (X : Cx) (W : WX) (ifs : List Expr) (f : DT) : Prop where
  pts : PTs X ifs (embT X.K W f)
  mono : ∀ Xd ρ M Q Q', (∀ x M', Q x M' → Q' x M') → f Xd ρ M Q → f Xd ρ M Q'
def tAll : DT := fun _ _ M Q => Q true M
section
variable {X : Cx} {W : WX} {c : Expr} {t : DT}
theorem PTs.weak {ifs : List Expr} {t t' : TT} (h : PTs X ifs t) (w : ∀ σ H Q, t' σ H Q → t σ H Q) : PTs X ifs t' := ⟨fun pins s σ H Q I q => h.run pins s σ H Q I (w σ H Q q)⟩
theorem cts_nil : CTs X W [] tAll := ⟨PTs.weak pts_nil fun σ H Q ⟨ρ, M, Xd, r, x, h⟩ => h H Ext.refl r.mem, fun _ _ _ _ _ hq h => hq _ _ h⟩
theorem cts_one (h : CT X W c t) : CTs X W [c] t := ⟨pts_one h.pt, h.mono⟩
end
def wipeD (ρ : DEnv) : List Nat → DEnv
  | [] => ρ
  | v :: vs => (wipeD ρ vs).set v none
theorem Rel.wipe {K : PySem.W.Frag} {σ : L2.St} {H : Hp} {ρ : DEnv} {M : Mem} (r : Rel K σ H ρ M) : ∀ vs : List Nat, Rel K (L2.wipe σ vs) H (wipeD ρ vs) M
  | [] => r
  | v :: vs => (Rel.wipe r vs).clear none v
def noX : DX := fun _ _ _ _ => False
def W0 : WX := fun _ _ _ _ => False
/-- the turns: p is the new list -/
def lcD (keep : Mem → Prop) (tg : Tg) (tt : DT) (te : DE) (p : Addr) (ρ : DEnv) : List DV → Mem → (Mem → Prop) → Prop
  | [], M, Q => keep M ∧ Q M
  | x :: r, M, Q => keep M ∧ match setT M ρ tg x with
    | some ρ' => tt noX ρ' M fun k M1 => match k with
      | true => te noX ρ' M1 fun y M2 => match y, M2 p with
        | .d d, some acc => acc.length < sizeLine ∧ lcD keep tg tt te p ρ r (updM M2 p (acc ++ [d])) Q
        | _, _ => False
      | false => lcD keep tg tt te p ρ r M1 Q
    | none => False
theorem lcD.mono {keep : Mem → Prop} {tg : Tg} {tt : DT} {te : DE} {p : Addr} {ρ : DEnv} (ht : ∀ Xd ρ M Q Q', (∀ x M', Q x M' → Q' x M') → tt Xd ρ M Q → tt Xd ρ M Q') (he : ∀ Xd ρ M Q Q', (∀ x M', Q x M' → Q' x M') → te Xd ρ M Q → te Xd ρ M Q') :
    ∀ (its : List DV) (M : Mem) (Q Q' : Mem → Prop), (∀ M', Q M' → Q' M') → lcD keep tg tt te p ρ its M Q → lcD keep tg tt te p ρ its M Q'
  | [], M, Q, Q', hq, h => ⟨h.1, hq _ h.2⟩
  | x :: r, M, Q, Q', hq, h => by
    simp only [lcD] at h ⊢
    refine ⟨h.1, ?_⟩
    have h2 := h.2
    split at h2
    · rename_i ρ' e
      refine ht _ _ _ _ _ (fun k M1 h3 => ?_) h2
      cases k with
      | false => exact lcD.mono ht he r _ _ _ hq h3
      | true =>
        refine he _ _ _ _ _ (fun y M2 h4 => ?_) h3
        split at h4
        · exact ⟨h4.1, lcD.mono ht he r _ _ _ hq h4.2⟩
        · exact h4.elim
    · exact h2.elim
def dLcM (f : DI) (vs : List Nat) (tg : Tg) (tt : DT) (te : DE) : DE := fun Xd ρ M Q => f Xd ρ M fun its keep M1 => ∀ p, M1 p = none → lcD keep tg tt te p (wipeD ρ vs) its (updM M1 p []) fun M2 => Q (.m p) M2
theorem wipe_set {σ : L2.St} {v : Option V} {i : Nat} : ∀ {vs : List Nat}, i ∈ vs → L2.wipe (σ.set i v) vs = L2.wipe σ vs
  | u :: vs, h => by
    simp only [L2.wipe]
    rcases List.mem_cons.mp h with e | e
    · subst e
      by_cases hm : i ∈ vs
      · rw [wipe_set hm]
      · have : ∀ ws : List Nat, i ∉ ws → (L2.wipe (σ.set i v) ws) = (L2.wipe σ ws).set i v := by
          intro ws hw
          induction ws with
          | nil => rfl
          | cons w ws ih =>
            simp only [List.mem_cons, not_or] at hw
            simp only [L2.wipe]
            rw [ih hw.2, List.set_comm _ _ hw.1]
        rw [this vs hm, List.set_set]
    · rw [wipe_set e]
/-- the target's slots -/
def Tg.slots : Tg → List Nat
  | .one i => [i]
  | .many is => is
theorem gsOf_run2 {K : PySem.W.Frag} {H : Hp} {M : Mem} {vs0 : List Nat} : ∀ {is : List Nat} {vs : List V} {ds : List PyData} {σ : L2.St} {ρ ρ' : DEnv} {Q : L2.St → Hp → Prop}, (∀ i ∈ is, i ∈ vs0) → FzA K H M vs ds → Rel K σ H ρ M → setAll ρ is ds = some ρ' →
    (∀ σ', L2.wipe σ' vs0 = L2.wipe σ vs0 → Rel K σ' H ρ' M → Q σ' H) → gsOf is vs σ H Q
  | [], _, _, σ, ρ, ρ', Q, _, .nil, r, e, h => by cases e; exact ⟨rfl, h σ rfl r⟩
  | [], _, _, σ, ρ, ρ', Q, _, .cons _ _, r, e, h => by cases e
  | i :: is, _, _, σ, ρ, ρ', Q, _, .nil, r, e, h => by cases e
  | i :: is, v :: vs, d :: ds, σ, ρ, ρ', Q, hi, .cons hv t, r, e, h => ⟨v, vs, rfl, gsOf_run2 (is := is) (fun j hj => hi j (List.mem_cons_of_mem _ hj)) t (r.set (x := .d d) hv i) e fun σ' w => h σ' (w.trans (wipe_set (hi i (List.mem_cons_self ..))))⟩
theorem tgOf_run2 {K : PySem.W.Frag} {H : Hp} {M : Mem} {tg : Tg} {v : V} {x : DV} {vs0 : List Nat} {σ : L2.St} {ρ ρ' : DEnv} {Q : L2.St → Hp → Prop} (hi : ∀ i ∈ tg.slots, i ∈ vs0) (rv : RV K H M v x) (r : Rel K σ H ρ M) (e : setT M ρ tg x = some ρ') (h : ∀ σ', L2.wipe σ' vs0 = L2.wipe σ vs0 → Rel K σ' H ρ' M → Q σ' H) : tgOf K tg v σ H Q := by
  cases tg with
  | one i => cases e; exact h _ (wipe_set (hi i (List.mem_cons_self ..))) (r.set rv i)
  | many is =>
    simp only [setT] at e
    split at e
    · rename_i ds e1
      obtain ⟨a, xs, rfl, h1, f1⟩ := vw_tup rv e1
      refine ⟨a, xs, rfl, h1.sq, ?_, gsOf_run2 hi f1 r e h⟩
      rw [f1.length]
      clear h1 f1 r h rv e1 hi
      induction is generalizing ρ ds with
      | nil => cases ds with | nil => rfl | cons _ _ => cases e
      | cons i is ih => cases ds with | nil => cases e | cons d ds => simp only [setAll] at e; simp only [List.length_cons]; rw [ih ds e]
    · cases e

section
variable {X : Cx} {W : WX} {elt target iter : Expr} {ifs : List Expr} {scope : Scope} {own : List (Str × Nat)} {pos : Pos} {f : DI} {tg : Tg} {tt : DT} {te : DE} {k : Nat}
theorem lc_read {σ : L2.St} {H : Hp} {Q : VK} {vs0 : List Nat} (hi : ∀ i ∈ tg.slots, i ∈ vs0) (ht : ∀ Xd ρ M Q Q', (∀ x M', Q x M' → Q' x M') → tt Xd ρ M Q → tt Xd ρ M Q') (he : ∀ Xd ρ M Q Q', (∀ x M', Q x M' → Q' x M') → te Xd ρ M Q → te Xd ρ M Q')
    (fm : ∀ Xd ρ M Q Q', (∀ its keep M', Q its keep M' → Q' its keep M') → f Xd ρ M Q → f Xd ρ M Q') {En : Addr → Mem → Prop} {ρ : DEnv} {M : Mem} {Xd : DX} (r : Rel X.K σ H ρ M) (x : XRel X.K W σ H ρ M Xd)
    (q : f Xd ρ M fun its keep M1 => ∀ p, M1 p = none → lcD keep tg tt te p (wipeD ρ vs0) its (updM M1 p []) fun M2 => En p M2)
    (hE : ∀ p M2 H', Ext H M H' M2 → MemOk X.K H' M2 → M p = none → M2 p ≠ none → En p M2 → Q (.ref p) H') : tLc (embI X.K W f) (tgOf X.K tg) (embT X.K W0 tt) (emb X.K W0 te) vs0 σ H Q := by
  refine ⟨ρ, M, Xd, r, x, fm _ _ _ _ _ (fun its keep M1 h1 J H1 e1 o1 w => ?_) q⟩
  intro D hD
  have mD : M1 D = none := o1.out hD
  have h1 := h1 D mD
  obtain ⟨G, Y, w, hG, hY⟩ := w
  refine lc_it w (fun i H' => ∃ M', Ext H1 M1 H' M' ∧ Rel X.K (L2.wipe σ vs0) H' (wipeD ρ vs0) M' ∧ M' D ≠ none ∧ lcD keep tg tt te D (wipeD ρ vs0) (its.drop i) M' fun M2 => En D M2) ?_ ?_ ?_ ?_
  · exact ⟨updM M1 D [], Ext.newM hD, ((r.ext e1 o1).wipe vs0).ext (Ext.newM hD) (o1.newM hD .nil), by rw [updM_same]; simp, h1⟩
  · rintro i H' hi' ⟨M', e', r', _, hf⟩
    refine hG H' M' e' r'.mem ?_
    cases hd : its.drop i with
    | nil => rw [hd] at hf; exact hf.1
    | cons y rr => rw [hd] at hf; exact hf.1
  · rintro i v H' H'' hi' ⟨M', e', r', nd, hf⟩ hy
    have hd : its.drop i = its[i] :: its.drop (i + 1) := by rw [List.drop_eq_getElem_cons hi']
    rw [hd] at hf
    obtain ⟨hk, hf⟩ := hf
    obtain ⟨y, hx, e2, o2, rv⟩ := hY i v H' H'' M' hi' e' r'.mem hk hy
    have ey : its[i] = y := by rw [List.getElem?_eq_getElem hi'] at hx; exact Option.some.inj hx
    rw [ey] at hf
    split at hf
    · rename_i ρ2 eq
      refine tgOf_run2 hi rv (r'.ext e2 o2) eq fun σ2 hw r2 => ?_
      have hw2 : L2.wipe σ2 vs0 = L2.wipe σ vs0 := by
        rw [hw]
        clear hw r2 eq hf rv
        have : ∀ ws : List Nat, (∀ i ∈ ws, i ∈ vs0) → L2.wipe (L2.wipe σ ws) vs0 = L2.wipe σ vs0 := by
          intro ws
          induction ws with
          | nil => intro _; rfl
          | cons a ws ih => intro h; simp only [L2.wipe]; rw [wipe_set (h a (List.mem_cons_self ..)), ih fun i hi => h i (List.mem_cons_of_mem _ hi)]
        exact this vs0 fun i h => h
      refine ⟨hw2, ?_⟩
      have x0 : ∀ {H3 M3}, XRel X.K W0 σ2 H3 ρ2 M3 noX := fun _ _ _ _ _ _ _ _ z => z.elim
      refine embT.next r2 x0 ht hf fun kk M3 H3 e3 r3 x3 h3 => ?_
      cases kk with
      | false =>
        rw [if_neg (by decide)]
        refine ⟨M3, (e'.trans e2).trans e3, ((r.ext e1 o1).wipe vs0).ext ((e'.trans e2).trans e3) r3.mem, e3.dom _ nd, h3⟩
      | true =>
        rw [if_pos rfl]
        refine emb.next r3 x3 he h3 fun z M4 u H4 e4 r4 x4 ru h4 => ?_
        split at h4
        · rename_i d acc em
          obtain ⟨xs, hx4, fx⟩ := r4.mem _ _ em
          refine ⟨xs, hx4, by rw [fx.length]; exact h4.1, ?_⟩
          have e5 : Ext H4 M4 (upd H4 D (.lst (xs ++ [u]))) (updM M4 D (acc ++ [d])) := Ext.write em
          have o5 : MemOk X.K (upd H4 D (.lst (xs ++ [u]))) (updM M4 D (acc ++ [d])) := r4.mem.write em (fx.append (.cons ru .nil))
          have e15 := (((e'.trans e2).trans e3).trans e4).trans e5
          exact ⟨updM M4 D (acc ++ [d]), e15, ((r.ext e1 o1).wipe vs0).ext e15 o5, by rw [updM_same]; simp, h4.2⟩
        · exact h4.elim
    · exact hf.elim
  · rintro H' ⟨M', e', r', nd, hf⟩
    rw [List.drop_length] at hf
    refine hE D M' H' (e1.trans e') r'.mem ?_ nd hf.2
    cases q : M D with
    | none => rfl
    | some ds => exact absurd mD (e1.dom D (by rw [q]; simp))
/-- what is not going to be written any more -/
def eraseM (M : Mem) (p : Addr) : Mem := fun a => if a = p then none else M a
mutual
theorem Fz.less {K : PySem.W.Frag} {H : Hp} {M M' : Mem} (h : ∀ a, M a = none → M' a = none) : ∀ {v : V} {d : PyData}, Fz K H M v d → Fz K H M' v d
  | _, _, .non => .non
  | _, _, .bl b => .bl b
  | _, _, .int i => .int i
  | _, _, .str x => .str x
  | _, _, .lst e m r => .lst e (h _ m) (FzA.less h r)
  | _, _, .tup (.inl ⟨e, m⟩) r => .tup (.inl ⟨e, h _ m⟩) (FzA.less h r)
  | _, _, .tup (.inr e) r => .tup (.inr e) (FzA.less h r)
  | _, _, .dic e m => .dic e (h _ m)
theorem FzA.less {K : PySem.W.Frag} {H : Hp} {M M' : Mem} (h : ∀ a, M a = none → M' a = none) : ∀ {vs : List V} {ds : List PyData}, FzA K H M vs ds → FzA K H M' vs ds
  | _, _, .nil => .nil
  | _, _, .cons e r => .cons (Fz.less h e) (FzA.less h r)
end
theorem eraseM_none {M : Mem} {p a : Addr} (h : M a = none) : eraseM M p a = none := by
  unfold eraseM
  split
  · rfl
  · exact h
theorem MemOk.erase {K : PySem.W.Frag} {H : Hp} {M : Mem} (o : MemOk K H M) (p : Addr) : MemOk K H (eraseM M p) := fun a ds h => by
  unfold eraseM at h
  split at h
  · cases h
  · obtain ⟨xs, h1, h2⟩ := o a ds h
    exact ⟨xs, h1, h2.less fun a => eraseM_none⟩
theorem Ext.erase {H H' : Hp} {M M' : Mem} {p : Addr} (e : Ext H M H' M') (hp : M p = none) : Ext H M H' (eraseM M' p) :=
  ⟨e.keep, fun a h m => eraseM_none (e.good a h m), fun a h => by
    unfold eraseM
    rw [if_neg (fun q => by subst q; exact h hp)]
    exact e.dom a h⟩
def dLc (f : DI) (vs : List Nat) (tg : Tg) (tt : DT) (te : DE) : DE := fun Xd ρ M Q => f Xd ρ M fun its keep M1 => ∀ p, M1 p = none → lcD keep tg tt te p (wipeD ρ vs) its (updM M1 p []) fun M2 => match M2 p with
  | some acc => Q (.d (.list acc)) (eraseM M2 p)
  | none => False
theorem frozen {K : PySem.W.Frag} {H : Hp} {M : Mem} {p : Addr} {acc : List PyData} (o : MemOk K H M) (h : M p = some acc) : Fz K H (eraseM M p) (.ref p) (.list acc) := by
  obtain ⟨xs, h1, h2⟩ := o p acc h
  exact .lst h1 (by simp [eraseM]) (h2.less fun a => eraseM_none)

theorem ce_lcM (cx : Cxe X W k) (hi : CI X W target iter f) (ok : blkC X.N X.env.scope scope own = true)
    (hg : ∀ (s : Shared) (H : Hp) (C : Addr) (cl : List (Str × Addr)) (fp : List Addr), CG (X.blk s H scope (compEnvC scope cl C X.env) fp) target tg) (ht : ∀ (s : Shared) (H : Hp) (C : Addr) (cl : List (Str × Addr)) (fp : List Addr), CTs (X.blk s H scope (compEnvC scope cl C X.env) fp) W0 ifs tt)
    (he : ∀ (s : Shared) (H : Hp) (C : Addr) (cl : List (Str × Addr)) (fp : List Addr), CE (X.blk s H scope (compEnvC scope cl C X.env) fp) W0 elt te) (hsl : ∀ i ∈ tg.slots, i ∈ own.map (·.2) := by decide) (hs : ∀ x, foldedSetIterable iter X.env x = pure x := by intro _; rfl) :
    CE X W (.ListComp elt [⟨target, iter, ifs, 0⟩] scope pos) (dLcM f (own.map (·.2)) tg tt te) where
  pe := PE.weak (pe_lc cx.calm cx.nd hi.pi (blkOk_by ok) (fun s H C cl fp => (hg s H C cl fp).pg) (fun s H C cl fp => (ht s H C cl fp).pts) (fun s H C cl fp => (he s H C cl fp).pe) hs) fun σ H Q ⟨ρ, M, Xd, r, x, q⟩ =>
    lc_read hsl (ht X.s_0 X.H_0 0 [] []).mono (he X.s_0 X.H_0 0 [] []).mono hi.mono r x q fun p M2 H' e o _ nd h => h _ _ e o ⟨rfl, nd⟩
  mono := fun Xd ρ M Q Q' hq h => hi.mono _ _ _ _ _ (fun its keep M1 h1 p hp => lcD.mono (ht X.s_0 X.H_0 0 [] []).mono (he X.s_0 X.H_0 0 [] []).mono _ _ _ _ (fun M' h2 => hq _ _ h2) (h1 p hp)) h
theorem ce_lc (cx : Cxe X W k) (hi : CI X W target iter f) (ok : blkC X.N X.env.scope scope own = true)
    (hg : ∀ (s : Shared) (H : Hp) (C : Addr) (cl : List (Str × Addr)) (fp : List Addr), CG (X.blk s H scope (compEnvC scope cl C X.env) fp) target tg) (ht : ∀ (s : Shared) (H : Hp) (C : Addr) (cl : List (Str × Addr)) (fp : List Addr), CTs (X.blk s H scope (compEnvC scope cl C X.env) fp) W0 ifs tt)
    (he : ∀ (s : Shared) (H : Hp) (C : Addr) (cl : List (Str × Addr)) (fp : List Addr), CE (X.blk s H scope (compEnvC scope cl C X.env) fp) W0 elt te) (hsl : ∀ i ∈ tg.slots, i ∈ own.map (·.2) := by decide) (hs : ∀ x, foldedSetIterable iter X.env x = pure x := by intro _; rfl) :
    CE X W (.ListComp elt [⟨target, iter, ifs, 0⟩] scope pos) (dLc f (own.map (·.2)) tg tt te) where
  pe := PE.weak (pe_lc cx.calm cx.nd hi.pi (blkOk_by ok) (fun s H C cl fp => (hg s H C cl fp).pg) (fun s H C cl fp => (ht s H C cl fp).pts) (fun s H C cl fp => (he s H C cl fp).pe) hs) fun σ H Q ⟨ρ, M, Xd, r, x, q⟩ =>
    lc_read hsl (ht X.s_0 X.H_0 0 [] []).mono (he X.s_0 X.H_0 0 [] []).mono hi.mono r x q fun p M2 H' e o mp nd h => by
      dsimp only at h
      split at h
      · rename_i acc em
        exact h _ _ (e.erase mp) (o.erase p) (frozen o em)
      · exact h.elim
  mono := fun Xd ρ M Q Q' hq h => hi.mono _ _ _ _ _ (fun its keep M1 h1 p hp => lcD.mono (ht X.s_0 X.H_0 0 [] []).mono (he X.s_0 X.H_0 0 [] []).mono _ _ _ _ (fun M' h2 => by
    split at h2
    · exact hq _ _ h2
    · exact h2.elim) (h1 p hp)) h
/-! y = [..] -/
variable {i : Nat} {y : Str} {py spos : Pos}
def dSet1 (f : DE) (i : Nat) : DS := fun D ρ M => f D.ex ρ M fun x M' => D.nx (ρ.set i (some x)) M'
theorem cs_setLcM (cx : Cxe X W k) (hy : X.N[i]? = some y) (hi : CI X W target iter f) (ok : blkC X.N X.env.scope scope own = true)
    (hg : ∀ (s : Shared) (H : Hp) (C : Addr) (cl : List (Str × Addr)) (fp : List Addr), CG (X.blk s H scope (compEnvC scope cl C X.env) fp) target tg) (ht : ∀ (s : Shared) (H : Hp) (C : Addr) (cl : List (Str × Addr)) (fp : List Addr), CTs (X.blk s H scope (compEnvC scope cl C X.env) fp) W0 ifs tt)
    (he : ∀ (s : Shared) (H : Hp) (C : Addr) (cl : List (Str × Addr)) (fp : List Addr), CE (X.blk s H scope (compEnvC scope cl C X.env) fp) W0 elt te) (hsw : swapsWith (.ListComp elt [⟨target, iter, ifs, 0⟩] scope pos) (some (.Name y py)) spos.line X.env = pure true := by exact sw_true rfl rfl rfl (by decide +kernel))
    (hyl : X.env.scope.names.lookup y = some .local := by rfl) (hsl : ∀ i ∈ tg.slots, i ∈ own.map (·.2) := by decide) (hs : ∀ x, foldedSetIterable iter X.env x = pure x := by intro _; rfl) :
    CS X W (.Assign [.Name y py] (.ListComp elt [⟨target, iter, ifs, 0⟩] scope pos) spos) (dSet1 (dLcM f (own.map (·.2)) tg tt te) i) :=
  ⟨PS.weak (ps_setLc cx.calm cx.nd hy hyl hsw hi.pi (blkOk_by ok) (fun s H C cl fp => (hg s H C cl fp).pg) (fun s H C cl fp => (ht s H C cl fp).pts) (fun s H C cl fp => (he s H C cl fp).pe) hs) fun D σ H ⟨ρ, M, Dd, r, en, q⟩ =>
    lc_read hsl (ht X.s_0 X.H_0 0 [] []).mono (he X.s_0 X.H_0 0 [] []).mono hi.mono r (en.x r) q fun p M2 H' e o _ nd h =>
      en.nx _ H' _ M2 e ((r.ext e o).set (x := .m p) ⟨rfl, nd⟩ i) h⟩
theorem cs_setLc (cx : Cxe X W k) (hy : X.N[i]? = some y) (hi : CI X W target iter f) (ok : blkC X.N X.env.scope scope own = true)
    (hg : ∀ (s : Shared) (H : Hp) (C : Addr) (cl : List (Str × Addr)) (fp : List Addr), CG (X.blk s H scope (compEnvC scope cl C X.env) fp) target tg) (ht : ∀ (s : Shared) (H : Hp) (C : Addr) (cl : List (Str × Addr)) (fp : List Addr), CTs (X.blk s H scope (compEnvC scope cl C X.env) fp) W0 ifs tt)
    (he : ∀ (s : Shared) (H : Hp) (C : Addr) (cl : List (Str × Addr)) (fp : List Addr), CE (X.blk s H scope (compEnvC scope cl C X.env) fp) W0 elt te) (hsw : swapsWith (.ListComp elt [⟨target, iter, ifs, 0⟩] scope pos) (some (.Name y py)) spos.line X.env = pure true := by exact sw_true rfl rfl rfl (by decide +kernel))
    (hyl : X.env.scope.names.lookup y = some .local := by rfl) (hsl : ∀ i ∈ tg.slots, i ∈ own.map (·.2) := by decide) (hs : ∀ x, foldedSetIterable iter X.env x = pure x := by intro _; rfl) :
    CS X W (.Assign [.Name y py] (.ListComp elt [⟨target, iter, ifs, 0⟩] scope pos) spos) (dSet1 (dLc f (own.map (·.2)) tg tt te) i) :=
  ⟨PS.weak (ps_setLc cx.calm cx.nd hy hyl hsw hi.pi (blkOk_by ok) (fun s H C cl fp => (hg s H C cl fp).pg) (fun s H C cl fp => (ht s H C cl fp).pts) (fun s H C cl fp => (he s H C cl fp).pe) hs) fun D σ H ⟨ρ, M, Dd, r, en, q⟩ =>
    lc_read hsl (ht X.s_0 X.H_0 0 [] []).mono (he X.s_0 X.H_0 0 [] []).mono hi.mono r (en.x r) q fun p M2 H' e o mp nd h => by
      dsimp only at h
      split at h
      · rename_i acc em
        exact en.nx _ H' _ _ (e.erase mp) ((r.ext (e.erase mp) (o.erase p)).set (x := .d (.list acc)) (frozen o em) i) h
      · exact h.elim⟩
end
end HD

namespace HD
open PySem PySem.Spec PyProof.Rows L2
/-- the kind of a datum, by its class's name -/
def kindD : PyData → String
  | .none => "NoneType"
  | .bool _ => "bool"
  | .int _ => "int"
  | .str _ => "str"
  | .list _ => "list"
  | .tuple _ => "tuple"
  | .dict _ => "dict"
def kinds : List String := ["NoneType", "bool", "int", "str", "list", "tuple", "dict"]
theorem kindD_mem (d : PyData) : kindD d ∈ kinds := by cases d <;> simp [kindD, kinds]
section
variable {K : PySem.W.Frag} {H : Hp} {M : Mem} {v : V} {x : DV} {d : PyData}
theorem tyx_of (o : MemOk K H M) (r : RV K H M v x) (h : vw M x = some d) : TyX K H v (.type (kindD d)) := by
  cases d with
  | none => cases vw_none r h; exact .base .non
  | bool b => cases vw_bool r h; exact .base (.bl b)
  | int b => cases vw_int r h; exact .base (.int b)
  | str b => cases vw_str r h; exact .base (.str b)
  | list ds => obtain ⟨a, xs, rfl, h1, _⟩ := vw_lst o r h; exact .base (.lst h1)
  | tuple ds =>
    obtain ⟨a, xs, rfl, h1, _⟩ := vw_tup r h
    rcases h1 with ⟨h1 | ⟨ob, h1⟩, _⟩ | h1
    · exact .base (.tup h1)
    · exact .fTuple h1
    · rcases h1 with h1 | ⟨ob, its, n, k1, k2, _⟩
      · exact absurd h1 noRd
      · exact .kTuple k1 k2
  | dict kvs => obtain ⟨a, rfl, rfl, h1, _⟩ := vw_dic r h; exact .base (.dK h1)
end
section
variable {X : Cx} {W : WX} {e a b c : Expr} {es : List Expr} {f fa fb fc : DE} {pos p p2 : Pos}
theorem ty_is {pins : List (Addr × Obj)} {σ : L2.St} {H : Hp} {M : Mem} {s : Shared} {v : V} {u : Value} {x : DV} {d : PyData} (I : Inv X pins σ H s) (o : MemOk X.K H M) (r : RV X.K H M v x) (h : vw M x = some d) (ru : RelV v u) : s.TypeIs u (kindD d) := by
  obtain ⟨as, rd, _⟩ := vw.reads I o r h ru
  cases rd with
  | none => rfl
  | bool b => rfl
  | int i t => rfl
  | str y t => rfl
  | list a1 a2 a3 a4 => exact ⟨_, a1, a2⟩
  | tuple a1 a2 a3 a4 => exact ⟨_, a1, a2⟩
  | dict a1 a2 a3 a4 a5 => exact ⟨_, a1, a2⟩
/-! isinstance(e, T), T a built-in class by its name -/
def dIsi (T : String) (fa : DE) : DE := fun Xd ρ M Q => fa Xd ρ M fun x M1 => match vw M1 x with
  | some d => match kitB (kindD d) T with
    | some k => Q (.d (.bool k)) M1
    | none => False
  | none => False
theorem ce_isi {T : String} {n : Str} (hg : Gl X "isinstance") (hm : X.mg "isinstance" = none) (hgT : Gl X n) (hmT : X.mg n = none) (hbT : bootBuiltins n = some (.type T)) (ha : CE X W a fa) (hn : n ≠ "__name__" := by decide) (hdb : (n == ("__debug__" : Str)) = false := by decide)
    (he : starEach (a :: [.Name n p2]) X.env = (false, eval a X.env) :: starEach [.Name n p2] X.env := by rfl) (he2 : starEach (.Name n p2 :: []) X.env = (false, eval (.Name n p2) X.env) :: starEach [] X.env := by rfl) (hpl : (backTo pos (starEach [.Name n p2] X.env)).any (·.1) = false := by rfl) :
    CE X W (.Call (.Name "isinstance" p) [a, .Name n p2] [] pos) (dIsi T fa) where
  pe := PE.weak (pe_callB call_isi hg hm PyProof.Rows.boot_isinstance (pa_cons ha.pe (pa_cons (pe_bltn (v := .ty T) hgT hmT hbT rfl hn hdb) pa_nil he2) he) (by decide) (by decide) he hpl) fun σ H Q ⟨ρ, M, Xd, r, x, h⟩ => by
    refine emb.next r x ha.mono h fun y M1 v H1 e1 r1 x1 rv h1 => ?_
    split at h1
    · rename_i d ev
      split at h1
      · rename_i k ek
        exact ⟨v, .ty T, _, _, k, rfl, .ty T, tyx_of r1.mem rv ev, kit_ty ek, h1 _ _ e1 r1.mem (.bl k)⟩
      · exact h1.elim
    · exact h1.elim
  mono := fun Xd ρ M Q Q' hq h => ha.mono _ _ _ _ _ (fun x M1 h1 => by
    split at h1
    · split at h1
      · exact hq _ _ h1
      · exact h1.elim
    · exact h1.elim) h
/-! type(e) == T -/
def rTyD (K : PySem.W.Frag) : List V → Hp → VK → Prop := fun xs H Q => ∃ v x M d, xs = [v] ∧ MemOk K H M ∧ RV K H M v x ∧ vw M x = some d ∧ Q (.ty (kindD d)) H
theorem call_tyD : CallR X (.type "type") (rTyD X.K) := by
  intro pins s σ H xs us Q I r h
  obtain ⟨v, x, M, d, rfl, o, rv, ev, q⟩ := h
  obtain ⟨u, rfl, ru⟩ := vals1 r
  refine call_type_of (ty_is I o rv ev ru) ?_ ⟨.ty _, H, I, rfl, q⟩
  have := kindD_mem d
  generalize kindD d = k at this
  simp only [kinds, List.mem_cons, List.not_mem_nil, or_false] at this
  rcases this with rfl | rfl | rfl | rfl | rfl | rfl | rfl <;> decide +kernel
theorem kinds_meta {k : String} (h : k ∈ kinds) (s : Shared) : s.TypeIs (.type k) "type" := by
  simp only [kinds, List.mem_cons, List.not_mem_nil, or_false] at h
  rcases h with rfl | rfl | rfl | rfl | rfl | rfl | rfl <;> (show typeOf _ = pure _) <;> kernel_rfl
theorem op_tyEq : OpR X (compareOp .Eq) (fun x y H Q => ∃ S T, x = .ty S ∧ y = .ty T ∧ S ∈ kinds ∧ T ∈ kinds ∧ Q (.bl (decide (S = T))) H) := by
  intro pins s σ H x y v u Q I rx ry ⟨S, T, h1, h2, hS, hT, q⟩
  subst h1 h2
  cases rx; cases ry
  by_cases e : S = T
  · subst e
    exact TypeEq.eq_type_same (kinds_meta hS) ⟨.bl true, H, I, rfl, by simpa using q⟩
  · refine TypeEq.eq_type_other (kinds_meta hS) (kinds_meta hT) ?_ ⟨.bl false, H, I, rfl, by simpa [e] using q⟩
    rw [beq_eq_false_iff_ne]
    intro z
    exact e (by injection z)
def dTyEq (T : String) (fa : DE) : DE := fun Xd ρ M Q => fa Xd ρ M fun x M1 => match vw M1 x with
  | some d => Q (.d (.bool (decide (kindD d = T)))) M1
  | none => False
theorem ce_tyEq {T : String} {n : Str} {p3 : Pos} (hg : Gl X "type") (hm : X.mg "type" = none) (hgT : Gl X n) (hmT : X.mg n = none) (hbT : bootBuiltins n = some (.type T)) (hT : T ∈ kinds) (ha : CE X W a fa) (hn : n ≠ "__name__" := by decide) (hdb : (n == ("__debug__" : Str)) = false := by decide)
    (he : starEach (a :: []) X.env = (false, eval a X.env) :: starEach [] X.env := by rfl) (hpl : (backTo pos (starEach [] X.env)).any (·.1) = false := by rfl) :
    CE X W (.Compare (.Call (.Name "type" p) [a] [] pos) [.Eq] [.Name n p2] p3) (dTyEq T fa) where
  pe := PE.weak (pe_cmpR op_tyEq (pe_callTy call_tyD hg hm PyProof.Rows.boot_type (pa_cons ha.pe pa_nil he) (by decide) (by decide) he hpl) (pe_bltn (v := .ty T) hgT hmT hbT rfl hn hdb) (nomark _)) fun σ H Q ⟨ρ, M, Xd, r, x, h⟩ => by
    refine emb.next r x ha.mono h fun y M1 v H1 e1 r1 x1 rv h1 => ?_
    split at h1
    · rename_i d ev
      exact ⟨v, y, M1, d, rfl, r1.mem, rv, ev, kindD d, T, rfl, rfl, kindD_mem d, hT, h1 _ _ e1 r1.mem (.bl _)⟩
    · exact h1.elim
  mono := fun Xd ρ M Q Q' hq h => ha.mono _ _ _ _ _ (fun x M1 h1 => by
    split at h1
    · exact hq _ _ h1
    · exact h1.elim) h

/-! ### xs.append(e) -/
def dAppend (fo fe : DE) : DE := fun Xd ρ M Q => fo Xd ρ M fun o M1 => match o with
  | .m a => fe Xd ρ M1 fun x M2 => match x with
    | .d d => match M2 a with
      | some ds => ds.length < sizeLine ∧ Q (.d .none) (updM M2 a (ds ++ [d]))
      | none => False
    | _ => False
  | _ => False
theorem ce_append {o : Expr} {fo fe : DE} {apos : Pos} (ho : CE X W o fo) (he : CE X W e fe) (hbase : attributeBase o "append" X.env (eval o X.env) = eval o X.env := by rfl)
    (hfew : ((backTo pos (starEach [e] X.env)).all (fun x => !x.1) && (backToKw pos (keywordEach [] X.env)).all (fun x => x.1.isSome)
      && decide ([e].length + ([] : List Keyword).length + (if ([] : List Keyword).isEmpty then 0 else 1) < 30)) = true := by rfl)
    (hline : (apos.endLine == pos.line) = true := by rfl) (hs : starEach [e] X.env = (false, eval e X.env) :: starEach [] X.env := by rfl) (hplain : (backTo pos (starEach [] X.env)).any (·.1) = false := by rfl) :
    CE X W (.Call (.Attribute o "append" apos) [e] [] pos) (dAppend fo fe) where
  pe := PE.weak (pe_bm PySem.F.plainAttrs_list PySem.F.slot_list_append PySem.F.type_list_append mt_append ho.pe (pa_cons he.pe pa_nil hs) hbase hfew hline hs hplain) fun σ H Q ⟨ρ, M, Xd, r, x, h⟩ => by
    refine emb.next r x ho.mono h fun y M1 v H1 e1 r1 x1 rv h1 => ?_
    split at h1
    · rename_i a
      obtain ⟨rfl, nm⟩ := rv
      have : ∃ ds, M1 a = some ds := by cases q : M1 a with
        | none => exact absurd q nm
        | some ds => exact ⟨ds, rfl⟩
      obtain ⟨ds1, em1⟩ := this
      obtain ⟨xs1, hx1, _⟩ := r1.mem _ _ em1
      refine ⟨.inl ⟨rfl, _, .of hx1⟩, ?_⟩
      refine emb.next r1 x1 he.mono h1 fun z M2 u H2 e2 r2 x2 ru h2 => ?_
      split at h2
      · rename_i d
        split at h2
        · rename_i ds em
          obtain ⟨xs, hx, fx⟩ := r2.mem _ _ em
          refine ⟨_, xs, u, rfl, rfl, hx, by rw [fx.length]; exact h2.1, ?_⟩
          exact h2.2 _ _ ((e1.trans e2).trans (Ext.write em)) (r2.mem.write em (fx.append (.cons ru .nil))) .non
        · exact h2.elim
      · exact h2.elim
    · exact h1.elim
  mono := fun Xd ρ M Q Q' hq h => ho.mono _ _ _ _ _ (fun y M1 h1 => by
    split at h1
    · exact he.mono _ _ _ _ _ (fun x M2 h2 => by
        split at h2
        · split at h2
          · exact ⟨h2.1, hq _ _ h2.2⟩
          · exact h2.elim
        · exact h2.elim) h1
    · exact h1.elim) h
end
end HD

namespace HD
open PySem PySem.Spec PyProof.Rows L2

/-! ### enumerate(t), t a tuple -/
set_option maxHeartbeats 1000000 in
theorem new_enum {v : Value} {o : Obj} {C : Heap → Prop} (B : Begins v o C) :
    Meets (Builtin.«enumerate.__new__» ⟨[.type "enumerate", v], []⟩) (fun _ R s => C s.heap ∧
      R (.ok (.ret (.ref (s.heap.push o).objs.size))) { s with heap := (s.heap.push o).push { cls := .type "enumerate", data := .fields #[.none, .bool false, .ref s.heap.objs.size, rawInt 0, .none, .none] } }) := by
  refine .of_wp ?_
  intro prog w A R s h
  obtain ⟨hp, gs, dr, tk, os⟩ := s
  obtain ⟨hC, hR⟩ := h
  have hsub := sub_enumerate
  have it : ∀ {A' : Around} {E : Value → Shared → Prop} {Q : Value → Shared → Prop}, Q (.ref hp.objs.size) ⟨hp.push o, gs, dr, tk, os⟩ → wpAny (model prog w) A' (pyIter v) Q E ⟨hp, gs, dr, tk, os⟩ := by
    intro A' E Q hq
    exact B.iter prog w _ _ ⟨hp, gs, dr, tk, os⟩ _ hC hq
  wp_walk using it
  refine wpAny_stack_any ?_
  intro st
  refine wpAny_pure ?_
  split
  · rename_i c _ _ _ _ _
    cases (c == Value.type "enumerate") <;> (wp_walk using it; exact ⟨_, rfl, hR⟩)
  · wp_walk using it; exact ⟨_, rfl, hR⟩
theorem enum_of {prog : Program} {w : World} {A : Around} {E : Value → Shared → Prop} {s : Shared} {v : Value} {o : Obj} {C : Heap → Prop} {Q : Value → Shared → Prop} (B : Begins v o C) (hC : C s.heap)
    (h : ∀ h', IsEnum h' (s.heap.objs.size + 1) s.heap.objs.size 0 .none → h'.get? s.heap.objs.size = some o → h'.objs.size = s.heap.objs.size + 2 →
      (∀ b ob, s.heap.get? b = some ob → h'.get? b = some ob) → Q (.ref (s.heap.objs.size + 1)) { s with heap := h' }) :
    wpAny (model prog w) A (call (.type "enumerate") [v]) Q E s := by
  refine callType_new F.called_enumerate (by decide) (F.typeCall_enumerate_1 _) (F.newCall_enumerate_1 _) (fun obj => F.args_object_init_2 obj _) F.entry_enumerate_new (new_enum B) ⟨hC, ?_⟩
  have hz : (s.heap.push o).objs.size = s.heap.objs.size + 1 := Heap.size_push ..
  show _ ∧ _
  rw [hz]
  have he : IsEnum ((s.heap.push o).push { cls := .type "enumerate", data := .fields #[.none, .bool false, .ref s.heap.objs.size, rawInt 0, .none, .none] }) (s.heap.objs.size + 1) s.heap.objs.size 0 .none := by
    have q := Heap.get?_push_size (s.heap.push o) (o := { cls := .type "enumerate", data := .fields #[.none, .bool false, .ref s.heap.objs.size, rawInt 0, .none, .none] }) rfl
    rw [hz] at q
    exact q
  exact ⟨⟨_, he, rfl⟩, h _ he (Heap.get?_push_of_some _ (Heap.get?_push_size _ B.free)) (by rw [Heap.size_push, hz]) (fun b ob x => Heap.get?_push_of_some _ (Heap.get?_push_of_some _ x))⟩
/-- a walk of a tuple that is at its end -/
theorem spent {prog : Program} {w : World} {A : Around} (hh : A.handled = none) (it t : Addr) (hne : t ≠ it) (items : Array Value) (n : Nat) (hn : items.size ≤ n) :
    Draws prog w A it [it, t] n (fun _ _ => True) (fun j h => j = n ∧ h.IsTupleIter it t n ∧ h.IsTuple t items) where
  live := fun _ _ st => let ⟨o, ho, _⟩ := st.2.1; ⟨o, ho⟩
  frame := fun _ _ _ st hk => ⟨st.1, st.2.1.at fun o e => hk it (by simp) o e, st.2.2.at fun o e => hk t (by simp) o e⟩
  item := fun i s Q E hi st hQ => absurd st.1 (by omega)
  done := fun s Q E st hE => wpAny_nextOf_tuple_end hh st.2.1 st.2.2 (by simp [hn]) hE
/-- the tuple at a, each item in a new pair -/
def ItEnT (K : PySem.W.Frag) (a : Addr) : It where
  go := fun i H => ∃ (xs : List V) (x : V), SqT K H a xs ∧ xs[i]? = some x
  yld := fun i H v H' => ∃ T x, v = .ref T ∧ H T = none ∧ H' = upd H T (.tup [.int (i : Nat), x]) ∧ ∀ xs, SqT K H a xs → xs[i]? = some x
  stop := fun i H => ∃ xs : List V, SqT K H a xs ∧ xs.length ≤ i
theorem turnEnT {P : Program} {w : World} {K : PySem.W.Frag} {elts : List Expr} {kk : Nat} {tpos : Pos} (a e it : Addr) :
    Turn P w K (.Tuple elts kk tpos) (ItEnT K a) [e, it] e (fun i h => (∃ old, IsEnum h e it ((i : Nat) : Int) old) ∧ h.IsTupleIter it a i ∧ e ≠ it ∧ it ≠ a ∧ e ≠ a) where
  mem := List.mem_cons_self ..
  obj := by
    rintro i h ⟨⟨old, he⟩, ⟨o, ho, hc, hd⟩, _⟩ b hb
    simp only [List.mem_cons, List.not_mem_nil, or_false] at hb
    rcases hb with z | z
    · rw [z]; exact ⟨_, he, fun v q => nomatch q⟩
    · rw [z]; exact ⟨o, ho, fun v q => by rw [hd] at q; cases q⟩
  keep := by
    rintro i h h' ⟨⟨old, he⟩, hi, hne⟩ k
    exact ⟨⟨old, k e (by simp) _ he⟩, hi.at fun o q => k it (by simp) o q, hne⟩
  item := by
    intro X hP hw hK hc i pins s σ H E I hf st hg
    subst hP hw hK
    obtain ⟨⟨old, he⟩, hit, hne, hia, hea⟩ := st
    obtain ⟨xs, x, hq, hx⟩ := hg
    obtain ⟨its, rv, p, hz⟩ := I.tuple hq
    obtain ⟨u, hu, ru⟩ := rv.get hx
    have hlen : i < its.toArray.size := by
      rw [List.size_toArray]
      by_cases hlt : i < its.length
      · exact hlt
      · rw [List.getElem?_eq_none (by omega)] at hu; cases hu
    have hel : e < s.heap.objs.size := Heap.lt_size he
    have hil : it < s.heap.objs.size := by obtain ⟨_, q, _⟩ := hit; exact Heap.lt_size q
    refine wpAny_pyNext_enum_itemC (D := Draws.tuple (prog := X.prog) (w := X.w) (A := X.A.in1) (by exact I.ok.hd hc) it a (Ne.symm hia) its.toArray) he ⟨hit, p⟩ hlen hne (by simp [hne, hea]) ?_
    intro x' h' tk hx' ho hst' hT hsz hk
    have ex : x' = u := by
      have q : its[i]? = some x' := by simpa using hx'
      rw [hu] at q; exact (Option.some.inj q).symm
    subst ex
    refine ⟨_, rfl, wpAny_letOwnedTupleGo_enum (s := { s with heap := h', toks := tk + 1 }) ho fun h'' he' sb => ?_⟩
    have hT2 : h''.get? s.heap.objs.size = some { cls := .type "tuple", data := .seq #[.int i tk, x'] } := (sb.2 _ (Nat.ne_of_gt hel)).trans hT
    have fresh : ObjOk X.prog X.w (upd H s.heap.objs.size (.tup [.int (i : Nat), x])) h'' s.heap.objs.size (.tup [.int (i : Nat), x]) :=
      ⟨by show 2 ≤ sizeLine; decide, [.int i tk, x'], .cons ⟨_, rfl⟩ (.cons ru .nil), ⟨_, hT2, rfl, _, rfl⟩⟩
    have I1 : Inv X pins σ (upd H s.heap.objs.size (.tup [.int (i : Nat), x])) { s with heap := h'', toks := tk + 1 } :=
      I.turnedNew (ch := [e, it]) (fun b ob hb q => (sb.2 b (fun z => hb (by simp [z]))).trans (hk b ob (fun z => hb (by simp [z])) (fun z => hb (by simp [z])) q)) hf (Nat.le_refl _) fresh
    refine ⟨.ref s.heap.objs.size, _, I1, rfl, ⟨_, x, rfl, I.hok.fresh (Nat.le_refl _), rfl, fun ys hy => by rw [I.tuple_inj hy hq]; exact hx⟩, ⟨⟨x', ?_⟩, hst'.1.at fun o q => (sb.2 it (Ne.symm hne)).trans q, hne, hia, hea⟩, fun b hb => ?_⟩
    · have e1 : ((i + 1 : Nat) : Int) = (i : Int) + 1 := by omega
      rw [e1]; exact he'
    · have hb' : b < s.heap.objs.size := by
        simp only [List.mem_cons, List.not_mem_nil, or_false] at hb
        rcases hb with z | z
        · rw [z]; exact hel
        · rw [z]; exact hil
      rw [upd_ne (Nat.ne_of_lt hb')]
      exact (hf b hb).1
  done := by
    intro X hP hw hK hc i pins s σ H E I hf st hg
    subst hP hw hK
    obtain ⟨⟨old, he⟩, hit, hne, hia, hea⟩ := st
    obtain ⟨xs, hq, hx⟩ := hg
    obtain ⟨its, rv, p, hz⟩ := I.tuple hq
    obtain ⟨f0, f1, f2, f3, f4, f5⟩ := hf it (by simp)
    have hl := rv.length
    refine wpAny_pyNext_enum_endD (D := spent (prog := X.prog) (w := X.w) (A := X.A.in1) (by exact I.ok.hd hc) it a (Ne.symm hia) its.toArray i (by rw [List.size_toArray]; omega)) he ⟨rfl, hit, p⟩ ?_
    intro h' eb
    exact ⟨rfl, I.turned (t' := s.toks) (fun b o hb q => eb b o hb q) f0 f1 f3 f4 f5⟩
  self := by
    rintro A i s Q E ⟨⟨_, he⟩, _⟩ h
    exact wpAny_pyIter_enum he h
def iEnT (K : PySem.W.Frag) (ta : TA) : TI := fun σ H R => ta σ H fun vs H1 => ∃ a xs, vs = [.ref a] ∧ ((SqT K H1 a xs ∧ R (ItEnT K a) H1) ∨ (SqL K H1 a xs ∧ R (Ite K a) H1))
theorem pi_enT {X : Cx} {e : Expr} {ta : TA} {p pos tpos : Pos} {elts : List Expr} {kk : Nat} (hg : Gl X "enumerate") (hm : X.mg "enumerate" = none) (ha : PA X [e] ta) (hs : starEach [e] X.env = [(false, eval e X.env)] := by rfl) :
    PI X (.Tuple elts kk tpos) (.Call (.Name "enumerate" p) [e] [] pos) (iEnT X.K ta) := by
  constructor
  intro pins s σ H R I h
  refine Call_ (ld_blt I hg hm PyProof.Rows.boot_enumerate (PyProof.Rows.callWith_type1 (thn (ha.run pos pins s σ H _ I h) fun us s1 ⟨vs, H1, I1, r1, q1⟩ => ?_) hs rfl))
  obtain ⟨a, xs, ex, q1⟩ := q1
  subst ex
  cases r1 with
  | cons r rr =>
    cases rr
    cases r
    have cell : ∀ {h' : Heap}, (∀ b o, s1.heap.get? b = some o → h'.get? b = some o) → ∀ b ∈ [s1.heap.objs.size + 1, s1.heap.objs.size], FpOk X pins H1 b := by
      intro h' hk b hb
      have hle : s1.heap.objs.size ≤ b := by
        simp only [List.mem_cons, List.not_mem_nil, or_false] at hb
        rcases hb with z | z <;> omega
      exact I1.fpOk hle (I1.hok.fresh hle)
    rcases q1 with ⟨hq, q⟩ | ⟨hq, q⟩
    · obtain ⟨its, rv, p', hz⟩ := I1.tuple hq
      have hlt := p'.lt
      refine enum_of (begins_tuple a its.toArray) p' fun h' he hit hsz hk => wpAny_pyIter_enum he ?_
      have I2 : Inv X pins σ H1 { s1 with heap := h' } := I1.kept (t' := s1.toks) hk
      exact ⟨s1.heap.objs.size + 1, [s1.heap.objs.size + 1, s1.heap.objs.size], _, _, H1, rfl, I2, turnEnT a (s1.heap.objs.size + 1) s1.heap.objs.size, ⟨⟨.none, he⟩, ⟨_, hit, rfl, rfl⟩, Nat.succ_ne_self _, Nat.ne_of_gt hlt, Nat.ne_of_gt (Nat.lt_succ_of_lt hlt)⟩, cell hk, q⟩
    · obtain ⟨its, rv, p', hz⟩ := I1.list hq
      refine call_enumerate_list p'.isList fun h' he hit hsz hk => wpAny_pyIter_enum he ?_
      have I2 : Inv X pins σ H1 { s1 with heap := h' } := I1.kept (t' := s1.toks) hk
      exact ⟨s1.heap.objs.size + 1, [s1.heap.objs.size + 1, s1.heap.objs.size], _, _, H1, rfl, I2, turn_enum a (s1.heap.objs.size + 1) s1.heap.objs.size, ⟨⟨.none, he⟩, hit, Nat.succ_ne_self _⟩, cell hk, q⟩
theorem walk_enT {K : PySem.W.Frag} {a : Addr} {xs : List V} : L2.Walk (ItEnT K a) xs.length (fun H => SqT K H a xs) (YPair (fun i => some (.int (i : Nat))) (fun i => xs[i]?)) where
  goes := fun i H hi h => ⟨xs, xs[i], h, by simp [hi]⟩
  stops := fun H h => ⟨xs, h, Nat.le_refl _⟩
  yields := fun i H v H' hi h ⟨T, x, h1, h2, h3, h4⟩ => ⟨T, .int (i : Nat), x, h1, h2, h3, rfl, h4 xs h⟩
/-- the pairs of enumerate -/
def enumD (ds : List PyData) : List DV := (List.range ds.length).map fun i => .d (.tuple [.int ((i : Nat) : Int), ds.getD i .none])
section
variable {K : PySem.W.Frag} {H : Hp} {M : Mem} {a b : Addr} {vs us : List V} {ds es : List PyData}
theorem enum_yield {i : Nat} {v : V} {H' H'' : Hp} {M' : Mem} (f : FzA K H' M' vs ds) (o : MemOk K H' M') (y : YPair (fun i => some (.int (i : Nat))) (fun i => vs[i]?) i H' v H'') : ∃ x, (enumD ds)[i]? = some x ∧ Ext H' M' H'' M' ∧ MemOk K H'' M' ∧ RV K H'' M' v x := by
  obtain ⟨T, x, y, h1, h2, h3, h4, h5⟩ := y
  subst h1; subst h3
  obtain ⟨d, q1, r1⟩ := f.getV h5
  cases h4
  have hi : i < ds.length := by
    by_cases hlt : i < ds.length
    · exact hlt
    · rw [List.getElem?_eq_none (by omega)] at q1; cases q1
  refine ⟨.d (.tuple [.int (i : Nat), d]), ?_, Ext.new h2, o.new h2, .tup (.inl ⟨Rd.of upd_same, o.out h2⟩) (.cons (.int _) (.cons (r1.ext (Ext.new h2)) .nil))⟩
  rw [enumD, List.getElem?_map]
  simp [hi]
  rw [List.getElem?_eq_getElem hi] at q1
  exact Option.some.inj q1
theorem enumD_length : (enumD ds).length = ds.length := by simp [enumD]
theorem dwalk_enT (h : StT K H M a vs) (f : FzA K H M vs ds) : DWalk K (ItEnT K a) (enumD ds) (fun _ => True) H M :=
  ⟨fun H => SqT K H a vs, _, by rw [enumD_length, ← f.length]; exact walk_enT, fun H' M' e _ _ => (h.ext e).sq, fun i v H' H'' M' _ e o _ y => enum_yield (f.ext e) o y⟩
theorem dwalk_enL (h : H a = some (.lst vs)) (m : M a = none) (f : FzA K H M vs ds) : DWalk K (Ite K a) (enumD ds) (fun _ => True) H M :=
  ⟨fun H => SqL K H a vs, _, by rw [enumD_length, ← f.length]; exact walk_enum, fun H' M' e _ _ => .of (e.keep _ _ h m), fun i v H' H'' M' _ e o _ y => enum_yield (f.ext e) o y⟩
end
section
variable {X : Cx} {W : WX} {a : Expr} {t : DA} {p pos tpos : Pos} {elts : List Expr} {kk : Nat}
def iEnumD (t : DA) : DI := fun Xd ρ M R => t Xd ρ M fun xs M1 => match xs with
  | [.d (.tuple ds)] => R (enumD ds) (fun _ => True) M1
  | [.d (.list ds)] => R (enumD ds) (fun _ => True) M1
  | _ => False
theorem ci_enum (hg : Gl X "enumerate") (hm : X.mg "enumerate" = none) (ha : CA X W [a] t) (hs : starEach [a] X.env = [(false, eval a X.env)] := by rfl) : CI X W (.Tuple elts kk tpos) (.Call (.Name "enumerate" p) [a] [] pos) (iEnumD t) where
  pi := PI.weak (pi_enT hg hm ha.pa hs) fun σ H R ⟨ρ, M, Xd, r, x, h⟩ => embA.next r x ha.mono h fun ys M1 vs H1 e1 r1 x1 rv h1 => by
    split at h1
    · obtain ⟨v, rfl, rv1⟩ := rv.one
      cases rv1 with | tup h2 f => exact ⟨_, _, rfl, .inl ⟨h2.sq, h1 _ _ e1 r1.mem (dwalk_enT h2 f)⟩⟩
    · obtain ⟨v, rfl, rv1⟩ := rv.one
      cases rv1 with | lst h2 m f => exact ⟨_, _, rfl, .inr ⟨.of h2, h1 _ _ e1 r1.mem (dwalk_enL h2 m f)⟩⟩
    · exact h1.elim
  mono := fun Xd ρ M Q Q' hq h => ha.mono _ _ _ _ _ (fun x M1 h1 => by
    split at h1
    · exact hq _ _ _ h1
    · exact hq _ _ _ h1
    · exact h1.elim) h
end
end HD

namespace HD
open PySem PySem.Spec PyProof.Rows L2

/-! ### a def, told of data -/
def startD (N : List Str) (xs : List DV) : DEnv := xs.map some ++ List.replicate (N.length - xs.length) none
theorem rvs_get {K : PySem.W.Frag} {H : Hp} {M : Mem} : ∀ {vs : List V} {xs : List DV} {i : Nat} {x : DV}, RVs K H M vs xs → xs[i]? = some x → ∃ v, vs[i]? = some v ∧ RV K H M v x
  | _, _, _, _, .nil, h => by simp at h
  | _, _, 0, _, .cons h _, e => by simp at e; subst e; exact ⟨_, rfl, h⟩
  | _, _, i + 1, _, .cons _ r, e => by
    obtain ⟨v, h1, h2⟩ := rvs_get (i := i) r (by simpa using e)
    exact ⟨v, by simpa using h1, h2⟩
theorem rel_start {K : PySem.W.Frag} {H : Hp} {M : Mem} {vs : List V} {xs : List DV} {N : List Str} (o : MemOk K H M) (r : RVs K H M vs xs) : Rel K (L2.start N vs) H (startD N xs) M where
  mem := o
  len := by simp [L2.start, startD, r.length]
  env := fun i x h => by
    unfold startD at h
    by_cases hi : i < xs.length
    · rw [List.getElem?_append_left (by simpa using hi), List.getElem?_map] at h
      cases e : xs[i]? with
      | none => rw [e] at h; cases h
      | some y =>
        rw [e] at h; cases h
        obtain ⟨v, h1, h2⟩ := rvs_get r e
        refine ⟨v, ?_, h2⟩
        unfold L2.start
        rw [List.getElem?_append_left (by rw [List.length_map, r.length]; exact hi), List.getElem?_map, h1]
        rfl
    · rw [List.getElem?_append_right (by simpa using hi), List.getElem?_replicate] at h
      split at h <;> cases h
/-- what is wanted of an error that leaves the def -/
abbrev WOut (E : XK) : WX := fun cls d _ H => E cls d H
section
variable {P : Program} {w : World} {K : PySem.W.Frag} {mg : Str → Option Value} {base : Heap}
theorem FnG.data {x qual : Str} {st : Stmt} {f : Addr} {fd : FuncData} {N ps : List Str} {k : Nat} {c : DSp} {g : DS} (F : Fun K x qual st f fd) (S : FnScope N ps (defScope st)) (hsys : ∃ o, base.get? sysModules = some o)
    (hlen : ∀ xs M, c.pre xs M → xs.length = ps.length)
    (body : ∀ (cdv : Value) (A : Around) (outer : List Env) (s : Shared) (H : Hp) (E : XK), Cxs (cxOf (L2.CX P w) P w K mg base N qual (defScope st) f cdv A outer s H E) (WOut E) k →
      CSs (cxOf (L2.CX P w) P w K mg base N qual (defScope st) f cdv A outer s H E) (WOut E) (defBody st) g)
    (hg : ∀ xs M, c.pre xs M → g ⟨fun _ M' => c.post xs M (.d .none) M', fun x M' => c.post xs M x M', fun _ _ => False, fun _ _ => False, fun cls fs _ M' => c.err xs M cls fs M'⟩ (startD N xs) M) :
    FnG P w K mg base (k + 1) f fd ps (c.sp K) := by
  refine FnG.make F S ?_ ?_
  · rintro vs H Q E ⟨xs, M, rv, _, hp, _⟩
    rw [rv.length]; exact hlen xs M hp
  · rintro cdv A outer s H vs Q E gd room ⟨xs, M, rv, o, hp, hq, hx⟩
    refine ⟨_, (body cdv A outer s H E ⟨⟨takes_of rfl rfl rfl rfl, rfl, gd, room, S.nd, hsys⟩, passes_of rfl, rfl, rfl⟩).pss, ?_⟩
    refine ⟨startD N xs, M, _, rel_start o rv, ⟨?_, ?_, ?_, ?_, ?_⟩, hg xs M hp⟩
    · intro σ' H' ρ' M' e r h
      exact hq (.d .none) M' _ H' e r.mem Fz.non h
    · intro v H' x M' e o' r h
      exact hq x M' v H' e o' r h
    · intro σ' H' ρ' M' e r h; exact h.elim
    · intro σ' H' ρ' M' e r h; exact h.elim
    · intro cls fs d σ' H' ρ' M' e r a h
      exact hx cls fs d H' M' e r.mem a h
end

/-! ### the law's call -/
theorem law_callG {P : Program} {w : World} {K : PySem.W.Frag} {mg mb : Str → Option Value} {k : Nat} {fa a : Addr} {fd : FuncData} {x : Str} {c : DSp} {s₁ : Shared} {vs : List Value} {ns : List Int}
    (inK : K.In s₁.heap) (hns : s₁.heap.Ns mainGlobals mg) (hb : s₁.heap.Ns builtinsNs mb) (hbb : ∀ x : Str, x ≠ "__name__" → mb x = bootBuiltins x) (hlim : s₁.heap.NoLimit) (hgen : s₁.gens = #[]) (hsys : ∃ o, s₁.heap.get? sysModules = some o) (hna : a ≠ sysModules)
    (ha : s₁.heap.get? a = some { cls := .type "list", data := .seq vs.toArray }) (hi : IntsAre vs ns) (hl : ns.length ≤ sizeLine) (hr : Room k callerA)
    (F : ∀ base : Heap, K.In base → base.Ns mainGlobals mg → (∃ o, base.get? sysModules = some o) → FnG P w K mg base k fa fd [x] (c.sp K)) (hbind : ∀ (s : Shared) (u : Value), BindsTo s fd ⟨[u], []⟩ [(x, u)])
    (hpre : c.pre [.s a ns] fun _ => none) (hpost : ∀ y M', c.post [.s a ns] (fun _ => none) y M' → y = .d (.bool true)) (herr : ∀ cls fs M', c.err [.s a ns] (fun _ => none) cls fs M' → False) :
    codeAny (model P w) callerA (.call (.ref fa) ⟨[.ref a], []⟩) (fun r s' => r = .ok (.ret (.bool true)) ∧ OldK s₁.heap s'.heap ∧ s'.os = s₁.os ∧ AllBare s'.gens) s₁ := by
  have rv := vals_ints hi
  have lenV := hi.length
  have main : ∀ H : Hp, Only H → StL K H (fun _ => none) a (ns.map V.int) → HOk P w H s₁.heap → (∀ b, H b ≠ none → b = a) → (H a ≠ none → K.lookup a = none) →
      codeAny (model P w) callerA (.call (.ref fa) ⟨[.ref a], []⟩) (fun r s' => r = .ok (.ret (.bool true)) ∧ OldK s₁.heap s'.heap ∧ s'.os = s₁.os ∧ AllBare s'.gens) s₁ := by
    intro H only hS hok just apart
    have plain : ∀ {b : Addr} {o : Obj} {es : Array DictEntry} {ep : Nat}, s₁.heap.get? b = some o → o.data = .dict es ep → H b = none := by
      intro b o es ep e d
      cases q : H b with
      | none => rfl
      | some u =>
        have hba : b = a := just b (by rw [q]; simp)
        subst hba
        rw [ha] at e; cases e
        exact nomatch (show Data.seq vs.toArray _ = Data.dict es ep from d)
    have nsOf : ∀ {b : Addr} {m : Str → Option Value}, s₁.heap.Ns b m → (hidT s₁.heap H).Ns b m := by
      rintro b m ⟨o, es, ep, e, d, r⟩
      exact ⟨o, es, ep, hidT_get e (plain e d), d, r⟩
    have kIn : K.In (hidT s₁.heap H) := by
      intro b o e
      refine hidT_get (inK b o e) ?_
      cases q : H b with
      | none => rfl
      | some u =>
        have hba : b = a := just b (by rw [q]; simp)
        subst hba
        rw [apart (by rw [q]; simp)] at e; cases e
    have md : Mod K mg (hidT s₁.heap H) := ⟨kIn, nsOf hns, ⟨mb, nsOf hb, hbb⟩, let ⟨mc, h1, h2⟩ := hlim; ⟨mc, nsOf h1, h2⟩⟩
    have e0 : Env0 P w K mg (hidT s₁.heap H) callerA [] s₁ H :=
      ⟨rfl, md, fun b o e => of_hidT e, Nat.le_of_eq (hidT_size _ _), trivial, fun b hb => absurd (show b ∈ ([] : List Addr) from hb) (by simp), hok, .of_eq hgen⟩
    have sys : ∃ o, (hidT s₁.heap H).get? sysModules = some o := let ⟨o, e⟩ := hsys; ⟨o, hidT_get e (by cases q : H sysModules with | none => rfl | some u => exact absurd (just _ (by rw [q]; simp)).symm hna)⟩
    refine codeAny_mono ((F _ kIn (nsOf hns) sys).goes callerA [] s₁ H ⟨[.ref a], []⟩ [.ref a] [.ref a] (fun v _ => v = .bl true) (fun _ _ _ => False) ⟨rfl⟩ hr e0 (hbind s₁ (.ref a)) (.cons rfl .nil) ?_) ?_
    · refine ⟨[.s a ns], fun _ => none, .cons ⟨rfl, hS⟩ .nil, (fun _ _ q => nomatch q), hpre, ?_, ?_⟩
      · intro y M' v H' _ _ r h
        cases hpost y M' h
        cases r; rfl
      · intro cls fs d H' M' _ _ _ h
        exact herr cls fs M' h
    · intro r s' h
      cases r with
      | error e =>
        obtain ⟨_, _, _, _, _, _, _, _, _, _, _, _, z⟩ := h
        exact z.elim
      | ok fl =>
        cases fl with
        | next => exact h.elim
        | brk => exact h.elim
        | cont => exact h.elim
        | ret u =>
          obtain ⟨v, H', os, bare, un, hok', r', q⟩ := h
          obtain rfl : v = .bl true := q
          obtain rfl : u = Value.bool true := r'
          refine ⟨rfl, OldK.of_keep ?_, os, bare⟩
          intro b o e
          cases q : H b with
          | none => exact un.keep b o e q (fun z => absurd (show b ∈ ([] : List Addr) from z) (by simp)) (by simp)
          | some u =>
            rcases only b with z | ⟨ob, xs, z⟩
            · rw [q] at z; cases z
            · obtain ⟨e1, _⟩ := hok b _ z
              obtain ⟨e2, _⟩ := hok' b _ (un.frzs b ob _ z)
              rw [e] at e1; cases e1
              exact e2
  cases hk : K.lookup a with
  | some o =>
    have e := inK a o hk
    rw [ha] at e
    cases e
    exact main (fun _ => none) (fun _ => .inl rfl) (.inr (.inr ⟨_, vs.toArray, _, hk, rfl, rfl, rfl, by rw [List.size_toArray, lenV]; exact hl, by simpa using rv⟩)) (fun b u z => nomatch z) (fun b z => absurd rfl z) fun z => absurd rfl z
  | none =>
    have at_a : ∀ {b : Addr}, b = a → (fun b => if b = a then some (HO.frz { cls := .type "list", data := .seq vs.toArray } (.lst (ns.map V.int))) else none) b = some (HO.frz { cls := .type "list", data := .seq vs.toArray } (.lst (ns.map V.int))) := fun h => if_pos h
    refine main (fun b => if b = a then some (.frz { cls := .type "list", data := .seq vs.toArray } (.lst (ns.map V.int))) else none) ?_ (.inl ⟨.inr ⟨_, at_a rfl⟩, rfl⟩) ?_ ?_ fun _ => hk
    · intro b
      by_cases hb : b = a
      · exact .inr ⟨_, _, at_a hb⟩
      · exact .inl (if_neg hb)
    · intro b u z
      by_cases hb : b = a
      · have z' := (at_a hb).symm.trans z
        cases z'
        subst hb
        exact ⟨ha, by rw [List.length_map]; exact hl, vs, _, rv, ha⟩
      · exact nomatch (if_neg hb).symm.trans z
    · intro b z
      by_cases hb : b = a
      · exact hb
      · exact absurd (if_neg hb) z
end HD

namespace HD
open PySem PySem.Spec PyProof.Rows L2

/-! ### an own error over ValueError that keeps one thing -/
/-- its __init__ keeps the argument under the name fld -/
def spInit (K : PySem.W.Frag) (C : Addr) (fld : Str) : Sp := fun vs H Q _ => ∃ a v, vs = [.ref a, v] ∧ OexC K C ∧ PySem.W.findIn K (.ref C) fld = some none ∧ H a = some (exo a C none) ∧
  ∀ dx, H dx = none → dx ≠ a → Q .non (upd (upd H dx (exd dx [(fld, v)])) a (exo a C (some dx)))
/-- what the text says of such a class -/
structure ErrC (K : PySem.W.Frag) (mg : Str → Option Value) (x fld : Str) (C fI : Addr) (fd : FuncData) : Prop where
  oex : OexC K C
  iC : PySem.W.findIn K (.ref C) "__init__" = some (some (.ref fI))
  tI : PySem.W.typeIn K (.ref fI) = some (.type "function")
  bd : Binds K fd ["self", fld] []
  g : mg x = some (.ref C)
  no : PySem.W.findIn K (.ref C) fld = some none
  xf : XfC K C
  self : PySem.W.exmOne K (.ref C) (.ref C) = some true
theorem heap_made {H : Hp} {a dx : Addr} {o1 o2 o3 o4 : HO} (h : H a = none) (n : dx ≠ a) : upd (L2.del (upd (upd (upd H a o1) dx o2) a o3) a) dx o4 = upd H dx o4 := by
  funext b
  by_cases e : b = dx
  · subst e; rw [upd_same, upd_same]
  · rw [upd_ne e, upd_ne e]
    by_cases e2 : b = a
    · subst e2; rw [del_same, h]
    · rw [del_ne e2, upd_ne e2, upd_ne e, upd_ne e2]
def dRaise (C : Addr) (fld : Str) (f : DE) : DS := fun D ρ M => f D.ex ρ M fun y M1 => match y with
  | .d d => D.ex (.ref C) [(fld, d)] ρ M1
  | _ => False
section
variable {X : Cx} {W : WX} {j : Nat} {x fld n : Str} {C fI : Addr} {fd : FuncData} {e : Expr} {f : DE} {p pos pos2 pos3 : Pos}
theorem cs_raise (E : ErrC X.K X.mg x fld C fI fd) (F : FnOk X.prog X.w X.K X.mg X.base CX0 1 fI fd ["self", fld] (spInit X.K C fld)) (cx : Cxe X W j) (hj : 2 ≤ j) (hg : Gl X x) (he : CE X W e f)
    (hdb : (x == ("__debug__" : Str)) = false := by decide) (hse : starEach (e :: []) X.env = (false, eval e X.env) :: starEach [] X.env := by rfl) (hpl : (backTo pos (starEach [] X.env)).any (·.1) = false := by rfl) :
    CS X W (.Raise (some (.Call (.Name x p) [e] [] pos)) none pos2) (dRaise C fld f) :=
  ⟨PS.weak (ps_raise cx.calm cx.tk (pmk_oex E.oex E.iC E.tI F (cx.room.mono hj) E.bd .nil (fun _ _ _ _ _ _ _ z => z.elim) hg E.g (pa_cons he.pe pa_nil hse) hdb hse hpl)) fun D σ H ⟨ρ, M, Dd, r, en, q⟩ => by
    refine emb.next r (en.x r) he.mono q fun y M1 v H1 e1 r1 x1 rv h1 => ?_
    show ([v].length ≤ 1000) ∧ _
    refine ⟨by simp, fun a ha => ⟨a, v, rfl, E.oex, E.no, upd_same, fun dx hdx ndx => ?_⟩⟩
    rw [upd_ne ndx] at hdx
    refine ⟨rfl, dx, [(fld, v)], upd_same, ?_, hdx, ?_⟩
    · rw [upd_ne ndx, upd_same]
    · rw [heap_made ha ndx]
      split at h1
      · rename_i d
        refine en.ex (.ref C) [(fld, d)] (some dx) σ _ ρ M1 (e1.trans (Ext.new hdx)) (r1.ext (Ext.new hdx) (r1.mem.new hdx)) ?_ h1
        exact .inr ⟨dx, [(fld, v)], rfl, upd_same, r1.mem.out hdx, rfl, .cons (Fz.ext (Ext.new hdx) rv) .nil⟩
      · exact h1.elim⟩

/-! ### try .. except C as n -/
def inSuite (D : DEnds) (i : Nat) : DEnds := ⟨fun ρ2 M2 => D.nx (ρ2.set i none) M2, D.rt, fun ρ2 M2 => D.bk (ρ2.set i none) M2, fun ρ2 M2 => D.ct (ρ2.set i none) M2, noX⟩
def catching (D : DEnds) (C : Addr) (i : Nat) (suite : Addr → Value → Option Addr → DS) : DEnds :=
  ⟨D.nx, D.rt, D.bk, D.ct, fun cls fs ρ1 M1 => cls = .ref C ∧ ∀ a d, suite a cls d (inSuite D i) (ρ1.set i (some (.e a cls d fs))) M1⟩
def dTry (body : DS) (C : Addr) (i : Nat) (suite : Addr → Value → Option Addr → DS) : DS := fun D ρ M => body (catching D C i suite) ρ M
/-- n.fld, n the error that the suite holds -/
def dFld (a : Addr) (cls : Value) (d : Option Addr) (C : Addr) (fld : Str) (f : DE) : DE := fun Xd ρ M Q => f Xd ρ M fun x M1 => match x with
  | .e a' _ d' fs => (a' = a ∧ cls = .ref C ∧ d' = d) ∧ match fs with
    | [(g, y)] => g = fld ∧ Q (.d y) M1
    | _ => False
  | _ => False
theorem ce_fld {a : Addr} {oe : Obj} {cls : Value} {d : Option Addr} {pn : List (Addr × Obj)} (E : ErrC X.K X.mg x fld C fI fd) (hz : Zc cls d oe) (hf : ∃ vs, oe.data = .fields vs) (he : CE (X.suite a ((a, oe) :: pn)) W e f) (hb : attributeBase e fld X.env (eval e X.env) = eval e X.env := by rfl) :
    CE (X.suite a ((a, oe) :: pn)) W (.Attribute e fld pos) (dFld a cls d C fld f) where
  pe := PE.weak (pe_xf E.xf E.no hz hf he.pe hb) fun σ H Q ⟨ρ, M, Xd, r, xr, q⟩ => by
    refine emb.next r xr he.mono q fun y M1 v H1 e1 r1 x1 rv h1 => ?_
    split at h1
    · rename_i a' c' d' fs
      obtain ⟨⟨q1, q2, q3⟩, h2⟩ := h1
      subst q1; subst q3
      obtain ⟨rfl, ex⟩ := rv
      split at h2
      · rename_i g y
        obtain ⟨rfl, h3⟩ := h2
        rcases ex with z | ⟨dd, fv, ed, hd, md, hk, hv⟩
        · cases z
        · match fv, hk, hv with
          | [(g', v')], hk, .cons hv1 .nil =>
            simp only [List.map_cons, List.map_nil, List.cons.injEq, and_true] at hk
            subst hk
            exact ⟨rfl, q2, dd, _, v', ed, hd, by simp [List.lookup], h3 v' H1 e1 r1.mem hv1⟩
      · exact h2.elim
    · exact h1.elim
  mono := fun Xd ρ M Q Q' hq h => he.mono _ _ _ _ _ (fun y M1 h1 => by
    split at h1
    · refine ⟨h1.1, ?_⟩
      have h2 := h1.2
      split at h2
      · exact ⟨h2.1, hq _ _ h2.2⟩
      · exact h2.elim
    · exact h1.elim) h
theorem cs_try {i : Nat} {body suite : List Stmt} {b₀ : Stmt} {np : Pos} {gb : DS} {gs : Addr → Value → Option Addr → DS} {k : Nat} (E : ErrC X.K X.mg x fld C fI fd) (cx : Cxs X W k) (hg : Gl X x) (hi : X.N[i]? = some n)
    (hb : ∀ (W' : WX) (pn : List (Addr × Obj)) (xe : Value → Shared → Prop), Cxs (X.tr pn xe) W' k → CSs (X.tr pn xe) W' body gb)
    (hsu : ∀ (a : Addr) (oe : Obj) (cls : Value) (d : Option Addr) (pn : List (Addr × Obj)), Zc cls d oe → (∃ vs, oe.data = .fields vs) → CSs (X.suite a ((a, oe) :: pn)) W0 (b₀ :: suite) (gs a cls d))
    (hln : X.env.kindOf n = some .local := by rfl) (hdb : (x == ("__debug__" : Str)) = false := by decide) :
    CS X W (.Try body [.ExceptHandler (some (.Name x np)) (some n) (b₀ :: suite) pos3] [] [] pos) (dTry gb C i gs) :=
  ⟨PS.weak (ps_try_as (c := .ref C) (tb := fun W' => embS X.K W' gb) (ts := fun a cls d => embS X.K W0 (gs a cls d)) (Wout := W) cx.stk cx.frm cx.nd hi hln ⟨hg, hdb, .inl E.g⟩ cx.tk
      (fun W' pn xe tk po => (hb W' pn xe ⟨⟨tk, cx.calm, cx.gd, cx.room, cx.nd, cx.sys⟩, po, cx.stk, cx.frm⟩).pss) (fun a oe cls d pn hz hf => (hsu a oe cls d pn hz hf).pss)) fun D σ H ⟨ρ, M, Dd, r, en, q⟩ => by
    refine ⟨ρ, M, catching Dd C i gs, r, ⟨en.nx, en.rt, en.bk, en.ct, ?_⟩, q⟩
    rintro cls fs d σ' H' ρ' M' e' r' a' ⟨rfl, h⟩
    refine ⟨true, E.self, fun _ a ha => ?_, fun z => nomatch z⟩
    have en' := en.at e'
    refine ⟨_, M', inSuite Dd i, r'.set (v := .ref a) (x := .e a (.ref C) d fs) ⟨rfl, a'⟩ i, ⟨?_, en'.rt, ?_, ?_, ?_⟩, h a d⟩
    · intro σ2 H2 ρ2 M2 e2 r2 h2; exact en'.nx _ H2 _ M2 e2 (r2.clear none i) h2
    · intro σ2 H2 ρ2 M2 e2 r2 h2; exact en'.bk _ H2 _ M2 e2 (r2.clear none i) h2
    · intro σ2 H2 ρ2 M2 e2 r2 h2; exact en'.ct _ H2 _ M2 e2 (r2.clear none i) h2
    · intro _ _ _ _ _ _ _ _ _ _ z; exact z.elim⟩
end

/-! ### all, any, sum -/
def boolsOf : List PyData → Option (List Bool)
  | [] => some []
  | .bool b :: r => (boolsOf r).map (b :: ·)
  | _ :: _ => none
theorem boolsOf_is {K : PySem.W.Frag} {H : Hp} {M : Mem} : ∀ {vs : List V} {ds : List PyData} {bs : List Bool}, FzA K H M vs ds → boolsOf ds = some bs → vs = bs.map V.bl
  | _, _, _, .nil, h => by cases h; rfl
  | _, .bool b :: r, bs, .cons h t, e => by
    simp only [boolsOf, Option.map_eq_some_iff] at e
    obtain ⟨cs, e1, rfl⟩ := e
    cases h
    rw [boolsOf_is t e1]; rfl
  | _, .none :: _, _, .cons _ _, e => by cases e
  | _, .int _ :: _, _, .cons _ _, e => by cases e
  | _, .str _ :: _, _, .cons _ _, e => by cases e
  | _, .list _ :: _, _, .cons _ _, e => by cases e
  | _, .tuple _ :: _, _, .cons _ _, e => by cases e
  | _, .dict _ :: _, _, .cons _ _, e => by cases e
def gBools (op : List Bool → Bool) : DF := fun xs M Q => match xs with
  | [x] => match vw M x with
    | some (.list ds) => match boolsOf ds with
      | some bs => Q (.d (.bool (op bs))) M
      | none => False
    | _ => False
  | _ => False
theorem gBools.mono {op : List Bool → Bool} : ∀ x M (Q Q' : DK), (∀ z M', Q z M' → Q' z M') → gBools op x M Q → gBools op x M Q' := fun x M Q Q' hq h => by
  unfold gBools at h ⊢
  split at h
  · split at h
    · split at h
      · exact hq _ _ h
      · exact h.elim
    · exact h.elim
  · exact h.elim
theorem bools_core {op : List Bool → Bool} {K : PySem.W.Frag} {vs : List V} {H : Hp} {Q : VK} (h : ∃ M xs, MemOk K H M ∧ RVs K H M vs xs ∧ gBools op xs M (fin K H M Q)) : ∃ a bs, vs = [.ref a] ∧ SqL K H a (bs.map V.bl) ∧ Q (.bl (op bs)) H := by
  obtain ⟨M, xs, o, rx, h⟩ := h
  unfold gBools at h
  split at h
  · obtain ⟨v, rfl, rv⟩ := rx.one
    split at h
    · rename_i ds e
      split at h
      · rename_i bs eb
        obtain ⟨p, ws, rfl, h1, f1⟩ := vw_lst o rv e
        exact ⟨p, bs, rfl, by rw [← boolsOf_is f1 eb]; exact .of h1, fin_d h o (.bl _)⟩
      · exact h.elim
    · exact h.elim
  · exact h.elim
section
variable {X : Cx}
theorem cd_all (hc : X.calm = true) : CallD X (.builtin "all") (gBools fun bs => bs.all id) where
  op := CallR.weak (cr_all hc) fun vs H Q h => bools_core h
  mono := gBools.mono
theorem cd_any (hc : X.calm = true) : CallD X (.builtin "any") (gBools fun bs => bs.any id) where
  op := CallR.weak (cr_any hc) fun vs H Q h => bools_core h
  mono := gBools.mono
end
end HD

namespace HD
open PySem PySem.Spec PyProof.Rows L2
theorem hu64 {X : Cx} {W : WX} {k : Nat} (cx : Cxe X W k) : X.A.units + 64 < cLine := cx.room.units
theorem Cxe.blk {X : Cx} {W : WX} {k : Nat} (cx : Cxe X W k) {s : Shared} {H : Hp} {scope : Scope} {cenv : Env} {fp : List Addr} : Cxe (X.blk s H scope cenv fp) W0 k :=
  ⟨takes0, cx.calm, cx.gd, cx.room, cx.nd, cx.sys⟩
/-! ### == and !=, with the empty ones apart -/
def gEqE : D2 := fun x y M Q => match vw M x, vw M y with
  | some (.tuple ds), some (.tuple []) => Q (.d (.bool ds.isEmpty)) M
  | some (.list ds), some (.list []) => Q (.d (.bool ds.isEmpty)) M
  | some d, some e => (SeqAt.shaped d = true ∧ SeqAt.shaped e = true) ∧ Q (.d (.bool (PyData.eqv d e))) M
  | _, _ => False
def gNeE : D2 := fun x y M Q => match vw M x, vw M y with
  | some (.tuple ds), some (.tuple []) => Q (.d (.bool (!ds.isEmpty))) M
  | some (.list ds), some (.list []) => Q (.d (.bool (!ds.isEmpty))) M
  | some d, some e => (SeqAt.shaped d = true ∧ SeqAt.shaped e = true) ∧ Q (.d (.bool (!PyData.eqv d e))) M
  | _, _ => False
section
variable {X : Cx} {pins : List (Addr × Obj)} {σ : L2.St} {H : Hp} {M : Mem} {s : Shared} {v u : Value} {x y : V} {dx dy : DV} {ds : List PyData}
theorem at_tup (I : Inv X pins σ H s) (r : RV X.K H M x dx) (h : vw M dx = some (.tuple ds)) (rx : RelV x v) : ∃ (a : Addr) (its : List Value), v = .ref a ∧ s.heap.IsTuple a its.toArray ∧ its.length = ds.length := by
  obtain ⟨a, xs, rfl, h1, f⟩ := vw_tup r h
  obtain ⟨its, rv, p, _⟩ := I.tuple h1.sq
  exact ⟨a, its, rx, p, by rw [← rv.length]; exact f.length⟩
theorem at_lst (I : Inv X pins σ H s) (o : MemOk X.K H M) (r : RV X.K H M x dx) (h : vw M dx = some (.list ds)) (rx : RelV x v) : ∃ (a : Addr) (its : List Value), v = .ref a ∧ s.heap.IsList a its.toArray ∧ its.length = ds.length := by
  obtain ⟨a, xs, rfl, h1, f⟩ := vw_lst o r h
  obtain ⟨its, rv, p, _⟩ := I.list (.of h1)
  exact ⟨a, its, rx, p.isList, by rw [← rv.length]; exact f.length⟩
end
theorem isEmpty_len {α : Type} (l : List α) : l.isEmpty = (l.length == 0) := by cases l <;> rfl
section
variable {X : Cx}
theorem opd_eqE (hu : X.A.units + 64 < cLine) : OpD X (compareOp .Eq) gEqE where
  op := fun pins s σ H x y v u Q I rx ry ⟨M, dx, dy, o, qx, qy, h⟩ => by
    have hu' : X.A.units < cLine := by omega
    unfold gEqE at h
    split at h
    · rename_i ds e1 e2
      obtain ⟨a, i1, rfl, p1, l1⟩ := at_tup I qx e1 rx
      obtain ⟨b, i2, rfl, p2, l2⟩ := at_tup I qy e2 ry
      refine SeqAt.eq_tupleAt (e := fun _ => true) p1 p2 hu' (fun j _ h2 => absurd h2 (by simp at l2; simp [l2])) ⟨.bl ds.isEmpty, H, I, ?_, fin_d h o (.bl _)⟩
      rw [isEmpty_len, ← l1]
      simp at l2
      simp [l2, L2.RelV]
    · rename_i ds e1 e2
      obtain ⟨a, i1, rfl, p1, l1⟩ := at_lst I o qx e1 rx
      obtain ⟨b, i2, rfl, p2, l2⟩ := at_lst I o qy e2 ry
      have l2' : i2.length = 0 := l2
      by_cases e : ds = []
      · subst e
        have l1' : i1.length = 0 := l1
        refine SeqAt.eq_listAt (e := fun _ => true) p1 p2 (by simp [l1', l2']) hu' (fun j _ h2 => absurd h2 (by simp [l2'])) ⟨.bl true, H, I, ?_, fin_d h o (.bl _)⟩
        simp [l1', L2.RelV]
      · have l1' : i1.length ≠ 0 := by rw [l1]; simp [e]
        refine SeqAt.eq_list_lengthsAt p1 p2 (by simp [l2', l1']) hu' ⟨.bl false, H, I, rfl, ?_⟩
        have : ds.isEmpty = false := by simp [e]
        rw [this] at h
        exact fin_d h o (.bl _)
    · rename_i d e _ _ e1 e2
      obtain ⟨as, r1, _⟩ := vw.reads I o qx e1 rx
      obtain ⟨bs, r2, _⟩ := vw.reads I o qy e2 ry
      exact SeqAt.compareEq_shaped r1 r2 h.1.1 h.1.2 hu ⟨.bl _, H, I, rfl, fin_d h.2 o (.bl _)⟩
    · exact h.elim
  mono := fun x y M Q Q' hq h => by
    unfold gEqE at h ⊢
    split at h
    · exact hq _ _ h
    · exact hq _ _ h
    · exact ⟨h.1, hq _ _ h.2⟩
    · exact h.elim
theorem opd_neE (hu : X.A.units + 64 < cLine) : OpD X (compareOp .NotEq) gNeE where
  op := fun pins s σ H x y v u Q I rx ry ⟨M, dx, dy, o, qx, qy, h⟩ => by
    have hu' : X.A.units < cLine := by omega
    unfold gNeE at h
    split at h
    · rename_i ds e1 e2
      obtain ⟨a, i1, rfl, p1, l1⟩ := at_tup I qx e1 rx
      obtain ⟨b, i2, rfl, p2, l2⟩ := at_tup I qy e2 ry
      refine SeqAt.RcNeAt.tuples (e := fun _ => true) p1 p2 hu' (fun j _ h2 => absurd h2 (by simp at l2; simp [l2])) X.prog X.w _ _ ⟨.bl (!ds.isEmpty), H, I, ?_, fin_d h o (.bl _)⟩
      rw [isEmpty_len, ← l1]
      simp at l2
      simp [l2, L2.RelV]
    · rename_i ds e1 e2
      obtain ⟨a, i1, rfl, p1, l1⟩ := at_lst I o qx e1 rx
      obtain ⟨b, i2, rfl, p2, l2⟩ := at_lst I o qy e2 ry
      have l2' : i2.length = 0 := l2
      by_cases e : ds = []
      · subst e
        have l1' : i1.length = 0 := l1
        refine SeqAt.RcNeAt.lists (e := fun _ => true) p1 p2 (by simp [l1', l2']) hu' (fun j _ h2 => absurd h2 (by simp [l2'])) X.prog X.w _ _ ⟨.bl false, H, I, ?_, fin_d h o (.bl _)⟩
        simp [l1', L2.RelV]
      · have l1' : i1.length ≠ 0 := by rw [l1]; simp [e]
        refine SeqAt.RcNeAt.lists_lengths p1 p2 (by simp [l2', l1']) hu' X.prog X.w _ _ ⟨.bl true, H, I, rfl, ?_⟩
        have : (!ds.isEmpty) = true := by simp [e]
        rw [this] at h
        exact fin_d h o (.bl _)
    · rename_i d e _ _ e1 e2
      obtain ⟨as, r1, _⟩ := vw.reads I o qx e1 rx
      obtain ⟨bs, r2, _⟩ := vw.reads I o qy e2 ry
      exact SeqAt.compareNe_shaped r1 r2 h.1.1 h.1.2 hu ⟨.bl _, H, I, rfl, fin_d h.2 o (.bl _)⟩
    · exact h.elim
  mono := fun x y M Q Q' hq h => by
    unfold gNeE at h ⊢
    split at h
    · exact hq _ _ h
    · exact hq _ _ h
    · exact ⟨h.1, hq _ _ h.2⟩
    · exact h.elim
variable {W : WX} {pos : Pos}
def dDict0 : DE := fun _ _ M Q => Q (.d (.dict [])) M
theorem ce_dict0 {p : Pos} : CE X W (.Dict [] [] p) dDict0 where
  pe := PE.weak pe_dnewK fun σ H Q ⟨ρ, M, Xd, r, _, h⟩ => fun d hd => h _ _ (Ext.new hd) (r.mem.new hd) (.dic upd_same (r.mem.out hd))
  mono := fun _ _ _ _ _ hq h => hq _ _ h
end
end HD

namespace HD
open PySem PySem.Spec PyProof.Rows L2 HT

section
variable {prog : Program} {w : World} {A : Around} {E : Value → Shared → Prop} {s : Shared}
theorem adjust_back (n : Nat) : Builtin.Slice.sliceAdjust none none (-1) (n : Int) = ((n : Int) - 1, -1) := by
  unfold Builtin.Slice.sliceAdjust
  have h : ((-1 : Int) < 0) := by omega
  simp [h]
theorem places_back (n : Nat) : Builtin.Slice.slicePlaces ((n : Int) - 1) (-1) (-1) = n := by
  unfold Builtin.Slice.slicePlaces
  have h : ¬ ((-1 : Int) > 0) := by omega
  rw [if_neg h]
  by_cases e : (n : Int) - 1 > -1
  · rw [if_pos e]
    have : ((n : Int) - 1 - -1 - 1) / (- -1) = (n : Int) - 1 := by
      rw [show (- -1 : Int) = 1 by decide, Int.ediv_one]; omega
    rw [this]; omega
  · rw [if_neg e]; omega
theorem applied_back {sl : Addr} {vl vu vs : Value} {n : Nat} {Q : Int × Int × Nat → Shared → Prop} (hs : s.heap.IsSliceOf sl vl vu vs) (pl : IsPart vl none) (pu : IsPart vu none) (ps : IsPart vs (some (-1)))
    (h : Q ((n : Int) - 1, -1, n) s) : wpAny (model prog w) A (Builtin.Slice.sliceApplied (.ref sl) (pure (n : Int))) Q E s := by
  obtain ⟨os, hos, hcs, hds⟩ := id hs
  unfold Builtin.Slice.sliceApplied Builtin.Slice.sliceFields
  refine wpAny_bind (wpAny_bind (wpAny_field hos hds (x := vl) rfl (wpAny_bind (wpAny_field hos hds (x := vu) rfl (wpAny_bind (wpAny_field hos hds (x := vs) rfl (wpAny_pure ?_)))))))
  refine wpAny_bind (slicePart_ ps ?_)
  show wpAny _ _ (if ((-1 : Int) == 0) = true then _ else _) _ _ s
  rw [if_neg (by decide)]
  refine wpAny_bind (slicePart_ pl (wpAny_bind (slicePart_ pu (wpAny_bind (wpAny_pure ?_)))))
  show wpAny _ _ (match Builtin.Slice.sliceAdjust none none (-1) (n : Int) with | (lo, hi) => pure (lo, (-1 : Int), Builtin.Slice.slicePlaces lo hi (-1))) _ _ s
  rw [adjust_back]
  show wpAny _ _ (pure ((n : Int) - 1, (-1 : Int), Builtin.Slice.slicePlaces ((n : Int) - 1) (-1) (-1))) _ _ s
  rw [places_back]
  exact wpAny_pure h
theorem pick_back (xs : Array Value) : ((List.range xs.size).filterMap fun (k : Nat) => xs[(((xs.size : Int) - 1) + (k : Int) * (-1)).toNat]?).toArray = xs.toList.reverse.toArray := by
  have e : ∀ k ∈ List.range xs.size, xs[(((xs.size : Int) - 1) + (k : Int) * (-1)).toNat]? = some (xs.toList.reverse.getD k .none) := by
    intro k hk
    have hk' := List.mem_range.mp hk
    have h1 : (((xs.size : Int) - 1) + (k : Int) * (-1)).toNat = xs.size - 1 - k := by omega
    rw [h1]
    have h2 : xs.size - 1 - k < xs.size := by omega
    rw [Array.getElem?_eq_getElem h2]
    congr 1
    rw [List.getD_eq_getElem?_getD, List.getElem?_reverse (by simpa using hk')]
    simp [h2]
  congr 1
  have step : ∀ l : List Nat, (∀ k ∈ l, xs[(((xs.size : Int) - 1) + (k : Int) * (-1)).toNat]? = some (xs.toList.reverse.getD k .none)) →
      l.filterMap (fun (k : Nat) => xs[(((xs.size : Int) - 1) + (k : Int) * (-1)).toNat]?) = l.map fun k => xs.toList.reverse.getD k .none := by
    intro l
    induction l with
    | nil => intro _; rfl
    | cons a l ih =>
      intro h
      rw [List.filterMap_cons, h a (List.mem_cons_self ..)]
      simp only [List.map_cons]
      rw [ih fun k hk => h k (List.mem_cons_of_mem _ hk)]
  rw [step _ e]
  apply List.ext_getElem
  · simp
  · intro i h1 h2
    simp only [List.getElem_map, List.getElem_range]
    rw [List.getD_eq_getElem?_getD, List.getElem?_eq_getElem h2]
    rfl
theorem item_back {t sl : Addr} {items : Array Value} {vl vu vs : Value} {Q : Value → Shared → Prop} (ht : IsTup s.heap t items) (hs : s.heap.IsSliceOf sl vl vu vs) (pl : IsPart vl none) (pu : IsPart vu none) (ps : IsPart vs (some (-1)))
    (h : Q (.ref s.heap.objs.size) { s with heap := s.heap.push { cls := .type "tuple", data := .seq items.toList.reverse.toArray } }) (hsz : items.size ≤ sizeLine) : wpAny (model prog w) A (getItem (.ref t) (.ref sl)) Q E s := by
  have fits : sizeOk (.seq items.toList.reverse.toArray) := by
    show items.toList.reverse.toArray.size ≤ sizeLine
    rw [List.size_toArray, List.length_reverse, Array.length_toList]; exact hsz
  obtain ⟨os, hos, hcs, hds⟩ := id hs
  have hTs : s.TypeIs (.ref sl) "slice" := ⟨os, hos, hcs⟩
  unfold getItem
  try with_reducible refine wpAny_holding ?_
  first | refine wpAny_bind (wpAny_pure ?_) | skip
  refine wpAny_bind (wpAny_sequenceKey ht.typeIs (by decide) ?_)
  refine wpAny_bind (wpAny_callSpecial?_slot (name := Str.ofString "__getitem__") ht.typeIs PyProof.Rows.slot_tuple_getitem
    (wpAny_call_entry PyProof.Rows.slot_tuple_getitem ht.typeIs entry_tuple_getitem ?_ (args_tuple_getitem _ _)))
  show wpAny _ _ (Builtin.Tuple.tupleItemsOf (.ref t) >>= _) _ _ s
  refine wpAny_bind (tupleItemsOf_ ht (wpAny_bind (wpAny_typeOf hTs ?_)))
  rw [if_pos (by decide)]
  refine wpAny_bind (applied_back hs pl pu ps ?_)
  have hno : ¬ (((items.size : Int) - 1 == 0 && (-1 : Int) == 1 && items.size == items.size) = true) := by simp
  show wpAny _ _ (if ((items.size : Int) - 1 == 0 && (-1 : Int) == 1 && items.size == items.size) = true then _ else _) _ _ s
  rw [if_neg hno, pick_back]
  first
    | exact wpAny_bind (m := Builtin.Tuple.tupleExact _) (wpAny_newObj_type (wpAny_pure ⟨_, rfl, wpAny_pure h⟩) fits)
    | exact wpAny_bind (m := Builtin.Tuple.tupleExact _) (wpAny_newObj_type (wpAny_bind (wpAny_pure (wpAny_pure ⟨_, rfl, wpAny_pure h⟩))) fits)
    | exact wpAny_bind (wpAny_bind (m := Builtin.Tuple.tupleExact _) (wpAny_newObj_type (wpAny_pure (wpAny_pure ⟨_, rfl, wpAny_pure h⟩)) fits))
    | exact wpAny_bind (wpAny_bind (m := Builtin.Tuple.tupleExact _) (wpAny_newObj_type (wpAny_pure ⟨_, rfl, wpAny_pure h⟩) fits))
end
section
variable {X : Cx} {W : WX} {a : Expr} {fa : DE} {te : TE} {k : Nat} {p1 p2 p3 pos : Pos}
def tRevT (K : PySem.W.Frag) (te : TE) : TE := fun σ H Q => te σ H fun x H1 => ∃ a xs, x = .ref a ∧ SqT K H1 a xs ∧ ∀ p, H1 p = none → Q (.ref p) (upd H1 p (.tup xs.reverse))
theorem pe_revT (he : PE X a te) : PE X (.Subscript a (.Slice none none (some (.UnaryOp .USub (.Constant (.int 1) k p1) p2)) p3) pos) (tRevT X.K te) := by
  constructor
  intro pins s σ H Q I h
  refine Subscript_ (thn (he.run pins s σ H _ I h) ?_)
  rintro v s1 ⟨x, H1, I1, r1, q1⟩
  obtain ⟨b, xs, ex, hx, q⟩ := q1
  subst ex
  cases r1
  have hst : PO X (some (.UnaryOp .USub (.Constant (.int 1) k p1) p2)) (tPart (tUn (rU fun i => .int (-i)) (tC (.int 1)))) := po_some (pe_un un_neg pe_int)
  refine wpAny_Slice (thn (po_none.run pins s1 σ H1 (fun o H2 => o = none ∧ H2 = H1) I1 ⟨rfl, rfl⟩) ?_)
  rintro vl s2 ⟨l, H2, I2, pl, el, e2⟩
  subst el e2
  refine thn (po_none.run pins s2 σ H2 (fun o H3 => o = none ∧ H3 = H2) I2 ⟨rfl, rfl⟩) ?_
  rintro vu s3 ⟨u, H3, I3, pu, eu, e3⟩
  subst eu e3
  refine thn (hst.run pins s3 σ H3 (fun o H4 => o = some (-1) ∧ H4 = H3) I3 ⟨1, rfl, -1, rfl, rfl, rfl⟩) ?_
  rintro vs s4 ⟨o, H4, I4, ps, eo, e4⟩
  subst eo e4
  have I5 : Inv X pins σ H4 { s4 with heap := s4.heap.push { cls := .type "slice", data := .fields #[vl, vu, vs] } } := I4.kept (t' := s4.toks) fun b ob q => Heap.get?_push_of_some _ q
  obtain ⟨its, r, ht, hz⟩ := I5.tuple hx
  have hlen := r.length
  show wpAny (model X.prog X.w) X.A (subscriptTail a (.Slice none none (some (.UnaryOp .USub (.Constant (.int 1) k p1) p2)) p3) (.ref b) (.ref s4.heap.objs.size)) (EP X pins σ Q) X.xe { s4 with heap := s4.heap.push { cls := .type "slice", data := .fields #[vl, vu, vs] } }
  refine tail_any (ops := [.ref b, .ref s4.heap.objs.size]) ht.typeIs (PyProof.Rows.slot_tuple_getitem.lookup) ?_ (by with_unfolding_all rfl)
  refine item_back ht (Heap.IsSliceOf.new _ vl vu vs) pl pu ps ?_ (by rw [List.size_toArray]; omega)
  refine ⟨.ref _, _, I5.laid (t' := s4.toks) (o := .tup xs.reverse) (fun b ob q => Heap.get?_push_of_some _ q) (Nat.le_refl _) ?_, rfl, q _ (I5.hok.fresh (Nat.le_refl _))⟩
  exact ⟨by rw [List.length_reverse]; exact hz, its.reverse, r.reverse, ⟨_, Heap.get?_push_size _ rfl, rfl, 0, by simp⟩⟩
def dRev (fa : DE) : DE := fun Xd ρ M Q => fa Xd ρ M fun x M1 => match vw M1 x with
  | some (.tuple ds) => Q (.d (.tuple ds.reverse)) M1
  | _ => False
theorem ce_rev (ha : CE X W a fa) : CE X W (.Subscript a (.Slice none none (some (.UnaryOp .USub (.Constant (.int 1) k p1) p2)) p3) pos) (dRev fa) where
  pe := PE.weak (pe_revT ha.pe) fun σ H Q ⟨ρ, M, Xd, r, x, h⟩ => by
    refine emb.next r x ha.mono h fun y M1 v H1 e1 r1 x1 rv h1 => ?_
    split at h1
    · rename_i ds e
      obtain ⟨a, xs, rfl, q, f⟩ := vw_tup rv e
      exact ⟨a, xs, rfl, q.sq, fun p hp => h1 _ _ (e1.trans (Ext.new hp)) (r1.mem.new hp) (.tup (.inl ⟨Rd.of upd_same, r1.mem.out hp⟩) (f.reverse.ext (Ext.new hp)))⟩
    · exact h1.elim
  mono := fun Xd ρ M Q Q' hq h => ha.mono _ _ _ _ _ (fun x M1 h1 => by
    split at h1
    · exact hq _ _ h1
    · exact h1.elim) h
end
end HD

namespace HD
open PySem PySem.Spec PyProof.Rows L2

/-! ### a def of the text -/
structure Def (K : PySem.W.Frag) (mg : Str → Option Value) (x : Str) (st : Stmt) (ps : List Str) (f : Addr) (fd : FuncData) : Prop where
  fn : Fun K x x st f fd
  g : mg x = some (.ref f)
  b : Binds K fd ps []
theorem Def.mk' {K : PySem.W.Frag} {h : Heap} {mg : Str → Option Value} {x : Str} {st : Stmt} {ps : List Str} {f : Addr} {oc : Value} {od an : Option Addr} {osl : Array (Option Value)} {kV doc pm cdv ct : Value} (X : K.In h) (G : h.Ns mainGlobals mg)
    (a : PySem.W.nsIn K mainGlobals x = some (some (.ref f))) (l : K.lookup f = some ⟨oc, od, .func (PySem.W.fnOf x x (defArgs st) (defBody st) (defScope st) .none kV doc pm an cdv ct), osl⟩)
    (c : PySem.W.codeIn K cdv x = true) (k : PySem.W.keepIn K (.ref f) = true)
    (hb : ∀ us : List Value, us.length = ps.length → bindArgs (PySem.W.fnOf x x (defArgs st) (defBody st) (defScope st) .none kV doc pm an cdv ct) ⟨us, []⟩ = pure (ps.zip us)) :
    Def K mg x st ps f (PySem.W.fnOf x x (defArgs st) (defBody st) (defScope st) .none kV doc pm an cdv ct) :=
  ⟨fun_mk l c k, PySem.W.mg_of X G a, .all hb⟩

/-! ### promises of pure defs -/
/-- what stood in the memory stands -/
def Sub (M M' : Mem) : Prop := ∀ a ds, M a = some ds → M' a = some ds
theorem Sub.refl {M : Mem} : Sub M M := fun _ _ h => h
theorem Sub.trans {M M1 M2 : Mem} (a : Sub M M1) (b : Sub M1 M2) : Sub M M2 := fun x ds h => b x ds (a x ds h)
theorem Sub.upd {M M1 : Mem} {p : Addr} {ds : List PyData} (a : Sub M M1) (h : M p = none) : Sub M (updM M1 p ds) := fun x es q => by
  rw [updM_ne (fun e => by subst e; rw [h] at q; cases q)]
  exact a x es q
theorem Sub.erase {M M1 : Mem} {p : Addr} (a : Sub M M1) (h : M p = none) : Sub M (eraseM M1 p) := fun x es q => by
  unfold eraseM
  rw [if_neg (fun e => by subst e; rw [h] at q; cases q)]
  exact a x es q
theorem Sub.none {M M' : Mem} (a : Sub M M') {p : Addr} (h : M' p = .none) : M p = .none := by
  cases q : M p with
  | none => rfl
  | some ds => rw [a p ds q] at h; cases h
/-- a def that only reckons: of data that meet ok it gives f -/
def pureC (n : Nat) (ok : List PyData → Prop) (f : List PyData → PyData) : DSp where
  pre := fun xs _ => ∃ ds, xs = ds.map .d ∧ ds.length = n ∧ ok ds
  post := fun xs M x M' => Sub M M' ∧ ∀ ds, xs = ds.map .d → x = .d (f ds)
theorem pureC.len {n : Nat} {ok : List PyData → Prop} {f : List PyData → PyData} : ∀ xs M, (pureC n ok f).pre xs M → xs.length = n := by
  rintro xs M ⟨ds, rfl, h, _⟩
  rw [List.length_map]; exact h
theorem map_d_inj : ∀ {as bs : List PyData}, as.map DV.d = bs.map DV.d → as = bs
  | [], [], _ => rfl
  | [], _ :: _, h => by simp at h
  | _ :: _, [], h => by simp at h
  | a :: as, b :: bs, h => by
    simp only [List.map_cons, List.cons.injEq, DV.d.injEq] at h
    rw [h.1, map_d_inj h.2]
/-- the call of such a def, read -/
theorem pure_call {n : Nat} {ok : List PyData → Prop} {f : List PyData → PyData} {E : Value → List (Str × PyData) → Mem → Prop} {M : Mem} {Q : DK} {ds : List PyData} (hn : ds.length = n) (ho : ok ds) (hq : ∀ M2, Sub M M2 → Q (.d (f ds)) M2) :
    (pureC n ok f).pre (ds.map .d) M ∧ (∀ x M2, (pureC n ok f).post (ds.map .d) M x M2 → Q x M2) ∧ (∀ cls fs M2, (pureC n ok f).err (ds.map .d) M cls fs M2 → E cls fs M2) :=
  ⟨⟨ds, rfl, hn, ho⟩, fun x M2 h => by rw [h.2 ds rfl]; exact hq M2 h.1, fun _ _ _ h => h.elim⟩
/-- what such a def must end with -/
theorem pure_end {n : Nat} {ok : List PyData → Prop} {f : List PyData → PyData} {ds : List PyData} {M M' : Mem} {x : PyData} (s : Sub M M') (e : x = f ds) : (pureC n ok f).post (ds.map .d) M (.d x) M' :=
  ⟨s, fun es q => by rw [← map_d_inj q, e]⟩

/-! ### the end of a law row -/
theorem walk_G {l : PySem.W.OpenLaw} {n k : Nat} {q : Program} {loose : List Str} {XP : (Str → Option Value) → Heap → Prop} {YP : World → Heap → Prop} {d : DefRec} {K : Params → PySem.W.Frag} {x : Str} {c : World → DSp}
    (hn : l.most = some n) (hn2 : n ≤ sizeLine) (hdf : d.params.defaults = []) (hr : Room k callerA) (himp : PyProof.Rows.importsNone q = true) (hY : ∀ (w : World) (h : Heap), YP w h → (K w.params).In h)
    (F : ∀ (w : World) (mg : Str → Option Value) (fa : Addr) (h : Heap), (K w.params).In h → h.Ns mainGlobals mg → mg d.name = some (.ref fa) →
      ∃ fd : FuncData, (∀ (s : Shared) (u : Value), BindsTo s fd ⟨[u], []⟩ [(x, u)]) ∧
        ∀ base : Heap, (K w.params).In base → base.Ns mainGlobals mg → (∃ o, base.get? sysModules = some o) → FnG l.prog w (K w.params) mg base k fa fd [x] ((c w).sp (K w.params)))
    (hpre : ∀ w a ns, ns.length ≤ n → (∀ z ∈ ns, Builtin.Int.intBits z ≤ 1048576) → (c w).pre [.s a ns] fun _ => none)
    (hpost : ∀ w a ns y M', (c w).post [.s a ns] (fun _ => none) y M' → y = .d (.bool true)) (herr : ∀ w a ns cls fs M', (c w).err [.s a ns] (fun _ => none) cls fs M' → False) :
    PySem.W.WalkO q loose XP YP l.row.toRowW d [] (fun f vs => PySem.call f vs) := by
  intro w t₀ t mg mb Gr hYw fa ob pm cd doc dV kV hob hdat hcode hD hmg hgens as vs ads hp hlay hrd hwell hlow
  obtain rfl : dV = .none := PySem.W.Dflts.none hD hdf
  obtain rfl : kV = .none := PySem.W.Dflts.noKw hD
  obtain ⟨a, us, ns, e1, e2, hobj, hints, hlen⟩ := Att.script_of hn hp hwell
  subst e1; subst e2
  have hna : a ≠ sysModules := by
    cases hrd with
    | cons r1 r2 =>
      cases r1 with
      | list _ _ _ _ => exact fun z => by have := hlow a (by simp); rw [z] at this; simp at this
  have inK := hY w _ hYw
  obtain ⟨fd, hb, hF⟩ := F w mg fa _ inK Gr.T.g hmg
  have run := law_callG (a := a) (ns := ns) inK Gr.T.g Gr.T.b Gr.T.builtins Gr.T.nolimit hgens (let ⟨_, ⟨o, _, _, e, _⟩, _⟩ := (Gr.T.seer himp).mods; ⟨o, e⟩) hna hobj hints (Nat.le_trans hlen hn2) hr hF hb (hpre w a ns hlen (Att.script_bits hlay)) (hpost w a ns) (herr w a ns)
  refine PySem.W.enter_call (codeAny_mono run fun r t' hq => ?_)
  rcases hq with ⟨q1, q2, q3, q4⟩
  subst q1
  exact ⟨.inl ⟨.bool true, .bool true, [], rfl, fun _ => rfl, .bool true, Att.post_true l _, fun _ => ⟨List.Pairwise.nil, fun _ hm => nomatch hm⟩⟩, q2, q3, q4⟩
end HD

namespace HD
open PySem PySem.Spec PyProof.Rows PySem.SeqAt

/-! ### == of data without dicts -/
mutual
def noDict : PyData → Bool
  | .none | .bool _ | .int _ | .str _ => true
  | .list xs | .tuple xs => noDictAll xs
  | .dict _ => false
def noDictAll : List PyData → Bool
  | [] => true
  | x :: xs => noDict x && noDictAll xs
end
mutual
theorem reads_one {h : Heap} : ∀ {d d' : PyData} {v : Value} {as bs : List Addr}, noDict d = true → Reads h v d as → Reads h v d' bs → d = d'
  | _, _, _, _, _, _, .none, r => by cases r; rfl
  | _, _, _, _, _, _, .bool b, r => by cases r; rfl
  | _, _, _, _, _, _, .int i t, r => by cases r; rfl
  | _, _, _, _, _, _, .str x t, r => by cases r; rfl
  | _, _, _, _, _, n, .list h1 h2 h3 h4, r => by
    cases r with
    | list k1 k2 k3 k4 =>
      rw [h1] at k1; cases k1
      rw [h3] at k3; cases k3
      rw [reads_all (by simpa [noDict] using n) h4 k4]
    | tuple k1 k2 k3 k4 => rw [h1] at k1; cases k1; exact absurd (h2.symm.trans k2) (by decide)
    | dict k1 k2 k3 k4 => rw [h1] at k1; cases k1; exact absurd (h2.symm.trans k2) (by decide)
  | _, _, _, _, _, n, .tuple h1 h2 h3 h4, r => by
    cases r with
    | tuple k1 k2 k3 k4 =>
      rw [h1] at k1; cases k1
      rw [h3] at k3; cases k3
      rw [reads_all (by simpa [noDict] using n) h4 k4]
    | list k1 k2 k3 k4 => rw [h1] at k1; cases k1; exact absurd (h2.symm.trans k2) (by decide)
    | dict k1 k2 k3 k4 => rw [h1] at k1; cases k1; exact absurd (h2.symm.trans k2) (by decide)
  | _, _, _, _, _, n, .dict .., r => by simp [noDict] at n
theorem reads_all {h : Heap} : ∀ {ds ds' : List PyData} {vs : List Value} {as bs : List Addr}, noDictAll ds = true → ReadsAll h vs ds as → ReadsAll h vs ds' bs → ds = ds'
  | _, _, _, _, _, _, .nil, r => by cases r; rfl
  | _, _, _, _, _, n, .cons h1 h2, r => by
    cases r with
    | cons k1 k2 =>
      simp only [noDictAll, Bool.and_eq_true] at n
      rw [reads_one n.1 h1 k1, reads_all n.2 h2 k2]
end
mutual
theorem eqv_same : ∀ d : PyData, noDict d = true → PyData.eqv d d = true
  | .none, _ => by simp [PyData.eqv]
  | .bool _, _ => by simp [PyData.eqv]
  | .int _, _ => by simp [PyData.eqv]
  | .str _, _ => by simp [PyData.eqv]
  | .list xs, h => by rw [PyData.eqv]; exact eqvAll_same xs (by simpa [noDict] using h)
  | .tuple xs, h => by rw [PyData.eqv]; exact eqvAll_same xs (by simpa [noDict] using h)
  | .dict _, h => by simp [noDict] at h
theorem eqvAll_same : ∀ ds : List PyData, noDictAll ds = true → PyData.eqvAll ds ds = true
  | [], _ => by simp [PyData.eqvAll]
  | x :: xs, h => by
    simp only [noDictAll, Bool.and_eq_true] at h
    rw [PyData.eqvAll, eqv_same x h.1, eqvAll_same xs h.2]; rfl
end
theorem units_in {A : Around} {n m : Nat} (h : A.units + (n + 1) < cLine) (hm : m ≤ n) : A.in1.units + m < cLine := by
  show A.units + 1 + m < cLine
  omega
section
variable {s : Shared}
theorem depthAll_mem : ∀ {xs : List PyData} {j : Nat} {d : PyData}, xs[j]? = some d → d.depth ≤ PyData.depthAll xs
  | [], j, d, h => by simp at h
  | x :: xs, 0, d, h => by simp at h; subst h; simp only [PyData.depthAll]; omega
  | x :: xs, j + 1, d, h => by
    have := depthAll_mem (xs := xs) (j := j) (by simpa using h)
    simp only [PyData.depthAll]; omega
theorem noDict_mem : ∀ {xs : List PyData} {j : Nat} {d : PyData}, noDictAll xs = true → xs[j]? = some d → noDict d = true
  | [], j, d, _, h => by simp at h
  | x :: xs, 0, d, n, h => by simp at h; subst h; simp only [noDictAll, Bool.and_eq_true] at n; exact n.1
  | x :: xs, j + 1, d, n, h => by simp only [noDictAll, Bool.and_eq_true] at n; exact noDict_mem n.2 (by simpa using h)
theorem readsAll_get {h : Heap} : ∀ {vs : List Value} {ds : List PyData} {as : List Addr} {j : Nat} {v : Value}, ReadsAll h vs ds as → vs[j]? = some v → ∃ d bs, ds[j]? = some d ∧ Reads h v d bs
  | _, _, _, j, _, .nil, e => by simp at e
  | _, _, _, 0, _, .cons h _, e => by simp at e; subst e; exact ⟨_, _, rfl, h⟩
  | _, _, _, j + 1, _, .cons _ t, e => by
    obtain ⟨d, bs, h1, h2⟩ := readsAll_get (j := j) t (by simpa using e)
    exact ⟨d, bs, by simpa using h1, h2⟩
theorem pair_at {xs ys : List PyData} {j : Nat} {d e : PyData} (h : xs[j]? = some d) (k : ys[j]? = some e) : pairEq xs ys j = PyData.eqv d e := by
  simp [pairEq, h, k]
/-- the items at j -/
theorem items_at {A : Around} {xs ys : List PyData} {vs us : Array Value} {as bs : List Addr} {n : Nat} (ih : ∀ d ∈ xs, ∀ (d' : PyData) (A : Around) (a b : Value) (as bs : List Addr), Reads s.heap a d as → Reads s.heap b d' bs → noDict d = true → noDict d' = true → A.units + d.depth + 1 < cLine → EqAt A s a b (PyData.eqv d d'))
    (r : ReadsAll s.heap vs.toList xs as) (r' : ReadsAll s.heap us.toList ys bs) (nx : noDictAll xs = true) (ny : noDictAll ys = true) (hu : A.units + (PyData.depthAll xs + 1) + 1 < cLine) :
    ∀ j (h1 : j < vs.size) (h2 : j < us.size), EqAt A.in1 s vs[j] us[j] (pairEq xs ys j) := by
  intro j h1 h2
  obtain ⟨d, ds, e1, q1⟩ := readsAll_get (j := j) (v := vs[j]) r (by simp [h1])
  obtain ⟨d', ds', e2, q2⟩ := readsAll_get (j := j) (v := us[j]) r' (by simp [h2])
  rw [pair_at e1 e2]
  refine ih d (List.mem_of_getElem? e1) d' _ _ _ _ _ q1 q2 (noDict_mem nx e1) (noDict_mem ny e2) ?_
  have := depthAll_mem e1
  show A.units + 1 + d.depth + 1 < cLine
  omega
theorem eq_data : ∀ (da db : PyData) (A : Around) (a b : Value) (as bs : List Addr), Reads s.heap a da as → Reads s.heap b db bs → noDict da = true → noDict db = true → A.units + da.depth + 1 < cLine → EqAt A s a b (PyData.eqv da db) := by
  intro da
  have room : ∀ {A : Around}, A.units + da.depth + 1 < cLine → A.units < cLine := fun h => by omega
  match da with
  | .none =>
    intro db A a b as bs ra rb na nb hu
    have h0 := room hu
    cases ra
    cases rb with
    | none => exact EqAt.same _
    | bool y => exact EqAt.none_bool y
    | int y u => exact EqAt.none_int y u
    | str y u => exact EqAt.none_str y u
    | list k1 k2 k3 k4 => exact EqAt.none_list ⟨_, k1, k2, _, k3⟩ h0
    | tuple k1 k2 k3 k4 => exact EqAt.none_tuple ⟨_, k1, k2, _, k3⟩ h0
    | dict => simp [noDict] at nb
  | .bool x =>
    intro db A a b as bs ra rb na nb hu
    have h0 := room hu
    cases ra
    cases rb with
    | none => exact EqAt.bool_none x
    | bool y => exact EqAt.bool_bool x y
    | int y u => exact EqAt.bool_int x y u
    | str y u => exact EqAt.bool_str x y u
    | list k1 k2 k3 k4 => exact EqAt.bool_list x ⟨_, k1, k2, _, k3⟩ h0
    | tuple k1 k2 k3 k4 => exact EqAt.bool_tuple x ⟨_, k1, k2, _, k3⟩ h0
    | dict => simp [noDict] at nb
  | .int x =>
    intro db A a b as bs ra rb na nb hu
    have h0 := room hu
    cases ra with
    | int _ t =>
      cases rb with
      | none => exact EqAt.int_none x t
      | bool y => exact EqAt.int_bool x t y
      | int y u => exact EqAt.int_int x t y u
      | str y u => exact EqAt.int_str x t y u
      | list k1 k2 k3 k4 => exact EqAt.int_list x t ⟨_, k1, k2, _, k3⟩ h0
      | tuple k1 k2 k3 k4 => exact EqAt.int_tuple x t ⟨_, k1, k2, _, k3⟩ h0
      | dict => simp [noDict] at nb
  | .str x =>
    intro db A a b as bs ra rb na nb hu
    have h0 := room hu
    cases ra with
    | str _ t =>
      cases rb with
      | none => exact EqAt.str_none x t
      | bool y => exact EqAt.str_bool x t y
      | int y u => exact EqAt.str_int x t y u
      | str y u => exact EqAt.str_str x t y u
      | list k1 k2 k3 k4 => exact EqAt.str_list x t ⟨_, k1, k2, _, k3⟩ h0
      | tuple k1 k2 k3 k4 => exact EqAt.str_tuple x t ⟨_, k1, k2, _, k3⟩ h0
      | dict => simp [noDict] at nb
  | .list xs =>
    intro db A a b as bs ra rb na nb hu
    have h0 := room hu
    have ih : ∀ d ∈ xs, ∀ (d' : PyData) (A : Around) (a b : Value) (as bs : List Addr), Reads s.heap a d as → Reads s.heap b d' bs → noDict d = true → noDict d' = true → A.units + d.depth + 1 < cLine → EqAt A s a b (PyData.eqv d d') := fun d hd => eq_data d
    have nx : noDictAll xs = true := by simpa [noDict] using na
    simp only [PyData.depth] at hu
    cases ra with
    | @list l o vs n _ as₁ h1 h2 h3 h4 =>
      have hl : s.heap.IsList l vs := ⟨_, h1, h2, _, h3⟩
      cases rb with
      | none => exact EqAt.list_none hl h0
      | bool y => exact EqAt.list_bool y hl h0
      | int y u => exact EqAt.list_int y u hl h0
      | str y u => exact EqAt.list_str y u hl h0
      | tuple k1 k2 k3 k4 => exact EqAt.list_tuple hl ⟨_, k1, k2, _, k3⟩ h0
      | dict => simp [noDict] at nb
      | @list l' o' vs' n' ys bs₁ k1 k2 k3 k4 =>
        have ny : noDictAll ys = true := by simpa [noDict] using nb
        have hl' : s.heap.IsList l' vs' := ⟨_, k1, k2, _, k3⟩
        have n1 : vs.size = xs.length := by simpa using ReadsAll.length _ _ _ h4
        have n2 : vs'.size = ys.length := by simpa using ReadsAll.length _ _ _ k4
        show EqAt A s (.ref l) (.ref l') (PyData.eqvAll xs ys)
        by_cases hll : l = l'
        · subst hll
          have e : PyData.list xs = PyData.list ys := reads_one na (.list h1 h2 h3 h4) (.list k1 k2 k3 k4)
          injection e with e
          subst e
          rw [eqvAll_same xs nx]
          exact EqAt.same _
        · by_cases hsz : vs.size = vs'.size
          · rw [← eqvAll_same_length (by omega : xs.length = ys.length), ← n1]
            exact EqAt.of_refs hll (RcAt.lists hl hl' hsz h0 (items_at (n := 0) ih h4 k4 nx ny (by omega)))
          · rw [eqvAll_other_length (by omega : xs.length ≠ ys.length)]
            exact EqAt.of_refs hll (RcAt.lists_lengths hl hl' (by simpa using hsz) h0)
  | .tuple xs =>
    intro db A a b as bs ra rb na nb hu
    have h0 := room hu
    have ih : ∀ d ∈ xs, ∀ (d' : PyData) (A : Around) (a b : Value) (as bs : List Addr), Reads s.heap a d as → Reads s.heap b d' bs → noDict d = true → noDict d' = true → A.units + d.depth + 1 < cLine → EqAt A s a b (PyData.eqv d d') := fun d hd => eq_data d
    have nx : noDictAll xs = true := by simpa [noDict] using na
    simp only [PyData.depth] at hu
    cases ra with
    | @tuple l o vs n _ as₁ h1 h2 h3 h4 =>
      have hl : s.heap.IsTuple l vs := ⟨_, h1, h2, _, h3⟩
      cases rb with
      | none => exact EqAt.tuple_none hl h0
      | bool y => exact EqAt.tuple_bool y hl h0
      | int y u => exact EqAt.tuple_int y u hl h0
      | str y u => exact EqAt.tuple_str y u hl h0
      | list k1 k2 k3 k4 => exact EqAt.tuple_list hl ⟨_, k1, k2, _, k3⟩ h0
      | dict => simp [noDict] at nb
      | @tuple l' o' vs' n' ys bs₁ k1 k2 k3 k4 =>
        have ny : noDictAll ys = true := by simpa [noDict] using nb
        have hl' : s.heap.IsTuple l' vs' := ⟨_, k1, k2, _, k3⟩
        have n1 : vs.size = xs.length := by simpa using ReadsAll.length _ _ _ h4
        have n2 : vs'.size = ys.length := by simpa using ReadsAll.length _ _ _ k4
        show EqAt A s (.ref l) (.ref l') (PyData.eqvAll xs ys)
        by_cases hll : l = l'
        · subst hll
          have e : PyData.tuple xs = PyData.tuple ys := reads_one na (.tuple h1 h2 h3 h4) (.tuple k1 k2 k3 k4)
          injection e with e
          subst e
          rw [eqvAll_same xs nx]
          exact EqAt.same _
        · rw [← eqvAll_eq xs ys, ← n1, ← n2]
          exact EqAt.of_refs hll (RcAt.tuples hl hl' h0 (items_at (n := 0) ih h4 k4 nx ny (by omega)))
  | .dict _ =>
    intro db A a b as bs ra rb na nb hu
    simp [noDict] at na
termination_by da => da
end
end HD
namespace HD
open PySem PySem.Spec PyProof.Rows PySem.SeqAt L2
section
variable {s : Shared}
theorem ne_data : ∀ (da db : PyData) (A : Around) (a b : Value) (as bs : List Addr), Reads s.heap a da as → Reads s.heap b db bs → noDict da = true → noDict db = true → A.units + da.depth + 1 < cLine → RcNeAt A s a b (!PyData.eqv da db) := by
  intro da db A a b as bs ra rb na nb hu
  have h0 : A.units < cLine := by omega
  cases ra with
  | none =>
    cases rb with
    | none => exact RcNeAt.none_none
    | bool y => exact RcNeAt.none_bool y
    | int y u => exact RcNeAt.none_int y u
    | str y u => exact RcNeAt.none_str y u
    | list k1 k2 k3 k4 => exact RcNeAt.none_list ⟨_, k1, k2, _, k3⟩ h0
    | tuple k1 k2 k3 k4 => exact RcNeAt.none_tuple ⟨_, k1, k2, _, k3⟩ h0
    | dict => simp [noDict] at nb
  | bool x =>
    cases rb with
    | none => exact RcNeAt.bool_none x
    | bool y => exact RcNeAt.bool_bool x y
    | int y u => exact RcNeAt.bool_int x y u
    | str y u => exact RcNeAt.bool_str x y u
    | list k1 k2 k3 k4 => exact RcNeAt.bool_list x ⟨_, k1, k2, _, k3⟩ h0
    | tuple k1 k2 k3 k4 => exact RcNeAt.bool_tuple x ⟨_, k1, k2, _, k3⟩ h0
    | dict => simp [noDict] at nb
  | int x t =>
    cases rb with
    | none => exact RcNeAt.int_none x t
    | bool y => exact RcNeAt.int_bool x t y
    | int y u => exact RcNeAt.int_int x t y u
    | str y u => exact RcNeAt.int_str x t y u
    | list k1 k2 k3 k4 => exact RcNeAt.int_list x t ⟨_, k1, k2, _, k3⟩ h0
    | tuple k1 k2 k3 k4 => exact RcNeAt.int_tuple x t ⟨_, k1, k2, _, k3⟩ h0
    | dict => simp [noDict] at nb
  | str x t =>
    cases rb with
    | none => exact RcNeAt.str_none x t
    | bool y => exact RcNeAt.str_bool x t y
    | int y u => exact RcNeAt.str_int x t y u
    | str y u => exact RcNeAt.str_str x t y u
    | list k1 k2 k3 k4 => exact RcNeAt.str_list x t ⟨_, k1, k2, _, k3⟩ h0
    | tuple k1 k2 k3 k4 => exact RcNeAt.str_tuple x t ⟨_, k1, k2, _, k3⟩ h0
    | dict => simp [noDict] at nb
  | @list l o vs n xs as₁ h1 h2 h3 h4 =>
    have hl : s.heap.IsList l vs := ⟨_, h1, h2, _, h3⟩
    have nx : noDictAll xs = true := by simpa [noDict] using na
    simp only [PyData.depth] at hu
    cases rb with
    | none => exact RcNeAt.list_none hl h0
    | bool y => exact RcNeAt.list_bool y hl h0
    | int y u => exact RcNeAt.list_int y u hl h0
    | str y u => exact RcNeAt.list_str y u hl h0
    | tuple k1 k2 k3 k4 => exact RcNeAt.list_tuple hl ⟨_, k1, k2, _, k3⟩ h0
    | dict => simp [noDict] at nb
    | @list l' o' vs' n' ys bs₁ k1 k2 k3 k4 =>
      have ny : noDictAll ys = true := by simpa [noDict] using nb
      have hl' : s.heap.IsList l' vs' := ⟨_, k1, k2, _, k3⟩
      have n1 : vs.size = xs.length := by simpa using ReadsAll.length _ _ _ h4
      have n2 : vs'.size = ys.length := by simpa using ReadsAll.length _ _ _ k4
      show RcNeAt A s (.ref l) (.ref l') (!PyData.eqvAll xs ys)
      by_cases hsz : vs.size = vs'.size
      · rw [← eqvAll_same_length (by omega : xs.length = ys.length), ← n1]
        exact RcNeAt.lists hl hl' hsz h0 (items_at (n := 0) (fun d _ => eq_data d) h4 k4 nx ny (by omega))
      · rw [eqvAll_other_length (by omega : xs.length ≠ ys.length)]
        exact RcNeAt.lists_lengths hl hl' (by simpa using hsz) h0
  | @tuple l o vs n xs as₁ h1 h2 h3 h4 =>
    have hl : s.heap.IsTuple l vs := ⟨_, h1, h2, _, h3⟩
    have nx : noDictAll xs = true := by simpa [noDict] using na
    simp only [PyData.depth] at hu
    cases rb with
    | none => exact RcNeAt.tuple_none hl h0
    | bool y => exact RcNeAt.tuple_bool y hl h0
    | int y u => exact RcNeAt.tuple_int y u hl h0
    | str y u => exact RcNeAt.tuple_str y u hl h0
    | list k1 k2 k3 k4 => exact RcNeAt.tuple_list hl ⟨_, k1, k2, _, k3⟩ h0
    | dict => simp [noDict] at nb
    | @tuple l' o' vs' n' ys bs₁ k1 k2 k3 k4 =>
      have ny : noDictAll ys = true := by simpa [noDict] using nb
      have hl' : s.heap.IsTuple l' vs' := ⟨_, k1, k2, _, k3⟩
      have n1 : vs.size = xs.length := by simpa using ReadsAll.length _ _ _ h4
      have n2 : vs'.size = ys.length := by simpa using ReadsAll.length _ _ _ k4
      show RcNeAt A s (.ref l) (.ref l') (!PyData.eqvAll xs ys)
      rw [← eqvAll_eq xs ys, ← n1, ← n2]
      exact RcNeAt.tuples hl hl' h0 (items_at (n := 0) (fun d _ => eq_data d) h4 k4 nx ny (by omega))
  | dict => simp [noDict] at na
theorem rc_data : ∀ (da db : PyData) (A : Around) (a b : Value) (as bs : List Addr), Reads s.heap a da as → Reads s.heap b db bs → noDict da = true → noDict db = true → A.units + da.depth + 1 < cLine → RcAt A s a b (PyData.eqv da db) := by
  intro da db A a b as bs ra rb na nb hu
  have h0 : A.units < cLine := by omega
  cases ra with
  | none =>
    cases rb with
    | none => exact RcAt.none_none
    | bool y => exact RcAt.none_bool y
    | int y u => exact RcAt.none_int y u
    | str y u => exact RcAt.none_str y u
    | list k1 k2 k3 k4 => exact RcAt.none_list ⟨_, k1, k2, _, k3⟩ h0
    | tuple k1 k2 k3 k4 => exact RcAt.none_tuple ⟨_, k1, k2, _, k3⟩ h0
    | dict => simp [noDict] at nb
  | bool x =>
    cases rb with
    | none => exact RcAt.bool_none x
    | bool y => exact RcAt.bool_bool x y
    | int y u => exact RcAt.bool_int x y u
    | str y u => exact RcAt.bool_str x y u
    | list k1 k2 k3 k4 => exact RcAt.bool_list x ⟨_, k1, k2, _, k3⟩ h0
    | tuple k1 k2 k3 k4 => exact RcAt.bool_tuple x ⟨_, k1, k2, _, k3⟩ h0
    | dict => simp [noDict] at nb
  | int x t =>
    cases rb with
    | none => exact RcAt.int_none x t
    | bool y => exact RcAt.int_bool x t y
    | int y u => exact RcAt.int_int x t y u
    | str y u => exact RcAt.int_str x t y u
    | list k1 k2 k3 k4 => exact RcAt.int_list x t ⟨_, k1, k2, _, k3⟩ h0
    | tuple k1 k2 k3 k4 => exact RcAt.int_tuple x t ⟨_, k1, k2, _, k3⟩ h0
    | dict => simp [noDict] at nb
  | str x t =>
    cases rb with
    | none => exact RcAt.str_none x t
    | bool y => exact RcAt.str_bool x t y
    | int y u => exact RcAt.str_int x t y u
    | str y u => exact RcAt.str_str x t y u
    | list k1 k2 k3 k4 => exact RcAt.str_list x t ⟨_, k1, k2, _, k3⟩ h0
    | tuple k1 k2 k3 k4 => exact RcAt.str_tuple x t ⟨_, k1, k2, _, k3⟩ h0
    | dict => simp [noDict] at nb
  | @list l o vs n xs as₁ h1 h2 h3 h4 =>
    have hl : s.heap.IsList l vs := ⟨_, h1, h2, _, h3⟩
    have nx : noDictAll xs = true := by simpa [noDict] using na
    simp only [PyData.depth] at hu
    cases rb with
    | none => exact RcAt.list_none hl h0
    | bool y => exact RcAt.list_bool y hl h0
    | int y u => exact RcAt.list_int y u hl h0
    | str y u => exact RcAt.list_str y u hl h0
    | tuple k1 k2 k3 k4 => exact RcAt.list_tuple hl ⟨_, k1, k2, _, k3⟩ h0
    | dict => simp [noDict] at nb
    | @list l' o' vs' n' ys bs₁ k1 k2 k3 k4 =>
      have ny : noDictAll ys = true := by simpa [noDict] using nb
      have hl' : s.heap.IsList l' vs' := ⟨_, k1, k2, _, k3⟩
      have n1 : vs.size = xs.length := by simpa using ReadsAll.length _ _ _ h4
      have n2 : vs'.size = ys.length := by simpa using ReadsAll.length _ _ _ k4
      show RcAt A s (.ref l) (.ref l') (PyData.eqvAll xs ys)
      by_cases hsz : vs.size = vs'.size
      · rw [← eqvAll_same_length (by omega : xs.length = ys.length), ← n1]
        exact RcAt.lists hl hl' hsz h0 (items_at (n := 0) (fun d _ => eq_data d) h4 k4 nx ny (by omega))
      · rw [eqvAll_other_length (by omega : xs.length ≠ ys.length)]
        exact RcAt.lists_lengths hl hl' (by simpa using hsz) h0
  | @tuple l o vs n xs as₁ h1 h2 h3 h4 =>
    have hl : s.heap.IsTuple l vs := ⟨_, h1, h2, _, h3⟩
    have nx : noDictAll xs = true := by simpa [noDict] using na
    simp only [PyData.depth] at hu
    cases rb with
    | none => exact RcAt.tuple_none hl h0
    | bool y => exact RcAt.tuple_bool y hl h0
    | int y u => exact RcAt.tuple_int y u hl h0
    | str y u => exact RcAt.tuple_str y u hl h0
    | list k1 k2 k3 k4 => exact RcAt.tuple_list hl ⟨_, k1, k2, _, k3⟩ h0
    | dict => simp [noDict] at nb
    | @tuple l' o' vs' n' ys bs₁ k1 k2 k3 k4 =>
      have ny : noDictAll ys = true := by simpa [noDict] using nb
      have hl' : s.heap.IsTuple l' vs' := ⟨_, k1, k2, _, k3⟩
      have n1 : vs.size = xs.length := by simpa using ReadsAll.length _ _ _ h4
      have n2 : vs'.size = ys.length := by simpa using ReadsAll.length _ _ _ k4
      show RcAt A s (.ref l) (.ref l') (PyData.eqvAll xs ys)
      rw [← eqvAll_eq xs ys, ← n1, ← n2]
      exact RcAt.tuples hl hl' h0 (items_at (n := 0) (fun d _ => eq_data d) h4 k4 nx ny (by omega))
  | dict => simp [noDict] at na
end
/-- what == can be asked of -/
def Cmp (d : PyData) : Prop := noDict d = true ∧ d.depth ≤ 60
def gEqC : D2 := fun x y M Q => match vw M x, vw M y with
  | some (.tuple ds), some (.tuple []) => Q (.d (.bool ds.isEmpty)) M
  | some (.list ds), some (.list []) => Q (.d (.bool ds.isEmpty)) M
  | some d, some e => (Cmp d ∧ noDict e = true) ∧ Q (.d (.bool (PyData.eqv d e))) M
  | _, _ => False
def gNeC : D2 := fun x y M Q => match vw M x, vw M y with
  | some (.tuple ds), some (.tuple []) => Q (.d (.bool (!ds.isEmpty))) M
  | some (.list ds), some (.list []) => Q (.d (.bool (!ds.isEmpty))) M
  | some d, some e => (Cmp d ∧ noDict e = true) ∧ Q (.d (.bool (!PyData.eqv d e))) M
  | _, _ => False
section
variable {X : Cx}
theorem opd_eqC (hu : X.A.units + 64 < cLine) : OpD X (compareOp .Eq) gEqC where
  op := fun pins s σ H x y v u Q I rx ry ⟨M, dx, dy, o, qx, qy, h⟩ => by
    have hE := (opd_eqE (X := X) hu).op
    unfold gEqC at h
    split at h
    · rename_i ds e1 e2
      exact hE pins s σ H x y v u Q I rx ry ⟨M, dx, dy, o, qx, qy, by unfold gEqE; rw [e1, e2]; exact h⟩
    · rename_i ds e1 e2
      exact hE pins s σ H x y v u Q I rx ry ⟨M, dx, dy, o, qx, qy, by unfold gEqE; rw [e1, e2]; exact h⟩
    · rename_i d e _ _ e1 e2
      obtain ⟨as, r1, _⟩ := vw.reads I o qx e1 rx
      obtain ⟨bs, r2, _⟩ := vw.reads I o qy e2 ry
      have hd := h.1.1.2
      exact rc_data d e X.A _ _ _ _ r1 r2 h.1.1.1 h.1.2 (by omega) X.prog X.w _ _ ⟨.bl _, H, I, rfl, fin_d h.2 o (.bl _)⟩
    · exact h.elim
  mono := fun x y M Q Q' hq h => by
    unfold gEqC at h ⊢
    split at h
    · exact hq _ _ h
    · exact hq _ _ h
    · exact ⟨h.1, hq _ _ h.2⟩
    · exact h.elim
theorem opd_neC (hu : X.A.units + 64 < cLine) : OpD X (compareOp .NotEq) gNeC where
  op := fun pins s σ H x y v u Q I rx ry ⟨M, dx, dy, o, qx, qy, h⟩ => by
    have hE := (opd_neE (X := X) hu).op
    unfold gNeC at h
    split at h
    · rename_i ds e1 e2
      exact hE pins s σ H x y v u Q I rx ry ⟨M, dx, dy, o, qx, qy, by unfold gNeE; rw [e1, e2]; exact h⟩
    · rename_i ds e1 e2
      exact hE pins s σ H x y v u Q I rx ry ⟨M, dx, dy, o, qx, qy, by unfold gNeE; rw [e1, e2]; exact h⟩
    · rename_i d e _ _ e1 e2
      obtain ⟨as, r1, _⟩ := vw.reads I o qx e1 rx
      obtain ⟨bs, r2, _⟩ := vw.reads I o qy e2 ry
      have hd := h.1.1.2
      exact ne_data d e X.A _ _ _ _ r1 r2 h.1.1.1 h.1.2 (by omega) X.prog X.w _ _ ⟨.bl _, H, I, rfl, fin_d h.2 o (.bl _)⟩
    · exact h.elim
  mono := fun x y M Q Q' hq h => by
    unfold gNeC at h ⊢
    split at h
    · exact hq _ _ h
    · exact hq _ _ h
    · exact ⟨h.1, hq _ _ h.2⟩
    · exact h.elim
end
end HD

namespace HD
open PySem PySem.Spec PyProof.Rows L2
/-! ### the pen: the script's cells, the next one's place, what is left of a great number -/
def PenOk (M : Mem) (p : Addr) : Prop := ∃ (gs : List Int) (seat rest : Int), M p = some [.list (gs.map .int), .int seat, .int rest] ∧ gs.length ≤ 63 ∧ 0 ≤ seat
/-- only the pen was written -/
def Keeps (p : Addr) (M M' : Mem) : Prop := ∀ a ds, a ≠ p → M a = some ds → M' a = some ds
def PenStep (p : Addr) (M M' : Mem) : Prop := PenOk M' p ∧ Keeps p M M'
theorem PenStep.trans {p : Addr} {M M1 M2 : Mem} (a : PenStep p M M1) (b : PenStep p M1 M2) : PenStep p M M2 := ⟨b.1, fun x ds n h => b.2 x ds n (a.2 x ds n h)⟩
theorem PenStep.refl {p : Addr} {M : Mem} (h : PenOk M p) : PenStep p M M := ⟨h, fun _ _ _ h => h⟩
theorem PenOk.upd {p q : Addr} {M : Mem} {ds : List PyData} (h : PenOk M p) (n : p ≠ q) : PenOk (updM M q ds) p := by
  obtain ⟨gs, a, b, e, r⟩ := h
  exact ⟨gs, a, b, by rw [updM_ne n]; exact e, r⟩
theorem PenOk.ne {p q : Addr} {M : Mem} (h : PenOk M p) (n : M q = none) : p ≠ q := by
  obtain ⟨gs, a, b, e, r⟩ := h
  intro z; subst z; rw [e] at n; cases n
theorem PenOk.sub {p : Addr} {M M' : Mem} (h : PenOk M p) (s : Sub M M') : PenOk M' p := by
  obtain ⟨gs, a, b, e, r⟩ := h
  exact ⟨gs, a, b, s _ _ e, r⟩
theorem PenStep.sub {p : Addr} {M M' : Mem} (h : PenOk M p) (s : Sub M M') : PenStep p M M' := ⟨h.sub s, fun a ds _ q => s a ds q⟩
theorem PenOk.erase {p q : Addr} {M : Mem} (h : PenOk M p) (n : p ≠ q) : PenOk (eraseM M q) p := by
  obtain ⟨gs, a, b, e, r⟩ := h
  exact ⟨gs, a, b, by unfold eraseM; rw [if_neg n]; exact e, r⟩
/-- a fresh list beside the pen -/
theorem PenStep.new {p q : Addr} {M : Mem} {ds : List PyData} (h : PenOk M p) (n : M q = none) : PenStep p M (updM M q ds) :=
  ⟨h.upd (h.ne n), fun a es _ k => by rw [updM_ne (fun e => by subst e; rw [n] at k; cases k)]; exact k⟩
/-- a list that came about since is written -/
theorem PenStep.write {p q : Addr} {M M1 : Mem} {ds : List PyData} (s : PenStep p M M1) (n : M q = none) (hq : p ≠ q) : PenStep p M (updM M1 q ds) :=
  ⟨s.1.upd hq, fun a es z k => by rw [updM_ne (fun e => by subst e; rw [n] at k; cases k)]; exact s.2 a es z k⟩
theorem PenStep.erase {p q : Addr} {M M1 : Mem} (s : PenStep p M M1) (n : M q = none) (hq : p ≠ q) : PenStep p M (eraseM M1 q) :=
  ⟨s.1.erase hq, fun a es z k => by
    unfold eraseM
    rw [if_neg (fun e => by subst e; rw [n] at k; cases k)]
    exact s.2 a es z k⟩

def c_pen : DSp where
  pre := fun xs _ => ∃ a ns, xs = [.s a ns]
  post := fun _ M x M' => ∃ p, x = .m p ∧ M p = none ∧ PenOk M' p ∧ Sub M M'
def c_fresh : DSp where
  pre := fun xs M => ∃ p, xs = [.m p] ∧ PenOk M p
  post := fun xs M x M' => ∀ p, xs = [.m p] → ∃ i, x = .d (.int i) ∧ PenStep p M M'
def c_draw : DSp where
  pre := fun xs M => ∃ p b, xs = [.m p, .d (.int b)] ∧ PenOk M p ∧ 0 < b ∧ b.natAbs.log2 < 9000
  post := fun xs M x M' => ∀ p b, xs = [.m p, .d (.int b)] → ∃ i, x = .d (.int i) ∧ 0 ≤ i ∧ i < b ∧ PenStep p M M'
def c_one_of : DSp where
  pre := fun xs M => ∃ p y ds, xs = [.m p, y] ∧ PenOk M p ∧ vw M y = some (.list ds) ∧ ds ≠ [] ∧ ds.length ≤ 1000 ∧ y ≠ .m p
  post := fun xs M x M' => ∀ p y ds, xs = [.m p, y] → vw M y = some (.list ds) → ∃ d, d ∈ ds ∧ x = .d d ∧ PenStep p M M'
theorem call_draw {p : Addr} {b : Int} {M : Mem} {E : Value → List (Str × PyData) → Mem → Prop} {Q : DK} (h : PenOk M p) (hb : 0 < b) (hl : b.natAbs.log2 < 9000) (hq : ∀ i M', 0 ≤ i → i < b → PenStep p M M' → Q (.d (.int i)) M') :
    c_draw.pre [.m p, .d (.int b)] M ∧ (∀ x M2, c_draw.post [.m p, .d (.int b)] M x M2 → Q x M2) ∧ (∀ cls fs M2, c_draw.err [.m p, .d (.int b)] M cls fs M2 → E cls fs M2) :=
  ⟨⟨p, b, rfl, h, hb, hl⟩, fun x M2 k => by obtain ⟨i, rfl, h0, h1, s⟩ := k p b rfl; exact hq i M2 h0 h1 s, fun _ _ _ k => k.elim⟩
theorem call_fresh {p : Addr} {M : Mem} {E : Value → List (Str × PyData) → Mem → Prop} {Q : DK} (h : PenOk M p) (hq : ∀ i M', PenStep p M M' → Q (.d (.int i)) M') :
    c_fresh.pre [.m p] M ∧ (∀ x M2, c_fresh.post [.m p] M x M2 → Q x M2) ∧ (∀ cls fs M2, c_fresh.err [.m p] M cls fs M2 → E cls fs M2) :=
  ⟨⟨p, rfl, h⟩, fun x M2 k => by obtain ⟨i, rfl, s⟩ := k p rfl; exact hq i M2 s, fun _ _ _ k => k.elim⟩
theorem call_one_of {p : Addr} {ds : List PyData} {M : Mem} {E : Value → List (Str × PyData) → Mem → Prop} {Q : DK} (h : PenOk M p) (hn : ds ≠ []) (hl : ds.length ≤ 1000) (hq : ∀ d M', d ∈ ds → PenStep p M M' → Q (.d d) M') :
    c_one_of.pre [.m p, .d (.list ds)] M ∧ (∀ x M2, c_one_of.post [.m p, .d (.list ds)] M x M2 → Q x M2) ∧ (∀ cls fs M2, c_one_of.err [.m p, .d (.list ds)] M cls fs M2 → E cls fs M2) :=
  ⟨⟨p, .d (.list ds), ds, rfl, h, rfl, hn, hl, by intro z; cases z⟩, fun x M2 k => by obtain ⟨d, hd, rfl, s⟩ := k p (.d (.list ds)) ds rfl rfl; exact hq d M2 hd s, fun _ _ _ k => k.elim⟩
end HD

namespace HD
open PySem PySem.Spec PyProof.Rows
open L2 (kitB atI)

/-! ### readings, told by one Bool -/
theorem and_eq (fa fb : DE) : dAnd fa fb = fun Xd ρ M Q => fa Xd ρ M fun x M1 => match x with | .d (.bool k) => (match k with | true => fb Xd ρ M1 Q | false => Q (.d (.bool false)) M1) | _ => False := by
  funext Xd ρ M Q; unfold dAnd; congr; funext x M1; rcases x with (_ | (_ | _) | _ | _ | _ | _ | _) | _ | _ | _ <;> rfl
theorem or_eq (fa fb : DE) : dOr fa fb = fun Xd ρ M Q => fa Xd ρ M fun x M1 => match x with | .d (.bool k) => (match k with | true => Q (.d (.bool true)) M1 | false => fb Xd ρ M1 Q) | _ => False := by
  funext Xd ρ M Q; unfold dOr; congr; funext x M1; rcases x with (_ | (_ | _) | _ | _ | _ | _ | _) | _ | _ | _ <;> rfl
theorem chain_eq (g g' : D2) (fa fb fc : DE) : dChain g g' fa fb fc = fun Xd ρ M Q => fa Xd ρ M fun x M1 => fb Xd ρ M1 fun y M2 => g x y M2 fun z M3 => match z with
  | .d (.bool k) => (match k with | true => fc Xd ρ M3 fun w M4 => g' y w M4 Q | false => Q (.d (.bool false)) M3) | _ => False := by
  funext Xd ρ M Q; unfold dChain; congr; funext x M1; congr; funext y M2; congr; funext z M3; rcases z with (_ | (_ | _) | _ | _ | _ | _ | _) | _ | _ | _ <;> rfl
theorem kit_int (d : PyData) : kitB (kindD d) "int" = some (match d with | .int _ => true | .bool _ => true | _ => false) := by cases d <;> (simp only [kindD]; decide +kernel)
theorem kit_bool (d : PyData) : kitB (kindD d) "bool" = some (match d with | .bool _ => true | _ => false) := by cases d <;> (simp only [kindD]; decide +kernel)
theorem kit_tuple (d : PyData) : kitB (kindD d) "tuple" = some (match d with | .tuple _ => true | _ => false) := by cases d <;> (simp only [kindD]; decide +kernel)
theorem kit_str (d : PyData) : kitB (kindD d) "str" = some (match d with | .str _ => true | _ => false) := by cases d <;> (simp only [kindD]; decide +kernel)
theorem kit_list (d : PyData) : kitB (kindD d) "list" = some (match d with | .list _ => true | _ => false) := by cases d <;> (simp only [kindD]; decide +kernel)
theorem ty_tuple (d : PyData) : decide (kindD d = "tuple") = (match d with | .tuple _ => true | _ => false) := by cases d <;> (simp only [kindD]; first | rfl | simp)
theorem ty_str (d : PyData) : decide (kindD d = "str") = (match d with | .str _ => true | _ => false) := by cases d <;> (simp only [kindD]; first | rfl | simp)
abbrev ends (c : DSp) (xs : List DV) (M : Mem) : DEnds := ⟨fun _ M' => c.post xs M (.d .none) M', fun x M' => c.post xs M x M', fun _ _ => False, fun _ _ => False, fun cls fs _ M' => c.err xs M cls fs M'⟩

/-! ### walks -/
theorem forD_run {keep : Mem → Prop} {tg : Tg} {body : DS} {D : DEnds} (I : List DV → DEnv → Mem → Prop) (hk : ∀ r ρ M, I r ρ M → keep M)
    (hx : ∀ x r ρ M nx, I (x :: r) ρ M → (∀ ρ' M', I r ρ' M' → nx ρ' M') → match setT M ρ tg x with | some ρ' => body { D with nx := nx, ct := nx, bk := D.nx } ρ' M | none => False)
    (hn : ∀ ρ M, I [] ρ M → D.nx ρ M) : ∀ its ρ M, I its ρ M → forD keep tg body its D ρ M
  | [], ρ, M, h => ⟨hk _ _ _ h, hn ρ M h⟩
  | x :: r, ρ, M, h => ⟨hk _ _ _ h, hx x r ρ M (fun ρ2 M2 => forD keep tg body r D ρ2 M2) h fun ρ' M' h' => forD_run I hk hx hn r ρ' M' h'⟩
/-- one turn of a comprehension, told by what it puts in -/
def lcTurn (tg : Tg) (tt : DT) (te : DE) (ρ : DEnv) (x : DV) (M : Mem) (R : Option PyData → Mem → Prop) : Prop :=
  match setT M ρ tg x with
  | some ρ' => tt noX ρ' M fun k M1 => match k with
    | true => te noX ρ' M1 fun y M2 => match y with | .d d => R (some d) M2 | _ => False
    | false => R none M1
  | none => False
theorem lcD_cons {keep : Mem → Prop} {tg : Tg} {tt : DT} {te : DE} {p : Addr} {ρ : DEnv} {x : DV} {r : List DV} {M : Mem} {Q : Mem → Prop} (hk : keep M)
    (h : lcTurn tg tt te ρ x M fun o M2 => match o with
      | some d => (match M2 p with | some acc => acc.length < sizeLine ∧ lcD keep tg tt te p ρ r (updM M2 p (acc ++ [d])) Q | none => False)
      | none => lcD keep tg tt te p ρ r M2 Q) : lcD keep tg tt te p ρ (x :: r) M Q := by
  refine ⟨hk, ?_⟩
  unfold lcTurn at h
  have e : (fun (y : DV) (M2 : Mem) => match y, M2 p with
        | .d d, some acc => acc.length < sizeLine ∧ lcD keep tg tt te p ρ r (updM M2 p (acc ++ [d])) Q
        | _, _ => False) = fun y M2 => match y with
        | .d d => (match M2 p with | some acc => acc.length < sizeLine ∧ lcD keep tg tt te p ρ r (updM M2 p (acc ++ [d])) Q | none => False)
        | _ => False := by
    funext y M2
    cases y <;> (try rfl)
    cases M2 p <;> rfl
  cases q : setT M ρ tg x with
  | none => rw [q] at h; exact h
  | some ρ' =>
    rw [q] at h
    refine Eq.mp (congrArg (fun f => tt noX ρ' M f) ?_) h
    funext k M1
    cases k with
    | false => rfl
    | true => exact (congrArg (te noX ρ' M1) e).symm
theorem lcD_run {keep : Mem → Prop} {tg : Tg} {tt : DT} {te : DE} {p : Addr} {ρ : DEnv} {Q : Mem → Prop} (I : List DV → List PyData → Mem → Prop) (hk : ∀ r acc M, I r acc M → keep M)
    (hx : ∀ x r acc M R, I (x :: r) acc M → (∀ M', I r acc M' → R none M') → (∀ d M', M' p = some acc → acc.length < sizeLine → I r (acc ++ [d]) (updM M' p (acc ++ [d])) → R (some d) M') → lcTurn tg tt te ρ x M R)
    (hn : ∀ acc M, I [] acc M → Q M) : ∀ its acc M, I its acc M → lcD keep tg tt te p ρ its M Q
  | [], acc, M, h => ⟨hk _ _ _ h, hn acc M h⟩
  | x :: r, acc, M, h => lcD_cons (hk _ _ _ h) (hx x r acc M _ h (fun M' h' => lcD_run I hk hx hn r acc M' h') fun d M' h1 h2 h3 => by
      show (match M' p with | some acc => acc.length < sizeLine ∧ lcD keep tg tt te p ρ r (updM M' p (acc ++ [d])) Q | none => False)
      rw [h1]
      exact ⟨h2, lcD_run I hk hx hn r _ _ h3⟩)
/-- a comprehension that only reckons -/
theorem lc_pure {tg : Tg} {tt : DT} {te : DE} {ρ : DEnv} {its : List DV} {step : DV → Option PyData} {M : Mem} {Q : Addr → Mem → Prop} (hl : its.length ≤ sizeLine)
    (hx : ∀ x ∈ its, ∀ M1 R, (∀ M2, Sub M1 M2 → R (step x) M2) → lcTurn tg tt te ρ x M1 R) (hq : ∀ p M', M' p = some (its.filterMap step) → Sub M (eraseM M' p) → Q p M') :
    ∀ p, M p = none → lcD (fun _ => True) tg tt te p ρ its (updM M p []) (Q p) := by
  intro p hp
  refine lcD_run (fun r acc M' => ∃ l, its = l ++ r ∧ acc = l.filterMap step ∧ M' p = some acc ∧ ∀ a ds, a ≠ p → M a = some ds → M' a = some ds) (fun _ _ _ _ => trivial) ?_ ?_ its [] (updM M p []) ⟨[], rfl, rfl, updM_same, fun a ds n h => by rw [updM_ne n]; exact h⟩
  · rintro x r acc M1 R ⟨l, e, rfl, h1, h2⟩ hn hs
    refine hx x (by rw [e]; simp) M1 R fun M2 s => ?_
    have e2 : its = (l ++ [x]) ++ r := by rw [e]; simp
    cases q : step x with
    | none => exact hn M2 ⟨l ++ [x], e2, by simp [q], s _ _ h1, fun a ds n h => s _ _ (h2 a ds n h)⟩
    | some d =>
      refine hs d M2 (s _ _ h1) ?_ ⟨l ++ [x], e2, by simp [q], updM_same, fun a ds n h => by rw [updM_ne n]; exact s _ _ (h2 a ds n h)⟩
      have := List.length_filterMap_le step l
      rw [e] at hl
      simp at hl
      omega
  · rintro acc M1 ⟨l, e, rfl, h1, h2⟩
    have el : its = l := by rw [e]; simp
    subst el
    refine hq p _ h1 fun a ds h => ?_
    have n : a ≠ p := fun z => by subst z; rw [hp] at h; cases h
    unfold eraseM
    rw [if_neg n]
    exact h2 a ds n h
end HD

namespace HD
open PySem PySem.Spec PyProof.Rows
open L2 (kitB atI)

theorem FnG.union {P : Program} {w : World} {K : PySem.W.Frag} {mg : Str → Option Value} {base : Heap} {k : Nat} {f : Addr} {fd : FuncData} {ps : List Str} {sp' : L2.Sp} (h : ∀ vs H Q E, sp' vs H Q E → ∃ sp : L2.Sp, FnG P w K mg base k f fd ps sp ∧ sp vs H Q E) : FnG P w K mg base k f fd ps sp' :=
  ⟨fun vs H Q E q => let ⟨_, F, q'⟩ := h vs H Q E q; F.size vs H Q E q', fun A o s H a us vs Q E g r e b v q => let ⟨_, F, q'⟩ := h vs H Q E q; F.goes A o s H a us vs Q E g r e b v q'⟩

/-! ### data of bounded size -/
mutual
def lf (k : Nat) : PyData → Bool
  | .none | .bool _ => true
  | .int i => decide (i.natAbs ≤ 10 ^ 61 + k)
  | .str x => x.cps.toList.all fun c => decide (c < 16 ^ 8)
  | .list xs | .tuple xs => lfAll k xs
  | .dict kvs => kvs.isEmpty
def lfAll (k : Nat) : List PyData → Bool
  | [] => true
  | x :: xs => lf k x && lfAll k xs
end
theorem lfAll_iff {k : Nat} : ∀ {xs : List PyData}, lfAll k xs = true ↔ ∀ d ∈ xs, lf k d = true
  | [] => by simp [lfAll]
  | x :: xs => by simp [lfAll, lfAll_iff (xs := xs)]
theorem depthAll_iff {t : Nat} : ∀ {xs : List PyData}, PyData.depthAll xs ≤ t ↔ ∀ d ∈ xs, d.depth ≤ t
  | [] => by simp [PyData.depthAll]
  | x :: xs => by simp [PyData.depthAll, Nat.max_le, depthAll_iff (xs := xs)]
theorem bulkAll_append : ∀ (xs ys : List PyData), PyData.bulkAll (xs ++ ys) = PyData.bulkAll xs + PyData.bulkAll ys
  | [], ys => by simp [PyData.bulkAll]
  | x :: xs, ys => by simp only [List.cons_append, PyData.bulkAll, bulkAll_append xs ys]; omega
theorem bulkAll_cut (xs : List PyData) (k : Nat) : PyData.bulkAll (xs.take k) + PyData.bulkAll (xs.drop k) = PyData.bulkAll xs := by
  rw [← bulkAll_append, List.take_append_drop]
theorem bulkAll_reverse : ∀ xs : List PyData, PyData.bulkAll xs.reverse = PyData.bulkAll xs
  | [] => rfl
  | x :: xs => by simp only [List.reverse_cons, bulkAll_append, bulkAll_reverse xs, PyData.bulkAll]; omega
theorem bulkAll_length : ∀ xs : List PyData, xs.length ≤ PyData.bulkAll xs
  | [] => Nat.le_refl _
  | x :: xs => by have := bulkAll_length xs; simp only [List.length_cons, PyData.bulkAll]; omega
theorem bulkAll_at {xs : List PyData} {j : Nat} {d : PyData} (h : xs[j]? = some d) : PyData.bulkAll (xs.take j) + (d.bulk + 1) + PyData.bulkAll (xs.drop (j + 1)) = PyData.bulkAll xs := by
  have e : xs = xs.take j ++ ([d] ++ xs.drop (j + 1)) := by
    have hj : j < xs.length := by
      rcases Nat.lt_or_ge j xs.length with h1 | h1
      · exact h1
      · rw [List.getElem?_eq_none h1] at h; cases h
    rw [List.getElem?_eq_getElem hj] at h
    cases h
    simp
  conv => rhs; rw [e]
  simp only [bulkAll_append, PyData.bulkAll]
  omega
structure Fit (n k t : Nat) (d : PyData) : Prop where
  lf : lf k d = true
  bulk : d.bulk ≤ n
  depth : d.depth ≤ t
structure FitA (n k t : Nat) (xs : List PyData) : Prop where
  lf : ∀ d ∈ xs, HD.lf k d = true
  bulk : PyData.bulkAll xs ≤ n
  depth : ∀ d ∈ xs, d.depth ≤ t
theorem Fit.mono {n k t n' k' t' : Nat} {d : PyData} (h : Fit n k t d) (hn : n ≤ n') (hk : k = k') (ht : t ≤ t') : Fit n' k' t' d := ⟨hk ▸ h.lf, Nat.le_trans h.bulk hn, Nat.le_trans h.depth ht⟩
theorem lf_mono {k k' : Nat} (hk : k ≤ k') : ∀ {d : PyData}, lf k d = true → lf k' d = true
  | .none, _ => rfl
  | .bool _, _ => rfl
  | .int i, h => by simp only [lf, decide_eq_true_eq] at h ⊢; omega
  | .str x, h => h
  | .list xs, h => by
    simp only [lf] at h ⊢
    exact lfAll_iff.mpr fun d hd => lf_mono hk (lfAll_iff.mp h d hd)
  | .tuple xs, h => by
    simp only [lf] at h ⊢
    exact lfAll_iff.mpr fun d hd => lf_mono hk (lfAll_iff.mp h d hd)
  | .dict kvs, h => h
theorem Fit.up {n k t n' k' t' : Nat} {d : PyData} (h : Fit n k t d) (hn : n ≤ n') (hk : k ≤ k') (ht : t ≤ t') : Fit n' k' t' d := ⟨lf_mono hk h.lf, Nat.le_trans h.bulk hn, Nat.le_trans h.depth ht⟩
theorem Fit.all {n k t : Nat} {xs : List PyData} (h : Fit n k (t + 1) (.tuple xs)) : FitA n k t xs :=
  ⟨lfAll_iff.mp (by simpa [HD.lf] using h.lf), by simpa [PyData.bulk] using h.bulk, depthAll_iff.mp (by have := h.depth; simp only [PyData.depth] at this; omega)⟩
theorem FitA.tup {n k t : Nat} {xs : List PyData} (h : FitA n k t xs) : Fit n k (t + 1) (.tuple xs) :=
  ⟨by simp only [HD.lf]; exact lfAll_iff.mpr h.lf, by simpa [PyData.bulk] using h.bulk, by simp only [PyData.depth]; have := depthAll_iff.mpr h.depth; omega⟩
theorem FitA.lst {n k t : Nat} {xs : List PyData} (h : FitA n k t xs) : Fit n k (t + 1) (.list xs) :=
  ⟨by simp only [HD.lf]; exact lfAll_iff.mpr h.lf, by simpa [PyData.bulk] using h.bulk, by simp only [PyData.depth]; have := depthAll_iff.mpr h.depth; omega⟩
theorem FitA.up {n k t n' k' t' : Nat} {xs : List PyData} (h : FitA n k t xs) (hn : n ≤ n') (hk : k ≤ k') (ht : t ≤ t') : FitA n' k' t' xs := ⟨fun d m => lf_mono hk (h.lf d m), Nat.le_trans h.bulk hn, fun d m => Nat.le_trans (h.depth d m) ht⟩
theorem FitA.nil {n k t : Nat} : FitA n k t [] := ⟨by simp, by simp [PyData.bulkAll], by simp⟩
theorem FitA.one {n k t : Nat} {d : PyData} (h : Fit n k t d) : FitA (n + 1) k t [d] := ⟨by simpa using h.lf, by have := h.bulk; simp only [PyData.bulkAll]; omega, by simpa using h.depth⟩
theorem FitA.app {n m k t : Nat} {xs ys : List PyData} (h : FitA n k t xs) (g : FitA m k t ys) : FitA (n + m) k t (xs ++ ys) :=
  ⟨fun d hd => (List.mem_append.mp hd).elim (h.lf d) (g.lf d), by rw [bulkAll_append]; exact Nat.add_le_add h.bulk g.bulk, fun d hd => (List.mem_append.mp hd).elim (h.depth d) (g.depth d)⟩
theorem FitA.take {n k t : Nat} {xs : List PyData} (h : FitA n k t xs) (j : Nat) : FitA n k t (xs.take j) :=
  ⟨fun d hd => h.lf d (List.mem_of_mem_take hd), by have := bulkAll_cut xs j; have := h.bulk; omega, fun d hd => h.depth d (List.mem_of_mem_take hd)⟩
theorem FitA.drop {n k t : Nat} {xs : List PyData} (h : FitA n k t xs) (j : Nat) : FitA n k t (xs.drop j) :=
  ⟨fun d hd => h.lf d (List.mem_of_mem_drop hd), by have := bulkAll_cut xs j; have := h.bulk; omega, fun d hd => h.depth d (List.mem_of_mem_drop hd)⟩
theorem FitA.rev {n k t : Nat} {xs : List PyData} (h : FitA n k t xs) : FitA n k t xs.reverse :=
  ⟨fun d hd => h.lf d (by simpa using hd), by rw [bulkAll_reverse]; exact h.bulk, fun d hd => h.depth d (by simpa using hd)⟩
/-- one item exchanged -/
theorem FitA.put {n b m k k' t t' : Nat} {xs : List PyData} {j : Nat} {d e : PyData} (h : FitA n k t xs) (hj : xs[j]? = some d) (hd : d.bulk = b) (he : Fit (b + m) k' t' e) (hk : k ≤ k') (ht : t ≤ t') : FitA (n + m) k' t' (xs.take j ++ [e] ++ xs.drop (j + 1)) := by
  refine ⟨fun x hx => ?_, ?_, fun x hx => ?_⟩
  · rcases List.mem_append.mp hx with q | q
    · rcases List.mem_append.mp q with q | q
      · exact lf_mono hk (h.lf x (List.mem_of_mem_take q))
      · simp at q; subst q; exact he.lf
    · exact lf_mono hk (h.lf x (List.mem_of_mem_drop q))
  · have := bulkAll_at hj
    have := h.bulk
    have := he.bulk
    simp only [bulkAll_append, PyData.bulkAll]
    omega
  · rcases List.mem_append.mp hx with q | q
    · rcases List.mem_append.mp q with q | q
      · exact Nat.le_trans (h.depth x (List.mem_of_mem_take q)) ht
      · simp at q; subst q; exact he.depth
    · exact Nat.le_trans (h.depth x (List.mem_of_mem_drop q)) ht
theorem FitA.rep {n k t : Nat} {xs : List PyData} (h : FitA n k t xs) : ∀ j : Nat, FitA (j * n) k t (List.replicate j xs).flatten
  | 0 => FitA.nil
  | j + 1 => by
    rw [List.replicate_succ, List.flatten_cons, Nat.succ_mul, Nat.add_comm]
    exact h.app (FitA.rep h j)
theorem Fit.at {n k t : Nat} {xs : List PyData} {d : PyData} (h : FitA n k t xs) (hd : d ∈ xs) : Fit n k t d := by
  obtain ⟨j, hj⟩ := List.getElem?_of_mem hd
  have := bulkAll_at hj
  exact ⟨h.lf d hd, by have := h.bulk; omega, h.depth d hd⟩
theorem int_len {i : Int} {k : Nat} (hk : k ≤ 1000) (h : i.natAbs ≤ 10 ^ 61 + k) : (PyData.shown (.int i)).length ≤ 70 := by
  have h2 : i.natAbs < 10 ^ 65 := by have e : (10 : Nat) ^ 65 = 10 ^ 61 * 10000 := by decide
                                     omega
  have e : (PyData.shown (.int i)).length = (toString i).length := PySem.ofString_length _
  rw [e]
  exact Nat.le_trans (int_text_length_le10 (k := 65) (by decide) h2) (by decide)
theorem int_log {i : Int} {k : Nat} (hk : k ≤ 1000) (h : i.natAbs ≤ 10 ^ 61 + k) : i.natAbs.log2 < 1920 := by
  by_cases z : i.natAbs = 0
  · rw [z]; decide
  · have h3 : i.natAbs.log2 < 256 := (Nat.log2_lt z).mpr (by have e : (10 : Nat) ^ 61 + 1000 < 2 ^ 256 := by decide
                                                             omega)
    omega
mutual
theorem lf_short {k : Nat} (hk : k ≤ 1000) : ∀ d : PyData, lf k d = true → d.leavesShort 70 = true ∧ d.showable = true
  | .none, _ => ⟨rfl, rfl⟩
  | .bool _, _ => ⟨rfl, rfl⟩
  | .int i, h => by
    simp only [lf, decide_eq_true_eq] at h
    exact ⟨by simp only [PyData.leavesShort, decide_eq_true_eq]; exact int_len hk h, by simp only [PyData.showable, decide_eq_true_eq]; exact int_log hk h⟩
  | .str x, h => ⟨by simpa only [PyData.leavesShort, lf] using h, rfl⟩
  | .list xs, h => by
    simp only [PyData.leavesShort, PyData.showable]
    exact lfAll_short hk xs (by simpa only [lf] using h)
  | .tuple xs, h => by
    simp only [PyData.leavesShort, PyData.showable]
    exact lfAll_short hk xs (by simpa only [lf] using h)
  | .dict [], _ => ⟨rfl, rfl⟩
  | .dict (_ :: _), h => by simp [lf] at h
theorem lfAll_short {k : Nat} (hk : k ≤ 1000) : ∀ xs : List PyData, lfAll k xs = true → PyData.leavesShortAll 70 xs = true ∧ PyData.showableAll xs = true
  | [], _ => ⟨rfl, rfl⟩
  | x :: xs, h => by
    simp only [lfAll, Bool.and_eq_true] at h
    have h1 := lf_short hk x h.1
    have h2 := lfAll_short hk xs h.2
    simp only [PyData.leavesShortAll, PyData.showableAll, h1.1, h1.2, h2.1, h2.2, Bool.and_self, and_self]
end
theorem Fit.shows {n k t : Nat} {d : PyData} (h : Fit n k t d) (hn : n ≤ 10000) (hk : k ≤ 1000) (ht : t ≤ 60) : Shows d := by
  have h1 := lf_short hk d h.lf
  refine ⟨h1.2, Nat.le_trans h.depth ht, ?_⟩
  have h2 := PyData.shown_le_bulk 70 (by decide) d h1.1
  have h3 := h.bulk
  exact line1' (Nat.le_trans h2 (by omega : (70 + 2) * d.bulk + 70 ≤ 720070))
where
  line1' {m : Nat} (h : m ≤ 720070) : m ≤ sizeLine := Nat.le_trans h (by decide)
theorem FitA.of {k t : Nat} {xs : List PyData} (h : ∀ d ∈ xs, Fit 0 k t d) : FitA xs.length k t xs :=
  ⟨fun d hd => (h d hd).lf, by
    induction xs with
    | nil => simp [PyData.bulkAll]
    | cons x xs ih =>
      have := (h x (by simp)).bulk
      have := ih fun d hd => h d (by simp [hd])
      simp only [PyData.bulkAll, List.length_cons]; omega, fun d hd => (h d hd).depth⟩
theorem Fit.int {k : Nat} {i : Int} (h : i.natAbs ≤ 10 ^ 61 + k) : Fit 0 k 0 (.int i) := ⟨by simpa only [HD.lf, decide_eq_true_eq] using h, Nat.le_refl _, Nat.le_refl _⟩

/-! ### a comprehension that draws -/
theorem lc_pen {tg : Tg} {tt : DT} {te : DE} {ρ : DEnv} {its : List DV} {P : PyData → Prop} {pn : Addr} {M : Mem} {Q : Addr → Mem → Prop} (hl : its.length ≤ sizeLine) (hp : PenOk M pn)
    (hx : ∀ x ∈ its, ∀ M1 (R : Option PyData → Mem → Prop), PenOk M1 pn → (∀ d M2, P d → PenStep pn M1 M2 → R (some d) M2) → lcTurn tg tt te ρ x M1 R)
    (hq : ∀ p M' acc, M' p = some acc → acc.length = its.length → (∀ d ∈ acc, P d) → PenStep pn M (eraseM M' p) → Q p M') :
    ∀ p, M p = none → lcD (fun _ => True) tg tt te p ρ its (updM M p []) (Q p) := by
  intro p hpn
  have hne : pn ≠ p := hp.ne hpn
  refine lcD_run (fun r acc M' => ∃ l, its = l ++ r ∧ acc.length = l.length ∧ (∀ d ∈ acc, P d) ∧ M' p = some acc ∧ PenOk M' pn ∧ ∀ a ds, a ≠ p → a ≠ pn → M a = some ds → M' a = some ds) (fun _ _ _ _ => trivial) ?_ ?_ its [] (updM M p []) ⟨[], rfl, rfl, by simp, updM_same, hp.upd hne, fun a ds n _ h => by rw [updM_ne n]; exact h⟩
  · rintro x r acc M1 R ⟨l, e, e1, e2, h1, ho, h2⟩ hn hs
    have hxm : x ∈ its := by rw [e]; simp
    refine hx x hxm M1 R ho fun d M2 hd s => ?_
    refine hs d M2 (s.2 p acc (Ne.symm hne) h1) ?_ ⟨l ++ [x], by rw [e]; simp, by simp [e1], ?_, updM_same, s.1.upd hne, fun a ds n n2 h => by rw [updM_ne n]; exact s.2 a ds n2 (h2 a ds n n2 h)⟩
    · have := congrArg List.length e
      simp at this
      omega
    · intro d' hd'
      rcases List.mem_append.mp hd' with q | q
      · exact e2 d' q
      · simp at q; subst q; exact hd
  · rintro acc M1 ⟨l, e, e1, e2, h1, ho, h2⟩
    have el : its = l := by rw [e]; simp
    subst el
    refine hq p M1 acc h1 e1 e2 ⟨ho.erase hne, fun a ds n h => ?_⟩
    have n2 : a ≠ p := fun z => by subst z; rw [hpn] at h; cases h
    unfold eraseM
    rw [if_neg n2]
    exact h2 a ds n2 n h
/-! ### a def that draws -/
def penC (R : PyData → Prop) : DSp where
  pre := fun xs M => ∃ p, xs = [.m p] ∧ PenOk M p
  post := fun xs M x M' => ∀ p, xs = [.m p] → ∃ d, x = .d d ∧ R d ∧ PenStep p M M'
theorem call_pen {R : PyData → Prop} {p : Addr} {M : Mem} {E : Value → List (Str × PyData) → Mem → Prop} {Q : DK} (h : PenOk M p) (hq : ∀ d M', R d → PenStep p M M' → Q (.d d) M') :
    (penC R).pre [.m p] M ∧ (∀ x M2, (penC R).post [.m p] M x M2 → Q x M2) ∧ (∀ cls fs M2, (penC R).err [.m p] M cls fs M2 → E cls fs M2) :=
  ⟨⟨p, rfl, h⟩, fun x M2 k => by obtain ⟨d, rfl, hr, s⟩ := k p rfl; exact hq d M2 hr s, fun _ _ _ k => k.elim⟩
theorem penC.len {R : PyData → Prop} : ∀ xs M, (penC R).pre xs M → xs.length = 1 := by
  rintro _ M ⟨p, rfl, _⟩; rfl
end HD

namespace K01
open PySem PySem.Spec PyProof.Rows L2 HD
def topS (i : Nat) : Stmt := PySem.Challenge.pw_enoughheard_k01_numbers_and_resiliences.main.body.getD i (.Pass ⟨0, 0, 0, 0⟩)
abbrev s_is_whole : Stmt := topS 3
theorem sc_is_whole : FnScope ["value", "least", "most"] ["value", "least", "most"] (defScope s_is_whole) := ⟨rfl, rfl, rfl, by decide +kernel, rfl, by decide +kernel, by decide +kernel⟩
abbrev s_is_tuple : Stmt := topS 4
theorem sc_is_tuple : FnScope ["value", "least", "most"] ["value", "least", "most"] (defScope s_is_tuple) := ⟨rfl, rfl, rfl, by decide +kernel, rfl, by decide +kernel, by decide +kernel⟩
abbrev s_bound_value : Stmt := topS 6
theorem sc_bound_value : FnScope ["bound", "numbers", "a", "b", "c", "n", "t", "_"] ["bound", "numbers"] (defScope s_bound_value) := ⟨rfl, rfl, rfl, by decide +kernel, rfl, by decide +kernel, by decide +kernel⟩
abbrev s_is_resilience_row : Stmt := topS 7
theorem sc_is_resilience_row : FnScope ["value", "part"] ["value"] (defScope s_is_resilience_row) := ⟨rfl, rfl, rfl, by decide +kernel, rfl, by decide +kernel, by decide +kernel⟩
abbrev s_require_resilience : Stmt := topS 8
theorem sc_require_resilience : FnScope ["value", "index", "row"] ["value"] (defScope s_require_resilience) := ⟨rfl, rfl, rfl, by decide +kernel, rfl, by decide +kernel, by decide +kernel⟩
abbrev s_fits : Stmt := topS 9
theorem sc_fits : FnScope ["resilience", "numbers", "n", "t", "f", "p", "q", "r", "c"] ["resilience", "numbers"] (defScope s_fits) := ⟨rfl, rfl, rfl, by decide +kernel, rfl, by decide +kernel, by decide +kernel⟩
abbrev s_with_factor : Stmt := topS 10
theorem sc_with_factor : FnScope ["resilience", "m"] ["resilience", "m"] (defScope s_with_factor) := ⟨rfl, rfl, rfl, by decide +kernel, rfl, by decide +kernel, by decide +kernel⟩
abbrev s__law_pen : Stmt := topS 12
theorem sc__law_pen : FnScope ["script"] ["script"] (defScope s__law_pen) := ⟨rfl, rfl, rfl, by decide +kernel, rfl, by decide +kernel, by decide +kernel⟩
abbrev s__law_fresh : Stmt := topS 13
theorem sc__law_fresh : FnScope ["pen", "seat", "given", "cell", "prime", "state", "found", "lap"] ["pen"] (defScope s__law_fresh) := ⟨rfl, rfl, rfl, by decide +kernel, rfl, by decide +kernel, by decide +kernel⟩
abbrev s__law_draw : Stmt := topS 14
theorem sc__law_draw : FnScope ["pen", "bound", "digit"] ["pen", "bound"] (defScope s__law_draw) := ⟨rfl, rfl, rfl, by decide +kernel, rfl, by decide +kernel, by decide +kernel⟩
abbrev s__law_one_of : Stmt := topS 15
theorem sc__law_one_of : FnScope ["pen", "some"] ["pen", "some"] (defScope s__law_one_of) := ⟨rfl, rfl, rfl, by decide +kernel, rfl, by decide +kernel, by decide +kernel⟩
abbrev s__law_whole : Stmt := topS 16
theorem sc__law_whole : FnScope ["value", "low", "high"] ["value", "low", "high"] (defScope s__law_whole) := ⟨rfl, rfl, rfl, by decide +kernel, rfl, by decide +kernel, by decide +kernel⟩
abbrev s__law_bound : Stmt := topS 17
theorem sc__law_bound : FnScope ["pen"] ["pen"] (defScope s__law_bound) := ⟨rfl, rfl, rfl, by decide +kernel, rfl, by decide +kernel, by decide +kernel⟩
abbrev s__law_resilience : Stmt := topS 18
theorem sc__law_resilience : FnScope ["pen", "rows", "found", "top", "least", "lap", "place"] ["pen"] (defScope s__law_resilience) := ⟨rfl, rfl, rfl, by decide +kernel, rfl, by decide +kernel, by decide +kernel⟩
abbrev s__law_value : Stmt := topS 19
theorem sc__law_value : FnScope ["bound", "numbers"] ["bound", "numbers"] (defScope s__law_value) := ⟨rfl, rfl, rfl, by decide +kernel, rfl, by decide +kernel, by decide +kernel⟩
abbrev s__law_numbers : Stmt := topS 20
theorem sc__law_numbers : FnScope ["pen", "most", "n"] ["pen", "most"] (defScope s__law_numbers) := ⟨rfl, rfl, rfl, by decide +kernel, rfl, by decide +kernel, by decide +kernel⟩
abbrev s__law_fits : Stmt := topS 21
theorem sc__law_fits : FnScope ["resilience", "numbers", "n", "t", "f", "p", "q", "r", "c"] ["resilience", "numbers"] (defScope s__law_fits) := ⟨rfl, rfl, rfl, by decide +kernel, rfl, by decide +kernel, by decide +kernel⟩
abbrev s__law_at : Stmt := topS 22
theorem sc__law_at : FnScope ["rows", "place", "thing"] ["rows", "place", "thing"] (defScope s__law_at) := ⟨rfl, rfl, rfl, by decide +kernel, rfl, by decide +kernel, by decide +kernel⟩
abbrev s__law_odd : Stmt := topS 23
theorem sc__law_odd : FnScope ["pen", "some"] ["pen"] (defScope s__law_odd) := ⟨rfl, rfl, rfl, by decide +kernel, rfl, by decide +kernel, by decide +kernel⟩
abbrev s__law_bent : Stmt := topS 24
theorem sc__law_bent : FnScope ["pen", "value", "depth", "option", "at", "part"] ["pen", "value", "depth"] (defScope s__law_bent) := ⟨rfl, rfl, rfl, by decide +kernel, rfl, by decide +kernel, by decide +kernel⟩
abbrev s__law_told : Stmt := topS 25
theorem sc__law_told : FnScope ["value", "found", "e"] ["value"] (defScope s__law_told) := ⟨rfl, rfl, rfl, by decide +kernel, rfl, by decide +kernel, by decide +kernel⟩
abbrev s__law_is_row : Stmt := topS 26
theorem sc__law_is_row : FnScope ["value", "part"] ["value"] (defScope s__law_is_row) := ⟨rfl, rfl, rfl, by decide +kernel, rfl, by decide +kernel, by decide +kernel⟩
abbrev s__law_due : Stmt := topS 27
theorem sc__law_due : FnScope ["value", "bad", "at", "row"] ["value"] (defScope s__law_due) := ⟨rfl, rfl, rfl, by decide +kernel, rfl, by decide +kernel, by decide +kernel⟩
abbrev s__law_others : Stmt := topS 28
theorem sc__law_others : FnScope ["pen", "rows", "at", "place", "found", "part", "edge", "lap"] ["pen", "rows"] (defScope s__law_others) := ⟨rfl, rfl, rfl, by decide +kernel, rfl, by decide +kernel, by decide +kernel⟩
abbrev s_law : Stmt := topS 29
theorem sc_law : FnScope ["script", "pen", "lap", "rows", "value", "kept", "turn", "numbers", "bound", "far", "more", "last", "some", "long", "m", "part", "place"] ["script"] (defScope s_law) := ⟨rfl, rfl, rfl, by decide +kernel, rfl, by decide +kernel, by decide +kernel⟩
abbrev s_InvalidResilience : Stmt := inClass (topS 1) 0
structure Txt (K : PySem.W.Frag) (mg : Str → Option Value) : Prop where
  n_all : mg "all" = none
  n_bool : mg "bool" = none
  n_enumerate : mg "enumerate" = none
  n_int : mg "int" = none
  n_isinstance : mg "isinstance" = none
  n_len : mg "len" = none
  n_list : mg "list" = none
  n_min : mg "min" = none
  n_range : mg "range" = none
  n_repr : mg "repr" = none
  n_tuple : mg "tuple" = none
  n_type : mg "type" = none
end K01

namespace K01
open PySem PySem.Spec PyProof.Rows HD
open L2 (kitB atI)


def wholeB (d : PyData) (a b : Int) : Bool := match d with | .int i => decide (a ≤ i) && decide (i ≤ b) | _ => false
def tupB (d : PyData) (a b : Int) : Bool := match d with | .tuple xs => decide (a ≤ xs.length) && decide ((xs.length : Int) ≤ b) | _ => false
def rowB (d : PyData) : Bool := match d with | .tuple [a, b, c, e] => wholeB a (-9) 9 && wholeB b (-9) 9 && wholeB c (-9) 9 && wholeB e 0 9 | _ => false
def lim3 (f : PyData → Int → Int → PyData) : List PyData → PyData := fun ds => match ds with | [d, .int a, .int b] => f d a b | _ => .none
def c_is_whole : DSp := pureC 3 (fun ds => ∃ d a b, ds = [d, .int a, .int b]) (lim3 fun d a b => .bool (wholeB d a b))
def c_is_tuple : DSp := pureC 3 (fun ds => ∃ d a b, ds = [d, .int a, .int b]) (lim3 fun d a b => .bool (tupB d a b))
def c__law_whole : DSp := c_is_whole
theorem call_whole {d : PyData} {a b : Int} {M : Mem} {E : Value → List (Str × PyData) → Mem → Prop} {Q : DK} (hq : ∀ M2, Sub M M2 → Q (.d (.bool (wholeB d a b))) M2) :
    c_is_whole.pre [.d d, .d (.int a), .d (.int b)] M ∧ (∀ x M2, c_is_whole.post [.d d, .d (.int a), .d (.int b)] M x M2 → Q x M2) ∧ (∀ cls fs M2, c_is_whole.err [.d d, .d (.int a), .d (.int b)] M cls fs M2 → E cls fs M2) :=
  pure_call (ds := [d, .int a, .int b]) rfl ⟨d, a, b, rfl⟩ hq
theorem call_tuple {d : PyData} {a b : Int} {M : Mem} {E : Value → List (Str × PyData) → Mem → Prop} {Q : DK} (hq : ∀ M2, Sub M M2 → Q (.d (.bool (tupB d a b))) M2) :
    c_is_tuple.pre [.d d, .d (.int a), .d (.int b)] M ∧ (∀ x M2, c_is_tuple.post [.d d, .d (.int a), .d (.int b)] M x M2 → Q x M2) ∧ (∀ cls fs M2, c_is_tuple.err [.d d, .d (.int a), .d (.int b)] M cls fs M2 → E cls fs M2) :=
  pure_call (ds := [d, .int a, .int b]) rfl ⟨d, a, b, rfl⟩ hq

def g_is_whole : DS :=
  (dSeq (dIfS (tOr2 (tVal (dIsi "bool" (dVar 0))) (tNot1 (tVal (dIsi "int" (dVar 0)))))
    (dRet (dC (.bool false)))
    dNext)
    (dRet (dAnd (dBin gLe (dVar 1) (dVar 0)) (dBin gLe (dVar 0) (dVar 2)))))
theorem len_is_whole : ∀ xs M, (c_is_whole).pre xs M → xs.length = 3 := pureC.len
theorem sp_is_whole : ∀ xs M, (c_is_whole).pre xs M → g_is_whole (ends c_is_whole xs M) (startD ["value", "least", "most"] xs) M := by
  rintro _ M ⟨_, rfl, _, d, a, b, rfl⟩
  cases d <;> simp only [g_is_whole, dSeq, dNext, dRet, dRetN, dIfS, dDrop, dAsg, dPar, dPut, dSet1, setT, setAll, dVar, dC, dBin, dUn, dFun, dNot, chain_eq, dTup, dLst, dLstM, and_eq, or_eq, dIf, tVal, tAnd2, tOr2, tNot1, dCall, dCons, dNil, gAdd, gAddM, gSub, gMod, gMul, gNeg, gLt, gLe, gGt, gGe, gInt, gInt0, gIx, dSl, oNo, oSome, gSl, gLen, gInt1, gList, gListM, seqOf, gTuple, gMin2, gMax2, gRepr, dIsi, dTyEq, dAppend, dRev, dDict0, dRaise, dTry, catching, inSuite, dFld, vw, allD, startD, ends, wipeD, lcTurn, noX, iTupD, iLst, iEnumD, tAll, dLc, dLcM, dFor, gEqC, gNeC, gBools, boolsOf, List.map_cons, List.map_nil, List.length_cons, List.length_nil, List.replicate, List.cons_append, List.nil_append, List.getElem?_cons_zero, List.getElem?_cons_succ, List.set_cons_zero, List.set_cons_succ, Option.map_some, Option.map_none, kit_int, kit_bool, kit_tuple, ty_tuple, Bool.not_true, Bool.not_false] <;> (try split) <;> first | (refine pure_end (ds := [_, .int a, .int b]) Sub.refl ?_; simp_all [lim3, wholeB, tupB] <;> omega) | (exfalso; simp_all; done)
def g_is_tuple : DS :=
  (dRet (dAnd (dTyEq "tuple" (dVar 0)) (dAnd (dBin gLe (dVar 1) (dFun gLen (dCons (dVar 0) dNil))) (dBin gLe (dFun gLen (dCons (dVar 0) dNil)) (dVar 2)))))
theorem len_is_tuple : ∀ xs M, (c_is_tuple).pre xs M → xs.length = 3 := pureC.len
theorem sp_is_tuple : ∀ xs M, (c_is_tuple).pre xs M → g_is_tuple (ends c_is_tuple xs M) (startD ["value", "least", "most"] xs) M := by
  rintro _ M ⟨_, rfl, _, d, a, b, rfl⟩
  cases d <;> simp only [g_is_tuple, dSeq, dNext, dRet, dRetN, dIfS, dDrop, dAsg, dPar, dPut, dSet1, setT, setAll, dVar, dC, dBin, dUn, dFun, dNot, chain_eq, dTup, dLst, dLstM, and_eq, or_eq, dIf, tVal, tAnd2, tOr2, tNot1, dCall, dCons, dNil, gAdd, gAddM, gSub, gMod, gMul, gNeg, gLt, gLe, gGt, gGe, gInt, gInt0, gIx, dSl, oNo, oSome, gSl, gLen, gInt1, gList, gListM, seqOf, gTuple, gMin2, gMax2, gRepr, dIsi, dTyEq, dAppend, dRev, dDict0, dRaise, dTry, catching, inSuite, dFld, vw, allD, startD, ends, wipeD, lcTurn, noX, iTupD, iLst, iEnumD, tAll, dLc, dLcM, dFor, gEqC, gNeC, gBools, boolsOf, List.map_cons, List.map_nil, List.length_cons, List.length_nil, List.replicate, List.cons_append, List.nil_append, List.getElem?_cons_zero, List.getElem?_cons_succ, List.set_cons_zero, List.set_cons_succ, Option.map_some, Option.map_none, kit_int, kit_bool, kit_tuple, ty_tuple, Bool.not_true, Bool.not_false] <;> (try split) <;> first | (refine pure_end (ds := [_, .int a, .int b]) Sub.refl ?_; simp_all [lim3, wholeB, tupB] <;> omega) | (exfalso; simp_all; done)
def g__law_whole : DS :=
  (dRet (dAnd (dIsi "int" (dVar 0)) (dAnd (dNot (dIsi "bool" (dVar 0))) (dChain gLe gLe (dVar 1) (dVar 0) (dVar 2)))))
theorem len__law_whole : ∀ xs M, (c__law_whole).pre xs M → xs.length = 3 := pureC.len
theorem sp__law_whole : ∀ xs M, (c__law_whole).pre xs M → g__law_whole (ends c__law_whole xs M) (startD ["value", "low", "high"] xs) M := by
  rintro _ M ⟨_, rfl, _, d, a, b, rfl⟩
  cases d <;> simp only [g__law_whole, dSeq, dNext, dRet, dRetN, dIfS, dDrop, dAsg, dPar, dPut, dSet1, setT, setAll, dVar, dC, dBin, dUn, dFun, dNot, chain_eq, dTup, dLst, dLstM, and_eq, or_eq, dIf, tVal, tAnd2, tOr2, tNot1, dCall, dCons, dNil, gAdd, gAddM, gSub, gMod, gMul, gNeg, gLt, gLe, gGt, gGe, gInt, gInt0, gIx, dSl, oNo, oSome, gSl, gLen, gInt1, gList, gListM, seqOf, gTuple, gMin2, gMax2, gRepr, dIsi, dTyEq, dAppend, dRev, dDict0, dRaise, dTry, catching, inSuite, dFld, vw, allD, startD, ends, wipeD, lcTurn, noX, iTupD, iLst, iEnumD, tAll, dLc, dLcM, dFor, gEqC, gNeC, gBools, boolsOf, List.map_cons, List.map_nil, List.length_cons, List.length_nil, List.replicate, List.cons_append, List.nil_append, List.getElem?_cons_zero, List.getElem?_cons_succ, List.set_cons_zero, List.set_cons_succ, Option.map_some, Option.map_none, kit_int, kit_bool, kit_tuple, ty_tuple, Bool.not_true, Bool.not_false] <;> (try split) <;> first | (refine pure_end (ds := [_, .int a, .int b]) Sub.refl ?_; simp_all [lim3, wholeB, tupB] <;> omega) | (exfalso; simp_all; done)
end K01

namespace K01
open PySem PySem.Spec PyProof.Rows HD
open L2 (kitB atI)


def one1 (f : PyData → PyData) : List PyData → PyData := fun ds => match ds with | [d] => f d | _ => .none
def c_is_resilience_row : DSp := pureC 1 (fun ds => ∃ d, ds = [d]) (one1 fun d => .bool (rowB d))
def c__law_is_row : DSp := c_is_resilience_row
theorem call_row {d : PyData} {M : Mem} {E : Value → List (Str × PyData) → Mem → Prop} {Q : DK} (hq : ∀ M2, Sub M M2 → Q (.d (.bool (rowB d))) M2) :
    c_is_resilience_row.pre [.d d] M ∧ (∀ x M2, c_is_resilience_row.post [.d d] M x M2 → Q x M2) ∧ (∀ cls fs M2, c_is_resilience_row.err [.d d] M cls fs M2 → E cls fs M2) :=
  pure_call (ds := [d]) rfl ⟨d, rfl⟩ hq
theorem rowB_of {d : PyData} (h : tupB d 4 4 = true) : ∃ a b c e, d = .tuple [a, b, c, e] := by
  cases d with
  | tuple xs =>
    simp only [tupB, Bool.and_eq_true, decide_eq_true_eq] at h
    have : xs.length = 4 := by omega
    match xs, this with
    | [a, b, c, e], _ => exact ⟨a, b, c, e, rfl⟩
  | _ => cases h
theorem rowB_no {d : PyData} (h : tupB d 4 4 = false) : rowB d = false := by
  unfold rowB
  split
  · simp [tupB] at h
  · rfl
theorem cut3 (a b c e : PyData) : HD.cutD [a, b, c, e] none (some 3) = [a, b, c] := rfl
theorem at3 (a b c e : PyData) : atI [a, b, c, e] 3 = some e := rfl

def g_is_resilience_row : DS :=
  (dSeq (dIfS (tNot1 (tVal (dCall c_is_tuple (dCons (dVar 0) (dCons (dC (.int 4)) (dCons (dC (.int 4)) dNil))))))
    (dRet (dC (.bool false)))
    dNext)
    (dRet (dAnd (dFun (gBools fun bs => bs.all id) (dCons (dLc (iTupD (dSl (dVar 0) oNo (oSome (dC (.int 3))))) [1] (.one 1) tAll (dCall c_is_whole (dCons (dVar 1) (dCons (dUn gNeg (dC (.int 9))) (dCons (dC (.int 9)) dNil))))) dNil)) (dCall c_is_whole (dCons (dBin gIx (dVar 0) (dC (.int 3))) (dCons (dC (.int 0)) (dCons (dC (.int 9)) dNil)))))))
theorem len_is_resilience_row : ∀ xs M, (c_is_resilience_row).pre xs M → xs.length = 1 := pureC.len
theorem sp_is_resilience_row : ∀ xs M, (c_is_resilience_row).pre xs M → g_is_resilience_row (ends c_is_resilience_row xs M) (startD ["value", "part"] xs) M := by
  rintro _ M ⟨_, rfl, _, d, rfl⟩
  simp only [g_is_resilience_row, dSeq, dNext, dRet, dRetN, dIfS, dDrop, dAsg, dPar, dPut, dSet1, setT, setAll, dVar, dC, dBin, dUn, dFun, dNot, chain_eq, dTup, dLst, dLstM, and_eq, or_eq, dIf, tVal, tAnd2, tOr2, tNot1, dCall, dCons, dNil, gAdd, gAddM, gSub, gMod, gMul, gNeg, gLt, gLe, gGt, gGe, gInt, gInt0, gIx, dSl, oNo, oSome, gSl, gLen, gInt1, gList, gListM, seqOf, gTuple, gMin2, gMax2, gRepr, dIsi, dTyEq, dAppend, dRev, dDict0, dRaise, dTry, catching, inSuite, dFld, vw, allD, startD, ends, wipeD, lcTurn, noX, iTupD, iLst, iEnumD, tAll, dLc, dLcM, dFor, gEqC, gNeC, gBools, boolsOf, List.map_cons, List.map_nil, List.length_cons, List.length_nil, List.replicate, List.cons_append, List.nil_append, List.getElem?_cons_zero, List.getElem?_cons_succ, List.set_cons_zero, List.set_cons_succ, Option.map_some, Option.map_none]
  refine call_tuple fun M2 s2 => ?_
  cases h : tupB d 4 4 with
  | false => exact pure_end (ds := [_]) s2 (by simp [one1, rowB_no h])
  | true =>
    obtain ⟨a, b, c, e, rfl⟩ := rowB_of h
    simp only [Bool.not_true, cut3, at3]
    refine lc_pure (step := fun x => match x with | .d d => some (.bool (wholeB d (-9) 9)) | _ => none) ?_ ?_ ?_
    · simp; decide
    · intro x hx M3 R hR
      obtain ⟨y, _, rfl⟩ := List.mem_map.mp hx
      simp only [dSeq, dNext, dRet, dRetN, dIfS, dDrop, dAsg, dPar, dPut, dSet1, setT, setAll, dVar, dC, dBin, dUn, dFun, dNot, chain_eq, dTup, dLst, dLstM, and_eq, or_eq, dIf, tVal, tAnd2, tOr2, tNot1, dCall, dCons, dNil, gAdd, gAddM, gSub, gMod, gMul, gNeg, gLt, gLe, gGt, gGe, gInt, gInt0, gIx, dSl, oNo, oSome, gSl, gLen, gInt1, gList, gListM, seqOf, gTuple, gMin2, gMax2, gRepr, dIsi, dTyEq, dAppend, dRev, dDict0, dRaise, dTry, catching, inSuite, dFld, vw, allD, startD, ends, wipeD, lcTurn, noX, iTupD, iLst, iEnumD, tAll, dLc, dLcM, dFor, gEqC, gNeC, gBools, boolsOf, List.map_cons, List.map_nil, List.length_cons, List.length_nil, List.replicate, List.cons_append, List.nil_append, List.getElem?_cons_zero, List.getElem?_cons_succ, List.set_cons_zero, List.set_cons_succ, Option.map_some, Option.map_none]
      exact call_whole fun M4 s4 => hR M4 s4
    · intro p M3 h3 s3
      simp only [h3]
      simp only [List.map_cons, List.map_nil, List.filterMap_cons, List.filterMap_nil, boolsOf, Option.map_some]
      cases q : [wholeB a (-9) 9, wholeB b (-9) 9, wholeB c (-9) 9].all id with
      | false =>
        refine pure_end (ds := [_]) (s2.trans s3) ?_
        simp only [List.all_cons, List.all_nil, Bool.and_true, id] at q
        simp only [one1, rowB, ← Bool.and_assoc] at q ⊢
        rw [q]; rfl
      | true =>
        refine call_whole fun M4 s4 => ?_
        refine pure_end (ds := [_]) (s2.trans (s3.trans s4)) ?_
        simp only [List.all_cons, List.all_nil, Bool.and_true, id] at q
        simp only [one1, rowB, ← Bool.and_assoc] at q ⊢
        rw [q]; rfl

def g__law_is_row : DS :=
  (dSeq (dIfS (tOr2 (tNot1 (tVal (dIsi "tuple" (dVar 0)))) (tOr2 (tVal (dBin gNeC (dFun gLen (dCons (dVar 0) dNil)) (dC (.int 4)))) (tNot1 (tVal (dCall c__law_whole (dCons (dBin gIx (dVar 0) (dC (.int 3))) (dCons (dC (.int 0)) (dCons (dC (.int 9)) dNil))))))))
    (dRet (dC (.bool false)))
    dNext)
    (dRet (dBin gEqC (dLc (iTupD (dSl (dVar 0) oNo (oSome (dC (.int 3))))) [1] (.one 1) (tNot1 (tVal (dCall c__law_whole (dCons (dVar 1) (dCons (dUn gNeg (dC (.int 9))) (dCons (dC (.int 9)) dNil)))))) (dC (.int 1))) (dLst dNil))))
theorem len__law_is_row : ∀ xs M, (c__law_is_row).pre xs M → xs.length = 1 := pureC.len
theorem lawrow_no {d : PyData} (h : ∀ a b c e, d ≠ .tuple [a, b, c, e]) : rowB d = false := by
  unfold rowB
  split
  · rename_i a b c e; exact absurd rfl (h a b c e)
  · rfl
theorem four {xs : List PyData} (h : xs.length = 4) : ∃ a b c e, xs = [a, b, c, e] := by
  match xs, h with
  | [a, b, c, e], _ => exact ⟨a, b, c, e, rfl⟩
theorem sp__law_is_row : ∀ xs M, (c__law_is_row).pre xs M → g__law_is_row (ends c__law_is_row xs M) (startD ["value", "part"] xs) M := by
  rintro _ M ⟨_, rfl, _, d, rfl⟩
  cases d with
  | tuple xs =>
    simp only [g__law_is_row, dSeq, dNext, dRet, dRetN, dIfS, dDrop, dAsg, dPar, dPut, dSet1, setT, setAll, dVar, dC, dBin, dUn, dFun, dNot, chain_eq, dTup, dLst, dLstM, and_eq, or_eq, dIf, tVal, tAnd2, tOr2, tNot1, dCall, dCons, dNil, gAdd, gAddM, gSub, gMod, gMul, gNeg, gLt, gLe, gGt, gGe, gInt, gInt0, gIx, dSl, oNo, oSome, gSl, gLen, gInt1, gList, gListM, seqOf, gTuple, gMin2, gMax2, gRepr, dIsi, dTyEq, dAppend, dRev, dDict0, dRaise, dTry, catching, inSuite, dFld, vw, allD, startD, ends, wipeD, lcTurn, noX, iTupD, iLst, iEnumD, tAll, dLc, dLcM, dFor, gEqC, gNeC, gBools, boolsOf, List.map_cons, List.map_nil, List.length_cons, List.length_nil, List.replicate, List.cons_append, List.nil_append, List.getElem?_cons_zero, List.getElem?_cons_succ, List.set_cons_zero, List.set_cons_succ, Option.map_some, Option.map_none, kit_tuple, PyData.eqv, Bool.not_true]
    have hc : Cmp (.int xs.length) ∧ noDict (.int 4) = true := ⟨⟨rfl, by simp [PyData.depth]⟩, rfl⟩
    refine ⟨hc, ?_⟩
    cases hl : (!decide ((xs.length : Int) = 4)) with
    | true =>
      refine pure_end (ds := [_]) Sub.refl ?_
      simp only [one1]
      rw [lawrow_no]
      rintro a b c e q
      cases q
      simp at hl
    | false =>
      obtain ⟨a, b, c, e, rfl⟩ := four (xs := xs) (by simp at hl; omega)
      simp only [at3, cut3]
      refine call_whole fun M2 s2 => ?_
      cases q3 : wholeB e 0 9 with
      | false => exact pure_end (ds := [_]) s2 (by simp [one1, rowB, q3])
      | true =>
        simp only [Bool.not_true]
        refine lc_pure (step := fun x => match x with | .d d => if wholeB d (-9) 9 then none else some (.int 1) | _ => none) ?_ ?_ ?_
        · simp; decide
        · intro x hx M3 R hR
          obtain ⟨y, _, rfl⟩ := List.mem_map.mp hx
          simp only [dSeq, dNext, dRet, dRetN, dIfS, dDrop, dAsg, dPar, dPut, dSet1, setT, setAll, dVar, dC, dBin, dUn, dFun, dNot, chain_eq, dTup, dLst, dLstM, and_eq, or_eq, dIf, tVal, tAnd2, tOr2, tNot1, dCall, dCons, dNil, gAdd, gAddM, gSub, gMod, gMul, gNeg, gLt, gLe, gGt, gGe, gInt, gInt0, gIx, dSl, oNo, oSome, gSl, gLen, gInt1, gList, gListM, seqOf, gTuple, gMin2, gMax2, gRepr, dIsi, dTyEq, dAppend, dRev, dDict0, dRaise, dTry, catching, inSuite, dFld, vw, allD, startD, ends, wipeD, lcTurn, noX, iTupD, iLst, iEnumD, tAll, dLc, dLcM, dFor, gEqC, gNeC, gBools, boolsOf, List.map_cons, List.map_nil, List.length_cons, List.length_nil, List.replicate, List.cons_append, List.nil_append, List.getElem?_cons_zero, List.getElem?_cons_succ, List.set_cons_zero, List.set_cons_succ, Option.map_some, Option.map_none]
          refine call_whole fun M4 s4 => ?_
          have := hR M4 s4
          cases q4 : wholeB y (-9) 9 <;> simpa [q4] using this
        · intro p M3 h3 s3
          simp only [h3]
          refine ⟨Nat.zero_le _, pure_end (ds := [_]) (s2.trans s3) ?_⟩
          cases qa : wholeB a (-9) 9 <;> cases qb : wholeB b (-9) 9 <;> cases qc : wholeB c (-9) 9 <;> simp [one1, rowB, q3, qa, qb, qc]
  | _ =>
    simp only [g__law_is_row, dSeq, dNext, dRet, dRetN, dIfS, dDrop, dAsg, dPar, dPut, dSet1, setT, setAll, dVar, dC, dBin, dUn, dFun, dNot, chain_eq, dTup, dLst, dLstM, and_eq, or_eq, dIf, tVal, tAnd2, tOr2, tNot1, dCall, dCons, dNil, gAdd, gAddM, gSub, gMod, gMul, gNeg, gLt, gLe, gGt, gGe, gInt, gInt0, gIx, dSl, oNo, oSome, gSl, gLen, gInt1, gList, gListM, seqOf, gTuple, gMin2, gMax2, gRepr, dIsi, dTyEq, dAppend, dRev, dDict0, dRaise, dTry, catching, inSuite, dFld, vw, allD, startD, ends, wipeD, lcTurn, noX, iTupD, iLst, iEnumD, tAll, dLc, dLcM, dFor, gEqC, gNeC, gBools, boolsOf, List.map_cons, List.map_nil, List.length_cons, List.length_nil, List.replicate, List.cons_append, List.nil_append, List.getElem?_cons_zero, List.getElem?_cons_succ, List.set_cons_zero, List.set_cons_succ, Option.map_some, Option.map_none, kit_tuple, Bool.not_false]
    exact pure_end (ds := [_]) Sub.refl rfl

end K01

namespace K01
open PySem PySem.Spec PyProof.Rows HD
open L2 (kitB atI)


def en : Nat → List PyData → List DV
  | _, [] => []
  | k, d :: ds => .d (.tuple [.int (k : Nat), d]) :: en (k + 1) ds
theorem en_of : ∀ (k : Nat) (ds : List PyData), en k ds = (List.range ds.length).map fun i => .d (.tuple [.int ((k + i : Nat) : Int), ds.getD i .none])
  | _, [] => rfl
  | k, d :: ds => by
    rw [en, en_of (k + 1) ds]
    simp only [List.length_cons, List.range_succ_eq_map, List.map_cons, List.map_map]
    congr 1
    apply List.map_congr_left
    intro i _
    simp only [Function.comp, List.getD_cons_succ, Nat.succ_eq_add_one]
    congr 5
    omega
theorem enumD_en (ds : List PyData) : enumD ds = en 0 ds := by
  rw [en_of]; unfold enumD
  apply List.map_congr_left
  intro i _
  simp
theorem en_length : ∀ (k : Nat) (ds : List PyData), (en k ds).length = ds.length
  | _, [] => rfl
  | k, d :: ds => by simp [en, en_length]
def bad : Nat → List PyData → Option Nat
  | _, [] => none
  | k, d :: ds => if rowB d then bad (k + 1) ds else some k
def fault (d : PyData) : Option PyData := match d with
  | .tuple xs => if tupB (.tuple xs) 1 5 then (bad 0 xs).map (fun k => .int (k : Nat)) else some .none
  | _ => some .none
def toldD (d : PyData) : PyData := match fault d with
  | some i => .tuple [.str "index", i]
  | none => .tuple [.str "told", .str d.shown]
theorem fault_no {d : PyData} (h : tupB d 1 5 = false) : fault d = some .none := by
  unfold fault
  split
  · rw [h]; rfl
  · rfl
def c_require_resilience (e : Addr) : DSp where
  pre := fun xs _ => ∃ d, xs = [.d d]
  post := fun xs M x M' => Sub M M' ∧ ∀ d, xs = [.d d] → fault d = none ∧ x = .d d
  err := fun xs M cls fs M' => Sub M M' ∧ ∀ d, xs = [.d d] → cls = .ref e ∧ ∃ i, fault d = some i ∧ fs = [(("index" : Str), i)]
def c__law_told : DSp := pureC 1 (fun ds => ∃ d, ds = [d] ∧ Shows d) (one1 toldD)
def c__law_due : DSp := c__law_told
theorem tup_of {d : PyData} (h : tupB d 1 5 = true) : ∃ xs, d = .tuple xs := by
  cases d with
  | tuple xs => exact ⟨xs, rfl⟩
  | _ => cases h

def g_require_resilience (e_InvalidResilience : Addr) : DS :=
  (dSeq (dIfS (tNot1 (tVal (dCall c_is_tuple (dCons (dVar 0) (dCons (dC (.int 1)) (dCons (dC (.int 5)) dNil))))))
    (dRaise e_InvalidResilience "index" (dC .none))
    dNext)
    (dSeq (dFor (iEnumD (dCons (dVar 0) dNil)) (.many [1, 2])
    (dIfS (tNot1 (tVal (dCall c_is_resilience_row (dCons (dVar 2) dNil))))
    (dRaise e_InvalidResilience "index" (dVar 1))
    dNext))
    (dRet (dVar 0))))
theorem len_require_resilience {e_InvalidResilience : Addr} : ∀ xs M, ((c_require_resilience e_InvalidResilience)).pre xs M → xs.length = 1 := by
  rintro _ M ⟨d, rfl⟩; rfl
theorem sp_require_resilience (e_InvalidResilience : Addr) : ∀ xs M, ((c_require_resilience e_InvalidResilience)).pre xs M → g_require_resilience e_InvalidResilience (ends (c_require_resilience e_InvalidResilience) xs M) (startD ["value", "index", "row"] xs) M := by
  rintro _ M ⟨d, rfl⟩
  simp only [g_require_resilience, dSeq, dNext, dRet, dRetN, dIfS, dDrop, dAsg, dPar, dPut, dSet1, setT, setAll, dVar, dC, dBin, dUn, dFun, dNot, chain_eq, dTup, dLst, dLstM, and_eq, or_eq, dIf, tVal, tAnd2, tOr2, tNot1, dCall, dCons, dNil, gAdd, gAddM, gSub, gMod, gMul, gNeg, gLt, gLe, gGt, gGe, gInt, gInt0, gIx, dSl, oNo, oSome, gSl, gLen, gInt1, gList, gListM, seqOf, gTuple, gMin2, gMax2, gRepr, dIsi, dTyEq, dAppend, dRev, dDict0, dRaise, dTry, catching, inSuite, dFld, vw, allD, startD, ends, wipeD, lcTurn, noX, iTupD, iLst, iEnumD, tAll, dLc, dLcM, dFor, gEqC, gNeC, gBools, boolsOf, List.map_cons, List.map_nil, List.length_cons, List.length_nil, List.replicate, List.cons_append, List.nil_append, List.getElem?_cons_zero, List.getElem?_cons_succ, List.set_cons_zero, List.set_cons_succ, Option.map_some, Option.map_none]
  refine call_tuple fun M2 s2 => ?_
  cases h : tupB d 1 5 with
  | false =>
    simp only [Bool.not_false]
    exact ⟨s2, fun d' q => by cases q; exact ⟨rfl, _, fault_no h, rfl⟩⟩
  | true =>
    obtain ⟨xs, rfl⟩ := tup_of h
    simp only [Bool.not_true, enumD_en]
    refine forD_run (fun r ρ M1 => ∃ k rest y1 y2, r = en k rest ∧ bad 0 xs = bad k rest ∧ ρ = [some (.d (.tuple xs)), y1, y2] ∧ Sub M M1) (fun _ _ _ _ => trivial) ?_ ?_ _ _ _ ⟨0, xs, _, _, rfl, rfl, rfl, s2⟩
    · rintro x r ρ M1 nx ⟨k, rest, y1, y2, e, hb, rfl, s3⟩ hn
      cases rest with
      | nil => cases e
      | cons y rest =>
        simp only [en, List.cons.injEq] at e
        obtain ⟨rfl, rfl⟩ := e
        simp only [dSeq, dNext, dRet, dRetN, dIfS, dDrop, dAsg, dPar, dPut, dSet1, setT, setAll, dVar, dC, dBin, dUn, dFun, dNot, chain_eq, dTup, dLst, dLstM, and_eq, or_eq, dIf, tVal, tAnd2, tOr2, tNot1, dCall, dCons, dNil, gAdd, gAddM, gSub, gMod, gMul, gNeg, gLt, gLe, gGt, gGe, gInt, gInt0, gIx, dSl, oNo, oSome, gSl, gLen, gInt1, gList, gListM, seqOf, gTuple, gMin2, gMax2, gRepr, dIsi, dTyEq, dAppend, dRev, dDict0, dRaise, dTry, catching, inSuite, dFld, vw, allD, startD, ends, wipeD, lcTurn, noX, iTupD, iLst, iEnumD, tAll, dLc, dLcM, dFor, gEqC, gNeC, gBools, boolsOf, List.map_cons, List.map_nil, List.length_cons, List.length_nil, List.replicate, List.cons_append, List.nil_append, List.getElem?_cons_zero, List.getElem?_cons_succ, List.set_cons_zero, List.set_cons_succ, Option.map_some, Option.map_none]
        refine call_row fun M4 s4 => ?_
        cases q : rowB y with
        | true =>
          simp only [Bool.not_true]
          exact hn _ _ ⟨k + 1, rest, _, _, rfl, by rw [hb, bad, q]; rfl, rfl, s3.trans s4⟩
        | false =>
          simp only [Bool.not_false]
          exact ⟨s3.trans s4, fun d' z => by cases z; exact ⟨rfl, _, by simp only [fault, h, hb, bad, q]; rfl, rfl⟩⟩
    · rintro ρ M1 ⟨k, rest, y1, y2, e, hb, rfl, s3⟩
      cases rest with
      | cons y rest => cases e
      | nil =>
        simp only [dSeq, dNext, dRet, dRetN, dIfS, dDrop, dAsg, dPar, dPut, dSet1, setT, setAll, dVar, dC, dBin, dUn, dFun, dNot, chain_eq, dTup, dLst, dLstM, and_eq, or_eq, dIf, tVal, tAnd2, tOr2, tNot1, dCall, dCons, dNil, gAdd, gAddM, gSub, gMod, gMul, gNeg, gLt, gLe, gGt, gGe, gInt, gInt0, gIx, dSl, oNo, oSome, gSl, gLen, gInt1, gList, gListM, seqOf, gTuple, gMin2, gMax2, gRepr, dIsi, dTyEq, dAppend, dRev, dDict0, dRaise, dTry, catching, inSuite, dFld, vw, allD, startD, ends, wipeD, lcTurn, noX, iTupD, iLst, iEnumD, tAll, dLc, dLcM, dFor, gEqC, gNeC, gBools, boolsOf, List.map_cons, List.map_nil, List.length_cons, List.length_nil, List.replicate, List.cons_append, List.nil_append, List.getElem?_cons_zero, List.getElem?_cons_succ, List.set_cons_zero, List.set_cons_succ, Option.map_some, Option.map_none]
        exact ⟨s3, fun d' z => by cases z; exact ⟨by simp only [fault, h, hb, bad]; rfl, rfl⟩⟩

def g__law_told (e_InvalidResilience : Addr) : DS :=
  (dSeq (dTry (dAsg (dCall (c_require_resilience e_InvalidResilience) (dCons (dVar 0) dNil)) (.one 1)) e_InvalidResilience 2 (fun a cls d => (dRet (dTup (dCons (dC (.str "index")) (dCons (dFld a cls d e_InvalidResilience "index" (dVar 2)) dNil))))))
    (dRet (dTup (dCons (dC (.str "told")) (dCons (dFun gRepr (dCons (dVar 1) dNil)) dNil)))))
theorem len__law_told : ∀ xs M, (c__law_told).pre xs M → xs.length = 1 := pureC.len
theorem sp__law_told (e_InvalidResilience : Addr) : ∀ xs M, (c__law_told).pre xs M → g__law_told e_InvalidResilience (ends c__law_told xs M) (startD ["value", "found", "e"] xs) M := by
  rintro _ M ⟨_, rfl, _, d, rfl, hs⟩
  simp only [g__law_told, dSeq, dNext, dRet, dRetN, dIfS, dDrop, dAsg, dPar, dPut, dSet1, setT, setAll, dVar, dC, dBin, dUn, dFun, dNot, chain_eq, dTup, dLst, dLstM, and_eq, or_eq, dIf, tVal, tAnd2, tOr2, tNot1, dCall, dCons, dNil, gAdd, gAddM, gSub, gMod, gMul, gNeg, gLt, gLe, gGt, gGe, gInt, gInt0, gIx, dSl, oNo, oSome, gSl, gLen, gInt1, gList, gListM, seqOf, gTuple, gMin2, gMax2, gRepr, dIsi, dTyEq, dAppend, dRev, dDict0, dRaise, dTry, catching, inSuite, dFld, vw, allD, startD, ends, wipeD, lcTurn, noX, iTupD, iLst, iEnumD, tAll, dLc, dLcM, dFor, gEqC, gNeC, gBools, boolsOf, List.map_cons, List.map_nil, List.length_cons, List.length_nil, List.replicate, List.cons_append, List.nil_append, List.getElem?_cons_zero, List.getElem?_cons_succ, List.set_cons_zero, List.set_cons_succ, Option.map_some, Option.map_none]
  refine ⟨⟨d, rfl⟩, ?_, ?_⟩
  · rintro x M2 ⟨s2, h⟩
    obtain ⟨hf, rfl⟩ := h d rfl
    simp only [dSeq, dNext, dRet, dRetN, dIfS, dDrop, dAsg, dPar, dPut, dSet1, setT, setAll, dVar, dC, dBin, dUn, dFun, dNot, chain_eq, dTup, dLst, dLstM, and_eq, or_eq, dIf, tVal, tAnd2, tOr2, tNot1, dCall, dCons, dNil, gAdd, gAddM, gSub, gMod, gMul, gNeg, gLt, gLe, gGt, gGe, gInt, gInt0, gIx, dSl, oNo, oSome, gSl, gLen, gInt1, gList, gListM, seqOf, gTuple, gMin2, gMax2, gRepr, dIsi, dTyEq, dAppend, dRev, dDict0, dRaise, dTry, catching, inSuite, dFld, vw, allD, startD, ends, wipeD, lcTurn, noX, iTupD, iLst, iEnumD, tAll, dLc, dLcM, dFor, gEqC, gNeC, gBools, boolsOf, List.map_cons, List.map_nil, List.length_cons, List.length_nil, List.replicate, List.cons_append, List.nil_append, List.getElem?_cons_zero, List.getElem?_cons_succ, List.set_cons_zero, List.set_cons_succ, Option.map_some, Option.map_none]
    exact ⟨hs, by decide, pure_end (ds := [d]) s2 (by simp only [one1, toldD, hf])⟩
  · rintro cls fs M2 ⟨s2, h⟩
    obtain ⟨rfl, i, hf, rfl⟩ := h d rfl
    refine ⟨rfl, fun a dd => ?_⟩
    simp only [dSeq, dNext, dRet, dRetN, dIfS, dDrop, dAsg, dPar, dPut, dSet1, setT, setAll, dVar, dC, dBin, dUn, dFun, dNot, chain_eq, dTup, dLst, dLstM, and_eq, or_eq, dIf, tVal, tAnd2, tOr2, tNot1, dCall, dCons, dNil, gAdd, gAddM, gSub, gMod, gMul, gNeg, gLt, gLe, gGt, gGe, gInt, gInt0, gIx, dSl, oNo, oSome, gSl, gLen, gInt1, gList, gListM, seqOf, gTuple, gMin2, gMax2, gRepr, dIsi, dTyEq, dAppend, dRev, dDict0, dRaise, dTry, catching, inSuite, dFld, vw, allD, startD, ends, wipeD, lcTurn, noX, iTupD, iLst, iEnumD, tAll, dLc, dLcM, dFor, gEqC, gNeC, gBools, boolsOf, List.map_cons, List.map_nil, List.length_cons, List.length_nil, List.replicate, List.cons_append, List.nil_append, List.getElem?_cons_zero, List.getElem?_cons_succ, List.set_cons_zero, List.set_cons_succ, Option.map_some, Option.map_none]
    refine ⟨by simp, by simp, by decide, pure_end (ds := [d]) s2 (by simp only [one1, toldD, hf])⟩

def g__law_due : DS :=
  (dSeq (dIfS (tOr2 (tNot1 (tVal (dIsi "tuple" (dVar 0)))) (tNot1 (tVal (dChain gLe gLe (dC (.int 1)) (dFun gLen (dCons (dVar 0) dNil)) (dC (.int 5))))))
    (dRet (dTup (dCons (dC (.str "index")) (dCons (dC .none) dNil))))
    dNext)
    (dSeq (dSet1 (dLc (iEnumD (dCons (dVar 0) dNil)) [2, 3] (.many [2, 3]) (tNot1 (tVal (dCall c__law_is_row (dCons (dVar 3) dNil)))) (dVar 2)) 1)
    (dRet (dIf (tVal (dBin gNeC (dVar 1) (dLst dNil))) (dTup (dCons (dC (.str "index")) (dCons (dBin gIx (dVar 1) (dC (.int 0))) dNil))) (dTup (dCons (dC (.str "told")) (dCons (dFun gRepr (dCons (dVar 0) dNil)) dNil)))))))
theorem len__law_due : ∀ xs M, (c__law_due).pre xs M → xs.length = 1 := pureC.len

theorem at0 (d : PyData) (r : List PyData) : atI (d :: r) 0 = some d := by simp [atI, L2.ixN]
theorem bad_flt : ∀ (k : Nat) (ds : List PyData) (step : DV → Option PyData), (∀ i d, step (.d (.tuple [.int i, d])) = if rowB d then none else some (.int i)) →
    (bad k ds = none ∧ (en k ds).filterMap step = []) ∨ ∃ j r, bad k ds = some j ∧ (en k ds).filterMap step = .int (j : Nat) :: r
  | _, [], _, _ => .inl ⟨rfl, rfl⟩
  | k, d :: ds, step, h => by
    cases q : rowB d with
    | true =>
      simp only [bad, q, en, List.filterMap_cons, h, if_true]
      exact bad_flt (k + 1) ds step h
    | false =>
      refine .inr ⟨k, (en (k + 1) ds).filterMap step, ?_, ?_⟩
      · simp [bad, q]
      · simp [en, h, q]

theorem sp__law_due : ∀ xs M, (c__law_due).pre xs M → g__law_due (ends c__law_due xs M) (startD ["value", "bad", "at", "row"] xs) M := by
  rintro _ M ⟨_, rfl, _, d, rfl, hs⟩
  cases d with
  | tuple xs =>
    simp only [g__law_due, dSeq, dNext, dRet, dRetN, dIfS, dDrop, dAsg, dPar, dPut, dSet1, setT, setAll, dVar, dC, dBin, dUn, dFun, dNot, chain_eq, dTup, dLst, dLstM, and_eq, or_eq, dIf, tVal, tAnd2, tOr2, tNot1, dCall, dCons, dNil, gAdd, gAddM, gSub, gMod, gMul, gNeg, gLt, gLe, gGt, gGe, gInt, gInt0, gIx, dSl, oNo, oSome, gSl, gLen, gInt1, gList, gListM, seqOf, gTuple, gMin2, gMax2, gRepr, dIsi, dTyEq, dAppend, dRev, dDict0, dRaise, dTry, catching, inSuite, dFld, vw, allD, startD, ends, wipeD, lcTurn, noX, iTupD, iLst, iEnumD, tAll, dLc, dLcM, dFor, gEqC, gNeC, gBools, boolsOf, List.map_cons, List.map_nil, List.length_cons, List.length_nil, List.replicate, List.cons_append, List.nil_append, List.getElem?_cons_zero, List.getElem?_cons_succ, List.set_cons_zero, List.set_cons_succ, Option.map_some, Option.map_none, kit_tuple, Bool.not_true]
    cases h1 : decide ((1 : Int) ≤ xs.length) with
    | false =>
      simp only [Bool.not_false]
      exact ⟨by decide, pure_end (ds := [_]) Sub.refl (by simp [one1, toldD, fault, tupB, h1])⟩
    | true =>
      cases h2 : decide ((xs.length : Int) ≤ 5) with
      | false =>
        simp only [Bool.not_false]
        exact ⟨by decide, pure_end (ds := [_]) Sub.refl (by simp [one1, toldD, fault, tupB, h2])⟩
      | true =>
        simp only [Bool.not_true, enumD_en]
        have ht : tupB (.tuple xs) 1 5 = true := by simp only [tupB, h1, h2]; rfl
        refine lc_pure (step := fun x => match x with | .d (.tuple [.int i, d]) => if rowB d then none else some (.int i) | _ => none) ?_ ?_ ?_
        · rw [en_length]; simp at h2; exact Nat.le_trans (by omega : xs.length ≤ 5) (by decide)
        · intro x hx M3 R hR
          rw [en_of] at hx
          obtain ⟨i, _, rfl⟩ := List.mem_map.mp hx
          simp only [dSeq, dNext, dRet, dRetN, dIfS, dDrop, dAsg, dPar, dPut, dSet1, setT, setAll, dVar, dC, dBin, dUn, dFun, dNot, chain_eq, dTup, dLst, dLstM, and_eq, or_eq, dIf, tVal, tAnd2, tOr2, tNot1, dCall, dCons, dNil, gAdd, gAddM, gSub, gMod, gMul, gNeg, gLt, gLe, gGt, gGe, gInt, gInt0, gIx, dSl, oNo, oSome, gSl, gLen, gInt1, gList, gListM, seqOf, gTuple, gMin2, gMax2, gRepr, dIsi, dTyEq, dAppend, dRev, dDict0, dRaise, dTry, catching, inSuite, dFld, vw, allD, startD, ends, wipeD, lcTurn, noX, iTupD, iLst, iEnumD, tAll, dLc, dLcM, dFor, gEqC, gNeC, gBools, boolsOf, List.map_cons, List.map_nil, List.length_cons, List.length_nil, List.replicate, List.cons_append, List.nil_append, List.getElem?_cons_zero, List.getElem?_cons_succ, List.set_cons_zero, List.set_cons_succ, Option.map_some, Option.map_none]
          refine call_row fun M4 s4 => ?_
          have := hR M4 s4
          cases q4 : rowB (xs.getD i .none) <;> simp only [q4, Bool.not_true, Bool.not_false, if_true, if_false] at this ⊢ <;> exact this
        · intro p M3 h3 s3
          simp only [h3]
          rcases bad_flt 0 xs (fun x => match x with | .d (.tuple [.int i, d]) => if rowB d then none else some (.int i) | _ => none) (fun i d => rfl) with ⟨e1, e2⟩ | ⟨j, r, e1, e2⟩
          · simp only [e2]
            refine ⟨Nat.zero_le _, hs, by decide, pure_end (ds := [_]) s3 ?_⟩
            simp only [one1, toldD, fault, ht, e1]; rfl
          · simp only [e2]
            refine ⟨Nat.zero_le _, ?_⟩
            rw [at0]
            exact ⟨by decide, pure_end (ds := [_]) s3 (by simp only [one1, toldD, fault, ht, e1]; rfl)⟩
  | _ =>
    simp only [g__law_due, dSeq, dNext, dRet, dRetN, dIfS, dDrop, dAsg, dPar, dPut, dSet1, setT, setAll, dVar, dC, dBin, dUn, dFun, dNot, chain_eq, dTup, dLst, dLstM, and_eq, or_eq, dIf, tVal, tAnd2, tOr2, tNot1, dCall, dCons, dNil, gAdd, gAddM, gSub, gMod, gMul, gNeg, gLt, gLe, gGt, gGe, gInt, gInt0, gIx, dSl, oNo, oSome, gSl, gLen, gInt1, gList, gListM, seqOf, gTuple, gMin2, gMax2, gRepr, dIsi, dTyEq, dAppend, dRev, dDict0, dRaise, dTry, catching, inSuite, dFld, vw, allD, startD, ends, wipeD, lcTurn, noX, iTupD, iLst, iEnumD, tAll, dLc, dLcM, dFor, gEqC, gNeC, gBools, boolsOf, List.map_cons, List.map_nil, List.length_cons, List.length_nil, List.replicate, List.cons_append, List.nil_append, List.getElem?_cons_zero, List.getElem?_cons_succ, List.set_cons_zero, List.set_cons_succ, Option.map_some, Option.map_none, kit_tuple, Bool.not_false]
    exact ⟨by decide, pure_end (ds := [_]) Sub.refl rfl⟩

end K01

namespace K01
open PySem PySem.Spec PyProof.Rows HD
open L2 (kitB atI)


def Sm (i : Int) : Prop := -100 ≤ i ∧ i ≤ 100
theorem Sm.mul {i j : Int} (h : Sm i) : L2.CMul i j ∨ L2.CMulW i j := .inl (.inl ⟨by unfold Sm at h; omega, by unfold Sm at h; omega⟩)
def valD : List PyData → PyData := fun ds => match ds with
  | [.tuple [.int a, .int b, .int c], .tuple [.int n, .int t, .int _]] => .int (a * n + b * t + c)
  | _ => .none
def c_bound_value : DSp := pureC 2 (fun ds => ∃ a b c n t f, ds = [.tuple [.int a, .int b, .int c], .tuple [.int n, .int t, .int f]] ∧ Sm a ∧ Sm b) valD
def c__law_value : DSp := c_bound_value
def RowOk (r : PyData) : Prop := ∃ p q s c, r = .tuple [.int p, .int q, .int s, .int c] ∧ Sm p ∧ Sm q ∧ Sm s ∧ Sm c
def fitD (n t f : Int) (r : PyData) : Bool := match r with
  | .tuple [.int p, .int q, .int s, .int c] => decide (c ≤ p * n + q * t + s * f)
  | _ => false
def fitsD : List PyData → PyData := fun ds => match ds with
  | [.tuple rs, .tuple [.int n, .int t, .int f]] => .bool (decide (f ≤ n) && rs.all (fitD n t f))
  | _ => .none
def c_fits : DSp := pureC 2 (fun ds => ∃ rs n t f, ds = [.tuple rs, .tuple [.int n, .int t, .int f]] ∧ (∀ r ∈ rs, RowOk r) ∧ rs.length ≤ 1000) fitsD
def c__law_fits : DSp := c_fits
def withD : List PyData → PyData := fun ds => match ds with
  | [.tuple rs, .int m] => .tuple (rs ++ [.tuple [.int 1, .int (-m), .int 0, .int 1]])
  | _ => .none
def c_with_factor : DSp := pureC 2 (fun ds => ∃ rs m, ds = [.tuple rs, .int m] ∧ rs.length ≤ 1000) withD
def atD : List PyData → PyData := fun ds => match ds with
  | [.tuple rows, .int k, x] => .tuple (rows.take k.toNat ++ [x] ++ rows.drop (k.toNat + 1))
  | _ => .none
def c__law_at : DSp := pureC 3 (fun ds => ∃ (rows : List PyData) (k : Nat) (x : PyData), ds = [.tuple rows, .int k, x] ∧ k < rows.length ∧ rows.length ≤ 1000) atD
theorem line1 {n : Nat} (h : n ≤ 100000) : n ≤ sizeLine := Nat.le_trans h (by decide)
theorem at_0 (a b c : PyData) : atI [a, b, c] 0 = some a := rfl
theorem at_1 (a b c : PyData) : atI [a, b, c] 1 = some b := rfl
theorem at_2 (a b c : PyData) : atI [a, b, c] 2 = some c := rfl
theorem cut_to (ds : List PyData) (k : Nat) (h : k ≤ ds.length) : HD.cutD ds none (some (k : Int)) = ds.take k := by
  unfold HD.cutD
  rw [HT.sIx_nat, HT.sIx_none, List.drop_zero, Nat.min_eq_left h, Nat.sub_zero]
theorem cut_from (ds : List PyData) (k : Nat) (h : k ≤ ds.length) : HD.cutD ds (some (k : Int)) none = ds.drop k := by
  unfold HD.cutD
  rw [HT.sIx_nat, HT.sIx_none, Nat.min_eq_left h, List.take_of_length_le (by rw [List.length_drop]; omega)]
theorem bools_map {α : Type} (g : α → Bool) : ∀ rs : List α, boolsOf (rs.map fun r => .bool (g r)) = some (rs.map g)
  | [] => rfl
  | r :: rs => by simp only [List.map_cons, boolsOf, bools_map g rs, Option.map_some]
theorem flt_d (g : PyData → PyData) : ∀ rs : List PyData, (rs.map DV.d).filterMap (fun x => match x with | .d r => some (g r) | _ => none) = rs.map g
  | [] => rfl
  | r :: rs => by simp only [List.map_cons, List.filterMap_cons, flt_d g rs]
theorem call_fits {rs : List PyData} {n t f : Int} {M : Mem} {E : Value → List (Str × PyData) → Mem → Prop} {Q : DK} (h : ∀ r ∈ rs, RowOk r) (hl : rs.length ≤ 1000) (hq : ∀ M2, Sub M M2 → Q (.d (.bool (decide (f ≤ n) && rs.all (fitD n t f)))) M2) :
    c_fits.pre [.d (.tuple rs), .d (.tuple [.int n, .int t, .int f])] M ∧ (∀ x M2, c_fits.post [.d (.tuple rs), .d (.tuple [.int n, .int t, .int f])] M x M2 → Q x M2) ∧ (∀ cls fs M2, c_fits.err [.d (.tuple rs), .d (.tuple [.int n, .int t, .int f])] M cls fs M2 → E cls fs M2) :=
  pure_call (ds := [.tuple rs, .tuple [.int n, .int t, .int f]]) rfl ⟨rs, n, t, f, rfl, h, hl⟩ hq
theorem call_value {a b c n t f : Int} {M : Mem} {E : Value → List (Str × PyData) → Mem → Prop} {Q : DK} (ha : Sm a) (hb : Sm b) (hq : ∀ M2, Sub M M2 → Q (.d (.int (a * n + b * t + c))) M2) :
    c_bound_value.pre [.d (.tuple [.int a, .int b, .int c]), .d (.tuple [.int n, .int t, .int f])] M ∧ (∀ x M2, c_bound_value.post [.d (.tuple [.int a, .int b, .int c]), .d (.tuple [.int n, .int t, .int f])] M x M2 → Q x M2) ∧
      (∀ cls fs M2, c_bound_value.err [.d (.tuple [.int a, .int b, .int c]), .d (.tuple [.int n, .int t, .int f])] M cls fs M2 → E cls fs M2) :=
  pure_call (ds := [.tuple [.int a, .int b, .int c], .tuple [.int n, .int t, .int f]]) rfl ⟨a, b, c, n, t, f, rfl, ha, hb⟩ hq
theorem call_with {rs : List PyData} {m : Int} {M : Mem} {E : Value → List (Str × PyData) → Mem → Prop} {Q : DK} (hl : rs.length ≤ 1000) (hq : ∀ M2, Sub M M2 → Q (.d (.tuple (rs ++ [.tuple [.int 1, .int (-m), .int 0, .int 1]]))) M2) :
    c_with_factor.pre [.d (.tuple rs), .d (.int m)] M ∧ (∀ x M2, c_with_factor.post [.d (.tuple rs), .d (.int m)] M x M2 → Q x M2) ∧ (∀ cls fs M2, c_with_factor.err [.d (.tuple rs), .d (.int m)] M cls fs M2 → E cls fs M2) :=
  pure_call (ds := [.tuple rs, .int m]) rfl ⟨rs, m, rfl, hl⟩ hq
theorem call_at {rows : List PyData} {k : Nat} {y : PyData} {M : Mem} {E : Value → List (Str × PyData) → Mem → Prop} {Q : DK} (hk : k < rows.length) (hl : rows.length ≤ 1000) (hq : ∀ M2, Sub M M2 → Q (.d (.tuple (rows.take k ++ [y] ++ rows.drop (k + 1)))) M2) :
    c__law_at.pre [.d (.tuple rows), .d (.int k), .d y] M ∧ (∀ x M2, c__law_at.post [.d (.tuple rows), .d (.int k), .d y] M x M2 → Q x M2) ∧ (∀ cls fs M2, c__law_at.err [.d (.tuple rows), .d (.int k), .d y] M cls fs M2 → E cls fs M2) :=
  pure_call (ds := [.tuple rows, .int k, y]) rfl ⟨rows, k, y, rfl, hk, hl⟩ hq

def g_bound_value : DS :=
  (dSeq (dAsg (dVar 0) (.many [2, 3, 4]))
    (dSeq (dAsg (dVar 1) (.many [5, 6, 7]))
    (dRet (dBin gAdd (dBin gAdd (dBin gMul (dVar 2) (dVar 5)) (dBin gMul (dVar 3) (dVar 6))) (dVar 4)))))
theorem len_bound_value : ∀ xs M, (c_bound_value).pre xs M → xs.length = 2 := pureC.len
theorem sp_bound_value : ∀ xs M, (c_bound_value).pre xs M → g_bound_value (ends c_bound_value xs M) (startD ["bound", "numbers", "a", "b", "c", "n", "t", "_"] xs) M := by
  rintro _ M ⟨_, rfl, _, a, b, c, n, t, f, rfl, ha, hb⟩
  simp only [g_bound_value, dSeq, dNext, dRet, dRetN, dIfS, dDrop, dAsg, dPar, dPut, dSet1, setT, setAll, dVar, dC, dBin, dUn, dFun, dNot, chain_eq, dTup, dLst, dLstM, and_eq, or_eq, dIf, tVal, tAnd2, tOr2, tNot1, dCall, dCons, dNil, gAdd, gAddM, gSub, gMod, gMul, gNeg, gLt, gLe, gGt, gGe, gInt, gInt0, gIx, dSl, oNo, oSome, gSl, gLen, gInt1, gList, gListM, seqOf, gTuple, gMin2, gMax2, gRepr, dIsi, dTyEq, dAppend, dRev, dDict0, dRaise, dTry, catching, inSuite, dFld, vw, allD, startD, ends, wipeD, lcTurn, noX, iTupD, iLst, iEnumD, tAll, dLc, dLcM, dFor, gEqC, gNeC, gBools, boolsOf, List.map_cons, List.map_nil, List.length_cons, List.length_nil, List.replicate, List.cons_append, List.nil_append, List.getElem?_cons_zero, List.getElem?_cons_succ, List.set_cons_zero, List.set_cons_succ, Option.map_some, Option.map_none, at_0, at_1, at_2]
  exact ⟨ha.mul, hb.mul, pure_end (ds := [_, _]) Sub.refl rfl⟩

def g__law_value : DS :=
  (dRet (dBin gAdd (dBin gAdd (dBin gMul (dBin gIx (dVar 0) (dC (.int 0))) (dBin gIx (dVar 1) (dC (.int 0)))) (dBin gMul (dBin gIx (dVar 0) (dC (.int 1))) (dBin gIx (dVar 1) (dC (.int 1))))) (dBin gIx (dVar 0) (dC (.int 2)))))
theorem len__law_value : ∀ xs M, (c__law_value).pre xs M → xs.length = 2 := pureC.len
theorem sp__law_value : ∀ xs M, (c__law_value).pre xs M → g__law_value (ends c__law_value xs M) (startD ["bound", "numbers"] xs) M := by
  rintro _ M ⟨_, rfl, _, a, b, c, n, t, f, rfl, ha, hb⟩
  simp only [g__law_value, dSeq, dNext, dRet, dRetN, dIfS, dDrop, dAsg, dPar, dPut, dSet1, setT, setAll, dVar, dC, dBin, dUn, dFun, dNot, chain_eq, dTup, dLst, dLstM, and_eq, or_eq, dIf, tVal, tAnd2, tOr2, tNot1, dCall, dCons, dNil, gAdd, gAddM, gSub, gMod, gMul, gNeg, gLt, gLe, gGt, gGe, gInt, gInt0, gIx, dSl, oNo, oSome, gSl, gLen, gInt1, gList, gListM, seqOf, gTuple, gMin2, gMax2, gRepr, dIsi, dTyEq, dAppend, dRev, dDict0, dRaise, dTry, catching, inSuite, dFld, vw, allD, startD, ends, wipeD, lcTurn, noX, iTupD, iLst, iEnumD, tAll, dLc, dLcM, dFor, gEqC, gNeC, gBools, boolsOf, List.map_cons, List.map_nil, List.length_cons, List.length_nil, List.replicate, List.cons_append, List.nil_append, List.getElem?_cons_zero, List.getElem?_cons_succ, List.set_cons_zero, List.set_cons_succ, Option.map_some, Option.map_none, at_0, at_1, at_2]
  exact ⟨ha.mul, hb.mul, pure_end (ds := [_, _]) Sub.refl rfl⟩

def g_with_factor : DS :=
  (dRet (dBin gAdd (dVar 0) (dTup (dCons (dTup (dCons (dC (.int 1)) (dCons (dUn gNeg (dVar 1)) (dCons (dC (.int 0)) (dCons (dC (.int 1)) dNil))))) dNil))))
theorem len_with_factor : ∀ xs M, (c_with_factor).pre xs M → xs.length = 2 := pureC.len
theorem sp_with_factor : ∀ xs M, (c_with_factor).pre xs M → g_with_factor (ends c_with_factor xs M) (startD ["resilience", "m"] xs) M := by
  rintro _ M ⟨_, rfl, _, rs, m, rfl, hl⟩
  simp only [g_with_factor, dSeq, dNext, dRet, dRetN, dIfS, dDrop, dAsg, dPar, dPut, dSet1, setT, setAll, dVar, dC, dBin, dUn, dFun, dNot, chain_eq, dTup, dLst, dLstM, and_eq, or_eq, dIf, tVal, tAnd2, tOr2, tNot1, dCall, dCons, dNil, gAdd, gAddM, gSub, gMod, gMul, gNeg, gLt, gLe, gGt, gGe, gInt, gInt0, gIx, dSl, oNo, oSome, gSl, gLen, gInt1, gList, gListM, seqOf, gTuple, gMin2, gMax2, gRepr, dIsi, dTyEq, dAppend, dRev, dDict0, dRaise, dTry, catching, inSuite, dFld, vw, allD, startD, ends, wipeD, lcTurn, noX, iTupD, iLst, iEnumD, tAll, dLc, dLcM, dFor, gEqC, gNeC, gBools, boolsOf, List.map_cons, List.map_nil, List.length_cons, List.length_nil, List.replicate, List.cons_append, List.nil_append, List.getElem?_cons_zero, List.getElem?_cons_succ, List.set_cons_zero, List.set_cons_succ, Option.map_some, Option.map_none]
  exact ⟨by decide, by decide, line1 (by omega), pure_end (ds := [_, _]) Sub.refl rfl⟩

def g__law_at : DS :=
  (dRet (dBin gAdd (dBin gAdd (dSl (dVar 0) oNo (oSome (dVar 1))) (dTup (dCons (dVar 2) dNil))) (dSl (dVar 0) (oSome (dBin gAdd (dVar 1) (dC (.int 1)))) oNo)))
theorem len__law_at : ∀ xs M, (c__law_at).pre xs M → xs.length = 3 := pureC.len
theorem sp__law_at : ∀ xs M, (c__law_at).pre xs M → g__law_at (ends c__law_at xs M) (startD ["rows", "place", "thing"] xs) M := by
  rintro _ M ⟨_, rfl, _, rows, k, x, rfl, hk, hl⟩
  have e : ((k : Int) + 1) = ((k + 1 : Nat) : Int) := rfl
  simp only [g__law_at, dSeq, dNext, dRet, dRetN, dIfS, dDrop, dAsg, dPar, dPut, dSet1, setT, setAll, dVar, dC, dBin, dUn, dFun, dNot, chain_eq, dTup, dLst, dLstM, and_eq, or_eq, dIf, tVal, tAnd2, tOr2, tNot1, dCall, dCons, dNil, gAdd, gAddM, gSub, gMod, gMul, gNeg, gLt, gLe, gGt, gGe, gInt, gInt0, gIx, dSl, oNo, oSome, gSl, gLen, gInt1, gList, gListM, seqOf, gTuple, gMin2, gMax2, gRepr, dIsi, dTyEq, dAppend, dRev, dDict0, dRaise, dTry, catching, inSuite, dFld, vw, allD, startD, ends, wipeD, lcTurn, noX, iTupD, iLst, iEnumD, tAll, dLc, dLcM, dFor, gEqC, gNeC, gBools, boolsOf, List.map_cons, List.map_nil, List.length_cons, List.length_nil, List.replicate, List.cons_append, List.nil_append, List.getElem?_cons_zero, List.getElem?_cons_succ, List.set_cons_zero, List.set_cons_succ, Option.map_some, Option.map_none, e, cut_to rows k (by omega), cut_from rows (k + 1) (by omega), List.length_take, List.length_drop, List.length_append]
  exact ⟨by decide, line1 (by omega), line1 (by simp; omega), pure_end (ds := [_, _, _]) Sub.refl (by simp [atD])⟩

def g_fits : DS :=
  (dSeq (dAsg (dVar 1) (.many [2, 3, 4]))
    (dRet (dAnd (dBin gGe (dVar 2) (dVar 4)) (dFun (gBools fun bs => bs.all id) (dCons (dLc (iTupD (dVar 0)) [5, 6, 7, 8] (.many [5, 6, 7, 8]) tAll (dBin gGe (dBin gAdd (dBin gAdd (dBin gMul (dVar 5) (dVar 2)) (dBin gMul (dVar 6) (dVar 3))) (dBin gMul (dVar 7) (dVar 4))) (dVar 8))) dNil)))))
theorem len_fits : ∀ xs M, (c_fits).pre xs M → xs.length = 2 := pureC.len
theorem sp_fits : ∀ xs M, (c_fits).pre xs M → g_fits (ends c_fits xs M) (startD ["resilience", "numbers", "n", "t", "f", "p", "q", "r", "c"] xs) M := by
  rintro _ M ⟨_, rfl, _, rs, n, t, f, rfl, hr, hl⟩
  simp only [g_fits, dSeq, dNext, dRet, dRetN, dIfS, dDrop, dAsg, dPar, dPut, dSet1, setT, setAll, dVar, dC, dBin, dUn, dFun, dNot, chain_eq, dTup, dLst, dLstM, and_eq, or_eq, dIf, tVal, tAnd2, tOr2, tNot1, dCall, dCons, dNil, gAdd, gAddM, gSub, gMod, gMul, gNeg, gLt, gLe, gGt, gGe, gInt, gInt0, gIx, dSl, oNo, oSome, gSl, gLen, gInt1, gList, gListM, seqOf, gTuple, gMin2, gMax2, gRepr, dIsi, dTyEq, dAppend, dRev, dDict0, dRaise, dTry, catching, inSuite, dFld, vw, allD, startD, ends, wipeD, lcTurn, noX, iTupD, iLst, iEnumD, tAll, dLc, dLcM, dFor, gEqC, gNeC, gBools, boolsOf, List.map_cons, List.map_nil, List.length_cons, List.length_nil, List.replicate, List.cons_append, List.nil_append, List.getElem?_cons_zero, List.getElem?_cons_succ, List.set_cons_zero, List.set_cons_succ, Option.map_some, Option.map_none]
  cases h1 : decide (f ≤ n) with
  | false =>
    simp only []
    exact pure_end (ds := [_, _]) Sub.refl (by simp only [fitsD, h1]; rfl)
  | true =>
    simp only []
    refine lc_pure (step := fun x => match x with | .d r => some (.bool (fitD n t f r)) | _ => none) ?_ ?_ ?_
    · exact line1 (by simp; omega)
    · intro x hx M3 R hR
      obtain ⟨y, hy, rfl⟩ := List.mem_map.mp hx
      obtain ⟨p, q, s, c, rfl, hp, hq, hs, hc⟩ := hr y hy
      simp only [dSeq, dNext, dRet, dRetN, dIfS, dDrop, dAsg, dPar, dPut, dSet1, setT, setAll, dVar, dC, dBin, dUn, dFun, dNot, chain_eq, dTup, dLst, dLstM, and_eq, or_eq, dIf, tVal, tAnd2, tOr2, tNot1, dCall, dCons, dNil, gAdd, gAddM, gSub, gMod, gMul, gNeg, gLt, gLe, gGt, gGe, gInt, gInt0, gIx, dSl, oNo, oSome, gSl, gLen, gInt1, gList, gListM, seqOf, gTuple, gMin2, gMax2, gRepr, dIsi, dTyEq, dAppend, dRev, dDict0, dRaise, dTry, catching, inSuite, dFld, vw, allD, startD, ends, wipeD, lcTurn, noX, iTupD, iLst, iEnumD, tAll, dLc, dLcM, dFor, gEqC, gNeC, gBools, boolsOf, List.map_cons, List.map_nil, List.length_cons, List.length_nil, List.replicate, List.cons_append, List.nil_append, List.getElem?_cons_zero, List.getElem?_cons_succ, List.set_cons_zero, List.set_cons_succ, Option.map_some, Option.map_none]
      exact ⟨hp.mul, hq.mul, hs.mul, hR M3 Sub.refl⟩
    · intro p M3 h3 s3
      simp only [h3, flt_d (fun r => .bool (fitD n t f r)), bools_map (fitD n t f)]
      refine pure_end (ds := [_, _]) s3 ?_
      simp [fitsD, h1]

def g__law_fits : DS :=
  (dSeq (dAsg (dVar 1) (.many [2, 3, 4]))
    (dSeq (dFor (iTupD (dVar 0)) (.many [5, 6, 7, 8])
    (dIfS (tVal (dBin gLt (dBin gAdd (dBin gAdd (dBin gMul (dVar 5) (dVar 2)) (dBin gMul (dVar 6) (dVar 3))) (dBin gMul (dVar 7) (dVar 4))) (dVar 8)))
    (dRet (dC (.bool false)))
    dNext))
    (dRet (dBin gLe (dVar 4) (dVar 2)))))
theorem len__law_fits : ∀ xs M, (c__law_fits).pre xs M → xs.length = 2 := pureC.len
theorem sp__law_fits : ∀ xs M, (c__law_fits).pre xs M → g__law_fits (ends c__law_fits xs M) (startD ["resilience", "numbers", "n", "t", "f", "p", "q", "r", "c"] xs) M := by
  rintro _ M ⟨_, rfl, _, rs, n, t, f, rfl, hr, hl⟩
  simp only [g__law_fits, dSeq, dNext, dRet, dRetN, dIfS, dDrop, dAsg, dPar, dPut, dSet1, setT, setAll, dVar, dC, dBin, dUn, dFun, dNot, chain_eq, dTup, dLst, dLstM, and_eq, or_eq, dIf, tVal, tAnd2, tOr2, tNot1, dCall, dCons, dNil, gAdd, gAddM, gSub, gMod, gMul, gNeg, gLt, gLe, gGt, gGe, gInt, gInt0, gIx, dSl, oNo, oSome, gSl, gLen, gInt1, gList, gListM, seqOf, gTuple, gMin2, gMax2, gRepr, dIsi, dTyEq, dAppend, dRev, dDict0, dRaise, dTry, catching, inSuite, dFld, vw, allD, startD, ends, wipeD, lcTurn, noX, iTupD, iLst, iEnumD, tAll, dLc, dLcM, dFor, gEqC, gNeC, gBools, boolsOf, List.map_cons, List.map_nil, List.length_cons, List.length_nil, List.replicate, List.cons_append, List.nil_append, List.getElem?_cons_zero, List.getElem?_cons_succ, List.set_cons_zero, List.set_cons_succ, Option.map_some, Option.map_none]
  refine forD_run (fun r ρ M1 => ∃ rest y1 y2 y3 y4, r = rest.map DV.d ∧ (∀ r ∈ rest, RowOk r) ∧ rs.all (fitD n t f) = rest.all (fitD n t f) ∧
    ρ = [some (.d (.tuple rs)), some (.d (.tuple [.int n, .int t, .int f])), some (.d (.int n)), some (.d (.int t)), some (.d (.int f)), y1, y2, y3, y4] ∧ Sub M M1) (fun _ _ _ _ => trivial) ?_ ?_ _ _ _ ⟨rs, _, _, _, _, rfl, hr, rfl, rfl, Sub.refl⟩
  · rintro x r ρ M1 nx ⟨rest, y1, y2, y3, y4, e, ho, hb, rfl, s3⟩ hn
    cases rest with
    | nil => cases e
    | cons y rest =>
      simp only [List.map_cons, List.cons.injEq] at e
      obtain ⟨rfl, rfl⟩ := e
      obtain ⟨p, q, s, c, rfl, hp, hq, hs, hc⟩ := ho y (by simp)
      simp only [dSeq, dNext, dRet, dRetN, dIfS, dDrop, dAsg, dPar, dPut, dSet1, setT, setAll, dVar, dC, dBin, dUn, dFun, dNot, chain_eq, dTup, dLst, dLstM, and_eq, or_eq, dIf, tVal, tAnd2, tOr2, tNot1, dCall, dCons, dNil, gAdd, gAddM, gSub, gMod, gMul, gNeg, gLt, gLe, gGt, gGe, gInt, gInt0, gIx, dSl, oNo, oSome, gSl, gLen, gInt1, gList, gListM, seqOf, gTuple, gMin2, gMax2, gRepr, dIsi, dTyEq, dAppend, dRev, dDict0, dRaise, dTry, catching, inSuite, dFld, vw, allD, startD, ends, wipeD, lcTurn, noX, iTupD, iLst, iEnumD, tAll, dLc, dLcM, dFor, gEqC, gNeC, gBools, boolsOf, List.map_cons, List.map_nil, List.length_cons, List.length_nil, List.replicate, List.cons_append, List.nil_append, List.getElem?_cons_zero, List.getElem?_cons_succ, List.set_cons_zero, List.set_cons_succ, Option.map_some, Option.map_none]
      refine ⟨hp.mul, hq.mul, hs.mul, ?_⟩
      cases q1 : decide (p * n + q * t + s * f < c) with
      | false =>
        simp only []
        refine hn _ _ ⟨rest, _, _, _, _, rfl, fun r hr => ho r (by simp [hr]), ?_, rfl, s3⟩
        have : fitD n t f (.tuple [.int p, .int q, .int s, .int c]) = true := by simp only [fitD]; simp at q1 ⊢; omega
        rw [hb, List.all_cons, this]; rfl
      | true =>
        simp only []
        have : fitD n t f (.tuple [.int p, .int q, .int s, .int c]) = false := by simp only [fitD]; simp at q1 ⊢; omega
        exact pure_end (ds := [_, _]) s3 (by simp only [fitsD, hb, List.all_cons, this]; simp)
  · rintro ρ M1 ⟨rest, y1, y2, y3, y4, e, ho, hb, rfl, s3⟩
    cases rest with
    | cons y rest => cases e
    | nil =>
      simp only [dSeq, dNext, dRet, dRetN, dIfS, dDrop, dAsg, dPar, dPut, dSet1, setT, setAll, dVar, dC, dBin, dUn, dFun, dNot, chain_eq, dTup, dLst, dLstM, and_eq, or_eq, dIf, tVal, tAnd2, tOr2, tNot1, dCall, dCons, dNil, gAdd, gAddM, gSub, gMod, gMul, gNeg, gLt, gLe, gGt, gGe, gInt, gInt0, gIx, dSl, oNo, oSome, gSl, gLen, gInt1, gList, gListM, seqOf, gTuple, gMin2, gMax2, gRepr, dIsi, dTyEq, dAppend, dRev, dDict0, dRaise, dTry, catching, inSuite, dFld, vw, allD, startD, ends, wipeD, lcTurn, noX, iTupD, iLst, iEnumD, tAll, dLc, dLcM, dFor, gEqC, gNeC, gBools, boolsOf, List.map_cons, List.map_nil, List.length_cons, List.length_nil, List.replicate, List.cons_append, List.nil_append, List.getElem?_cons_zero, List.getElem?_cons_succ, List.set_cons_zero, List.set_cons_succ, Option.map_some, Option.map_none]
      exact pure_end (ds := [_, _]) s3 (by simp only [fitsD, hb]; simp)

end K01

namespace K01
open PySem PySem.Spec PyProof.Rows HD
open L2 (kitB atI)


abbrev c__law_pen : DSp := c_pen
abbrev c__law_fresh : DSp := c_fresh
abbrev c__law_draw : DSp := c_draw
abbrev c__law_one_of : DSp := c_one_of
theorem PenStep.own {p : Addr} {M M1 : Mem} {gs : List Int} {seat rest : Int} (s : Keeps p M M1) (h : gs.length ≤ 63) (h0 : 0 ≤ seat) : PenStep p M (updM M1 p [.list (gs.map .int), .int seat, .int rest]) :=
  ⟨⟨gs, seat, rest, updM_same, h, h0⟩, fun a ds n q => by rw [updM_ne n]; exact s a ds n q⟩
theorem ix31 : L2.ixN 3 1 = some 1 := rfl
theorem ix32 : L2.ixN 3 2 = some 2 := rfl
theorem at_len (gs : List Int) (s : Int) (h : gs ≠ []) : ∃ g, atI (gs.map PyData.int) (s % (gs.length : Int)) = some (.int g) := by
  have hl : 0 < gs.length := by cases gs with | nil => exact absurd rfl h | cons a b => simp
  have h1 : 0 ≤ s % (gs.length : Int) := Int.emod_nonneg _ (by omega)
  have h2 : s % (gs.length : Int) < gs.length := Int.emod_lt_of_pos _ (by omega)
  have h3 : (s % (gs.length : Int)).toNat < gs.length := by omega
  refine ⟨gs[(s % (gs.length : Int)).toNat], ?_⟩
  unfold atI L2.ixN
  rw [if_pos h1, if_pos (by simpa using h2)]
  simp [h3]
theorem range_mem {i : Int} {n : Nat} {x : DV} (h : x ∈ rangeD i n) : ∃ k : Nat, k < n ∧ x = .d (.int (i + k)) := by
  unfold rangeD at h
  obtain ⟨k, hk, rfl⟩ := List.mem_map.mp h
  exact ⟨k, by simpa using hk, rfl⟩
theorem p18 : L2.CPow 10 18 := by unfold L2.CPow; decide

def g__law_pen : DS :=
  (dRet (dLstM (dCons (dFun gList (dCons (dSl (dVar 0) oNo (oSome (dC (.int 63)))) dNil)) (dCons (dC (.int 0)) (dCons (dC (.int 0)) dNil)))))
theorem len__law_pen : ∀ xs M, (c__law_pen).pre xs M → xs.length = 1 := by
  rintro _ M ⟨a, ns, rfl⟩; rfl
theorem sp__law_pen : ∀ xs M, (c__law_pen).pre xs M → g__law_pen (ends c__law_pen xs M) (startD ["script"] xs) M := by
  rintro _ M ⟨a, ns, rfl⟩
  simp only [g__law_pen, dSeq, dNext, dRet, dRetN, dIfS, dDrop, dAsg, dPar, dPut, dSet1, setT, setAll, dVar, dC, dBin, dUn, dFun, dNot, chain_eq, dTup, dLst, dLstM, and_eq, or_eq, dIf, tVal, tAnd2, tOr2, tNot1, dCall, dCons, dNil, gAdd, gAddM, gSub, gMod, gPow, gMul, gNeg, gLt, gLe, gGt, gGe, gInt, gInt0, gIx, dSl, oNo, oSome, gSl, gLen, gInt1, gList, gListM, seqOf, gTuple, gMin2, gMax2, gRepr, dIsi, dTyEq, dAppend, dRev, dDict0, dRaise, dTry, catching, inSuite, dFld, vw, allD, Nat.reduceAdd, iRange1, startD, ends, wipeD, lcTurn, noX, iTupD, iLst, iEnumD, tAll, dLc, dLcM, dFor, gEqC, gNeC, gBools, boolsOf, List.map_cons, List.map_nil, List.length_cons, List.length_nil, List.replicate, List.cons_append, List.nil_append, List.getElem?_cons_zero, List.getElem?_cons_succ, List.set_cons_zero, List.set_cons_succ, Option.map_some, Option.map_none]
  refine ⟨by decide, fun p hp => ?_⟩
  refine ⟨p, rfl, hp, ?_, Sub.refl.upd hp⟩
  have e : HD.cutD (ns.map PyData.int) none (some 63) = (ns.take 63).map .int := by
    unfold HD.cutD
    rw [show (63 : Int) = ((63 : Nat) : Int) from rfl, HT.sIx_nat, HT.sIx_none, List.drop_zero, Nat.sub_zero, List.length_map, ← List.map_take]
    congr 1
    rw [List.take_eq_take_iff]; omega
  exact ⟨ns.take 63, 0, 0, by rw [updM_same, e], by simp; omega, by decide⟩

def g__law_fresh : DS :=
  (dSeq (dPar 1 2 (dCons (dBin gIx (dVar 0) (dC (.int 1))) (dCons (dBin gIx (dVar 0) (dC (.int 0))) dNil)))
    (dSeq (dPut (dBin gAdd (dVar 1) (dC (.int 1))) (dVar 0) (dC (.int 1)))
    (dSeq (dAsg (dIf (tVal (dBin gNeC (dVar 2) (dLst dNil))) (dBin gIx (dVar 2) (dBin gMod (dFun gInt1 (dCons (dVar 1) dNil)) (dFun gLen (dCons (dVar 2) dNil)))) (dC (.int 0))) (.one 3))
    (dSeq (dIfS (tAnd2 (tVal (dBin gLt (dVar 1) (dFun gLen (dCons (dVar 2) dNil)))) (tVal (dBin gGe (dVar 3) (dBin gPow (dC (.int 10)) (dC (.int 18))))))
    (dRet (dBin gSub (dVar 3) (dBin gPow (dC (.int 10)) (dC (.int 18)))))
    dNext)
    (dSeq (dAsg (dC (.int 2305843009213693951)) (.one 4))
    (dSeq (dAsg (dBin gMod (dFun gInt1 (dCons (dBin gAdd (dBin gAdd (dBin gMul (dVar 3) (dC (.int 48271))) (dBin gMul (dC (.int 60013)) (dVar 1))) (dC (.int 31))) dNil)) (dVar 4)) (.one 5))
    (dSeq (dAsg (dVar 5) (.one 6))
    (dSeq (dFor (iRange1 (dCons (dC (.int 6)) dNil)) (.one 7)
    (dSeq (dAsg (dBin gMod (dFun gInt1 (dCons (dBin gAdd (dBin gAdd (dBin gMul (dVar 5) (dVar 5)) (dBin gMul (dBin gMul (dC (.int 70139)) (dBin gAdd (dVar 7) (dC (.int 5)))) (dBin gAdd (dVar 1) (dC (.int 1))))) (dVar 3)) dNil)) (dVar 4)) (.one 5))
    (dAsg (dBin gAdd (dBin gMul (dVar 6) (dVar 4)) (dVar 5)) (.one 6))))
    (dRet (dVar 6))))))))))
theorem len__law_fresh : ∀ xs M, (c__law_fresh).pre xs M → xs.length = 1 := by
  rintro _ M ⟨p, rfl, _⟩; rfl

theorem fresh_loop {p : Addr} {M0 M1 : Mem} {x0 x2 : Option DV} {seat cell : Int} (hs : PenStep p M0 M1) (body : DS) (D : DEnds)
    (hb : ∀ (lap : Nat) (st fo : Int) (y : Option DV) (nx : DEnv → Mem → Prop), lap < 6 → 0 ≤ st → st < 2305843009213693951 → (∀ ρ' M', (∃ st' fo', 0 ≤ st' ∧ st' < 2305843009213693951 ∧ ρ' = [x0, some (.d (.int seat)), x2, some (.d (.int cell)), some (.d (.int 2305843009213693951)), some (.d (.int st')), some (.d (.int fo')), some (.d (.int lap))] ∧ M' = M1) → nx ρ' M') →
      body { D with nx := nx, ct := nx, bk := D.nx } [x0, some (.d (.int seat)), x2, some (.d (.int cell)), some (.d (.int 2305843009213693951)), some (.d (.int st)), some (.d (.int fo)), some (.d (.int lap))] M1)
    (hn : ∀ (st fo : Int) (y : Option DV), D.nx [x0, some (.d (.int seat)), x2, some (.d (.int cell)), some (.d (.int 2305843009213693951)), some (.d (.int st)), some (.d (.int fo)), y] M1) {st fo : Int} {y : Option DV} (h0 : 0 ≤ st) (h1 : st < 2305843009213693951) :
    forD (fun _ => True) (.one 7) body (rangeD 0 6) D [x0, some (.d (.int seat)), x2, some (.d (.int cell)), some (.d (.int 2305843009213693951)), some (.d (.int st)), some (.d (.int fo)), y] M1 := by
  refine forD_run (fun r ρ M' => (∀ x ∈ r, ∃ k : Nat, k < 6 ∧ x = .d (.int k)) ∧ M' = M1 ∧ ∃ st fo y, 0 ≤ st ∧ st < 2305843009213693951 ∧ ρ = [x0, some (.d (.int seat)), x2, some (.d (.int cell)), some (.d (.int 2305843009213693951)), some (.d (.int st)), some (.d (.int fo)), y]) (fun _ _ _ _ => trivial) ?_ ?_ _ _ _ ⟨?_, rfl, st, fo, y, h0, h1, rfl⟩
  · rintro x r ρ M nx ⟨hx, rfl, st, fo, y, h0, h1, rfl⟩ hn
    obtain ⟨k, hk, rfl⟩ := hx x (by simp)
    exact hb k st fo y nx hk h0 h1 fun ρ' M' ⟨st', fo', a, b, c, d⟩ => hn ρ' M' ⟨fun z hz => hx z (by simp [hz]), d, st', fo', _, a, b, c⟩
  · rintro ρ M ⟨_, rfl, st, fo, y, _, _, rfl⟩
    exact hn st fo y
  · intro x hx
    obtain ⟨k, hk, rfl⟩ := range_mem hx
    exact ⟨k, hk, by simp⟩

theorem CM_l {i j : Int} (h : -(2 ^ 64) < i) (h2 : i < 2 ^ 64) : L2.CMul i j ∨ L2.CMulW i j := .inl (.inl ⟨h, h2⟩)
theorem CM_r {i j : Int} (h : -(2 ^ 64) < j) (h2 : j < 2 ^ 64) : L2.CMul i j ∨ L2.CMulW i j := .inl (.inr ⟨h, h2⟩)

theorem sp__law_fresh : ∀ xs M, (c__law_fresh).pre xs M → g__law_fresh (ends c__law_fresh xs M) (startD ["pen", "seat", "given", "cell", "prime", "state", "found", "lap"] xs) M := by
  rintro _ M ⟨p, rfl, gs, seat, rest, hM, hl, h0⟩
  have hS : PenStep p M (updM M p [.list (gs.map .int), .int (seat + 1), .int rest]) := PenStep.own (fun _ _ _ h => h) hl (by omega)
  simp only [g__law_fresh, dSeq, dNext, dRet, dRetN, dIfS, dDrop, dAsg, dPar, dPut, dSet1, setT, setAll, dVar, dC, dBin, dUn, dFun, dNot, chain_eq, dTup, dLst, dLstM, and_eq, or_eq, dIf, tVal, tAnd2, tOr2, tNot1, dCall, dCons, dNil, gAdd, gAddM, gSub, gMod, gPow, gMul, gNeg, gLt, gLe, gGt, gGe, gInt, gInt0, gIx, dSl, oNo, oSome, gSl, gLen, gInt1, gList, gListM, seqOf, gTuple, gMin2, gMax2, gRepr, dIsi, dTyEq, dAppend, dRev, dDict0, dRaise, dTry, catching, inSuite, dFld, vw, allD, Nat.reduceAdd, iRange1, startD, ends, wipeD, lcTurn, noX, iTupD, iLst, iEnumD, tAll, dLc, dLcM, dFor, gEqC, gNeC, gBools, boolsOf, List.map_cons, List.map_nil, List.length_cons, List.length_nil, List.replicate, List.cons_append, List.nil_append, List.getElem?_cons_zero, List.getElem?_cons_succ, List.set_cons_zero, List.set_cons_succ, Option.map_some, Option.map_none, hM, at_0, at_1, at_2, ix31, ix32]
  cases gs with
  | nil =>
    simp only [List.map_nil, List.isEmpty_nil, Bool.not_true, List.length_nil]
    refine ⟨Nat.zero_le _, ?_⟩
    cases hc : decide (seat < ((0 : Nat) : Int)) with
    | true => exact absurd h0 (by simp at hc; omega)
    | false =>
      simp only []
      refine ⟨CM_r (by decide) (by decide), CM_l (by decide) (by decide), by decide, ⟨by decide, by decide⟩, ?_⟩
      refine fresh_loop hS _ _ ?_ ?_ (Int.emod_nonneg _ (by decide)) (Int.emod_lt_of_pos _ (by decide))
      · intro lap st fo y nx hlap h0 h1 hn
        simp only [dSeq, dNext, dRet, dRetN, dIfS, dDrop, dAsg, dPar, dPut, dSet1, setT, setAll, dVar, dC, dBin, dUn, dFun, dNot, chain_eq, dTup, dLst, dLstM, and_eq, or_eq, dIf, tVal, tAnd2, tOr2, tNot1, dCall, dCons, dNil, gAdd, gAddM, gSub, gMod, gPow, gMul, gNeg, gLt, gLe, gGt, gGe, gInt, gInt0, gIx, dSl, oNo, oSome, gSl, gLen, gInt1, gList, gListM, seqOf, gTuple, gMin2, gMax2, gRepr, dIsi, dTyEq, dAppend, dRev, dDict0, dRaise, dTry, catching, inSuite, dFld, vw, allD, Nat.reduceAdd, iRange1, startD, ends, wipeD, lcTurn, noX, iTupD, iLst, iEnumD, tAll, dLc, dLcM, dFor, gEqC, gNeC, gBools, boolsOf, List.map_cons, List.map_nil, List.length_cons, List.length_nil, List.replicate, List.cons_append, List.nil_append, List.getElem?_cons_zero, List.getElem?_cons_succ, List.set_cons_zero, List.set_cons_succ, Option.map_some, Option.map_none]
        exact ⟨CM_l (by omega) (by omega), CM_l (by decide) (by decide), CM_l (by omega) (by omega), by decide, CM_r (by decide) (by decide), hn _ _ ⟨_, _, Int.emod_nonneg _ (by decide), Int.emod_lt_of_pos _ (by decide), rfl, rfl⟩⟩
      · intro st fo y
        simp only [dSeq, dNext, dRet, dRetN, dIfS, dDrop, dAsg, dPar, dPut, dSet1, setT, setAll, dVar, dC, dBin, dUn, dFun, dNot, chain_eq, dTup, dLst, dLstM, and_eq, or_eq, dIf, tVal, tAnd2, tOr2, tNot1, dCall, dCons, dNil, gAdd, gAddM, gSub, gMod, gPow, gMul, gNeg, gLt, gLe, gGt, gGe, gInt, gInt0, gIx, dSl, oNo, oSome, gSl, gLen, gInt1, gList, gListM, seqOf, gTuple, gMin2, gMax2, gRepr, dIsi, dTyEq, dAppend, dRev, dDict0, dRaise, dTry, catching, inSuite, dFld, vw, allD, Nat.reduceAdd, iRange1, startD, ends, wipeD, lcTurn, noX, iTupD, iLst, iEnumD, tAll, dLc, dLcM, dFor, gEqC, gNeC, gBools, boolsOf, List.map_cons, List.map_nil, List.length_cons, List.length_nil, List.replicate, List.cons_append, List.nil_append, List.getElem?_cons_zero, List.getElem?_cons_succ, List.set_cons_zero, List.set_cons_succ, Option.map_some, Option.map_none]
        exact fun q hq => by cases hq; exact ⟨_, rfl, hS⟩
  | cons g0 gr =>
    obtain ⟨g, hg⟩ := at_len (g0 :: gr) seat (by simp)
    simp only [List.map_cons, List.length_cons, List.length_map] at hg
    simp only [List.map_cons, List.isEmpty_cons, Bool.not_false, List.length_cons, List.length_map, hg]
    refine ⟨Nat.zero_le _, by omega, ?_⟩
    cases hc : decide (seat < ((gr.length + 1 : Nat) : Int)) with
    | true =>
      simp only []
      refine ⟨p18, ?_⟩
      split
      · exact ⟨p18, fun q hq => by cases hq; exact ⟨_, rfl, hS⟩⟩
      · skip
        refine ⟨CM_r (by decide) (by decide), CM_l (by decide) (by decide), by decide, ⟨by decide, by decide⟩, ?_⟩
        refine fresh_loop hS _ _ ?_ ?_ (Int.emod_nonneg _ (by decide)) (Int.emod_lt_of_pos _ (by decide))
        · intro lap st fo y nx hlap h0 h1 hn
          simp only [dSeq, dNext, dRet, dRetN, dIfS, dDrop, dAsg, dPar, dPut, dSet1, setT, setAll, dVar, dC, dBin, dUn, dFun, dNot, chain_eq, dTup, dLst, dLstM, and_eq, or_eq, dIf, tVal, tAnd2, tOr2, tNot1, dCall, dCons, dNil, gAdd, gAddM, gSub, gMod, gPow, gMul, gNeg, gLt, gLe, gGt, gGe, gInt, gInt0, gIx, dSl, oNo, oSome, gSl, gLen, gInt1, gList, gListM, seqOf, gTuple, gMin2, gMax2, gRepr, dIsi, dTyEq, dAppend, dRev, dDict0, dRaise, dTry, catching, inSuite, dFld, vw, allD, Nat.reduceAdd, iRange1, startD, ends, wipeD, lcTurn, noX, iTupD, iLst, iEnumD, tAll, dLc, dLcM, dFor, gEqC, gNeC, gBools, boolsOf, List.map_cons, List.map_nil, List.length_cons, List.length_nil, List.replicate, List.cons_append, List.nil_append, List.getElem?_cons_zero, List.getElem?_cons_succ, List.set_cons_zero, List.set_cons_succ, Option.map_some, Option.map_none]
          exact ⟨CM_l (by omega) (by omega), CM_l (by decide) (by decide), CM_l (by omega) (by omega), by decide, CM_r (by decide) (by decide), hn _ _ ⟨_, _, Int.emod_nonneg _ (by decide), Int.emod_lt_of_pos _ (by decide), rfl, rfl⟩⟩
        · intro st fo y
          simp only [dSeq, dNext, dRet, dRetN, dIfS, dDrop, dAsg, dPar, dPut, dSet1, setT, setAll, dVar, dC, dBin, dUn, dFun, dNot, chain_eq, dTup, dLst, dLstM, and_eq, or_eq, dIf, tVal, tAnd2, tOr2, tNot1, dCall, dCons, dNil, gAdd, gAddM, gSub, gMod, gPow, gMul, gNeg, gLt, gLe, gGt, gGe, gInt, gInt0, gIx, dSl, oNo, oSome, gSl, gLen, gInt1, gList, gListM, seqOf, gTuple, gMin2, gMax2, gRepr, dIsi, dTyEq, dAppend, dRev, dDict0, dRaise, dTry, catching, inSuite, dFld, vw, allD, Nat.reduceAdd, iRange1, startD, ends, wipeD, lcTurn, noX, iTupD, iLst, iEnumD, tAll, dLc, dLcM, dFor, gEqC, gNeC, gBools, boolsOf, List.map_cons, List.map_nil, List.length_cons, List.length_nil, List.replicate, List.cons_append, List.nil_append, List.getElem?_cons_zero, List.getElem?_cons_succ, List.set_cons_zero, List.set_cons_succ, Option.map_some, Option.map_none]
          exact fun q hq => by cases hq; exact ⟨_, rfl, hS⟩
    | false =>
      simp only []
      refine ⟨CM_r (by decide) (by decide), CM_l (by decide) (by decide), by decide, ⟨by decide, by decide⟩, ?_⟩
      refine fresh_loop hS _ _ ?_ ?_ (Int.emod_nonneg _ (by decide)) (Int.emod_lt_of_pos _ (by decide))
      · intro lap st fo y nx hlap h0 h1 hn
        simp only [dSeq, dNext, dRet, dRetN, dIfS, dDrop, dAsg, dPar, dPut, dSet1, setT, setAll, dVar, dC, dBin, dUn, dFun, dNot, chain_eq, dTup, dLst, dLstM, and_eq, or_eq, dIf, tVal, tAnd2, tOr2, tNot1, dCall, dCons, dNil, gAdd, gAddM, gSub, gMod, gPow, gMul, gNeg, gLt, gLe, gGt, gGe, gInt, gInt0, gIx, dSl, oNo, oSome, gSl, gLen, gInt1, gList, gListM, seqOf, gTuple, gMin2, gMax2, gRepr, dIsi, dTyEq, dAppend, dRev, dDict0, dRaise, dTry, catching, inSuite, dFld, vw, allD, Nat.reduceAdd, iRange1, startD, ends, wipeD, lcTurn, noX, iTupD, iLst, iEnumD, tAll, dLc, dLcM, dFor, gEqC, gNeC, gBools, boolsOf, List.map_cons, List.map_nil, List.length_cons, List.length_nil, List.replicate, List.cons_append, List.nil_append, List.getElem?_cons_zero, List.getElem?_cons_succ, List.set_cons_zero, List.set_cons_succ, Option.map_some, Option.map_none]
        exact ⟨CM_l (by omega) (by omega), CM_l (by decide) (by decide), CM_l (by omega) (by omega), by decide, CM_r (by decide) (by decide), hn _ _ ⟨_, _, Int.emod_nonneg _ (by decide), Int.emod_lt_of_pos _ (by decide), rfl, rfl⟩⟩
      · intro st fo y
        simp only [dSeq, dNext, dRet, dRetN, dIfS, dDrop, dAsg, dPar, dPut, dSet1, setT, setAll, dVar, dC, dBin, dUn, dFun, dNot, chain_eq, dTup, dLst, dLstM, and_eq, or_eq, dIf, tVal, tAnd2, tOr2, tNot1, dCall, dCons, dNil, gAdd, gAddM, gSub, gMod, gPow, gMul, gNeg, gLt, gLe, gGt, gGe, gInt, gInt0, gIx, dSl, oNo, oSome, gSl, gLen, gInt1, gList, gListM, seqOf, gTuple, gMin2, gMax2, gRepr, dIsi, dTyEq, dAppend, dRev, dDict0, dRaise, dTry, catching, inSuite, dFld, vw, allD, Nat.reduceAdd, iRange1, startD, ends, wipeD, lcTurn, noX, iTupD, iLst, iEnumD, tAll, dLc, dLcM, dFor, gEqC, gNeC, gBools, boolsOf, List.map_cons, List.map_nil, List.length_cons, List.length_nil, List.replicate, List.cons_append, List.nil_append, List.getElem?_cons_zero, List.getElem?_cons_succ, List.set_cons_zero, List.set_cons_succ, Option.map_some, Option.map_none]
        exact fun q hq => by cases hq; exact ⟨_, rfl, hS⟩

end K01

namespace K01
open PySem PySem.Spec PyProof.Rows HD
open L2 (kitB atI)

def g__law_draw : DS :=
  (dSeq (dIfS (tVal (dBin gLt (dBin gIx (dVar 0) (dC (.int 2))) (dVar 1)))
    (dPut (dCall c__law_fresh (dCons (dVar 0) dNil)) (dVar 0) (dC (.int 2)))
    dNext)
    (dSeq (dAsg (dBin gMod (dFun gInt1 (dCons (dBin gIx (dVar 0) (dC (.int 2))) dNil)) (dVar 1)) (.one 2))
    (dSeq (dPut (dBin gFdiv (dFun gInt1 (dCons (dBin gIx (dVar 0) (dC (.int 2))) dNil)) (dVar 1)) (dVar 0) (dC (.int 2)))
    (dRet (dVar 2)))))
theorem len__law_draw : ∀ xs M, (c__law_draw).pre xs M → xs.length = 2 := by
  rintro _ M ⟨p, b, rfl, _⟩; rfl
theorem sp__law_draw : ∀ xs M, (c__law_draw).pre xs M → g__law_draw (ends c__law_draw xs M) (startD ["pen", "bound", "digit"] xs) M := by
  rintro _ M ⟨p, b, rfl, ⟨gs, seat, rest, hM, hl63, h0⟩, hb, hl⟩
  simp only [g__law_draw, gFdiv, dSeq, dNext, dRet, dRetN, dIfS, dDrop, dAsg, dPar, dPut, dSet1, setT, setAll, dVar, dC, dBin, dUn, dFun, dNot, chain_eq, dTup, dLst, dLstM, and_eq, or_eq, dIf, tVal, tAnd2, tOr2, tNot1, dCall, dCons, dNil, gAdd, gAddM, gSub, gMod, gPow, gMul, gNeg, gLt, gLe, gGt, gGe, gInt, gInt0, gIx, dSl, oNo, oSome, gSl, gLen, gInt1, gList, gListM, seqOf, gTuple, gMin2, gMax2, gRepr, dIsi, dTyEq, dAppend, dRev, dDict0, dRaise, dTry, catching, inSuite, dFld, vw, allD, Nat.reduceAdd, iRange1, startD, ends, wipeD, lcTurn, noX, iTupD, iLst, iEnumD, tAll, dLc, dLcM, dFor, gEqC, gNeC, gBools, boolsOf, List.map_cons, List.map_nil, List.length_cons, List.length_nil, List.replicate, List.cons_append, List.nil_append, List.getElem?_cons_zero, List.getElem?_cons_succ, List.set_cons_zero, List.set_cons_succ, Option.map_some, Option.map_none, hM, at_0, at_1, at_2, ix31, ix32]
  split
  · refine call_fresh ⟨gs, seat, rest, hM, hl63, h0⟩ fun i M2 ⟨⟨gs2, seat2, rest2, hM2, hl2, h02⟩, hK⟩ => ?_
    simp only [hM2, ix32, updM_same, at_2, List.length_cons, List.length_nil, Nat.reduceAdd, List.set_cons_succ, List.set_cons_zero]
    refine ⟨hb, ⟨hb, hl⟩, ?_⟩
    intro q b' hq
    cases hq
    exact ⟨_, rfl, Int.emod_nonneg _ (by omega), Int.emod_lt_of_pos _ hb, PenStep.own (fun a ds n z => by rw [updM_ne n]; exact hK a ds n z) hl2 h02⟩
  · try simp only [hM, ix32, updM_same, at_2, List.length_cons, List.length_nil, Nat.reduceAdd, List.set_cons_succ, List.set_cons_zero]
    refine ⟨hb, ⟨hb, hl⟩, ?_⟩
    intro q b' hq
    cases hq
    exact ⟨_, rfl, Int.emod_nonneg _ (by omega), Int.emod_lt_of_pos _ hb, PenStep.own (fun _ _ _ z => z) hl63 h0⟩


theorem at_in {ds : List PyData} {i : Int} (h0 : 0 ≤ i) (h1 : i < ds.length) : ∃ d, d ∈ ds ∧ atI ds i = some d := by
  have h3 : i.toNat < ds.length := by omega
  refine ⟨ds[i.toNat], List.getElem_mem h3, ?_⟩
  unfold atI L2.ixN
  rw [if_pos h0, if_pos h1]
  simp [h3]
theorem log_small {n : Nat} (h : n ≤ 100000) : n.log2 < 9000 := Nat.lt_of_le_of_lt (Nat.log2_le_self n |> fun _ => by
  by_cases z : n = 0
  · subst z; decide
  · have := (Nat.log2_lt z (k := 17)).mpr (by omega)
    exact Nat.le_of_lt this) (by decide : 17 < 9000)

def g__law_one_of : DS :=
  (dRet (dBin gIx (dVar 1) (dCall c__law_draw (dCons (dVar 0) (dCons (dFun gLen (dCons (dVar 1) dNil)) dNil)))))
theorem len__law_one_of : ∀ xs M, (c__law_one_of).pre xs M → xs.length = 2 := by
  rintro _ M ⟨p, y, ds, rfl, _⟩; rfl
theorem sp__law_one_of : ∀ xs M, (c__law_one_of).pre xs M → g__law_one_of (ends c__law_one_of xs M) (startD ["pen", "some"] xs) M := by
  rintro _ M ⟨p, y, ds, rfl, hp, hv, hn, hl, hy⟩
  have hlen : (0 : Int) < ds.length := by have := List.length_pos_iff.mpr hn; omega
  cases y with
  | d x =>
    simp only [vw, Option.some.injEq] at hv
    subst hv
    simp only [g__law_one_of, dSeq, dNext, dRet, dRetN, dIfS, dDrop, dAsg, dPar, dPut, dSet1, setT, setAll, dVar, dC, dBin, dUn, dFun, dNot, chain_eq, dTup, dLst, dLstM, and_eq, or_eq, dIf, tVal, tAnd2, tOr2, tNot1, dCall, dCons, dNil, gAdd, gAddM, gSub, gMod, gPow, gMul, gNeg, gLt, gLe, gGt, gGe, gInt, gInt0, gIx, dSl, oNo, oSome, gSl, gLen, gInt1, gList, gListM, seqOf, gTuple, gMin2, gMax2, gRepr, dIsi, dTyEq, dAppend, dRev, dDict0, dRaise, dTry, catching, inSuite, dFld, vw, allD, Nat.reduceAdd, iRange1, startD, ends, wipeD, lcTurn, noX, iTupD, iLst, iEnumD, tAll, dLc, dLcM, dFor, gEqC, gNeC, gBools, boolsOf, List.map_cons, List.map_nil, List.length_cons, List.length_nil, List.replicate, List.cons_append, List.nil_append, List.getElem?_cons_zero, List.getElem?_cons_succ, List.set_cons_zero, List.set_cons_succ, Option.map_some, Option.map_none]
    refine call_draw hp hlen (log_small (by omega)) fun i M2 h0 h1 s => ?_
    obtain ⟨d, hd, e⟩ := at_in h0 h1
    simp only [e]
    intro p' y' ds' q1 q2
    cases q1; cases q2
    exact ⟨d, hd, rfl, s⟩
  | m a =>
    have hma : M a = some ds := by
      simp only [vw] at hv
      cases q : M a with
      | none => rw [q] at hv; cases hv
      | some z => rw [q] at hv; cases hv; rfl
    simp only [g__law_one_of, dSeq, dNext, dRet, dRetN, dIfS, dDrop, dAsg, dPar, dPut, dSet1, setT, setAll, dVar, dC, dBin, dUn, dFun, dNot, chain_eq, dTup, dLst, dLstM, and_eq, or_eq, dIf, tVal, tAnd2, tOr2, tNot1, dCall, dCons, dNil, gAdd, gAddM, gSub, gMod, gPow, gMul, gNeg, gLt, gLe, gGt, gGe, gInt, gInt0, gIx, dSl, oNo, oSome, gSl, gLen, gInt1, gList, gListM, seqOf, gTuple, gMin2, gMax2, gRepr, dIsi, dTyEq, dAppend, dRev, dDict0, dRaise, dTry, catching, inSuite, dFld, vw, allD, Nat.reduceAdd, iRange1, startD, ends, wipeD, lcTurn, noX, iTupD, iLst, iEnumD, tAll, dLc, dLcM, dFor, gEqC, gNeC, gBools, boolsOf, List.map_cons, List.map_nil, List.length_cons, List.length_nil, List.replicate, List.cons_append, List.nil_append, List.getElem?_cons_zero, List.getElem?_cons_succ, List.set_cons_zero, List.set_cons_succ, Option.map_some, Option.map_none, hma]
    refine call_draw hp hlen (log_small (by omega)) fun i M2 h0 h1 s => ?_
    obtain ⟨d, hd, e⟩ := at_in h0 h1
    simp only [s.2 a ds (fun z => hy (by rw [z])) hma, Option.map_some, e]
    intro p' y' ds' q1 q2
    cases q1
    simp only [vw, hma, Option.map_some] at q2
    cases q2
    exact ⟨d, hd, rfl, s⟩
  | e a b c d => cases hv
  | s a b => cases hv

end K01

namespace K01
open PySem PySem.Spec PyProof.Rows HD
open L2 (kitB atI)


def BoundOk (d : PyData) : Prop := ∃ a b c, d = .tuple [.int a, .int b, .int c] ∧ Sm a ∧ Sm b ∧ Sm c
abbrev c__law_bound : DSp := penC BoundOk
def ResOk (d : PyData) : Prop := ∃ rs, d = .tuple rs ∧ (∀ r ∈ rs, RowOk r) ∧ 1 ≤ rs.length ∧ rs.length ≤ 4
abbrev c__law_resilience : DSp := penC ResOk
abbrev c__law_odd : DSp := penC (Fit 40 0 5)
def c__law_numbers : DSp where
  pre := fun xs M => ∃ p k, xs = [.m p, .d (.int k)] ∧ PenOk M p ∧ 0 ≤ k ∧ k ≤ 50
  post := fun xs M x M' => ∀ p k, xs = [.m p, .d (.int k)] → ∃ n t f, x = .d (.tuple [.int n, .int t, .int f]) ∧ Sm n ∧ Sm t ∧ Sm f ∧ PenStep p M M'
theorem call_numbers {p : Addr} {k : Int} {M : Mem} {E : Value → List (Str × PyData) → Mem → Prop} {Q : DK} (h : PenOk M p) (h0 : 0 ≤ k) (h1 : k ≤ 50) (hq : ∀ n t f M', Sm n → Sm t → Sm f → PenStep p M M' → Q (.d (.tuple [.int n, .int t, .int f])) M') :
    c__law_numbers.pre [.m p, .d (.int k)] M ∧ (∀ x M2, c__law_numbers.post [.m p, .d (.int k)] M x M2 → Q x M2) ∧ (∀ cls fs M2, c__law_numbers.err [.m p, .d (.int k)] M cls fs M2 → E cls fs M2) :=
  ⟨⟨p, k, rfl, h, h0, h1⟩, fun x M2 q => by obtain ⟨n, t, f, rfl, a, b, c, s⟩ := q p k rfl; exact hq n t f M2 a b c s, fun _ _ _ q => q.elim⟩
theorem cmp_int (i j : Int) : (Cmp (.int i)) ∧ noDict (.int j) = true := ⟨⟨rfl, by simp [PyData.depth]⟩, rfl⟩
theorem row_of {d : PyData} {p q s c : Int} (h : d = .tuple [.int p, .int q, .int s, .int c]) (hp : Sm p) (hq : Sm q) (hs : Sm s) (hc : Sm c) : RowOk d := ⟨p, q, s, c, h, hp, hq, hs, hc⟩

def g__law_bound : DS :=
  (dSeq (dIfS (tVal (dBin gEqC (dCall c__law_draw (dCons (dVar 0) (dCons (dC (.int 4)) dNil))) (dC (.int 0))))
    (dRet (dTup (dCons (dBin gSub (dCall c__law_draw (dCons (dVar 0) (dCons (dC (.int 7)) dNil))) (dC (.int 3))) (dCons (dBin gSub (dCall c__law_draw (dCons (dVar 0) (dCons (dC (.int 7)) dNil))) (dC (.int 3))) (dCons (dCall c__law_draw (dCons (dVar 0) (dCons (dC (.int 2)) dNil))) dNil)))))
    dNext)
    (dRet (dCall c__law_one_of (dCons (dVar 0) (dCons (dLst (dCons (dTup (dCons (dC (.int 0)) (dCons (dC (.int 1)) (dCons (dC (.int 1)) dNil)))) (dCons (dTup (dCons (dC (.int 1)) (dCons (dUn gNeg (dC (.int 1))) (dCons (dC (.int 0)) dNil)))) (dCons (dTup (dCons (dC (.int 0)) (dCons (dC (.int 0)) (dCons (dC (.int 1)) dNil)))) (dCons (dTup (dCons (dC (.int 0)) (dCons (dC (.int 2)) (dCons (dC (.int 1)) dNil)))) (dCons (dTup (dCons (dC (.int 1)) (dCons (dUn gNeg (dC (.int 2))) (dCons (dC (.int 0)) dNil)))) (dCons (dTup (dCons (dC (.int 0)) (dCons (dC (.int 1)) (dCons (dC (.int 0)) dNil)))) (dCons (dTup (dCons (dC (.int 1)) (dCons (dC (.int 0)) (dCons (dC (.int 0)) dNil)))) dNil)))))))) dNil)))))
theorem len__law_bound : ∀ xs M, (c__law_bound).pre xs M → xs.length = 1 := penC.len
theorem sp__law_bound : ∀ xs M, (c__law_bound).pre xs M → g__law_bound (ends c__law_bound xs M) (startD ["pen"] xs) M := by
  rintro _ M ⟨p, rfl, hp⟩
  simp only [g__law_bound, dSeq, dNext, dRet, dRetN, dIfS, dDrop, dAsg, dPar, dPut, dSet1, setT, setAll, dVar, dC, dBin, dUn, dFun, dNot, chain_eq, dTup, dLst, dLstM, and_eq, or_eq, dIf, tVal, tAnd2, tOr2, tNot1, dCall, dCons, dNil, gAdd, gAddM, gSub, gMod, gPow, gMul, gNeg, gLt, gLe, gGt, gGe, gInt, gInt0, gIx, dSl, oNo, oSome, gSl, gLen, gInt1, gList, gListM, seqOf, gTuple, gMin2, gMax2, gRepr, dIsi, dTyEq, dAppend, dRev, dDict0, dRaise, dTry, catching, inSuite, dFld, vw, allD, Nat.reduceAdd, iRange1, startD, ends, wipeD, lcTurn, noX, iTupD, iLst, iEnumD, tAll, dLc, dLcM, dFor, gEqC, gNeC, gBools, boolsOf, List.map_cons, List.map_nil, List.length_cons, List.length_nil, List.replicate, List.cons_append, List.nil_append, List.getElem?_cons_zero, List.getElem?_cons_succ, List.set_cons_zero, List.set_cons_succ, Option.map_some, Option.map_none, PyData.eqv]
  refine call_draw hp (by decide) (by decide) fun i M1 h0 h1 s1 => ?_
  refine ⟨cmp_int _ _, ?_⟩
  split
  · refine call_draw s1.1 (by decide) (by decide) fun i2 M2 h02 h12 s2 => ?_
    refine call_draw s2.1 (by decide) (by decide) fun i3 M3 h03 h13 s3 => ?_
    refine call_draw s3.1 (by decide) (by decide) fun i4 M4 h04 h14 s4 => ?_
    simp only [dSeq, dNext, dRet, dRetN, dIfS, dDrop, dAsg, dPar, dPut, dSet1, setT, setAll, dVar, dC, dBin, dUn, dFun, dNot, chain_eq, dTup, dLst, dLstM, and_eq, or_eq, dIf, tVal, tAnd2, tOr2, tNot1, dCall, dCons, dNil, gAdd, gAddM, gSub, gMod, gPow, gMul, gNeg, gLt, gLe, gGt, gGe, gInt, gInt0, gIx, dSl, oNo, oSome, gSl, gLen, gInt1, gList, gListM, seqOf, gTuple, gMin2, gMax2, gRepr, dIsi, dTyEq, dAppend, dRev, dDict0, dRaise, dTry, catching, inSuite, dFld, vw, allD, Nat.reduceAdd, iRange1, startD, ends, wipeD, lcTurn, noX, iTupD, iLst, iEnumD, tAll, dLc, dLcM, dFor, gEqC, gNeC, gBools, boolsOf, List.map_cons, List.map_nil, List.length_cons, List.length_nil, List.replicate, List.cons_append, List.nil_append, List.getElem?_cons_zero, List.getElem?_cons_succ, List.set_cons_zero, List.set_cons_succ, Option.map_some, Option.map_none]
    refine ⟨by decide, ?_⟩
    intro q hq
    cases hq
    exact ⟨_, rfl, ⟨_, _, _, rfl, by unfold Sm; omega, by unfold Sm; omega, by unfold Sm; omega⟩, s1.trans (s2.trans (s3.trans s4))⟩
  · refine ⟨by decide, by decide, by decide, by decide, by decide, by decide, by decide, by decide, ?_⟩
    refine call_one_of s1.1 (by simp) (by simp) fun d M2 hd s2 => ?_
    intro q hq
    cases hq
    refine ⟨_, rfl, ?_, s1.trans s2⟩
    simp only [List.mem_cons, List.not_mem_nil, or_false] at hd
    rcases hd with rfl | rfl | rfl | rfl | rfl | rfl | rfl <;> exact ⟨_, _, _, rfl, by unfold Sm; omega, by unfold Sm; omega, by unfold Sm; omega⟩

def g__law_numbers : DS :=
  (dSeq (dAsg (dCall c__law_draw (dCons (dVar 0) (dCons (dBin gAdd (dVar 1) (dC (.int 1))) dNil))) (.one 2))
    (dRet (dTup (dCons (dVar 2) (dCons (dCall c__law_draw (dCons (dVar 0) (dCons (dC (.int 4)) dNil))) (dCons (dCall c__law_one_of (dCons (dVar 0) (dCons (dLst (dCons (dC (.int 0)) (dCons (dFun gMin2 (dCons (dC (.int 1)) (dCons (dVar 2) dNil))) (dCons (dCall c__law_draw (dCons (dVar 0) (dCons (dBin gAdd (dVar 2) (dC (.int 1))) dNil))) dNil)))) dNil))) dNil))))))
theorem len__law_numbers : ∀ xs M, (c__law_numbers).pre xs M → xs.length = 2 := by
  rintro _ M ⟨p, k, rfl, _⟩; rfl
theorem line2 {n : Nat} (h : n < 100000) : n < sizeLine := Nat.lt_of_lt_of_le h (by decide)
theorem log_sm {b : Int} (h0 : 0 < b) (h : b ≤ 100000) : b.natAbs.log2 < 9000 := log_small (by omega)
theorem sp__law_numbers : ∀ xs M, (c__law_numbers).pre xs M → g__law_numbers (ends c__law_numbers xs M) (startD ["pen", "most", "n"] xs) M := by
  rintro _ M ⟨p, k, rfl, hp, hk0, hk1⟩
  simp only [g__law_numbers, dSeq, dNext, dRet, dRetN, dIfS, dDrop, dAsg, dPar, dPut, dSet1, setT, setAll, dVar, dC, dBin, dUn, dFun, dNot, chain_eq, dTup, dLst, dLstM, and_eq, or_eq, dIf, tVal, tAnd2, tOr2, tNot1, dCall, dCons, dNil, gAdd, gAddM, gSub, gMod, gPow, gMul, gNeg, gLt, gLe, gGt, gGe, gInt, gInt0, gIx, dSl, oNo, oSome, gSl, gLen, gInt1, gList, gListM, seqOf, gTuple, gMin2, gMax2, gRepr, dIsi, dTyEq, dAppend, dRev, dDict0, dRaise, dTry, catching, inSuite, dFld, vw, allD, Nat.reduceAdd, iRange1, startD, ends, wipeD, lcTurn, noX, iTupD, iLst, iEnumD, tAll, dLc, dLcM, dFor, gEqC, gNeC, gBools, boolsOf, List.map_cons, List.map_nil, List.length_cons, List.length_nil, List.replicate, List.cons_append, List.nil_append, List.getElem?_cons_zero, List.getElem?_cons_succ, List.set_cons_zero, List.set_cons_succ, Option.map_some, Option.map_none]
  refine call_draw hp (by omega) (log_sm (by omega) (by omega)) fun i M1 h0 h1 s1 => ?_
  simp only [dSeq, dNext, dRet, dRetN, dIfS, dDrop, dAsg, dPar, dPut, dSet1, setT, setAll, dVar, dC, dBin, dUn, dFun, dNot, chain_eq, dTup, dLst, dLstM, and_eq, or_eq, dIf, tVal, tAnd2, tOr2, tNot1, dCall, dCons, dNil, gAdd, gAddM, gSub, gMod, gPow, gMul, gNeg, gLt, gLe, gGt, gGe, gInt, gInt0, gIx, dSl, oNo, oSome, gSl, gLen, gInt1, gList, gListM, seqOf, gTuple, gMin2, gMax2, gRepr, dIsi, dTyEq, dAppend, dRev, dDict0, dRaise, dTry, catching, inSuite, dFld, vw, allD, Nat.reduceAdd, iRange1, startD, ends, wipeD, lcTurn, noX, iTupD, iLst, iEnumD, tAll, dLc, dLcM, dFor, gEqC, gNeC, gBools, boolsOf, List.map_cons, List.map_nil, List.length_cons, List.length_nil, List.replicate, List.cons_append, List.nil_append, List.getElem?_cons_zero, List.getElem?_cons_succ, List.set_cons_zero, List.set_cons_succ, Option.map_some, Option.map_none]
  refine call_draw s1.1 (by decide) (by decide) fun i2 M2 h02 h12 s2 => ?_
  refine call_draw s2.1 (by omega) (log_sm (by omega) (by omega)) fun i3 M3 h03 h13 s3 => ?_
  simp only [dSeq, dNext, dRet, dRetN, dIfS, dDrop, dAsg, dPar, dPut, dSet1, setT, setAll, dVar, dC, dBin, dUn, dFun, dNot, chain_eq, dTup, dLst, dLstM, and_eq, or_eq, dIf, tVal, tAnd2, tOr2, tNot1, dCall, dCons, dNil, gAdd, gAddM, gSub, gMod, gPow, gMul, gNeg, gLt, gLe, gGt, gGe, gInt, gInt0, gIx, dSl, oNo, oSome, gSl, gLen, gInt1, gList, gListM, seqOf, gTuple, gMin2, gMax2, gRepr, dIsi, dTyEq, dAppend, dRev, dDict0, dRaise, dTry, catching, inSuite, dFld, vw, allD, Nat.reduceAdd, iRange1, startD, ends, wipeD, lcTurn, noX, iTupD, iLst, iEnumD, tAll, dLc, dLcM, dFor, gEqC, gNeC, gBools, boolsOf, List.map_cons, List.map_nil, List.length_cons, List.length_nil, List.replicate, List.cons_append, List.nil_append, List.getElem?_cons_zero, List.getElem?_cons_succ, List.set_cons_zero, List.set_cons_succ, Option.map_some, Option.map_none]
  refine ⟨by decide, ?_⟩
  refine call_one_of s3.1 (by simp) (by simp) fun d M4 hd s4 => ?_
  simp only [dSeq, dNext, dRet, dRetN, dIfS, dDrop, dAsg, dPar, dPut, dSet1, setT, setAll, dVar, dC, dBin, dUn, dFun, dNot, chain_eq, dTup, dLst, dLstM, and_eq, or_eq, dIf, tVal, tAnd2, tOr2, tNot1, dCall, dCons, dNil, gAdd, gAddM, gSub, gMod, gPow, gMul, gNeg, gLt, gLe, gGt, gGe, gInt, gInt0, gIx, dSl, oNo, oSome, gSl, gLen, gInt1, gList, gListM, seqOf, gTuple, gMin2, gMax2, gRepr, dIsi, dTyEq, dAppend, dRev, dDict0, dRaise, dTry, catching, inSuite, dFld, vw, allD, Nat.reduceAdd, iRange1, startD, ends, wipeD, lcTurn, noX, iTupD, iLst, iEnumD, tAll, dLc, dLcM, dFor, gEqC, gNeC, gBools, boolsOf, List.map_cons, List.map_nil, List.length_cons, List.length_nil, List.replicate, List.cons_append, List.nil_append, List.getElem?_cons_zero, List.getElem?_cons_succ, List.set_cons_zero, List.set_cons_succ, Option.map_some, Option.map_none]
  refine ⟨by decide, ?_⟩
  intro q k' hq
  cases hq
  simp only [List.mem_cons, List.not_mem_nil, or_false] at hd
  rcases hd with rfl | rfl | rfl
  · exact ⟨_, _, _, rfl, by unfold Sm; omega, by unfold Sm; omega, by unfold Sm; omega, s1.trans (s2.trans (s3.trans s4))⟩
  · refine ⟨_, _, _, rfl, by unfold Sm; omega, by unfold Sm; omega, ?_, s1.trans (s2.trans (s3.trans s4))⟩
    unfold Sm
    split <;> omega
  · exact ⟨_, _, _, rfl, by unfold Sm; omega, by unfold Sm; omega, by unfold Sm; omega, s1.trans (s2.trans (s3.trans s4))⟩

def g__law_odd : DS :=
  (dSeq (dAsg (dLst (dCons (dC .none) (dCons (dC (.bool true)) (dCons (dC (.bool false)) (dCons (dUn gNeg (dC (.int 1))) (dCons (dC (.int 0)) (dCons (dC (.int 1)) (dCons (dC (.int 2)) (dCons (dC (.int 3)) (dCons (dC (.int 5)) (dCons (dC (.int 6)) (dCons (dC (.int 10)) (dCons (dC (.str "")) (dCons (dC (.str "0")) (dCons (dC (.str "avoids")) (dCons (dTup dNil) (dCons (dLst dNil) (dCons dDict0 (dCons (dTup (dCons (dC (.int 0)) dNil)) (dCons (dTup (dCons (dC (.int 0)) (dCons (dC (.int 1)) dNil))) (dCons (dTup (dCons (dC (.int 0)) (dCons (dC (.int 1)) (dCons (dC (.int 1)) dNil)))) dNil))))))))))))))))))))) (.one 1))
    (dSeq (dAsg (dBin gAdd (dVar 1) (dLst (dCons (dBin gPow (dC (.int 10)) (dC (.int 61))) (dCons (dTup (dCons (dTup dNil) dNil)) (dCons (dLst (dCons (dC (.int 1)) dNil)) (dCons (dTup (dCons (dC (.int 0)) (dCons (dTup (dCons (dC (.int 0)) (dCons (dC (.int 1)) (dCons (dC (.int 1)) dNil)))) dNil))) (dCons (dTup (dCons (dC (.int 0)) (dCons (dC (.int 1)) (dCons (dTup dNil) (dCons (dTup dNil) dNil))))) (dCons (dTup (dCons (dC (.int 1)) (dCons (dUn gNeg (dC (.int 3))) (dCons (dC (.int 0)) (dCons (dC (.int 1)) dNil))))) (dCons (dTup (dCons (dC (.int 0)) (dCons (dC (.int 0)) (dCons (dC (.int 0)) dNil)))) dNil))))))))) (.one 1))
    (dRet (dCall c__law_one_of (dCons (dVar 0) (dCons (dVar 1) dNil))))))
theorem len__law_odd : ∀ xs M, (c__law_odd).pre xs M → xs.length = 1 := penC.len

theorem fit_str {k : Nat} {x : Str} (h : (x.cps.toList.all fun c => decide (c < 16 ^ 8)) = true) (hl : x.cps.size ≤ 10) : Fit 10 k 0 (.str x) := ⟨by simpa only [HD.lf] using h, by simpa only [PyData.bulk] using hl, Nat.le_refl _⟩
theorem p61 : L2.CPow 10 61 := by unfold L2.CPow; decide
theorem fit_of (d : PyData) (h : (lf 0 d && decide (d.bulk ≤ 40) && decide (d.depth ≤ 5)) = true) : Fit 40 0 5 d := by
  simp only [Bool.and_eq_true, decide_eq_true_eq] at h
  exact ⟨h.1.1, h.1.2, h.2⟩

theorem sp__law_odd : ∀ xs M, (c__law_odd).pre xs M → g__law_odd (ends c__law_odd xs M) (startD ["pen", "some"] xs) M := by
  rintro _ M ⟨p, rfl, hp⟩
  simp only [g__law_odd, dSeq, dNext, dRet, dRetN, dIfS, dDrop, dAsg, dPar, dPut, dSet1, setT, setAll, dVar, dC, dBin, dUn, dFun, dNot, chain_eq, dTup, dLst, dLstM, and_eq, or_eq, dIf, tVal, tAnd2, tOr2, tNot1, dCall, dCons, dNil, gAdd, gAddM, gSub, gMod, gPow, gMul, gNeg, gLt, gLe, gGt, gGe, gInt, gInt0, gIx, dSl, oNo, oSome, gSl, gLen, gInt1, gList, gListM, seqOf, gTuple, gMin2, gMax2, gRepr, dIsi, dTyEq, dAppend, dRev, dDict0, dRaise, dTry, catching, inSuite, dFld, vw, allD, Nat.reduceAdd, iRange1, startD, ends, wipeD, lcTurn, noX, iTupD, iLst, iEnumD, tAll, dLc, dLcM, dFor, gEqC, gNeC, gBools, boolsOf, List.map_cons, List.map_nil, List.length_cons, List.length_nil, List.replicate, List.cons_append, List.nil_append, List.getElem?_cons_zero, List.getElem?_cons_succ, List.set_cons_zero, List.set_cons_succ, Option.map_some, Option.map_none]
  refine ⟨by decide, by decide, by decide, by decide, by decide, by decide, p61, by decide, by decide, by decide, by decide, by decide, by decide, by decide, by decide, by decide, by decide, by decide, by decide, ?_⟩
  refine call_one_of hp (by simp) (by decide) fun d M2 hd s2 => ?_
  intro q hq
  cases hq
  exact ⟨d, rfl, fit_of d (List.all_eq_true.mp (by decide +kernel : List.all _ (fun d => lf 0 d && decide (d.bulk ≤ 40) && decide (d.depth ≤ 5)) = true) d hd), s2⟩

def g__law_resilience : DS :=
  (dSeq (dIfS (tVal (dBin gGt (dCall c__law_draw (dCons (dVar 0) (dCons (dC (.int 4)) dNil))) (dC (.int 0))))
    (dSeq (dAsg (dTup (dCons (dTup (dCons (dC (.int 1)) (dCons (dBin gSub (dC (.int 0)) (dCall c__law_one_of (dCons (dVar 0) (dCons (dLst (dCons (dC (.int 3)) (dCons (dC (.int 3)) (dCons (dC (.int 2)) (dCons (dC (.int 5)) dNil))))) dNil)))) (dCons (dC (.int 0)) (dCons (dC (.int 1)) dNil))))) (dCons (dTup (dCons (dC (.int 0)) (dCons (dC (.int 1)) (dCons (dUn gNeg (dC (.int 1))) (dCons (dC (.int 0)) dNil))))) dNil))) (.one 1))
    (dRet (dIf (tVal (dBin gEqC (dCall c__law_draw (dCons (dVar 0) (dCons (dC (.int 3)) dNil))) (dC (.int 0)))) (dBin gAdd (dVar 1) (dTup (dCons (dTup (dCons (dC (.int 0)) (dCons (dC (.int 1)) (dCons (dC (.int 0)) (dCons (dC (.int 1)) dNil))))) dNil))) (dVar 1))))
    dNext)
    (dSeq (dAsg (dLstM dNil) (.one 2))
    (dSeq (dAsg (dCall c__law_one_of (dCons (dVar 0) (dCons (dLst (dCons (dTup (dCons (dC (.int 3)) (dCons (dC (.int 3)) dNil))) (dCons (dTup (dCons (dC (.int 3)) (dCons (dC (.int 3)) dNil))) (dCons (dTup (dCons (dC (.int 9)) (dCons (dC (.int 10)) dNil))) dNil)))) dNil))) (.many [3, 4]))
    (dSeq (dFor (iRange1 (dCons (dBin gAdd (dC (.int 1)) (dCall c__law_draw (dCons (dVar 0) (dCons (dC (.int 4)) dNil)))) dNil)) (.one 5)
    (dDrop (dAppend (dVar 2) (dBin gAdd (dFun gTuple (dCons (dLc (iRange1 (dCons (dC (.int 3)) dNil)) [6] (.one 6) tAll (dBin gSub (dCall c__law_draw (dCons (dVar 0) (dCons (dBin gAdd (dBin gMul (dC (.int 2)) (dVar 3)) (dC (.int 1))) dNil))) (dVar 3))) dNil)) (dTup (dCons (dCall c__law_draw (dCons (dVar 0) (dCons (dVar 4) dNil))) dNil))))))
    (dRet (dFun gTuple (dCons (dVar 2) dNil)))))))
theorem len__law_resilience : ∀ xs M, (c__law_resilience).pre xs M → xs.length = 1 := penC.len

theorem cut0 {M M' : Mem} {p q : Addr} {ds : List PyData} (s : PenStep p M M') (h : M q = some ds) (n : q ≠ p) : M' q = some ds := s.2 q ds n h

theorem sp__law_resilience : ∀ xs M, (c__law_resilience).pre xs M → g__law_resilience (ends c__law_resilience xs M) (startD ["pen", "rows", "found", "top", "least", "lap", "place"] xs) M := by
  rintro _ M ⟨p, rfl, hp⟩
  simp only [g__law_resilience, dSeq, dNext, dRet, dRetN, dIfS, dDrop, dAsg, dPar, dPut, dSet1, setT, setAll, dVar, dC, dBin, dUn, dFun, dNot, chain_eq, dTup, dLst, dLstM, and_eq, or_eq, dIf, tVal, tAnd2, tOr2, tNot1, dCall, dCons, dNil, gAdd, gAddM, gSub, gMod, gPow, gMul, gNeg, gLt, gLe, gGt, gGe, gInt, gInt0, gIx, dSl, oNo, oSome, gSl, gLen, gInt1, gList, gListM, seqOf, gTuple, gMin2, gMax2, gRepr, dIsi, dTyEq, dAppend, dRev, dDict0, dRaise, dTry, catching, inSuite, dFld, vw, allD, Nat.reduceAdd, iRange1, startD, ends, wipeD, lcTurn, noX, iTupD, iLst, iEnumD, tAll, dLc, dLcM, dFor, gEqC, gNeC, gBools, boolsOf, List.map_cons, List.map_nil, List.length_cons, List.length_nil, List.replicate, List.cons_append, List.nil_append, List.getElem?_cons_zero, List.getElem?_cons_succ, List.set_cons_zero, List.set_cons_succ, Option.map_some, Option.map_none, PyData.eqv]
  refine call_draw hp (by decide) (by decide) fun i M1 h0 h1 s1 => ?_
  simp only [dSeq, dNext, dRet, dRetN, dIfS, dDrop, dAsg, dPar, dPut, dSet1, setT, setAll, dVar, dC, dBin, dUn, dFun, dNot, chain_eq, dTup, dLst, dLstM, and_eq, or_eq, dIf, tVal, tAnd2, tOr2, tNot1, dCall, dCons, dNil, gAdd, gAddM, gSub, gMod, gPow, gMul, gNeg, gLt, gLe, gGt, gGe, gInt, gInt0, gIx, dSl, oNo, oSome, gSl, gLen, gInt1, gList, gListM, seqOf, gTuple, gMin2, gMax2, gRepr, dIsi, dTyEq, dAppend, dRev, dDict0, dRaise, dTry, catching, inSuite, dFld, vw, allD, Nat.reduceAdd, iRange1, startD, ends, wipeD, lcTurn, noX, iTupD, iLst, iEnumD, tAll, dLc, dLcM, dFor, gEqC, gNeC, gBools, boolsOf, List.map_cons, List.map_nil, List.length_cons, List.length_nil, List.replicate, List.cons_append, List.nil_append, List.getElem?_cons_zero, List.getElem?_cons_succ, List.set_cons_zero, List.set_cons_succ, Option.map_some, Option.map_none]
  split
  · refine ⟨by decide, ?_⟩
    refine call_one_of s1.1 (by simp) (by simp) fun d M2 hd s2 => ?_
    have hz : ∃ z, d = .int z ∧ Sm z := by
      simp only [List.mem_cons, List.not_mem_nil, or_false] at hd
      rcases hd with rfl | rfl | rfl | rfl <;> exact ⟨_, rfl, by unfold Sm; omega⟩
    obtain ⟨z, rfl, hz⟩ := hz
    simp only [dSeq, dNext, dRet, dRetN, dIfS, dDrop, dAsg, dPar, dPut, dSet1, setT, setAll, dVar, dC, dBin, dUn, dFun, dNot, chain_eq, dTup, dLst, dLstM, and_eq, or_eq, dIf, tVal, tAnd2, tOr2, tNot1, dCall, dCons, dNil, gAdd, gAddM, gSub, gMod, gPow, gMul, gNeg, gLt, gLe, gGt, gGe, gInt, gInt0, gIx, dSl, oNo, oSome, gSl, gLen, gInt1, gList, gListM, seqOf, gTuple, gMin2, gMax2, gRepr, dIsi, dTyEq, dAppend, dRev, dDict0, dRaise, dTry, catching, inSuite, dFld, vw, allD, Nat.reduceAdd, iRange1, startD, ends, wipeD, lcTurn, noX, iTupD, iLst, iEnumD, tAll, dLc, dLcM, dFor, gEqC, gNeC, gBools, boolsOf, List.map_cons, List.map_nil, List.length_cons, List.length_nil, List.replicate, List.cons_append, List.nil_append, List.getElem?_cons_zero, List.getElem?_cons_succ, List.set_cons_zero, List.set_cons_succ, Option.map_some, Option.map_none]
    refine ⟨by decide, by decide, by decide, ?_⟩
    refine call_draw s2.1 (by decide) (by decide) fun i3 M3 h03 h13 s3 => ?_
    simp only [dSeq, dNext, dRet, dRetN, dIfS, dDrop, dAsg, dPar, dPut, dSet1, setT, setAll, dVar, dC, dBin, dUn, dFun, dNot, chain_eq, dTup, dLst, dLstM, and_eq, or_eq, dIf, tVal, tAnd2, tOr2, tNot1, dCall, dCons, dNil, gAdd, gAddM, gSub, gMod, gPow, gMul, gNeg, gLt, gLe, gGt, gGe, gInt, gInt0, gIx, dSl, oNo, oSome, gSl, gLen, gInt1, gList, gListM, seqOf, gTuple, gMin2, gMax2, gRepr, dIsi, dTyEq, dAppend, dRev, dDict0, dRaise, dTry, catching, inSuite, dFld, vw, allD, Nat.reduceAdd, iRange1, startD, ends, wipeD, lcTurn, noX, iTupD, iLst, iEnumD, tAll, dLc, dLcM, dFor, gEqC, gNeC, gBools, boolsOf, List.map_cons, List.map_nil, List.length_cons, List.length_nil, List.replicate, List.cons_append, List.nil_append, List.getElem?_cons_zero, List.getElem?_cons_succ, List.set_cons_zero, List.set_cons_succ, Option.map_some, Option.map_none]
    refine ⟨cmp_int _ _, ?_⟩
    have hrow : RowOk (.tuple [.int 1, .int (0 - z), .int 0, .int 1]) := row_of rfl (by unfold Sm; omega) (by unfold Sm at hz ⊢; omega) (by unfold Sm; omega) (by unfold Sm; omega)
    have hrow2 : RowOk (.tuple [.int 0, .int 1, .int (-1), .int 0]) := row_of rfl (by unfold Sm; omega) (by unfold Sm; omega) (by unfold Sm; omega) (by unfold Sm; omega)
    have hrow3 : RowOk (.tuple [.int 0, .int 1, .int 0, .int 1]) := row_of rfl (by unfold Sm; omega) (by unfold Sm; omega) (by unfold Sm; omega) (by unfold Sm; omega)
    split
    · refine ⟨by decide, by decide, by decide, ?_⟩
      intro q hq
      cases hq
      refine ⟨_, rfl, ⟨_, rfl, ?_, by simp, by simp⟩, s1.trans (s2.trans s3)⟩
      intro r hr
      simp only [List.cons_append, List.nil_append, List.mem_cons, List.not_mem_nil, or_false] at hr
      rcases hr with rfl | rfl | rfl
      · exact hrow
      · exact hrow2
      · exact hrow3
    · intro q hq
      cases hq
      refine ⟨_, rfl, ⟨_, rfl, ?_, by simp, by simp⟩, s1.trans (s2.trans s3)⟩
      intro r hr
      simp only [List.mem_cons, List.not_mem_nil, or_false] at hr
      rcases hr with rfl | rfl
      · exact hrow
      · exact hrow2
  · refine ⟨by decide, fun q hq => ?_⟩
    have hqp : p ≠ q := s1.1.ne hq
    have hMq : M q = none := by
      cases e : M q with
      | none => rfl
      | some ds => rw [s1.2 q ds hqp.symm e] at hq; cases hq
    refine ⟨by decide, by decide, by decide, by decide, ?_⟩
    have sA : PenStep p M (updM M1 q []) := s1.write hMq hqp
    refine call_one_of sA.1 (by simp) (by simp) fun d M2 hd s2 => ?_
    have hz : ∃ top least, d = .tuple [.int top, .int least] ∧ 1 ≤ top ∧ top ≤ 9 ∧ 1 ≤ least ∧ least ≤ 10 := by
      simp only [List.mem_cons, List.not_mem_nil, or_false] at hd
      rcases hd with rfl | rfl | rfl <;> exact ⟨_, _, rfl, by decide, by decide, by decide, by decide⟩
    obtain ⟨top, least, rfl, ht0, ht1, hl0, hl1⟩ := hz
    simp only [dSeq, dNext, dRet, dRetN, dIfS, dDrop, dAsg, dPar, dPut, dSet1, setT, setAll, dVar, dC, dBin, dUn, dFun, dNot, chain_eq, dTup, dLst, dLstM, and_eq, or_eq, dIf, tVal, tAnd2, tOr2, tNot1, dCall, dCons, dNil, gAdd, gAddM, gSub, gMod, gPow, gMul, gNeg, gLt, gLe, gGt, gGe, gInt, gInt0, gIx, dSl, oNo, oSome, gSl, gLen, gInt1, gList, gListM, seqOf, gTuple, gMin2, gMax2, gRepr, dIsi, dTyEq, dAppend, dRev, dDict0, dRaise, dTry, catching, inSuite, dFld, vw, allD, Nat.reduceAdd, iRange1, startD, ends, wipeD, lcTurn, noX, iTupD, iLst, iEnumD, tAll, dLc, dLcM, dFor, gEqC, gNeC, gBools, boolsOf, List.map_cons, List.map_nil, List.length_cons, List.length_nil, List.replicate, List.cons_append, List.nil_append, List.getElem?_cons_zero, List.getElem?_cons_succ, List.set_cons_zero, List.set_cons_succ, Option.map_some, Option.map_none]
    refine call_draw s2.1 (by decide) (by decide) fun i3 M3 h03 h13 s3 => ?_
    have sB := sA.trans (s2.trans s3)
    have hq3 : M3 q = some [] := cut0 s3 (cut0 s2 updM_same hqp.symm) hqp.symm
    refine ⟨⟨by omega, by omega⟩, ?_⟩
    refine forD_run (fun r ρ M' => ∃ rows y, ρ = [some (.m p), none, some (.m q), some (.d (.int top)), some (.d (.int least)), y, none] ∧ M' q = some rows ∧ (∀ r ∈ rows, RowOk r) ∧ rows.length + r.length = (1 + i3).toNat ∧ PenStep p M M') (fun _ _ _ _ => trivial) ?_ ?_ _ _ _ ⟨[], none, rfl, hq3, by simp, by simp [rangeD], sB⟩
    · rintro x r ρ M4 nx ⟨rows, y, rfl, h4, hr, hlen, s4⟩ hn
      simp only [dSeq, dNext, dRet, dRetN, dIfS, dDrop, dAsg, dPar, dPut, dSet1, setT, setAll, dVar, dC, dBin, dUn, dFun, dNot, chain_eq, dTup, dLst, dLstM, and_eq, or_eq, dIf, tVal, tAnd2, tOr2, tNot1, dCall, dCons, dNil, gAdd, gAddM, gSub, gMod, gPow, gMul, gNeg, gLt, gLe, gGt, gGe, gInt, gInt0, gIx, dSl, oNo, oSome, gSl, gLen, gInt1, gList, gListM, seqOf, gTuple, gMin2, gMax2, gRepr, dIsi, dTyEq, dAppend, dRev, dDict0, dRaise, dTry, catching, inSuite, dFld, vw, allD, Nat.reduceAdd, iRange1, startD, ends, wipeD, lcTurn, noX, iTupD, iLst, iEnumD, tAll, dLc, dLcM, dFor, gEqC, gNeC, gBools, boolsOf, List.map_cons, List.map_nil, List.length_cons, List.length_nil, List.replicate, List.cons_append, List.nil_append, List.getElem?_cons_zero, List.getElem?_cons_succ, List.set_cons_zero, List.set_cons_succ, Option.map_some, Option.map_none]
      refine ⟨by decide, ?_⟩
      refine lc_pen (P := fun d => ∃ z, d = .int z ∧ Sm z) ?_ s4.1 ?_ ?_
      · exact (by decide : (3 : Nat) ≤ sizeLine)
      · intro x hx M5 R ho hR
        simp only [dSeq, dNext, dRet, dRetN, dIfS, dDrop, dAsg, dPar, dPut, dSet1, setT, setAll, dVar, dC, dBin, dUn, dFun, dNot, chain_eq, dTup, dLst, dLstM, and_eq, or_eq, dIf, tVal, tAnd2, tOr2, tNot1, dCall, dCons, dNil, gAdd, gAddM, gSub, gMod, gPow, gMul, gNeg, gLt, gLe, gGt, gGe, gInt, gInt0, gIx, dSl, oNo, oSome, gSl, gLen, gInt1, gList, gListM, seqOf, gTuple, gMin2, gMax2, gRepr, dIsi, dTyEq, dAppend, dRev, dDict0, dRaise, dTry, catching, inSuite, dFld, vw, allD, Nat.reduceAdd, iRange1, startD, ends, wipeD, lcTurn, noX, iTupD, iLst, iEnumD, tAll, dLc, dLcM, dFor, gEqC, gNeC, gBools, boolsOf, List.map_cons, List.map_nil, List.length_cons, List.length_nil, List.replicate, List.cons_append, List.nil_append, List.getElem?_cons_zero, List.getElem?_cons_succ, List.set_cons_zero, List.set_cons_succ, Option.map_some, Option.map_none]
        refine ⟨CM_l (by decide) (by decide), ?_⟩
        refine call_draw ho (by omega) (log_sm (by omega) (by omega)) fun i6 M6 h06 h16 s6 => ?_
        exact hR _ _ ⟨_, rfl, by unfold Sm; omega⟩ s6
      · intro pl M5 acc h5 hal hP s5
        simp only [h5]
        refine call_draw s5.1 (by omega) (log_sm (by omega) (by omega)) fun i6 M6 h06 h16 s6 => ?_
        have e3 : acc.length = 3 := by rw [hal]; rfl
        match acc, e3 with
        | [a, b, c], _ =>
          obtain ⟨za, rfl, ha⟩ := hP a (by simp)
          obtain ⟨zb, rfl, hb⟩ := hP b (by simp)
          obtain ⟨zc, rfl, hc⟩ := hP c (by simp)
          simp only [cut0 s6 (cut0 s5 h4 hqp.symm) hqp.symm, dSeq, dNext, dRet, dRetN, dIfS, dDrop, dAsg, dPar, dPut, dSet1, setT, setAll, dVar, dC, dBin, dUn, dFun, dNot, chain_eq, dTup, dLst, dLstM, and_eq, or_eq, dIf, tVal, tAnd2, tOr2, tNot1, dCall, dCons, dNil, gAdd, gAddM, gSub, gMod, gPow, gMul, gNeg, gLt, gLe, gGt, gGe, gInt, gInt0, gIx, dSl, oNo, oSome, gSl, gLen, gInt1, gList, gListM, seqOf, gTuple, gMin2, gMax2, gRepr, dIsi, dTyEq, dAppend, dRev, dDict0, dRaise, dTry, catching, inSuite, dFld, vw, allD, Nat.reduceAdd, iRange1, startD, ends, wipeD, lcTurn, noX, iTupD, iLst, iEnumD, tAll, dLc, dLcM, dFor, gEqC, gNeC, gBools, boolsOf, List.map_cons, List.map_nil, List.length_cons, List.length_nil, List.replicate, List.cons_append, List.nil_append, List.getElem?_cons_zero, List.getElem?_cons_succ, List.set_cons_zero, List.set_cons_succ, Option.map_some, Option.map_none]
          refine ⟨by decide, by decide, line2 (by simp at hlen; omega), ?_⟩
          refine hn _ _ ⟨_, _, rfl, updM_same, ?_, by simp at hlen ⊢; omega, (s4.trans (s5.trans s6)).write hMq hqp⟩
          intro r' hr'
          rcases List.mem_append.mp hr' with z | z
          · exact hr r' z
          · simp at z; subst z
            exact row_of rfl ha hb hc (by unfold Sm; omega)
    · rintro ρ M4 ⟨rows, y, rfl, h4, hr, hlen, s4⟩
      simp only [dSeq, dNext, dRet, dRetN, dIfS, dDrop, dAsg, dPar, dPut, dSet1, setT, setAll, dVar, dC, dBin, dUn, dFun, dNot, chain_eq, dTup, dLst, dLstM, and_eq, or_eq, dIf, tVal, tAnd2, tOr2, tNot1, dCall, dCons, dNil, gAdd, gAddM, gSub, gMod, gPow, gMul, gNeg, gLt, gLe, gGt, gGe, gInt, gInt0, gIx, dSl, oNo, oSome, gSl, gLen, gInt1, gList, gListM, seqOf, gTuple, gMin2, gMax2, gRepr, dIsi, dTyEq, dAppend, dRev, dDict0, dRaise, dTry, catching, inSuite, dFld, vw, allD, Nat.reduceAdd, iRange1, startD, ends, wipeD, lcTurn, noX, iTupD, iLst, iEnumD, tAll, dLc, dLcM, dFor, gEqC, gNeC, gBools, boolsOf, List.map_cons, List.map_nil, List.length_cons, List.length_nil, List.replicate, List.cons_append, List.nil_append, List.getElem?_cons_zero, List.getElem?_cons_succ, List.set_cons_zero, List.set_cons_succ, Option.map_some, Option.map_none, h4]
      intro q' hq'
      cases hq'
      exact ⟨_, rfl, ⟨rows, rfl, hr, by simp at hlen; omega, by simp at hlen; omega⟩, s4⟩

end K01

namespace K01
open PySem PySem.Spec PyProof.Rows HD
open L2 (kitB atI)


def cB (k : Nat) : Nat → DSp
  | 0 => { pre := fun _ _ => False, post := fun _ _ _ _ => True }
  | t + 1 => { pre := fun xs M => ∃ p v, xs = [.m p, .d v, .d (.int (t : Nat))] ∧ PenOk M p ∧ lf k v = true ∧ v.bulk ≤ 1000, post := fun xs M x M' => ∀ p v, xs = [.m p, .d v, .d (.int (t : Nat))] → ∃ d, x = .d d ∧ Fit (2 * v.bulk + 40) (k + 1) (v.depth + 5) d ∧ PenStep p M M' }
theorem call_B {t : Nat} {p : Addr} {v : PyData} {k : Nat} {M : Mem} {E : Value → List (Str × PyData) → Mem → Prop} {Q : DK} (h : PenOk M p) (hf : lf k v = true) (hn : v.bulk ≤ 1000) (hq : ∀ d M', Fit (2 * v.bulk + 40) (k + 1) (v.depth + 5) d → PenStep p M M' → Q (.d d) M') :
    (cB k (t + 1)).pre [.m p, .d v, .d (.int (t : Nat))] M ∧ (∀ x M2, (cB k (t + 1)).post [.m p, .d v, .d (.int (t : Nat))] M x M2 → Q x M2) ∧ (∀ cls fs M2, (cB k (t + 1)).err [.m p, .d v, .d (.int (t : Nat))] M cls fs M2 → E cls fs M2) :=
  ⟨⟨p, v, rfl, h, hf, hn⟩, fun x M2 q => by obtain ⟨d, rfl, a, s⟩ := q p v rfl; exact hq d M2 a s, fun _ _ _ q => q.elim⟩
theorem at_get {ds : List PyData} {i : Int} (h0 : 0 ≤ i) (h1 : i < ds.length) : ∃ (j : Nat) (d : PyData), i = j ∧ j < ds.length ∧ ds[j]? = some d ∧ atI ds (j : Int) = some d := by
  obtain ⟨j, rfl⟩ : ∃ j : Nat, i = j := ⟨i.toNat, by omega⟩
  have hj : j < ds.length := by omega
  refine ⟨j, ds[j], rfl, hj, by simp, ?_⟩
  unfold atI L2.ixN
  rw [if_pos (by omega), if_pos (by omega)]
  simp
theorem Fit.d0 {n k t : Nat} {d : PyData} (h : Fit n k t d) (m k' t' : Nat) (hm : n ≤ m) (hk : k ≤ k') (ht : t ≤ t') : Fit m k' t' d := h.up hm hk ht

def g_leaf : DS :=
  (dSeq (dAsg (dCall c__law_draw (dCons (dVar 0) (dCons (dC (.int 8)) dNil))) (.one 3))
    (dSeq (dIfS (tAnd2 (tVal (dIsi "int" (dVar 1))) (tAnd2 (tNot1 (tVal (dIsi "bool" (dVar 1)))) (tVal (dBin gLt (dVar 3) (dC (.int 6))))))
    (dRet (dBin gIx (dLst (dCons (dBin gAdd (dVar 1) (dC (.int 1))) (dCons (dBin gSub (dVar 1) (dC (.int 1))) (dCons (dBin gEqC (dVar 1) (dC (.int 1))) (dCons (dC (.int 0)) (dCons (dUn gNeg (dVar 1)) (dCons (dBin gAdd (dVar 1) (dC (.int 1))) dNil))))))) (dVar 3)))
    dNext)
    (dSeq (dIfS (tAnd2 (tVal (dIsi "tuple" (dVar 1))) (tVal (dBin gLt (dVar 3) (dC (.int 6)))))
    (dRet (dBin gIx (dLst (dCons (dSl (dVar 1) (oSome (dC (.int 1))) oNo) (dCons (dSl (dVar 1) oNo (oSome (dUn gNeg (dC (.int 1))))) (dCons (dBin gAdd (dVar 1) (dSl (dVar 1) oNo (oSome (dC (.int 1))))) (dCons (dRev (dVar 1)) (dCons (dFun gList (dCons (dVar 1) dNil)) (dCons (dBin gAdd (dVar 1) (dTup (dCons (dC (.int 0)) dNil))) dNil))))))) (dVar 3)))
    dNext)
    (dRet (dCall c__law_odd (dCons (dVar 0) dNil))))))
def g_rest (cr : DSp) : DS :=
  (dSeq (dAsg (dCall c__law_draw (dCons (dVar 0) (dCons (dFun gLen (dCons (dVar 1) dNil)) dNil))) (.one 4))
    (dSeq (dAsg (dCall cr (dCons (dVar 0) (dCons (dBin gIx (dVar 1) (dVar 4)) (dCons (dBin gSub (dVar 2) (dC (.int 1))) dNil)))) (.one 5))
    (dRet (dBin gAdd (dBin gAdd (dSl (dVar 1) oNo (oSome (dVar 4))) (dTup (dCons (dVar 5) dNil))) (dSl (dVar 1) (oSome (dBin gAdd (dVar 4) (dC (.int 1)))) oNo)))))
def g__law_bent (cr : DSp) : DS :=
  (dSeq (dIfS (tOr2 (tNot1 (tVal (dIsi "tuple" (dVar 1)))) (tOr2 (tVal (dBin gEqC (dVar 1) (dTup dNil))) (tOr2 (tVal (dBin gEqC (dVar 2) (dC (.int 0)))) (tVal (dBin gEqC (dCall c__law_draw (dCons (dVar 0) (dCons (dC (.int 6)) dNil))) (dC (.int 0)))))))
    g_leaf
    dNext)
    (g_rest cr))

theorem leaf_ok {D : DEnds} {p : Addr} {M M1 : Mem} {v : PyData} {x2 : Option DV} {n k e : Nat} (hf : Fit n k e v) (hn : n ≤ 1000) (hD : ∀ d M', Fit (2 * n + 40) (k + 1) (e + 5) d → PenStep p M M' → D.rt (.d d) M') (s : PenStep p M M1) :
    g_leaf D [some (.m p), some (.d v), x2, none, none, none] M1 := by
  simp only [g_leaf, dSeq, dNext, dRet, dRetN, dIfS, dDrop, dAsg, dPar, dPut, dSet1, setT, setAll, dVar, dC, dBin, dUn, dFun, dNot, chain_eq, dTup, dLst, dLstM, and_eq, or_eq, dIf, tVal, tAnd2, tOr2, tNot1, dCall, dCons, dNil, gAdd, gAddM, gSub, gMod, gPow, gMul, gNeg, gLt, gLe, gGt, gGe, gInt, gInt0, gIx, dSl, oNo, oSome, gSl, gLen, gInt1, gList, gListM, seqOf, gTuple, gMin2, gMax2, gRepr, dIsi, dTyEq, dAppend, dRev, dDict0, dRaise, dTry, catching, inSuite, dFld, vw, allD, Nat.reduceAdd, iRange1, startD, ends, wipeD, lcTurn, noX, iTupD, iLst, iEnumD, tAll, dLc, dLcM, dFor, gEqC, gNeC, gBools, boolsOf, List.map_cons, List.map_nil, List.length_cons, List.length_nil, List.replicate, List.cons_append, List.nil_append, List.getElem?_cons_zero, List.getElem?_cons_succ, List.set_cons_zero, List.set_cons_succ, Option.map_some, Option.map_none, kit_int, kit_bool, kit_tuple, PyData.eqv]
  refine call_draw s.1 (by decide) (by decide) fun i M2 h0 h1 s2 => ?_
  have odd : c__law_odd.pre [.m p] M2 ∧ (∀ x M3, c__law_odd.post [.m p] M2 x M3 → D.rt x M3) ∧ (∀ cls fs M3, c__law_odd.err [.m p] M2 cls fs M3 → D.ex cls fs [some (.m p), some (.d v), x2, some (.d (.int i)), none, none] M3) :=
    call_pen s2.1 fun d M3 hd s3 => hD d M3 (hd.up (by omega) (by omega) (by omega)) (s.trans (s2.trans s3))
  cases v with
  | int z =>
    try simp only [Bool.not_false, Bool.not_true]
    split
    · refine ⟨cmp_int _ _, by decide, ?_⟩
      have hi : i < 6 := by rename_i h; simpa using h
      obtain ⟨d, hd, ed⟩ := at_in (ds := [.int (z + 1), .int (z - 1), .bool (PyData.eqv (.int z) (.int 1)), .int 0, .int (-z), .int (z + 1)]) h0 (by simpa using hi)
      simp only [ed]
      refine hD d M2 ?_ (s.trans s2)
      have hz : z.natAbs ≤ 10 ^ 61 + k := by simpa only [HD.lf, decide_eq_true_eq] using hf.lf
      have fi : ∀ y : Int, y.natAbs ≤ z.natAbs + 1 → Fit (2 * n + 40) (k + 1) (e + 5) (.int y) := fun y hy => (Fit.int (k := k + 1) (by omega)).up (by omega) (by omega) (by omega)
      simp only [List.mem_cons, List.not_mem_nil, or_false] at hd
      rcases hd with rfl | rfl | rfl | rfl | rfl | rfl
      · exact fi _ (by omega)
      · exact fi _ (by omega)
      · exact ⟨rfl, by simp [PyData.bulk], by simp [PyData.depth]⟩
      · exact fi _ (by omega)
      · exact fi _ (by omega)
      · exact fi _ (by omega)
    · exact odd
  | tuple xs =>
    try simp only [Bool.not_false, Bool.not_true]
    split
    · have hi : i < 6 := by rename_i h; simpa using h
      obtain ⟨e', rfl⟩ : ∃ e', e = e' + 1 := ⟨e - 1, by have := hf.depth; simp only [PyData.depth] at this; omega⟩
      have fa : FitA n k e' xs := hf.all
      have hlen : xs.length ≤ 1000 := Nat.le_trans (bulkAll_length xs) (Nat.le_trans fa.bulk hn)
      have c1 : ((-1 : Int)) = -((1 : Nat) : Int) := rfl
      have t1 : HD.cutD xs (some 1) none = xs.drop (min 1 xs.length) := by
        unfold HD.cutD
        rw [show (1 : Int) = ((1 : Nat) : Int) from rfl, HT.sIx_nat, HT.sIx_none, List.take_of_length_le (by rw [List.length_drop]; omega)]
      obtain ⟨j2, t2⟩ : ∃ j, HD.cutD xs none (some (-1)) = xs.take j := by
        unfold HD.cutD
        rw [HT.sIx_none, List.drop_zero]
        exact ⟨_, rfl⟩
      have t3 : HD.cutD xs none (some 1) = xs.take (min 1 xs.length) := by
        unfold HD.cutD
        rw [show (1 : Int) = ((1 : Nat) : Int) from rfl, HT.sIx_nat, HT.sIx_none, List.drop_zero, Nat.sub_zero]
      try simp only [t1, t2, t3]
      refine ⟨line1 (by rw [List.length_take]; omega), by decide, line1 (by simp; omega), by decide, ?_⟩
      obtain ⟨d, hd, ed⟩ := at_in (ds := [.tuple (xs.drop (min 1 xs.length)), .tuple (xs.take j2), .tuple (xs ++ xs.take (min 1 xs.length)), .tuple xs.reverse, .list xs, .tuple (xs ++ [.int 0])]) h0 (by simpa using hi)
      simp only [ed]
      refine hD d M2 ?_ (s.trans s2)
      simp only [List.mem_cons, List.not_mem_nil, or_false] at hd
      rcases hd with rfl | rfl | rfl | rfl | rfl | rfl
      · exact ((fa.drop _).tup).up (by omega) (by omega) (by omega)
      · exact ((fa.take _).tup).up (by omega) (by omega) (by omega)
      · exact ((fa.app (fa.take _)).tup).up (by omega) (by omega) (by omega)
      · exact (fa.rev.tup).up (by omega) (by omega) (by omega)
      · exact (fa.lst).up (by omega) (by omega) (by omega)
      · exact ((fa.app ((FitA.one (Fit.int (i := 0) (by omega))).up (by omega : 0 + 1 ≤ 1) (Nat.le_refl k) (Nat.zero_le e'))).tup).up (by omega) (by omega) (by omega)
    · exact odd
  | _ =>
    try simp only [Bool.not_false, Bool.not_true]
    exact odd
theorem rest_ok {D : DEnds} {p : Addr} {t : Nat} {M M1 : Mem} {xs : List PyData} {n k e : Nat} (hf : Fit n k e (.tuple xs)) (hn : n ≤ 1000) (hx : xs ≠ []) (hD : ∀ d M', Fit (2 * n + 40) (k + 1) (e + 5) d → PenStep p M M' → D.rt (.d d) M') (s : PenStep p M M1) :
    g_rest (cB k (t + 1)) D [some (.m p), some (.d (.tuple xs)), some (.d (.int ((t + 1 : Nat) : Int))), none, none, none] M1 := by
  have et : (((t + 1 : Nat) : Int) - 1) = (t : Nat) := by omega
  obtain ⟨e', rfl⟩ : ∃ e', e = e' + 1 := ⟨e - 1, by have := hf.depth; simp only [PyData.depth] at this; omega⟩
  have fa : FitA n k e' xs := hf.all
  have hlen : xs.length ≤ 1000 := Nat.le_trans (bulkAll_length xs) (Nat.le_trans fa.bulk hn)
  have hpos : (0 : Int) < xs.length := by have := List.length_pos_iff.mpr hx; omega
  simp only [g_rest, dSeq, dNext, dRet, dRetN, dIfS, dDrop, dAsg, dPar, dPut, dSet1, setT, setAll, dVar, dC, dBin, dUn, dFun, dNot, chain_eq, dTup, dLst, dLstM, and_eq, or_eq, dIf, tVal, tAnd2, tOr2, tNot1, dCall, dCons, dNil, gAdd, gAddM, gSub, gMod, gPow, gMul, gNeg, gLt, gLe, gGt, gGe, gInt, gInt0, gIx, dSl, oNo, oSome, gSl, gLen, gInt1, gList, gListM, seqOf, gTuple, gMin2, gMax2, gRepr, dIsi, dTyEq, dAppend, dRev, dDict0, dRaise, dTry, catching, inSuite, dFld, vw, allD, Nat.reduceAdd, iRange1, startD, ends, wipeD, lcTurn, noX, iTupD, iLst, iEnumD, tAll, dLc, dLcM, dFor, gEqC, gNeC, gBools, boolsOf, List.map_cons, List.map_nil, List.length_cons, List.length_nil, List.replicate, List.cons_append, List.nil_append, List.getElem?_cons_zero, List.getElem?_cons_succ, List.set_cons_zero, List.set_cons_succ, Option.map_some, Option.map_none, et]
  refine call_draw s.1 hpos (log_sm (by omega) (by omega)) fun i M2 h0 h1 s2 => ?_
  obtain ⟨j, y, rfl, hj, ey, ea⟩ := at_get h0 h1
  simp only [ea]
  have hye := fa.depth y (List.mem_of_getElem? ey)
  have hb := bulkAll_at ey
  have hbn := fa.bulk
  refine call_B s2.1 (fa.lf y (List.mem_of_getElem? ey)) (by omega) fun d M3 hd s3 => ?_
  have e1 : ((j : Int) + 1) = ((j + 1 : Nat) : Int) := rfl
  simp only [dSeq, dNext, dRet, dRetN, dIfS, dDrop, dAsg, dPar, dPut, dSet1, setT, setAll, dVar, dC, dBin, dUn, dFun, dNot, chain_eq, dTup, dLst, dLstM, and_eq, or_eq, dIf, tVal, tAnd2, tOr2, tNot1, dCall, dCons, dNil, gAdd, gAddM, gSub, gMod, gPow, gMul, gNeg, gLt, gLe, gGt, gGe, gInt, gInt0, gIx, dSl, oNo, oSome, gSl, gLen, gInt1, gList, gListM, seqOf, gTuple, gMin2, gMax2, gRepr, dIsi, dTyEq, dAppend, dRev, dDict0, dRaise, dTry, catching, inSuite, dFld, vw, allD, Nat.reduceAdd, iRange1, startD, ends, wipeD, lcTurn, noX, iTupD, iLst, iEnumD, tAll, dLc, dLcM, dFor, gEqC, gNeC, gBools, boolsOf, List.map_cons, List.map_nil, List.length_cons, List.length_nil, List.replicate, List.cons_append, List.nil_append, List.getElem?_cons_zero, List.getElem?_cons_succ, List.set_cons_zero, List.set_cons_succ, Option.map_some, Option.map_none, e1, cut_to xs j (by omega), cut_from xs (j + 1) (by omega), List.length_take, List.length_drop, List.length_append]
  refine ⟨by decide, line1 (by omega), line1 (by omega), ?_⟩
  refine hD _ _ ?_ (s.trans (s2.trans s3))
  have hput := FitA.put (m := y.bulk + 40) fa ey rfl (hd.up (by omega : 2 * y.bulk + 40 ≤ y.bulk + (y.bulk + 40)) (Nat.le_refl _) (by omega : y.depth + 5 ≤ e' + 5)) (Nat.le_succ k) (by omega)
  exact hput.tup.up (by omega) (by omega) (by omega)
theorem sp_bent (k t : Nat) : ∀ xs M, (cB k (t + 1)).pre xs M → g__law_bent (cB k t) (ends (cB k (t + 1)) xs M) (startD ["pen", "value", "depth", "option", "at", "part"] xs) M := by
  rintro _ M ⟨p, v, rfl, hp, hl, hn⟩
  have hf : Fit v.bulk k v.depth v := ⟨hl, Nat.le_refl _, Nat.le_refl _⟩
  have hR : ∀ d M', Fit (2 * v.bulk + 40) (k + 1) (v.depth + 5) d → PenStep p M M' → (cB k (t + 1)).post [.m p, .d v, .d (.int (t : Nat))] M (.d d) M' := by
    intro d M' hd s q w hq
    cases hq
    exact ⟨d, rfl, hd, s⟩
  simp only [g__law_bent, dSeq, dNext, dRet, dRetN, dIfS, dDrop, dAsg, dPar, dPut, dSet1, setT, setAll, dVar, dC, dBin, dUn, dFun, dNot, chain_eq, dTup, dLst, dLstM, and_eq, or_eq, dIf, tVal, tAnd2, tOr2, tNot1, dCall, dCons, dNil, gAdd, gAddM, gSub, gMod, gPow, gMul, gNeg, gLt, gLe, gGt, gGe, gInt, gInt0, gIx, dSl, oNo, oSome, gSl, gLen, gInt1, gList, gListM, seqOf, gTuple, gMin2, gMax2, gRepr, dIsi, dTyEq, dAppend, dRev, dDict0, dRaise, dTry, catching, inSuite, dFld, vw, allD, Nat.reduceAdd, iRange1, startD, ends, wipeD, lcTurn, noX, iTupD, iLst, iEnumD, tAll, dLc, dLcM, dFor, gEqC, gNeC, gBools, boolsOf, List.map_cons, List.map_nil, List.length_cons, List.length_nil, List.replicate, List.cons_append, List.nil_append, List.getElem?_cons_zero, List.getElem?_cons_succ, List.set_cons_zero, List.set_cons_succ, Option.map_some, Option.map_none, kit_tuple, PyData.eqv]
  cases v with
  | tuple xs =>
    simp only [Bool.not_true]
    cases xs with
    | nil => 
      simp only [List.isEmpty_nil]
      exact ⟨by decide, leaf_ok hf hn hR (PenStep.refl hp)⟩
    | cons x xs =>
      simp only [List.isEmpty_cons]
      refine ⟨by decide, cmp_int _ _, ?_⟩
      cases t with
      | zero => exact leaf_ok hf hn hR (PenStep.refl hp)
      | succ t =>
        have h0 : decide (((t + 1 : Nat) : Int) = 0) = false := by simp; omega
        try simp only [h0]
        refine call_draw hp (by decide) (by decide) fun i M2 h0 h1 s2 => ?_
        refine ⟨cmp_int _ _, ?_⟩
        split
        · exact leaf_ok hf hn hR s2
        · exact rest_ok hf hn (by simp) hR s2
  | _ =>
    simp only [Bool.not_false]
    exact leaf_ok hf hn hR (PenStep.refl hp)

end K01

namespace K01
open PySem PySem.Spec PyProof.Rows HD
open L2 (kitB atI)


abbrev FO (d : PyData) : Prop := Fit 1000 3 20 d
def c__law_others : DSp where
  pre := fun xs M => ∃ p r, xs = [.m p, .d r] ∧ PenOk M p ∧ ResOk r
  post := fun xs M x M' => ∀ p r, xs = [.m p, .d r] → ∃ ds, x = .d (.list ds) ∧ (∀ d ∈ ds, FO d) ∧ PenStep p M M'
theorem Sm.fit {i : Int} (h : Sm i) : Fit 0 0 0 (.int i) := Fit.int (by unfold Sm at h; omega)
theorem RowOk.fit {r : PyData} (h : RowOk r) : Fit 4 0 1 r := by
  obtain ⟨p, q, s, c, rfl, hp, hq, hs, hc⟩ := h
  refine (FitA.of (k := 0) (t := 0) (xs := [.int p, .int q, .int s, .int c]) ?_).tup
  intro d hd
  simp only [List.mem_cons, List.not_mem_nil, or_false] at hd
  rcases hd with rfl | rfl | rfl | rfl
  · exact hp.fit
  · exact hq.fit
  · exact hs.fit
  · exact hc.fit
theorem rows_fit : ∀ {rs : List PyData}, (∀ r ∈ rs, RowOk r) → FitA (5 * rs.length) 0 1 rs
  | [], _ => FitA.nil
  | r :: rs, h => by
    have h1 := (FitA.one (h r (by simp)).fit).app (rows_fit (rs := rs) fun x hx => h x (by simp [hx]))
    exact h1.up (by simp; omega) (Nat.le_refl _) (Nat.le_refl _)
theorem four_at {a b c e : PyData} {i : Int} (h0 : 0 ≤ i) (h1 : i < 4) : ∃ (j : Nat), i = j ∧ j < 4 := ⟨i.toNat, by omega, by omega⟩

def g__law_others : DS :=
  (dSeq (dPar 2 3 (dCons (dCall c__law_draw (dCons (dVar 0) (dCons (dFun gLen (dCons (dVar 1) dNil)) dNil))) (dCons (dCall c__law_draw (dCons (dVar 0) (dCons (dC (.int 4)) dNil))) dNil)))
    (dSeq (dAsg (dLstM (dCons (dVar 1) (dCons (dTup dNil) (dCons (dFun gList (dCons (dVar 1) dNil)) (dCons (dBin gMul (dVar 1) (dC (.int 5))) (dCons (dBin gMul (dVar 1) (dC (.int 6))) (dCons (dBin gAdd (dVar 1) (dTup (dCons (dCall c__law_odd (dCons (dVar 0) dNil)) dNil))) (dCons (dCall (cB 0 4) (dCons (dVar 0) (dCons (dVar 1) (dCons (dC (.int 3)) dNil)))) (dCons (dCall c__law_odd (dCons (dVar 0) dNil)) dNil))))))))) (.one 4))
    (dSeq (dFor (iTupD (dTup (dCons (dC (.int 9)) (dCons (dC (.int 10)) (dCons (dUn gNeg (dC (.int 9))) (dCons (dUn gNeg (dC (.int 10))) (dCons (dC (.bool true)) (dCons (dC .none) dNil)))))))) (.one 5)
    (dDrop (dAppend (dVar 4) (dCall c__law_at (dCons (dVar 1) (dCons (dVar 2) (dCons (dCall c__law_at (dCons (dBin gIx (dVar 1) (dVar 2)) (dCons (dVar 3) (dCons (dVar 5) dNil)))) dNil)))))))
    (dSeq (dAsg (dBin gAdd (dFun gTuple (dCons (dLc (iRange1 (dCons (dC (.int 3)) dNil)) [7] (.one 7) tAll (dCall c__law_one_of (dCons (dVar 0) (dCons (dLst (dCons (dUn gNeg (dC (.int 9))) (dCons (dC (.int 9)) (dCons (dC (.int 0)) dNil)))) dNil)))) dNil)) (dTup (dCons (dCall c__law_one_of (dCons (dVar 0) (dCons (dLst (dCons (dC (.int 0)) (dCons (dC (.int 9)) dNil))) dNil))) dNil))) (.one 6))
    (dRet (dBin gAdd (dVar 4) (dLst (dCons (dCall (cB 1 4) (dCons (dVar 0) (dCons (dCall (cB 0 3) (dCons (dVar 0) (dCons (dVar 1) (dCons (dC (.int 2)) dNil)))) (dCons (dC (.int 3)) dNil)))) (dCons (dCall c__law_at (dCons (dVar 1) (dCons (dVar 2) (dCons (dVar 6) dNil)))) (dCons (dTup (dCons (dVar 6) dNil)) dNil))))))))))
theorem len__law_others : ∀ xs M, (c__law_others).pre xs M → xs.length = 2 := by
  rintro _ M ⟨p, r, rfl, _⟩; rfl
theorem sp__law_others : ∀ xs M, (c__law_others).pre xs M → g__law_others (ends c__law_others xs M) (startD ["pen", "rows", "at", "place", "found", "part", "edge", "lap"] xs) M := by
  rintro _ M ⟨p, _, rfl, hp, rs, rfl, hr, hl1, hl4⟩
  have fr : FitA 20 0 1 rs := (rows_fit hr).up (by omega) (Nat.le_refl _) (Nat.le_refl _)
  have ft : Fit 20 0 2 (.tuple rs) := fr.tup
  have e3 : (3 : Int) = ((3 : Nat) : Int) := rfl
  have e2 : (2 : Int) = ((2 : Nat) : Int) := rfl
  have hne : rs ≠ [] := by intro z; subst z; simp at hl1
  simp only [g__law_others, dSeq, dNext, dRet, dRetN, dIfS, dDrop, dAsg, dPar, dPut, dSet1, setT, setAll, dVar, dC, dBin, dUn, dFun, dNot, chain_eq, dTup, dLst, dLstM, and_eq, or_eq, dIf, tVal, tAnd2, tOr2, tNot1, dCall, dCons, dNil, gAdd, gAddM, gSub, gMod, gPow, gMul, gNeg, gLt, gLe, gGt, gGe, gInt, gInt0, gIx, dSl, oNo, oSome, gSl, gLen, gInt1, gList, gListM, seqOf, gTuple, gMin2, gMax2, gRepr, dIsi, dTyEq, dAppend, dRev, dDict0, dRaise, dTry, catching, inSuite, dFld, vw, allD, Nat.reduceAdd, iRange1, startD, ends, wipeD, lcTurn, noX, iTupD, iLst, iEnumD, tAll, dLc, dLcM, dFor, gEqC, gNeC, gBools, boolsOf, List.map_cons, List.map_nil, List.length_cons, List.length_nil, List.replicate, List.cons_append, List.nil_append, List.getElem?_cons_zero, List.getElem?_cons_succ, List.set_cons_zero, List.set_cons_succ, Option.map_some, Option.map_none]
  refine call_draw hp (by omega) (log_sm (by omega) (by omega)) fun i M1 h0 h1 s1 => ?_
  refine call_draw s1.1 (by decide) (by decide) fun i2 M2 h02 h12 s2 => ?_
  obtain ⟨at_, row, rfl, hat, erow, earow⟩ := at_get h0 h1
  obtain ⟨pl, rfl⟩ : ∃ pl : Nat, i2 = pl := ⟨i2.toNat, by omega⟩
  try simp only [dSeq, dNext, dRet, dRetN, dIfS, dDrop, dAsg, dPar, dPut, dSet1, setT, setAll, dVar, dC, dBin, dUn, dFun, dNot, chain_eq, dTup, dLst, dLstM, and_eq, or_eq, dIf, tVal, tAnd2, tOr2, tNot1, dCall, dCons, dNil, gAdd, gAddM, gSub, gMod, gPow, gMul, gNeg, gLt, gLe, gGt, gGe, gInt, gInt0, gIx, dSl, oNo, oSome, gSl, gLen, gInt1, gList, gListM, seqOf, gTuple, gMin2, gMax2, gRepr, dIsi, dTyEq, dAppend, dRev, dDict0, dRaise, dTry, catching, inSuite, dFld, vw, allD, Nat.reduceAdd, iRange1, startD, ends, wipeD, lcTurn, noX, iTupD, iLst, iEnumD, tAll, dLc, dLcM, dFor, gEqC, gNeC, gBools, boolsOf, List.map_cons, List.map_nil, List.length_cons, List.length_nil, List.replicate, List.cons_append, List.nil_append, List.getElem?_cons_zero, List.getElem?_cons_succ, List.set_cons_zero, List.set_cons_succ, Option.map_some, Option.map_none]
  refine ⟨by decide, ⟨hne, by decide, by decide, by omega⟩, ⟨hne, by decide, by decide, by omega⟩, ?_⟩
  refine call_pen s2.1 fun o1 M3 ho1 s3 => ?_
  try simp only [dSeq, dNext, dRet, dRetN, dIfS, dDrop, dAsg, dPar, dPut, dSet1, setT, setAll, dVar, dC, dBin, dUn, dFun, dNot, chain_eq, dTup, dLst, dLstM, and_eq, or_eq, dIf, tVal, tAnd2, tOr2, tNot1, dCall, dCons, dNil, gAdd, gAddM, gSub, gMod, gPow, gMul, gNeg, gLt, gLe, gGt, gGe, gInt, gInt0, gIx, dSl, oNo, oSome, gSl, gLen, gInt1, gList, gListM, seqOf, gTuple, gMin2, gMax2, gRepr, dIsi, dTyEq, dAppend, dRev, dDict0, dRaise, dTry, catching, inSuite, dFld, vw, allD, Nat.reduceAdd, iRange1, startD, ends, wipeD, lcTurn, noX, iTupD, iLst, iEnumD, tAll, dLc, dLcM, dFor, gEqC, gNeC, gBools, boolsOf, List.map_cons, List.map_nil, List.length_cons, List.length_nil, List.replicate, List.cons_append, List.nil_append, List.getElem?_cons_zero, List.getElem?_cons_succ, List.set_cons_zero, List.set_cons_succ, Option.map_some, Option.map_none]
  refine ⟨by decide, line1 (by omega), ?_⟩
  refine call_B (t := 3) s3.1 ft.lf (Nat.le_trans ft.bulk (by decide)) fun b1 M4 hb1 s4 => ?_
  refine call_pen s4.1 fun o2 M5 ho2 s5 => ?_
  try simp only [dSeq, dNext, dRet, dRetN, dIfS, dDrop, dAsg, dPar, dPut, dSet1, setT, setAll, dVar, dC, dBin, dUn, dFun, dNot, chain_eq, dTup, dLst, dLstM, and_eq, or_eq, dIf, tVal, tAnd2, tOr2, tNot1, dCall, dCons, dNil, gAdd, gAddM, gSub, gMod, gPow, gMul, gNeg, gLt, gLe, gGt, gGe, gInt, gInt0, gIx, dSl, oNo, oSome, gSl, gLen, gInt1, gList, gListM, seqOf, gTuple, gMin2, gMax2, gRepr, dIsi, dTyEq, dAppend, dRev, dDict0, dRaise, dTry, catching, inSuite, dFld, vw, allD, Nat.reduceAdd, iRange1, startD, ends, wipeD, lcTurn, noX, iTupD, iLst, iEnumD, tAll, dLc, dLcM, dFor, gEqC, gNeC, gBools, boolsOf, List.map_cons, List.map_nil, List.length_cons, List.length_nil, List.replicate, List.cons_append, List.nil_append, List.getElem?_cons_zero, List.getElem?_cons_succ, List.set_cons_zero, List.set_cons_succ, Option.map_some, Option.map_none]
  refine ⟨by decide, fun q hq => ?_⟩
  have s25 := s1.trans (s2.trans (s3.trans (s4.trans s5)))
  have hqp : p ≠ q := s25.1.ne hq
  have hMq : M q = none := by
    cases e : M q with
    | none => rfl
    | some ds => rw [s25.2 q ds hqp.symm e] at hq; cases hq
  have fb : Fit 80 1 7 b1 := hb1.up (by have := ft.bulk; omega) (Nat.le_refl _) (by have := ft.depth; omega)
  have hrow : RowOk row := hr row (List.mem_of_getElem? erow)
  obtain ⟨ra, rb, rc, re, rfl, hra, hrb, hrc, hre⟩ := hrow
  have frow : FitA 4 0 0 [PyData.int ra, PyData.int rb, PyData.int rc, PyData.int re] := (row_of rfl hra hrb hrc hre : RowOk _).fit.all
  have put : ∀ d, Fit 6 0 2 d → FO (.tuple (rs.take at_ ++ [d] ++ rs.drop (at_ + 1))) := fun d hd => ((FitA.put (m := 6) (t' := 2) fr erow rfl (hd.up (by omega) (Nat.le_refl _) (Nat.le_refl _)) (Nat.le_refl 0) (by decide)).tup).up (by decide) (by decide) (by decide)
  refine ⟨by decide, ?_⟩
  refine forD_run (fun r ρ M' => ∃ ds y5 , ρ = [some (.m p), some (.d (.tuple rs)), some (.d (.int at_)), some (.d (.int pl)), some (.m q), y5, none, none] ∧ M' q = some ds ∧ (∀ d ∈ ds, FO d) ∧ ds.length + r.length = 14 ∧ (∀ x ∈ r, ∃ d, x = .d d ∧ Fit 0 0 0 d) ∧ PenStep p M M') (fun _ _ _ _ => trivial) ?_ ?_ _ _ _ ?_
  · rintro x r ρ M6 nx ⟨ds, y5, rfl, h6, hds, hlen, hx, s6⟩ hn
    obtain ⟨d, rfl, hd⟩ := hx x (by simp)
    simp only [earow, dSeq, dNext, dRet, dRetN, dIfS, dDrop, dAsg, dPar, dPut, dSet1, setT, setAll, dVar, dC, dBin, dUn, dFun, dNot, chain_eq, dTup, dLst, dLstM, and_eq, or_eq, dIf, tVal, tAnd2, tOr2, tNot1, dCall, dCons, dNil, gAdd, gAddM, gSub, gMod, gPow, gMul, gNeg, gLt, gLe, gGt, gGe, gInt, gInt0, gIx, dSl, oNo, oSome, gSl, gLen, gInt1, gList, gListM, seqOf, gTuple, gMin2, gMax2, gRepr, dIsi, dTyEq, dAppend, dRev, dDict0, dRaise, dTry, catching, inSuite, dFld, vw, allD, Nat.reduceAdd, iRange1, startD, ends, wipeD, lcTurn, noX, iTupD, iLst, iEnumD, tAll, dLc, dLcM, dFor, gEqC, gNeC, gBools, boolsOf, List.map_cons, List.map_nil, List.length_cons, List.length_nil, List.replicate, List.cons_append, List.nil_append, List.getElem?_cons_zero, List.getElem?_cons_succ, List.set_cons_zero, List.set_cons_succ, Option.map_some, Option.map_none]
    refine call_at (k := pl) (by simp; omega) (by simp) fun M7 s7 => ?_
    refine call_at hat (by omega) fun M8 s8 => ?_
    have h8 := s8 _ _ (s7 _ _ h6)
    simp only [h8]
    refine ⟨line2 (by simp at hlen; omega), ?_⟩
    refine hn _ _ ⟨_, _, rfl, updM_same, ?_, by simp at hlen ⊢; omega, fun z hz => hx z (by simp [hz]), ((s6.trans ((s6.1.sub s7 |> fun _ => PenStep.sub s6.1 s7))).trans (PenStep.sub (s6.1.sub s7) s8)).write hMq hqp⟩
    intro d' hd'
    rcases List.mem_append.mp hd' with z | z
    · exact hds d' z
    · simp at z; subst z
      have hpl4 : pl < 4 := by omega
      obtain ⟨old, eold⟩ : ∃ old, [PyData.int ra, PyData.int rb, PyData.int rc, PyData.int re][pl]? = some old := ⟨_, List.getElem?_eq_getElem (by simpa using hpl4)⟩
      have hold : old.bulk = 0 := by
        have := List.mem_of_getElem? eold
        simp only [List.mem_cons, List.not_mem_nil, or_false] at this
        rcases this with rfl | rfl | rfl | rfl <;> rfl
      have hz := put _ ((FitA.put (m := 0) (t' := 0) frow eold hold (hd.up (by omega) (Nat.le_refl _) (Nat.le_refl _)) (Nat.le_refl 0) (Nat.le_refl 0)).tup.up (by decide) (by decide) (by decide))
      simpa only [List.append_assoc, List.cons_append, List.nil_append, List.drop_succ_cons] using hz
  · rintro ρ M6 ⟨ds, y5, rfl, h6, hds, hlen, hx, s6⟩
    try simp only [dSeq, dNext, dRet, dRetN, dIfS, dDrop, dAsg, dPar, dPut, dSet1, setT, setAll, dVar, dC, dBin, dUn, dFun, dNot, chain_eq, dTup, dLst, dLstM, and_eq, or_eq, dIf, tVal, tAnd2, tOr2, tNot1, dCall, dCons, dNil, gAdd, gAddM, gSub, gMod, gPow, gMul, gNeg, gLt, gLe, gGt, gGe, gInt, gInt0, gIx, dSl, oNo, oSome, gSl, gLen, gInt1, gList, gListM, seqOf, gTuple, gMin2, gMax2, gRepr, dIsi, dTyEq, dAppend, dRev, dDict0, dRaise, dTry, catching, inSuite, dFld, vw, allD, Nat.reduceAdd, iRange1, startD, ends, wipeD, lcTurn, noX, iTupD, iLst, iEnumD, tAll, dLc, dLcM, dFor, gEqC, gNeC, gBools, boolsOf, List.map_cons, List.map_nil, List.length_cons, List.length_nil, List.replicate, List.cons_append, List.nil_append, List.getElem?_cons_zero, List.getElem?_cons_succ, List.set_cons_zero, List.set_cons_succ, Option.map_some, Option.map_none]
    refine ⟨by decide, ?_⟩
    refine lc_pen (P := fun d => ∃ z, d = .int z ∧ Sm z) ?_ s6.1 ?_ ?_
    · exact (by decide : (3 : Nat) ≤ sizeLine)
    · intro x hx M7 R ho hR
      try simp only [dSeq, dNext, dRet, dRetN, dIfS, dDrop, dAsg, dPar, dPut, dSet1, setT, setAll, dVar, dC, dBin, dUn, dFun, dNot, chain_eq, dTup, dLst, dLstM, and_eq, or_eq, dIf, tVal, tAnd2, tOr2, tNot1, dCall, dCons, dNil, gAdd, gAddM, gSub, gMod, gPow, gMul, gNeg, gLt, gLe, gGt, gGe, gInt, gInt0, gIx, dSl, oNo, oSome, gSl, gLen, gInt1, gList, gListM, seqOf, gTuple, gMin2, gMax2, gRepr, dIsi, dTyEq, dAppend, dRev, dDict0, dRaise, dTry, catching, inSuite, dFld, vw, allD, Nat.reduceAdd, iRange1, startD, ends, wipeD, lcTurn, noX, iTupD, iLst, iEnumD, tAll, dLc, dLcM, dFor, gEqC, gNeC, gBools, boolsOf, List.map_cons, List.map_nil, List.length_cons, List.length_nil, List.replicate, List.cons_append, List.nil_append, List.getElem?_cons_zero, List.getElem?_cons_succ, List.set_cons_zero, List.set_cons_succ, Option.map_some, Option.map_none]
      refine ⟨by decide, ?_⟩
      refine call_one_of ho (by simp) (by simp) fun d M8 hd s8 => ?_
      refine hR _ _ ?_ s8
      simp only [List.mem_cons, List.not_mem_nil, or_false] at hd
      rcases hd with rfl | rfl | rfl <;> exact ⟨_, rfl, by unfold Sm; omega⟩
    · intro pq M7 acc h7 hal hP s7
      simp only [h7]
      refine ⟨by decide, ?_⟩
      refine call_one_of s7.1 (by simp) (by simp) fun d M8 hd s8 => ?_
      have hz : ∃ z, d = .int z ∧ Sm z := by
        simp only [List.mem_cons, List.not_mem_nil, or_false] at hd
        rcases hd with rfl | rfl <;> exact ⟨_, rfl, by unfold Sm; omega⟩
      obtain ⟨zd, rfl, hzd⟩ := hz
      have e3 : acc.length = 3 := by rw [hal]; rfl
      match acc, e3 with
      | [a, b, c], _ =>
        obtain ⟨za, rfl, ha⟩ := hP a (by simp)
        obtain ⟨zb, rfl, hb⟩ := hP b (by simp)
        obtain ⟨zc, rfl, hc⟩ := hP c (by simp)
        try simp only [dSeq, dNext, dRet, dRetN, dIfS, dDrop, dAsg, dPar, dPut, dSet1, setT, setAll, dVar, dC, dBin, dUn, dFun, dNot, chain_eq, dTup, dLst, dLstM, and_eq, or_eq, dIf, tVal, tAnd2, tOr2, tNot1, dCall, dCons, dNil, gAdd, gAddM, gSub, gMod, gPow, gMul, gNeg, gLt, gLe, gGt, gGe, gInt, gInt0, gIx, dSl, oNo, oSome, gSl, gLen, gInt1, gList, gListM, seqOf, gTuple, gMin2, gMax2, gRepr, dIsi, dTyEq, dAppend, dRev, dDict0, dRaise, dTry, catching, inSuite, dFld, vw, allD, Nat.reduceAdd, iRange1, startD, ends, wipeD, lcTurn, noX, iTupD, iLst, iEnumD, tAll, dLc, dLcM, dFor, gEqC, gNeC, gBools, boolsOf, List.map_cons, List.map_nil, List.length_cons, List.length_nil, List.replicate, List.cons_append, List.nil_append, List.getElem?_cons_zero, List.getElem?_cons_succ, List.set_cons_zero, List.set_cons_succ, Option.map_some, Option.map_none]
        refine ⟨by decide, by decide, ?_⟩
        refine call_B (t := 2) s8.1 ft.lf (Nat.le_trans ft.bulk (by decide)) fun b2 M9 hb2 s9 => ?_
        have fb2 : Fit 80 1 7 b2 := hb2.up (by have := ft.bulk; omega) (Nat.le_refl _) (by have := ft.depth; omega)
        try simp only [dSeq, dNext, dRet, dRetN, dIfS, dDrop, dAsg, dPar, dPut, dSet1, setT, setAll, dVar, dC, dBin, dUn, dFun, dNot, chain_eq, dTup, dLst, dLstM, and_eq, or_eq, dIf, tVal, tAnd2, tOr2, tNot1, dCall, dCons, dNil, gAdd, gAddM, gSub, gMod, gPow, gMul, gNeg, gLt, gLe, gGt, gGe, gInt, gInt0, gIx, dSl, oNo, oSome, gSl, gLen, gInt1, gList, gListM, seqOf, gTuple, gMin2, gMax2, gRepr, dIsi, dTyEq, dAppend, dRev, dDict0, dRaise, dTry, catching, inSuite, dFld, vw, allD, Nat.reduceAdd, iRange1, startD, ends, wipeD, lcTurn, noX, iTupD, iLst, iEnumD, tAll, dLc, dLcM, dFor, gEqC, gNeC, gBools, boolsOf, List.map_cons, List.map_nil, List.length_cons, List.length_nil, List.replicate, List.cons_append, List.nil_append, List.getElem?_cons_zero, List.getElem?_cons_succ, List.set_cons_zero, List.set_cons_succ, Option.map_some, Option.map_none]
        refine call_B (t := 3) s9.1 fb2.lf (Nat.le_trans fb2.bulk (by decide)) fun b3 M10 hb3 s10 => ?_
        refine call_at hat (by omega) fun M11 s11 => ?_
        have s611 := s7.trans (s8.trans (s9.trans (s10.trans (PenStep.sub s10.1 s11))))
        have hedge : RowOk (.tuple [.int za, .int zb, .int zc, .int zd]) := row_of rfl ha hb hc hzd
        simp only [s611.2 q ds hqp.symm h6, dSeq, dNext, dRet, dRetN, dIfS, dDrop, dAsg, dPar, dPut, dSet1, setT, setAll, dVar, dC, dBin, dUn, dFun, dNot, chain_eq, dTup, dLst, dLstM, and_eq, or_eq, dIf, tVal, tAnd2, tOr2, tNot1, dCall, dCons, dNil, gAdd, gAddM, gSub, gMod, gPow, gMul, gNeg, gLt, gLe, gGt, gGe, gInt, gInt0, gIx, dSl, oNo, oSome, gSl, gLen, gInt1, gList, gListM, seqOf, gTuple, gMin2, gMax2, gRepr, dIsi, dTyEq, dAppend, dRev, dDict0, dRaise, dTry, catching, inSuite, dFld, vw, allD, Nat.reduceAdd, iRange1, startD, ends, wipeD, lcTurn, noX, iTupD, iLst, iEnumD, tAll, dLc, dLcM, dFor, gEqC, gNeC, gBools, boolsOf, List.map_cons, List.map_nil, List.length_cons, List.length_nil, List.replicate, List.cons_append, List.nil_append, List.getElem?_cons_zero, List.getElem?_cons_succ, List.set_cons_zero, List.set_cons_succ, Option.map_some, Option.map_none]
        refine ⟨by decide, by decide, line1 (by simp at hlen ⊢; omega), ?_⟩
        intro q' r' hq'
        cases hq'
        refine ⟨_, rfl, ?_, s6.trans s611⟩
        intro d' hd'
        rcases List.mem_append.mp hd' with z | z
        · exact hds d' z
        · simp only [List.mem_cons, List.not_mem_nil, or_false] at z
          rcases z with rfl | rfl | rfl
          · exact hb3.up (by have := fb2.bulk; omega) (by decide) (by have := fb2.depth; omega)
          · exact put _ (hedge.fit.up (by decide) (by decide) (by decide))
          · exact ((FitA.one hedge.fit).tup).up (by decide) (by decide) (by decide)
  · refine ⟨_, none, rfl, updM_same, ?_, rfl, ?_, s25.write hMq hqp⟩
    · intro d hd
      simp only [List.mem_cons, List.not_mem_nil, or_false] at hd
      rcases hd with rfl | rfl | rfl | rfl | rfl | rfl | rfl | rfl
      · exact ft.up (by decide) (by decide) (by decide)
      · exact ((FitA.nil (n := 0) (k := 0) (t := 0)).tup).up (by decide) (by decide) (by decide)
      · exact fr.lst.up (by decide) (by decide) (by decide)
      · exact ((fr.rep _).tup).up (by decide) (by decide) (by decide)
      · exact ((fr.rep _).tup).up (by decide) (by decide) (by decide)
      · exact (((fr.up (by decide : 20 ≤ 20) (Nat.le_refl 0) (by decide : 1 ≤ 5)).app (FitA.one ho1)).tup).up (by decide) (by decide) (by decide)
      · exact fb.up (by decide) (by decide) (by decide)
      · exact ho2.up (by decide) (by decide) (by decide)
    · intro x hx
      simp only [List.map_cons, List.map_nil, List.mem_cons, List.not_mem_nil, or_false] at hx
      rcases hx with rfl | rfl | rfl | rfl | rfl | rfl
      · exact ⟨_, rfl, Fit.int (by decide)⟩
      · exact ⟨_, rfl, Fit.int (by decide)⟩
      · exact ⟨_, rfl, Fit.int (by decide)⟩
      · exact ⟨_, rfl, Fit.int (by decide)⟩
      · exact ⟨_, rfl, rfl, Nat.le_refl _, Nat.le_refl _⟩
      · exact ⟨_, rfl, rfl, Nat.le_refl _, Nat.le_refl _⟩

end K01

namespace K01
open PySem PySem.Spec PyProof.Rows HD
open L2 (kitB atI)


def c_law : DSp where
  pre := fun xs _ => ∃ a ns, xs = [.s a ns]
  post := fun _ _ x _ => x = .d (.bool true)
theorem call_res {p : Addr} {M : Mem} {E : Value → List (Str × PyData) → Mem → Prop} {Q : DK} (h : PenOk M p) (hq : ∀ rs M', (∀ r ∈ rs, RowOk r) → 1 ≤ rs.length → rs.length ≤ 4 → PenStep p M M' → Q (.d (.tuple rs)) M') :
    c__law_resilience.pre [.m p] M ∧ (∀ x M2, c__law_resilience.post [.m p] M x M2 → Q x M2) ∧ (∀ cls fs M2, c__law_resilience.err [.m p] M cls fs M2 → E cls fs M2) :=
  call_pen h fun d M' ⟨rs, e, a, b, c⟩ s => by subst e; exact hq rs M' a b c s
theorem call_others {p : Addr} {rs : List PyData} {M : Mem} {E : Value → List (Str × PyData) → Mem → Prop} {Q : DK} (h : PenOk M p) (hr : ∀ r ∈ rs, RowOk r) (h1 : 1 ≤ rs.length) (h2 : rs.length ≤ 4) (hq : ∀ ds M', (∀ d ∈ ds, FO d) → PenStep p M M' → Q (.d (.list ds)) M') :
    c__law_others.pre [.m p, .d (.tuple rs)] M ∧ (∀ x M2, c__law_others.post [.m p, .d (.tuple rs)] M x M2 → Q x M2) ∧ (∀ cls fs M2, c__law_others.err [.m p, .d (.tuple rs)] M cls fs M2 → E cls fs M2) :=
  ⟨⟨p, _, rfl, h, rs, rfl, hr, h1, h2⟩, fun x M2 q => by obtain ⟨ds, rfl, a, s⟩ := q p _ rfl; exact hq ds M2 a s, fun _ _ _ q => q.elim⟩
theorem call_told {d : PyData} {M : Mem} {E : Value → List (Str × PyData) → Mem → Prop} {Q : DK} (h : Shows d) (hq : ∀ M2, Sub M M2 → Q (.d (toldD d)) M2) :
    c__law_told.pre [.d d] M ∧ (∀ x M2, c__law_told.post [.d d] M x M2 → Q x M2) ∧ (∀ cls fs M2, c__law_told.err [.d d] M cls fs M2 → E cls fs M2) :=
  pure_call (ds := [d]) rfl ⟨d, rfl, h⟩ hq
theorem told_cmp (d : PyData) : Cmp (toldD d) ∧ noDict (toldD d) = true := by
  have key : ∀ i, fault d = some i → i = .none ∨ ∃ k, i = .int k := by
    intro i h
    unfold fault at h
    split at h
    · split at h
      · cases q : bad 0 _ with
        | none => rw [q] at h; cases h
        | some k => rw [q] at h; cases h; exact .inr ⟨_, rfl⟩
      · cases h; exact .inl rfl
    · cases h; exact .inl rfl
  unfold toldD
  split
  · rename_i i h
    rcases key i h with rfl | ⟨k, rfl⟩ <;> simp [Cmp, noDict, noDictAll, PyData.depth, PyData.depthAll]
  · simp [Cmp, noDict, noDictAll, PyData.depth, PyData.depthAll]
theorem told_form (d : PyData) : ∃ x y, toldD d = .tuple [.str x, y] := by
  unfold toldD
  split
  · exact ⟨_, _, rfl⟩
  · exact ⟨_, _, rfl⟩
theorem told_same (d : PyData) : PyData.eqv (toldD d) (toldD d) = true := eqv_same _ (told_cmp d).2
theorem str_cmp (x y : Str) : Cmp (.str x) ∧ noDict (.str y) = true := ⟨⟨rfl, by simp [PyData.depth]⟩, rfl⟩
theorem str_same (x : Str) : PyData.eqv (.str x) (.str x) = true := eqv_same _ rfl
theorem bool_shows (b : Bool) : Shows (.bool b) := (⟨rfl, Nat.zero_le _, Nat.zero_le _⟩ : Fit 0 0 0 (.bool b)).shows (by decide) (by decide) (by decide)
def Big (i : Int) : Prop := i.natAbs ≤ 10 ^ 40
theorem big_prod {a n : Int} (ha : Sm a) (hn : Big n) : (a * n).natAbs ≤ 100 * 10 ^ 40 := by
  rw [Int.natAbs_mul]
  exact Nat.mul_le_mul (by unfold Sm at ha; omega) hn
theorem val_shows {a b c n t : Int} (ha : Sm a) (hb : Sm b) (hc : Sm c) (hn : Big n) (ht : Big t) : Shows (.int (a * n + b * t + c)) := by
  have h1 := big_prod ha hn
  have h2 := big_prod hb ht
  have e : (100 * 10 ^ 40 + 100 * 10 ^ 40 + 100 : Nat) ≤ 10 ^ 61 + 0 := by decide
  refine (Fit.int (k := 0) ?_).shows (by decide) (by decide) (by decide)
  unfold Sm at hc
  omega
theorem big_far {z far : Int} (hz : Sm z) (hf : far = 1 ∨ far = 10 ^ (30 : Int).toNat + 1) : Big (z * far) := by
  unfold Big
  rw [Int.natAbs_mul]
  have h1 : z.natAbs ≤ 100 := by unfold Sm at hz; omega
  have h2 : far.natAbs ≤ 10 ^ 30 + 1 := by rcases hf with rfl | rfl <;> decide
  exact Nat.le_trans (Nat.mul_le_mul h1 h2) (by decide)
theorem take_cut (rs : List PyData) : HD.cutD rs none (some 4) = rs.take (min 4 rs.length) := by
  unfold HD.cutD
  rw [show (4 : Int) = ((4 : Nat) : Int) from rfl, HT.sIx_nat, HT.sIx_none, List.drop_zero, Nat.sub_zero]
theorem p30 : L2.CPow 10 30 := by unfold L2.CPow; decide
theorem flt_far (far : Int) (n t f : Int) : ([PyData.int n, PyData.int t, PyData.int f].map DV.d).filterMap (fun x => match x with | .d (.int z) => some (PyData.int (z * far)) | _ => none) = [.int (n * far), .int (t * far), .int (f * far)] := rfl

def g_in : DS :=
  (dFor (iTupD (dTup (dCons (dVar 3) (dCons (dTup (dCons (dVar 11) dNil)) (dCons (dBin gAdd (dSl (dBin gMul (dVar 3) (dC (.int 5))) oNo (oSome (dC (.int 4)))) (dTup (dCons (dVar 11) dNil))) dNil))))) (.one 13)
    (dIfS (tVal (dBin gNeC (dFun gRepr (dCons (dCall c_fits (dCons (dVar 13) (dCons (dVar 12) dNil))) dNil)) (dFun gRepr (dCons (dCall c__law_fits (dCons (dVar 13) (dCons (dVar 12) dNil))) dNil))))
    (dRet (dC (.bool false)))
    dNext))
def g_f1 : DS :=
  (dFor (iTupD (dTup (dCons (dVar 7) (dCons (dVar 10) dNil)))) (.one 12)
    g_in)
def g_l1 : DS :=
  (dFor (iLst (dCall c__law_others (dCons (dVar 1) (dCons (dVar 3) dNil)))) (.one 4)
    (dSeq (dAsg (dFun gRepr (dCons (dVar 4) dNil)) (.one 5))
    (dIfS (tOr2 (tVal (dBin gNeC (dCall c__law_told (dCons (dVar 4) dNil)) (dCall c__law_due (dCons (dVar 4) dNil)))) (tVal (dBin gNeC (dFun gRepr (dCons (dVar 4) dNil)) (dVar 5))))
    (dRet (dC (.bool false)))
    dNext)))
def g_l2 : DS :=
  (dFor (iRange1 (dCons (dC (.int 8)) dNil)) (.one 6)
    (dSeq (dPar 7 8 (dCons (dCall c__law_numbers (dCons (dVar 1) (dCons (dC (.int 12)) dNil))) (dCons (dCall c__law_bound (dCons (dVar 1) dNil)) dNil)))
    (dSeq (dAsg (dCall c__law_one_of (dCons (dVar 1) (dCons (dLst (dCons (dC (.int 1)) (dCons (dC (.int 1)) (dCons (dBin gAdd (dBin gPow (dC (.int 10)) (dC (.int 30))) (dC (.int 1))) dNil)))) dNil))) (.one 9))
    (dSeq (dAsg (dFun gTuple (dCons (dLc (iTupD (dVar 7)) [15] (.one 15) tAll (dBin gMul (dVar 15) (dVar 9))) dNil)) (.one 7))
    (dSeq (dIfS (tVal (dBin gNeC (dFun gRepr (dCons (dCall c_bound_value (dCons (dVar 8) (dCons (dVar 7) dNil))) dNil)) (dFun gRepr (dCons (dCall c__law_value (dCons (dVar 8) (dCons (dVar 7) dNil))) dNil))))
    (dRet (dC (.bool false)))
    dNext)
    (dSeq (dAsg (dCall c__law_at (dCons (dVar 7) (dCons (dC (.int 2)) (dCons (dBin gAdd (dBin gIx (dVar 7) (dC (.int 0))) (dC (.int 1))) dNil)))) (.one 10))
    (dSeq (dAsg (dBin gAdd (dFun gTuple (dCons (dLc (iRange1 (dCons (dC (.int 3)) dNil)) [16] (.one 16) tAll (dBin gSub (dCall c__law_draw (dCons (dVar 1) (dCons (dC (.int 19)) dNil))) (dC (.int 9)))) dNil)) (dTup (dCons (dCall c__law_draw (dCons (dVar 1) (dCons (dC (.int 10)) dNil))) dNil))) (.one 11))
    g_f1)))))))
def g_l3 : DS :=
  (dSeq (dAsg (dCall c__law_draw (dCons (dVar 1) (dCons (dC (.int 10)) dNil))) (.one 14))
    (dIfS (tVal (dBin gNeC (dFun gRepr (dCons (dCall c_with_factor (dCons (dSl (dVar 3) oNo (oSome (dC (.int 4)))) (dCons (dVar 14) dNil))) dNil)) (dFun gRepr (dCons (dBin gAdd (dSl (dVar 3) oNo (oSome (dC (.int 4)))) (dTup (dCons (dTup (dCons (dC (.int 1)) (dCons (dBin gSub (dC (.int 0)) (dVar 14)) (dCons (dC (.int 0)) (dCons (dC (.int 1)) dNil))))) dNil))) dNil))))
    (dRet (dC (.bool false)))
    dNext))
def g_law : DS :=
  (dSeq (dAsg (dCall c__law_pen (dCons (dVar 0) dNil)) (.one 1))
    (dSeq (dFor (iRange1 (dCons (dC (.int 4)) dNil)) (.one 2)
    (dSeq (dAsg (dCall c__law_resilience (dCons (dVar 1) dNil)) (.one 3))
    (dSeq g_l1
    (dSeq g_l2
    g_l3))))
    (dRet (dC (.bool true)))))
theorem len_law : ∀ xs M, (c_law).pre xs M → xs.length = 1 := by
  rintro _ M ⟨a, ns, rfl⟩; rfl

theorem l1_ok {D : DEnds} {a p : Addr} {ns : List Int} {rs : List PyData} {M : Mem} {y2 y4 y5 y6 y7 y8 y9 y10 y11 y12 y13 y14 y15 y16 : Option DV} (hr : ∀ r ∈ rs, RowOk r) (hl1 : 1 ≤ rs.length) (hl4 : rs.length ≤ 4) (hp : PenOk M p)
    (hD : ∀ ρ' M', (∃ y2 y4 y5 y6 y7 y8 y9 y10 y11 y12 y13 y14 y15 y16, ρ' = [some (.s a ns), some (.m p), y2, some (.d (.tuple rs)), y4, y5, y6, y7, y8, y9, y10, y11, y12, y13, y14, y15, y16]) → PenOk M' p → D.nx ρ' M') : g_l1 D [some (.s a ns), some (.m p), y2, some (.d (.tuple rs)), y4, y5, y6, y7, y8, y9, y10, y11, y12, y13, y14, y15, y16] M := by
  simp only [g_l1, dSeq, dNext, dRet, dRetN, dIfS, dDrop, dAsg, dPar, dPut, dSet1, setT, setAll, dVar, dC, dBin, dUn, dFun, dNot, chain_eq, dTup, dLst, dLstM, and_eq, or_eq, dIf, tVal, tAnd2, tOr2, tNot1, dCall, dCons, dNil, gAdd, gAddM, gSub, gMod, gPow, gMul, gNeg, gLt, gLe, gGt, gGe, gInt, gInt0, gIx, dSl, oNo, oSome, gSl, gLen, gInt1, gList, gListM, seqOf, gTuple, gMin2, gMax2, gRepr, dIsi, dTyEq, dAppend, dRev, dDict0, dRaise, dTry, catching, inSuite, dFld, vw, allD, Nat.reduceAdd, iRange1, startD, ends, wipeD, lcTurn, noX, iTupD, iLst, iEnumD, tAll, dLc, dLcM, dFor, gEqC, gNeC, gBools, boolsOf, List.map_cons, List.map_nil, List.length_cons, List.length_nil, List.replicate, List.cons_append, List.nil_append, List.getElem?_cons_zero, List.getElem?_cons_succ, List.set_cons_zero, List.set_cons_succ, Option.map_some, Option.map_none]
  refine call_others hp hr hl1 hl4 fun vs M4 hvs s4 => ?_
  try simp only [dSeq, dNext, dRet, dRetN, dIfS, dDrop, dAsg, dPar, dPut, dSet1, setT, setAll, dVar, dC, dBin, dUn, dFun, dNot, chain_eq, dTup, dLst, dLstM, and_eq, or_eq, dIf, tVal, tAnd2, tOr2, tNot1, dCall, dCons, dNil, gAdd, gAddM, gSub, gMod, gPow, gMul, gNeg, gLt, gLe, gGt, gGe, gInt, gInt0, gIx, dSl, oNo, oSome, gSl, gLen, gInt1, gList, gListM, seqOf, gTuple, gMin2, gMax2, gRepr, dIsi, dTyEq, dAppend, dRev, dDict0, dRaise, dTry, catching, inSuite, dFld, vw, allD, Nat.reduceAdd, iRange1, startD, ends, wipeD, lcTurn, noX, iTupD, iLst, iEnumD, tAll, dLc, dLcM, dFor, gEqC, gNeC, gBools, boolsOf, List.map_cons, List.map_nil, List.length_cons, List.length_nil, List.replicate, List.cons_append, List.nil_append, List.getElem?_cons_zero, List.getElem?_cons_succ, List.set_cons_zero, List.set_cons_succ, Option.map_some, Option.map_none]
  refine forD_run (fun r ρ M' => ∃ y2 y4 y5 y6 y7 y8 y9 y10 y11 y12 y13 y14 y15 y16, ρ = [some (.s a ns), some (.m p), y2, some (.d (.tuple rs)), y4, y5, y6, y7, y8, y9, y10, y11, y12, y13, y14, y15, y16] ∧ (∀ x ∈ r, ∃ d, x = .d d ∧ FO d) ∧ PenOk M' p) (fun _ _ _ _ => trivial) ?_ ?_ _ _ _ ?_
  · rintro x r ρ M5 nx ⟨y2, y4, y5, y6, y7, y8, y9, y10, y11, y12, y13, y14, y15, y16, rfl, hx, h5⟩ hn
    obtain ⟨v, rfl, hv⟩ := hx x (by simp)
    have hs : Shows v := hv.shows (by decide) (by decide) (by decide)
    try simp only [dSeq, dNext, dRet, dRetN, dIfS, dDrop, dAsg, dPar, dPut, dSet1, setT, setAll, dVar, dC, dBin, dUn, dFun, dNot, chain_eq, dTup, dLst, dLstM, and_eq, or_eq, dIf, tVal, tAnd2, tOr2, tNot1, dCall, dCons, dNil, gAdd, gAddM, gSub, gMod, gPow, gMul, gNeg, gLt, gLe, gGt, gGe, gInt, gInt0, gIx, dSl, oNo, oSome, gSl, gLen, gInt1, gList, gListM, seqOf, gTuple, gMin2, gMax2, gRepr, dIsi, dTyEq, dAppend, dRev, dDict0, dRaise, dTry, catching, inSuite, dFld, vw, allD, Nat.reduceAdd, iRange1, startD, ends, wipeD, lcTurn, noX, iTupD, iLst, iEnumD, tAll, dLc, dLcM, dFor, gEqC, gNeC, gBools, boolsOf, List.map_cons, List.map_nil, List.length_cons, List.length_nil, List.replicate, List.cons_append, List.nil_append, List.getElem?_cons_zero, List.getElem?_cons_succ, List.set_cons_zero, List.set_cons_succ, Option.map_some, Option.map_none]
    refine ⟨hs, ?_⟩
    refine call_told hs fun M6 s6 => ?_
    refine call_told hs fun M7 s7 => ?_
    obtain ⟨x1, y1, et⟩ := told_form v
    have tc := told_cmp v
    have ts := told_same v
    rw [et] at tc ts
    rw [et]
    refine ⟨tc, ?_⟩
    simp only [ts, Bool.not_true]
    refine ⟨hs, str_cmp _ _, ?_⟩
    simp only [str_same, Bool.not_true]
    exact hn _ _ ⟨_, _, _, _, _, _, _, _, _, _, _, _, _, _, rfl, fun z hz => hx z (by simp [hz]), (h5.sub s6).sub s7⟩
  · rintro ρ M5 ⟨y2, y4, y5, y6, y7, y8, y9, y10, y11, y12, y13, y14, y15, y16, rfl, _, h5⟩
    exact hD _ _ ⟨_, _, _, _, _, _, _, _, _, _, _, _, _, _, rfl⟩ h5
  · exact ⟨_, _, _, _, _, _, _, _, _, _, _, _, _, _, rfl, fun x hx => by obtain ⟨v, hv, rfl⟩ := List.mem_map.mp hx; exact ⟨v, rfl, hvs v hv⟩, s4.1⟩


theorem l3_ok {D : DEnds} {a p : Addr} {ns : List Int} {rs : List PyData} {M : Mem} {y2 y4 y5 y6 y7 y8 y9 y10 y11 y12 y13 y14 y15 y16 : Option DV} (hr : ∀ r ∈ rs, RowOk r) (hl4 : rs.length ≤ 4) (hp : PenOk M p)
    (hD : ∀ ρ' M', (∃ y2 y3 y4 y5 y6 y7 y8 y9 y10 y11 y12 y13 y14 y15 y16, ρ' = [some (.s a ns), some (.m p), y2, y3, y4, y5, y6, y7, y8, y9, y10, y11, y12, y13, y14, y15, y16]) → PenOk M' p → D.nx ρ' M') : g_l3 D [some (.s a ns), some (.m p), y2, some (.d (.tuple rs)), y4, y5, y6, y7, y8, y9, y10, y11, y12, y13, y14, y15, y16] M := by
  have hw : ∀ m, Sm m → Shows (.tuple (rs.take (min 4 rs.length) ++ [.tuple [.int 1, .int (-m), .int 0, .int 1]])) := by
    intro m hm
    have h1 : FitA 20 0 1 (rs.take (min 4 rs.length)) := ((rows_fit hr).up (by omega) (Nat.le_refl _) (Nat.le_refl _)).take _
    have h2 : RowOk (.tuple [.int 1, .int (-m), .int 0, .int 1]) := row_of rfl (by unfold Sm; omega) (by unfold Sm at hm ⊢; omega) (by unfold Sm; omega) (by unfold Sm; omega)
    exact ((h1.app (FitA.one h2.fit)).tup).shows (by decide) (by decide) (by decide)
  simp only [g_l3, dSeq, dNext, dRet, dRetN, dIfS, dDrop, dAsg, dPar, dPut, dSet1, setT, setAll, dVar, dC, dBin, dUn, dFun, dNot, chain_eq, dTup, dLst, dLstM, and_eq, or_eq, dIf, tVal, tAnd2, tOr2, tNot1, dCall, dCons, dNil, gAdd, gAddM, gSub, gMod, gPow, gMul, gNeg, gLt, gLe, gGt, gGe, gInt, gInt0, gIx, dSl, oNo, oSome, gSl, gLen, gInt1, gList, gListM, seqOf, gTuple, gMin2, gMax2, gRepr, dIsi, dTyEq, dAppend, dRev, dDict0, dRaise, dTry, catching, inSuite, dFld, vw, allD, Nat.reduceAdd, iRange1, startD, ends, wipeD, lcTurn, noX, iTupD, iLst, iEnumD, tAll, dLc, dLcM, dFor, gEqC, gNeC, gBools, boolsOf, List.map_cons, List.map_nil, List.length_cons, List.length_nil, List.replicate, List.cons_append, List.nil_append, List.getElem?_cons_zero, List.getElem?_cons_succ, List.set_cons_zero, List.set_cons_succ, Option.map_some, Option.map_none, take_cut]
  refine call_draw hp (by decide) (by decide) fun i M1 h0 h1 s1 => ?_
  try simp only [dSeq, dNext, dRet, dRetN, dIfS, dDrop, dAsg, dPar, dPut, dSet1, setT, setAll, dVar, dC, dBin, dUn, dFun, dNot, chain_eq, dTup, dLst, dLstM, and_eq, or_eq, dIf, tVal, tAnd2, tOr2, tNot1, dCall, dCons, dNil, gAdd, gAddM, gSub, gMod, gPow, gMul, gNeg, gLt, gLe, gGt, gGe, gInt, gInt0, gIx, dSl, oNo, oSome, gSl, gLen, gInt1, gList, gListM, seqOf, gTuple, gMin2, gMax2, gRepr, dIsi, dTyEq, dAppend, dRev, dDict0, dRaise, dTry, catching, inSuite, dFld, vw, allD, Nat.reduceAdd, iRange1, startD, ends, wipeD, lcTurn, noX, iTupD, iLst, iEnumD, tAll, dLc, dLcM, dFor, gEqC, gNeC, gBools, boolsOf, List.map_cons, List.map_nil, List.length_cons, List.length_nil, List.replicate, List.cons_append, List.nil_append, List.getElem?_cons_zero, List.getElem?_cons_succ, List.set_cons_zero, List.set_cons_succ, Option.map_some, Option.map_none]
  refine call_with (by rw [List.length_take]; omega) fun M2 s2 => ?_
  try simp only [dSeq, dNext, dRet, dRetN, dIfS, dDrop, dAsg, dPar, dPut, dSet1, setT, setAll, dVar, dC, dBin, dUn, dFun, dNot, chain_eq, dTup, dLst, dLstM, and_eq, or_eq, dIf, tVal, tAnd2, tOr2, tNot1, dCall, dCons, dNil, gAdd, gAddM, gSub, gMod, gPow, gMul, gNeg, gLt, gLe, gGt, gGe, gInt, gInt0, gIx, dSl, oNo, oSome, gSl, gLen, gInt1, gList, gListM, seqOf, gTuple, gMin2, gMax2, gRepr, dIsi, dTyEq, dAppend, dRev, dDict0, dRaise, dTry, catching, inSuite, dFld, vw, allD, Nat.reduceAdd, iRange1, startD, ends, wipeD, lcTurn, noX, iTupD, iLst, iEnumD, tAll, dLc, dLcM, dFor, gEqC, gNeC, gBools, boolsOf, List.map_cons, List.map_nil, List.length_cons, List.length_nil, List.replicate, List.cons_append, List.nil_append, List.getElem?_cons_zero, List.getElem?_cons_succ, List.set_cons_zero, List.set_cons_succ, Option.map_some, Option.map_none]
  refine ⟨hw i (by unfold Sm; omega), ?_⟩
  have e0 : (0 - i) = -i := by omega
  simp only [e0]
  refine ⟨by decide, by decide, line1 (by rw [List.length_take]; omega), hw i (by unfold Sm; omega), str_cmp _ _, ?_⟩
  simp only [str_same, Bool.not_true]
  exact hD _ _ ⟨_, _, _, _, _, _, _, _, _, _, _, _, _, _, _, rfl⟩ (s1.1.sub s2)


theorem in_ok {D : DEnds} {a p : Addr} {ns : List Int} {rs : List PyData} {za zb zc zd n2 t2 f2 : Int} {M : Mem} {y2 y4 y5 y6 y7 y8 y9 y10 y13 y14 y15 y16 : Option DV} (hr : ∀ r ∈ rs, RowOk r) (hl1 : 1 ≤ rs.length) (hl4 : rs.length ≤ 4) (hlast : RowOk (.tuple [.int za, .int zb, .int zc, .int zd])) (hp : PenOk M p)
    (hD : ∀ ρ' M', (∃ y2 y4 y5 y6 y7 y8 y9 y10 y13 y14 y15 y16, ρ' = [some (.s a ns), some (.m p), y2, some (.d (.tuple rs)), y4, y5, y6, y7, y8, y9, y10, some (.d (.tuple [.int za, .int zb, .int zc, .int zd])), some (.d (.tuple [.int n2, .int t2, .int f2])), y13, y14, y15, y16]) → PenOk M' p → D.nx ρ' M') : g_in D [some (.s a ns), some (.m p), y2, some (.d (.tuple rs)), y4, y5, y6, y7, y8, y9, y10, some (.d (.tuple [.int za, .int zb, .int zc, .int zd])), some (.d (.tuple [.int n2, .int t2, .int f2])), y13, y14, y15, y16] M := by
  have hne : rs ≠ [] := by intro z; subst z; simp at hl1
  have hrep : ∀ r ∈ (List.replicate (5 : Int).toNat rs).flatten, RowOk r := by
    intro r h
    obtain ⟨l, hl, hrl⟩ := List.mem_flatten.mp h
    rw [(List.mem_replicate.mp hl).2] at hrl
    exact hr r hrl
  simp only [g_in, dSeq, dNext, dRet, dRetN, dIfS, dDrop, dAsg, dPar, dPut, dSet1, setT, setAll, dVar, dC, dBin, dUn, dFun, dNot, chain_eq, dTup, dLst, dLstM, and_eq, or_eq, dIf, tVal, tAnd2, tOr2, tNot1, dCall, dCons, dNil, gAdd, gAddM, gSub, gMod, gPow, gMul, gNeg, gLt, gLe, gGt, gGe, gInt, gInt0, gIx, dSl, oNo, oSome, gSl, gLen, gInt1, gList, gListM, seqOf, gTuple, gMin2, gMax2, gRepr, dIsi, dTyEq, dAppend, dRev, dDict0, dRaise, dTry, catching, inSuite, dFld, vw, allD, Nat.reduceAdd, iRange1, startD, ends, wipeD, lcTurn, noX, iTupD, iLst, iEnumD, tAll, dLc, dLcM, dFor, gEqC, gNeC, gBools, boolsOf, List.map_cons, List.map_nil, List.length_cons, List.length_nil, List.replicate, List.cons_append, List.nil_append, List.getElem?_cons_zero, List.getElem?_cons_succ, List.set_cons_zero, List.set_cons_succ, Option.map_some, Option.map_none, take_cut]
  refine ⟨by decide, ⟨hne, by decide, by decide, by omega⟩, by decide, line1 (by rw [List.length_take]; omega), by decide, ?_⟩
  refine forD_run (fun r ρ M' => ∃ y2 y4 y5 y6 y7 y8 y9 y10 y13 y14 y15 y16, ρ = [some (.s a ns), some (.m p), y2, some (.d (.tuple rs)), y4, y5, y6, y7, y8, y9, y10, some (.d (.tuple [.int za, .int zb, .int zc, .int zd])), some (.d (.tuple [.int n2, .int t2, .int f2])), y13, y14, y15, y16] ∧ (∀ x ∈ r, ∃ ls, x = .d (.tuple ls) ∧ (∀ r ∈ ls, RowOk r) ∧ ls.length ≤ 1000) ∧ PenOk M' p) (fun _ _ _ _ => trivial) ?_ ?_ _ _ _ ?_
  · rintro x r ρ M5 nx ⟨y2, y4, y5, y6, y7, y8, y9, y10, y13, y14, y15, y16, rfl, hx, h5⟩ hn
    obtain ⟨ls, rfl, hls, hll⟩ := hx x (by simp)
    try simp only [dSeq, dNext, dRet, dRetN, dIfS, dDrop, dAsg, dPar, dPut, dSet1, setT, setAll, dVar, dC, dBin, dUn, dFun, dNot, chain_eq, dTup, dLst, dLstM, and_eq, or_eq, dIf, tVal, tAnd2, tOr2, tNot1, dCall, dCons, dNil, gAdd, gAddM, gSub, gMod, gPow, gMul, gNeg, gLt, gLe, gGt, gGe, gInt, gInt0, gIx, dSl, oNo, oSome, gSl, gLen, gInt1, gList, gListM, seqOf, gTuple, gMin2, gMax2, gRepr, dIsi, dTyEq, dAppend, dRev, dDict0, dRaise, dTry, catching, inSuite, dFld, vw, allD, Nat.reduceAdd, iRange1, startD, ends, wipeD, lcTurn, noX, iTupD, iLst, iEnumD, tAll, dLc, dLcM, dFor, gEqC, gNeC, gBools, boolsOf, List.map_cons, List.map_nil, List.length_cons, List.length_nil, List.replicate, List.cons_append, List.nil_append, List.getElem?_cons_zero, List.getElem?_cons_succ, List.set_cons_zero, List.set_cons_succ, Option.map_some, Option.map_none]
    refine call_fits hls hll fun M6 s6 => ?_
    refine ⟨bool_shows _, ?_⟩
    refine call_fits hls hll fun M7 s7 => ?_
    refine ⟨bool_shows _, str_cmp _ _, ?_⟩
    simp only [str_same, Bool.not_true]
    exact hn _ _ ⟨_, _, _, _, _, _, _, _, _, _, _, _, rfl, fun z hz => hx z (by simp [hz]), (h5.sub s6).sub s7⟩
  · rintro ρ M5 ⟨y2, y4, y5, y6, y7, y8, y9, y10, y13, y14, y15, y16, rfl, _, h5⟩
    exact hD _ _ ⟨_, _, _, _, _, _, _, _, _, _, _, _, rfl⟩ h5
  · refine ⟨_, _, _, _, _, _, _, _, _, _, _, _, rfl, fun x hx => ?_, hp⟩
    simp only [List.map_cons, List.map_nil, List.mem_cons, List.not_mem_nil, or_false] at hx
    rcases hx with rfl | rfl | rfl
    · exact ⟨_, rfl, hr, by omega⟩
    · exact ⟨_, rfl, by simpa using hlast, by simp⟩
    · refine ⟨_, rfl, ?_, by simp; omega⟩
      intro r h
      rcases List.mem_append.mp h with z | z
      · exact hrep r (List.mem_of_mem_take z)
      · simp at z; subst z; exact hlast


theorem f1_ok {D : DEnds} {a p : Addr} {ns : List Int} {rs : List PyData} {za zb zc zd n1 t1 f1 f3 : Int} {M : Mem} {y2 y4 y5 y6 y8 y9 y12 y13 y14 y15 y16 : Option DV} (hr : ∀ r ∈ rs, RowOk r) (hl1 : 1 ≤ rs.length) (hl4 : rs.length ≤ 4) (hlast : RowOk (.tuple [.int za, .int zb, .int zc, .int zd])) (hp : PenOk M p)
    (hD : ∀ ρ' M', (∃ y2 y4 y5 y6 y7 y8 y9 y10 y11 y12 y13 y14 y15 y16, ρ' = [some (.s a ns), some (.m p), y2, some (.d (.tuple rs)), y4, y5, y6, y7, y8, y9, y10, y11, y12, y13, y14, y15, y16]) → PenOk M' p → D.nx ρ' M') : g_f1 D [some (.s a ns), some (.m p), y2, some (.d (.tuple rs)), y4, y5, y6, some (.d (.tuple [.int n1, .int t1, .int f1])), y8, y9, some (.d (.tuple [.int n1, .int t1, .int f3])), some (.d (.tuple [.int za, .int zb, .int zc, .int zd])), y12, y13, y14, y15, y16] M := by
  simp only [g_f1, dSeq, dNext, dRet, dRetN, dIfS, dDrop, dAsg, dPar, dPut, dSet1, setT, setAll, dVar, dC, dBin, dUn, dFun, dNot, chain_eq, dTup, dLst, dLstM, and_eq, or_eq, dIf, tVal, tAnd2, tOr2, tNot1, dCall, dCons, dNil, gAdd, gAddM, gSub, gMod, gPow, gMul, gNeg, gLt, gLe, gGt, gGe, gInt, gInt0, gIx, dSl, oNo, oSome, gSl, gLen, gInt1, gList, gListM, seqOf, gTuple, gMin2, gMax2, gRepr, dIsi, dTyEq, dAppend, dRev, dDict0, dRaise, dTry, catching, inSuite, dFld, vw, allD, Nat.reduceAdd, iRange1, startD, ends, wipeD, lcTurn, noX, iTupD, iLst, iEnumD, tAll, dLc, dLcM, dFor, gEqC, gNeC, gBools, boolsOf, List.map_cons, List.map_nil, List.length_cons, List.length_nil, List.replicate, List.cons_append, List.nil_append, List.getElem?_cons_zero, List.getElem?_cons_succ, List.set_cons_zero, List.set_cons_succ, Option.map_some, Option.map_none]
  refine ⟨by decide, ?_⟩
  refine forD_run (fun r ρ M' => ∃ y2 y4 y5 y6 y7 y8 y9 y10 y12 y13 y14 y15 y16, ρ = [some (.s a ns), some (.m p), y2, some (.d (.tuple rs)), y4, y5, y6, y7, y8, y9, y10, some (.d (.tuple [.int za, .int zb, .int zc, .int zd])), y12, y13, y14, y15, y16] ∧ (∀ x ∈ r, ∃ n2 t2 f2, x = .d (.tuple [.int n2, .int t2, .int f2])) ∧ PenOk M' p) (fun _ _ _ _ => trivial) ?_ ?_ _ _ _ ?_
  · rintro x r ρ M5 nx ⟨y2, y4, y5, y6, y7, y8, y9, y10, y12, y13, y14, y15, y16, rfl, hx, h5⟩ hn
    obtain ⟨n2, t2, f2, rfl⟩ := hx x (by simp)
    try simp only [dSeq, dNext, dRet, dRetN, dIfS, dDrop, dAsg, dPar, dPut, dSet1, setT, setAll, dVar, dC, dBin, dUn, dFun, dNot, chain_eq, dTup, dLst, dLstM, and_eq, or_eq, dIf, tVal, tAnd2, tOr2, tNot1, dCall, dCons, dNil, gAdd, gAddM, gSub, gMod, gPow, gMul, gNeg, gLt, gLe, gGt, gGe, gInt, gInt0, gIx, dSl, oNo, oSome, gSl, gLen, gInt1, gList, gListM, seqOf, gTuple, gMin2, gMax2, gRepr, dIsi, dTyEq, dAppend, dRev, dDict0, dRaise, dTry, catching, inSuite, dFld, vw, allD, Nat.reduceAdd, iRange1, startD, ends, wipeD, lcTurn, noX, iTupD, iLst, iEnumD, tAll, dLc, dLcM, dFor, gEqC, gNeC, gBools, boolsOf, List.map_cons, List.map_nil, List.length_cons, List.length_nil, List.replicate, List.cons_append, List.nil_append, List.getElem?_cons_zero, List.getElem?_cons_succ, List.set_cons_zero, List.set_cons_succ, Option.map_some, Option.map_none]
    refine in_ok hr hl1 hl4 hlast h5 ?_
    rintro ρ' M' ⟨y2, y4, y5, y6, y7, y8, y9, y10, y13, y14, y15, y16, rfl⟩ h6
    exact hn _ _ ⟨_, _, _, _, _, _, _, _, _, _, _, _, _, rfl, fun z hz => hx z (by simp [hz]), h6⟩
  · rintro ρ M5 ⟨y2, y4, y5, y6, y7, y8, y9, y10, y12, y13, y14, y15, y16, rfl, _, h5⟩
    exact hD _ _ ⟨_, _, _, _, _, _, _, _, _, _, _, _, _, _, rfl⟩ h5
  · refine ⟨_, _, _, _, _, _, _, _, _, _, _, _, _, rfl, fun x hx => ?_, hp⟩
    simp only [List.map_cons, List.map_nil, List.mem_cons, List.not_mem_nil, or_false] at hx
    rcases hx with rfl | rfl
    · exact ⟨_, _, _, rfl⟩
    · exact ⟨_, _, _, rfl⟩


theorem l2_ok {D : DEnds} {a p : Addr} {ns : List Int} {rs : List PyData} {M : Mem} {y2 y4 y5 y6 y7 y8 y9 y10 y11 y12 y13 y14 y15 y16 : Option DV} (hr : ∀ r ∈ rs, RowOk r) (hl1 : 1 ≤ rs.length) (hl4 : rs.length ≤ 4) (hp : PenOk M p)
    (hD : ∀ ρ' M', (∃ y2 y4 y5 y6 y7 y8 y9 y10 y11 y12 y13 y14 y15 y16, ρ' = [some (.s a ns), some (.m p), y2, some (.d (.tuple rs)), y4, y5, y6, y7, y8, y9, y10, y11, y12, y13, y14, y15, y16]) → PenOk M' p → D.nx ρ' M') : g_l2 D [some (.s a ns), some (.m p), y2, some (.d (.tuple rs)), y4, y5, y6, y7, y8, y9, y10, y11, y12, y13, y14, y15, y16] M := by
  simp only [g_l2, dSeq, dNext, dRet, dRetN, dIfS, dDrop, dAsg, dPar, dPut, dSet1, setT, setAll, dVar, dC, dBin, dUn, dFun, dNot, chain_eq, dTup, dLst, dLstM, and_eq, or_eq, dIf, tVal, tAnd2, tOr2, tNot1, dCall, dCons, dNil, gAdd, gAddM, gSub, gMod, gPow, gMul, gNeg, gLt, gLe, gGt, gGe, gInt, gInt0, gIx, dSl, oNo, oSome, gSl, gLen, gInt1, gList, gListM, seqOf, gTuple, gMin2, gMax2, gRepr, dIsi, dTyEq, dAppend, dRev, dDict0, dRaise, dTry, catching, inSuite, dFld, vw, allD, Nat.reduceAdd, iRange1, startD, ends, wipeD, lcTurn, noX, iTupD, iLst, iEnumD, tAll, dLc, dLcM, dFor, gEqC, gNeC, gBools, boolsOf, List.map_cons, List.map_nil, List.length_cons, List.length_nil, List.replicate, List.cons_append, List.nil_append, List.getElem?_cons_zero, List.getElem?_cons_succ, List.set_cons_zero, List.set_cons_succ, Option.map_some, Option.map_none]
  refine ⟨by decide, ?_⟩
  refine forD_run (fun r ρ M' => ∃ y2 y4 y5 y6 y7 y8 y9 y10 y11 y12 y13 y14 y15 y16, ρ = [some (.s a ns), some (.m p), y2, some (.d (.tuple rs)), y4, y5, y6, y7, y8, y9, y10, y11, y12, y13, y14, y15, y16] ∧ PenOk M' p) (fun _ _ _ _ => trivial) ?_ ?_ _ _ _ ?_
  · rintro x r ρ M5 nx ⟨y2, y4, y5, y6, y7, y8, y9, y10, y11, y12, y13, y14, y15, y16, rfl, h5⟩ hn
    try simp only [dSeq, dNext, dRet, dRetN, dIfS, dDrop, dAsg, dPar, dPut, dSet1, setT, setAll, dVar, dC, dBin, dUn, dFun, dNot, chain_eq, dTup, dLst, dLstM, and_eq, or_eq, dIf, tVal, tAnd2, tOr2, tNot1, dCall, dCons, dNil, gAdd, gAddM, gSub, gMod, gPow, gMul, gNeg, gLt, gLe, gGt, gGe, gInt, gInt0, gIx, dSl, oNo, oSome, gSl, gLen, gInt1, gList, gListM, seqOf, gTuple, gMin2, gMax2, gRepr, dIsi, dTyEq, dAppend, dRev, dDict0, dRaise, dTry, catching, inSuite, dFld, vw, allD, Nat.reduceAdd, iRange1, startD, ends, wipeD, lcTurn, noX, iTupD, iLst, iEnumD, tAll, dLc, dLcM, dFor, gEqC, gNeC, gBools, boolsOf, List.map_cons, List.map_nil, List.length_cons, List.length_nil, List.replicate, List.cons_append, List.nil_append, List.getElem?_cons_zero, List.getElem?_cons_succ, List.set_cons_zero, List.set_cons_succ, Option.map_some, Option.map_none]
    refine call_numbers h5 (by decide) (by decide) fun n t f M6 hn0 ht0 hf0 s6 => ?_
    refine call_pen s6.1 fun d M7 hb s7 => ?_
    obtain ⟨ba, bb, bc, rfl, hba, hbb, hbc⟩ := hb
    try simp only [dSeq, dNext, dRet, dRetN, dIfS, dDrop, dAsg, dPar, dPut, dSet1, setT, setAll, dVar, dC, dBin, dUn, dFun, dNot, chain_eq, dTup, dLst, dLstM, and_eq, or_eq, dIf, tVal, tAnd2, tOr2, tNot1, dCall, dCons, dNil, gAdd, gAddM, gSub, gMod, gPow, gMul, gNeg, gLt, gLe, gGt, gGe, gInt, gInt0, gIx, dSl, oNo, oSome, gSl, gLen, gInt1, gList, gListM, seqOf, gTuple, gMin2, gMax2, gRepr, dIsi, dTyEq, dAppend, dRev, dDict0, dRaise, dTry, catching, inSuite, dFld, vw, allD, Nat.reduceAdd, iRange1, startD, ends, wipeD, lcTurn, noX, iTupD, iLst, iEnumD, tAll, dLc, dLcM, dFor, gEqC, gNeC, gBools, boolsOf, List.map_cons, List.map_nil, List.length_cons, List.length_nil, List.replicate, List.cons_append, List.nil_append, List.getElem?_cons_zero, List.getElem?_cons_succ, List.set_cons_zero, List.set_cons_succ, Option.map_some, Option.map_none]
    refine ⟨p30, by decide, ?_⟩
    refine call_one_of s7.1 (by simp) (by simp) fun d M8 hd s8 => ?_
    have hfar : ∃ far : Int, d = .int far ∧ (far = 1 ∨ far = 10 ^ (30 : Int).toNat + 1) := by
      simp only [List.mem_cons, List.not_mem_nil, or_false] at hd
      rcases hd with rfl | rfl | rfl
      · exact ⟨_, rfl, .inl rfl⟩
      · exact ⟨_, rfl, .inl rfl⟩
      · exact ⟨_, rfl, .inr rfl⟩
    obtain ⟨far, rfl, hfar⟩ := hfar
    try simp only [dSeq, dNext, dRet, dRetN, dIfS, dDrop, dAsg, dPar, dPut, dSet1, setT, setAll, dVar, dC, dBin, dUn, dFun, dNot, chain_eq, dTup, dLst, dLstM, and_eq, or_eq, dIf, tVal, tAnd2, tOr2, tNot1, dCall, dCons, dNil, gAdd, gAddM, gSub, gMod, gPow, gMul, gNeg, gLt, gLe, gGt, gGe, gInt, gInt0, gIx, dSl, oNo, oSome, gSl, gLen, gInt1, gList, gListM, seqOf, gTuple, gMin2, gMax2, gRepr, dIsi, dTyEq, dAppend, dRev, dDict0, dRaise, dTry, catching, inSuite, dFld, vw, allD, Nat.reduceAdd, iRange1, startD, ends, wipeD, lcTurn, noX, iTupD, iLst, iEnumD, tAll, dLc, dLcM, dFor, gEqC, gNeC, gBools, boolsOf, List.map_cons, List.map_nil, List.length_cons, List.length_nil, List.replicate, List.cons_append, List.nil_append, List.getElem?_cons_zero, List.getElem?_cons_succ, List.set_cons_zero, List.set_cons_succ, Option.map_some, Option.map_none]
    refine lc_pure (step := fun x => match x with | .d (.int z) => some (PyData.int (z * far)) | _ => none) ?_ ?_ ?_
    · exact (by decide : (3 : Nat) ≤ sizeLine)
    · intro x hx M9 R hR
      simp only [List.map_cons, List.map_nil, List.mem_cons, List.not_mem_nil, or_false] at hx
      rcases hx with rfl | rfl | rfl
      · simp only [dSeq, dNext, dRet, dRetN, dIfS, dDrop, dAsg, dPar, dPut, dSet1, setT, setAll, dVar, dC, dBin, dUn, dFun, dNot, chain_eq, dTup, dLst, dLstM, and_eq, or_eq, dIf, tVal, tAnd2, tOr2, tNot1, dCall, dCons, dNil, gAdd, gAddM, gSub, gMod, gPow, gMul, gNeg, gLt, gLe, gGt, gGe, gInt, gInt0, gIx, dSl, oNo, oSome, gSl, gLen, gInt1, gList, gListM, seqOf, gTuple, gMin2, gMax2, gRepr, dIsi, dTyEq, dAppend, dRev, dDict0, dRaise, dTry, catching, inSuite, dFld, vw, allD, Nat.reduceAdd, iRange1, startD, ends, wipeD, lcTurn, noX, iTupD, iLst, iEnumD, tAll, dLc, dLcM, dFor, gEqC, gNeC, gBools, boolsOf, List.map_cons, List.map_nil, List.length_cons, List.length_nil, List.replicate, List.cons_append, List.nil_append, List.getElem?_cons_zero, List.getElem?_cons_succ, List.set_cons_zero, List.set_cons_succ, Option.map_some, Option.map_none]
        exact ⟨hn0.mul, hR M9 Sub.refl⟩
      · simp only [dSeq, dNext, dRet, dRetN, dIfS, dDrop, dAsg, dPar, dPut, dSet1, setT, setAll, dVar, dC, dBin, dUn, dFun, dNot, chain_eq, dTup, dLst, dLstM, and_eq, or_eq, dIf, tVal, tAnd2, tOr2, tNot1, dCall, dCons, dNil, gAdd, gAddM, gSub, gMod, gPow, gMul, gNeg, gLt, gLe, gGt, gGe, gInt, gInt0, gIx, dSl, oNo, oSome, gSl, gLen, gInt1, gList, gListM, seqOf, gTuple, gMin2, gMax2, gRepr, dIsi, dTyEq, dAppend, dRev, dDict0, dRaise, dTry, catching, inSuite, dFld, vw, allD, Nat.reduceAdd, iRange1, startD, ends, wipeD, lcTurn, noX, iTupD, iLst, iEnumD, tAll, dLc, dLcM, dFor, gEqC, gNeC, gBools, boolsOf, List.map_cons, List.map_nil, List.length_cons, List.length_nil, List.replicate, List.cons_append, List.nil_append, List.getElem?_cons_zero, List.getElem?_cons_succ, List.set_cons_zero, List.set_cons_succ, Option.map_some, Option.map_none]
        exact ⟨ht0.mul, hR M9 Sub.refl⟩
      · simp only [dSeq, dNext, dRet, dRetN, dIfS, dDrop, dAsg, dPar, dPut, dSet1, setT, setAll, dVar, dC, dBin, dUn, dFun, dNot, chain_eq, dTup, dLst, dLstM, and_eq, or_eq, dIf, tVal, tAnd2, tOr2, tNot1, dCall, dCons, dNil, gAdd, gAddM, gSub, gMod, gPow, gMul, gNeg, gLt, gLe, gGt, gGe, gInt, gInt0, gIx, dSl, oNo, oSome, gSl, gLen, gInt1, gList, gListM, seqOf, gTuple, gMin2, gMax2, gRepr, dIsi, dTyEq, dAppend, dRev, dDict0, dRaise, dTry, catching, inSuite, dFld, vw, allD, Nat.reduceAdd, iRange1, startD, ends, wipeD, lcTurn, noX, iTupD, iLst, iEnumD, tAll, dLc, dLcM, dFor, gEqC, gNeC, gBools, boolsOf, List.map_cons, List.map_nil, List.length_cons, List.length_nil, List.replicate, List.cons_append, List.nil_append, List.getElem?_cons_zero, List.getElem?_cons_succ, List.set_cons_zero, List.set_cons_succ, Option.map_some, Option.map_none]
        exact ⟨hf0.mul, hR M9 Sub.refl⟩
    · intro pq M9 h9 s9
      simp only [List.map_cons, List.map_nil, List.filterMap_cons, List.filterMap_nil] at h9
      simp only [h9]
      try simp only [dSeq, dNext, dRet, dRetN, dIfS, dDrop, dAsg, dPar, dPut, dSet1, setT, setAll, dVar, dC, dBin, dUn, dFun, dNot, chain_eq, dTup, dLst, dLstM, and_eq, or_eq, dIf, tVal, tAnd2, tOr2, tNot1, dCall, dCons, dNil, gAdd, gAddM, gSub, gMod, gPow, gMul, gNeg, gLt, gLe, gGt, gGe, gInt, gInt0, gIx, dSl, oNo, oSome, gSl, gLen, gInt1, gList, gListM, seqOf, gTuple, gMin2, gMax2, gRepr, dIsi, dTyEq, dAppend, dRev, dDict0, dRaise, dTry, catching, inSuite, dFld, vw, allD, Nat.reduceAdd, iRange1, startD, ends, wipeD, lcTurn, noX, iTupD, iLst, iEnumD, tAll, dLc, dLcM, dFor, gEqC, gNeC, gBools, boolsOf, List.map_cons, List.map_nil, List.length_cons, List.length_nil, List.replicate, List.cons_append, List.nil_append, List.getElem?_cons_zero, List.getElem?_cons_succ, List.set_cons_zero, List.set_cons_succ, Option.map_some, Option.map_none]
      have hv := val_shows hba hbb hbc (big_far hn0 hfar) (big_far ht0 hfar)
      refine call_value hba hbb fun M10 s10 => ?_
      refine ⟨hv, ?_⟩
      refine call_value hba hbb fun M11 s11 => ?_
      refine ⟨hv, str_cmp _ _, ?_⟩
      simp only [str_same, Bool.not_true, at_0]
      refine call_at (k := 2) (by simp) (by simp) fun M12 s12 => ?_
      have e12 : ∀ x y z w : PyData, List.take 2 [x, y, z] ++ [w] ++ List.drop (2 + 1) [x, y, z] = [x, y, w] := fun _ _ _ _ => rfl
      simp only [e12]
      try simp only [dSeq, dNext, dRet, dRetN, dIfS, dDrop, dAsg, dPar, dPut, dSet1, setT, setAll, dVar, dC, dBin, dUn, dFun, dNot, chain_eq, dTup, dLst, dLstM, and_eq, or_eq, dIf, tVal, tAnd2, tOr2, tNot1, dCall, dCons, dNil, gAdd, gAddM, gSub, gMod, gPow, gMul, gNeg, gLt, gLe, gGt, gGe, gInt, gInt0, gIx, dSl, oNo, oSome, gSl, gLen, gInt1, gList, gListM, seqOf, gTuple, gMin2, gMax2, gRepr, dIsi, dTyEq, dAppend, dRev, dDict0, dRaise, dTry, catching, inSuite, dFld, vw, allD, Nat.reduceAdd, iRange1, startD, ends, wipeD, lcTurn, noX, iTupD, iLst, iEnumD, tAll, dLc, dLcM, dFor, gEqC, gNeC, gBools, boolsOf, List.map_cons, List.map_nil, List.length_cons, List.length_nil, List.replicate, List.cons_append, List.nil_append, List.getElem?_cons_zero, List.getElem?_cons_succ, List.set_cons_zero, List.set_cons_succ, Option.map_some, Option.map_none]
      refine ⟨by decide, ?_⟩
      have h12 : PenStep p M8 M12 := (((PenStep.sub s8.1 s9).trans (PenStep.sub (s8.1.sub s9) s10)).trans (PenStep.sub ((s8.1.sub s9).sub s10) s11)).trans (PenStep.sub (((s8.1.sub s9).sub s10).sub s11) s12)
      refine lc_pen (P := fun d => ∃ z, d = .int z ∧ Sm z) ?_ h12.1 ?_ ?_
      · exact (by decide : (3 : Nat) ≤ sizeLine)
      · intro x hx M13 R ho hR
        try simp only [dSeq, dNext, dRet, dRetN, dIfS, dDrop, dAsg, dPar, dPut, dSet1, setT, setAll, dVar, dC, dBin, dUn, dFun, dNot, chain_eq, dTup, dLst, dLstM, and_eq, or_eq, dIf, tVal, tAnd2, tOr2, tNot1, dCall, dCons, dNil, gAdd, gAddM, gSub, gMod, gPow, gMul, gNeg, gLt, gLe, gGt, gGe, gInt, gInt0, gIx, dSl, oNo, oSome, gSl, gLen, gInt1, gList, gListM, seqOf, gTuple, gMin2, gMax2, gRepr, dIsi, dTyEq, dAppend, dRev, dDict0, dRaise, dTry, catching, inSuite, dFld, vw, allD, Nat.reduceAdd, iRange1, startD, ends, wipeD, lcTurn, noX, iTupD, iLst, iEnumD, tAll, dLc, dLcM, dFor, gEqC, gNeC, gBools, boolsOf, List.map_cons, List.map_nil, List.length_cons, List.length_nil, List.replicate, List.cons_append, List.nil_append, List.getElem?_cons_zero, List.getElem?_cons_succ, List.set_cons_zero, List.set_cons_succ, Option.map_some, Option.map_none]
        refine call_draw ho (by decide) (by decide) fun i6 M14 h06 h16 s14 => ?_
        exact hR _ _ ⟨_, rfl, by unfold Sm; omega⟩ s14
      · intro pl M13 acc h13 hal hP s13
        simp only [h13]
        refine call_draw s13.1 (by decide) (by decide) fun i6 M14 h06 h16 s14 => ?_
        have e3 : acc.length = 3 := by rw [hal]; rfl
        match acc, e3 with
        | [a1, b1, c1], _ =>
          obtain ⟨za, rfl, hza⟩ := hP a1 (by simp)
          obtain ⟨zb, rfl, hzb⟩ := hP b1 (by simp)
          obtain ⟨zc, rfl, hzc⟩ := hP c1 (by simp)
          try simp only [dSeq, dNext, dRet, dRetN, dIfS, dDrop, dAsg, dPar, dPut, dSet1, setT, setAll, dVar, dC, dBin, dUn, dFun, dNot, chain_eq, dTup, dLst, dLstM, and_eq, or_eq, dIf, tVal, tAnd2, tOr2, tNot1, dCall, dCons, dNil, gAdd, gAddM, gSub, gMod, gPow, gMul, gNeg, gLt, gLe, gGt, gGe, gInt, gInt0, gIx, dSl, oNo, oSome, gSl, gLen, gInt1, gList, gListM, seqOf, gTuple, gMin2, gMax2, gRepr, dIsi, dTyEq, dAppend, dRev, dDict0, dRaise, dTry, catching, inSuite, dFld, vw, allD, Nat.reduceAdd, iRange1, startD, ends, wipeD, lcTurn, noX, iTupD, iLst, iEnumD, tAll, dLc, dLcM, dFor, gEqC, gNeC, gBools, boolsOf, List.map_cons, List.map_nil, List.length_cons, List.length_nil, List.replicate, List.cons_append, List.nil_append, List.getElem?_cons_zero, List.getElem?_cons_succ, List.set_cons_zero, List.set_cons_succ, Option.map_some, Option.map_none]
          refine ⟨by decide, by decide, ?_⟩
          refine f1_ok hr hl1 hl4 (row_of rfl hza hzb hzc (by unfold Sm; omega)) s14.1 ?_
          rintro ρ' M' ⟨y2, y4, y5, y6, y7, y8, y9, y10, y11, y12, y13, y14, y15, y16, rfl⟩ h6
          exact hn _ _ ⟨_, _, _, _, _, _, _, _, _, _, _, _, _, _, rfl, h6⟩
  · rintro ρ M5 ⟨y2, y4, y5, y6, y7, y8, y9, y10, y11, y12, y13, y14, y15, y16, rfl, h5⟩
    exact hD _ _ ⟨_, _, _, _, _, _, _, _, _, _, _, _, _, _, rfl⟩ h5
  · exact ⟨_, _, _, _, _, _, _, _, _, _, _, _, _, _, rfl, hp⟩

theorem sp_law : ∀ xs M, (c_law).pre xs M → g_law (ends c_law xs M) (startD ["script", "pen", "lap", "rows", "value", "kept", "turn", "numbers", "bound", "far", "more", "last", "some", "long", "m", "part", "place"] xs) M := by
  rintro _ M ⟨a, ns, rfl⟩
  simp only [g_law, dSeq, dNext, dRet, dRetN, dIfS, dDrop, dAsg, dPar, dPut, dSet1, setT, setAll, dVar, dC, dBin, dUn, dFun, dNot, chain_eq, dTup, dLst, dLstM, and_eq, or_eq, dIf, tVal, tAnd2, tOr2, tNot1, dCall, dCons, dNil, gAdd, gAddM, gSub, gMod, gPow, gMul, gNeg, gLt, gLe, gGt, gGe, gInt, gInt0, gIx, dSl, oNo, oSome, gSl, gLen, gInt1, gList, gListM, seqOf, gTuple, gMin2, gMax2, gRepr, dIsi, dTyEq, dAppend, dRev, dDict0, dRaise, dTry, catching, inSuite, dFld, vw, allD, Nat.reduceAdd, iRange1, startD, ends, wipeD, lcTurn, noX, iTupD, iLst, iEnumD, tAll, dLc, dLcM, dFor, gEqC, gNeC, gBools, boolsOf, List.map_cons, List.map_nil, List.length_cons, List.length_nil, List.replicate, List.cons_append, List.nil_append, List.getElem?_cons_zero, List.getElem?_cons_succ, List.set_cons_zero, List.set_cons_succ, Option.map_some, Option.map_none]
  refine ⟨⟨a, ns, rfl⟩, ?_, fun _ _ _ q => q.elim⟩
  rintro x M1 ⟨p, rfl, _, hp, _⟩
  try simp only [dSeq, dNext, dRet, dRetN, dIfS, dDrop, dAsg, dPar, dPut, dSet1, setT, setAll, dVar, dC, dBin, dUn, dFun, dNot, chain_eq, dTup, dLst, dLstM, and_eq, or_eq, dIf, tVal, tAnd2, tOr2, tNot1, dCall, dCons, dNil, gAdd, gAddM, gSub, gMod, gPow, gMul, gNeg, gLt, gLe, gGt, gGe, gInt, gInt0, gIx, dSl, oNo, oSome, gSl, gLen, gInt1, gList, gListM, seqOf, gTuple, gMin2, gMax2, gRepr, dIsi, dTyEq, dAppend, dRev, dDict0, dRaise, dTry, catching, inSuite, dFld, vw, allD, Nat.reduceAdd, iRange1, startD, ends, wipeD, lcTurn, noX, iTupD, iLst, iEnumD, tAll, dLc, dLcM, dFor, gEqC, gNeC, gBools, boolsOf, List.map_cons, List.map_nil, List.length_cons, List.length_nil, List.replicate, List.cons_append, List.nil_append, List.getElem?_cons_zero, List.getElem?_cons_succ, List.set_cons_zero, List.set_cons_succ, Option.map_some, Option.map_none]
  refine ⟨by decide, ?_⟩
  refine forD_run (fun r ρ M' => ∃ y2 y3 y4 y5 y6 y7 y8 y9 y10 y11 y12 y13 y14 y15 y16, ρ = [some (.s a ns), some (.m p), y2, y3, y4, y5, y6, y7, y8, y9, y10, y11, y12, y13, y14, y15, y16] ∧ PenOk M' p) (fun _ _ _ _ => trivial) ?_ ?_ _ _ _ ?_
  rotate_left 2
  · exact ⟨_, _, _, _, _, _, _, _, _, _, _, _, _, _, _, rfl, hp⟩
  rotate_left 1
  · rintro ρ M2 ⟨y2, y3, y4, y5, y6, y7, y8, y9, y10, y11, y12, y13, y14, y15, y16, rfl, _⟩
    try simp only [dSeq, dNext, dRet, dRetN, dIfS, dDrop, dAsg, dPar, dPut, dSet1, setT, setAll, dVar, dC, dBin, dUn, dFun, dNot, chain_eq, dTup, dLst, dLstM, and_eq, or_eq, dIf, tVal, tAnd2, tOr2, tNot1, dCall, dCons, dNil, gAdd, gAddM, gSub, gMod, gPow, gMul, gNeg, gLt, gLe, gGt, gGe, gInt, gInt0, gIx, dSl, oNo, oSome, gSl, gLen, gInt1, gList, gListM, seqOf, gTuple, gMin2, gMax2, gRepr, dIsi, dTyEq, dAppend, dRev, dDict0, dRaise, dTry, catching, inSuite, dFld, vw, allD, Nat.reduceAdd, iRange1, startD, ends, wipeD, lcTurn, noX, iTupD, iLst, iEnumD, tAll, dLc, dLcM, dFor, gEqC, gNeC, gBools, boolsOf, List.map_cons, List.map_nil, List.length_cons, List.length_nil, List.replicate, List.cons_append, List.nil_append, List.getElem?_cons_zero, List.getElem?_cons_succ, List.set_cons_zero, List.set_cons_succ, Option.map_some, Option.map_none]
    rfl
  rintro x r ρ M2 nx ⟨y2, y3, y4, y5, y6, y7, y8, y9, y10, y11, y12, y13, y14, y15, y16, rfl, hp2⟩ hn
  try simp only [dSeq, dNext, dRet, dRetN, dIfS, dDrop, dAsg, dPar, dPut, dSet1, setT, setAll, dVar, dC, dBin, dUn, dFun, dNot, chain_eq, dTup, dLst, dLstM, and_eq, or_eq, dIf, tVal, tAnd2, tOr2, tNot1, dCall, dCons, dNil, gAdd, gAddM, gSub, gMod, gPow, gMul, gNeg, gLt, gLe, gGt, gGe, gInt, gInt0, gIx, dSl, oNo, oSome, gSl, gLen, gInt1, gList, gListM, seqOf, gTuple, gMin2, gMax2, gRepr, dIsi, dTyEq, dAppend, dRev, dDict0, dRaise, dTry, catching, inSuite, dFld, vw, allD, Nat.reduceAdd, iRange1, startD, ends, wipeD, lcTurn, noX, iTupD, iLst, iEnumD, tAll, dLc, dLcM, dFor, gEqC, gNeC, gBools, boolsOf, List.map_cons, List.map_nil, List.length_cons, List.length_nil, List.replicate, List.cons_append, List.nil_append, List.getElem?_cons_zero, List.getElem?_cons_succ, List.set_cons_zero, List.set_cons_succ, Option.map_some, Option.map_none]
  refine call_res hp2 fun rs M3 hr hl1 hl4 s3 => ?_
  try simp only [dSeq, dNext, dRet, dRetN, dIfS, dDrop, dAsg, dPar, dPut, dSet1, setT, setAll, dVar, dC, dBin, dUn, dFun, dNot, chain_eq, dTup, dLst, dLstM, and_eq, or_eq, dIf, tVal, tAnd2, tOr2, tNot1, dCall, dCons, dNil, gAdd, gAddM, gSub, gMod, gPow, gMul, gNeg, gLt, gLe, gGt, gGe, gInt, gInt0, gIx, dSl, oNo, oSome, gSl, gLen, gInt1, gList, gListM, seqOf, gTuple, gMin2, gMax2, gRepr, dIsi, dTyEq, dAppend, dRev, dDict0, dRaise, dTry, catching, inSuite, dFld, vw, allD, Nat.reduceAdd, iRange1, startD, ends, wipeD, lcTurn, noX, iTupD, iLst, iEnumD, tAll, dLc, dLcM, dFor, gEqC, gNeC, gBools, boolsOf, List.map_cons, List.map_nil, List.length_cons, List.length_nil, List.replicate, List.cons_append, List.nil_append, List.getElem?_cons_zero, List.getElem?_cons_succ, List.set_cons_zero, List.set_cons_succ, Option.map_some, Option.map_none]
  refine l1_ok hr hl1 hl4 s3.1 ?_
  rintro ρ' M' ⟨y2, y4, y5, y6, y7, y8, y9, y10, y11, y12, y13, y14, y15, y16, rfl⟩ h4
  refine l2_ok hr hl1 hl4 h4 ?_
  rintro ρ' M' ⟨y2, y4, y5, y6, y7, y8, y9, y10, y11, y12, y13, y14, y15, y16, rfl⟩ h5
  refine l3_ok hr hl4 h5 ?_
  rintro ρ' M' ⟨y2, y3, y4, y5, y6, y7, y8, y9, y10, y11, y12, y13, y14, y15, y16, rfl⟩ h6
  exact hn _ _ ⟨_, _, _, _, _, _, _, _, _, _, _, _, _, _, _, rfl, h6⟩

end K01

namespace K01
open PySem PySem.Spec PyProof.Rows L2 HD


theorem sc_init : FnScope ["self", "index"] ["self", "index"] (defScope s_InvalidResilience) := ⟨rfl, rfl, rfl, by decide +kernel, rfl, by decide +kernel, by decide +kernel⟩
theorem ok_init {P : Program} {w : World} {K : PySem.W.Frag} {mg : Str → Option Value} {base : Heap} {C f : Addr} {fd : FuncData} (F : Fun K "__init__" "InvalidResilience.__init__" s_InvalidResilience f fd) : FnOk P w K mg base CX0 1 f fd ["self", "index"] (spInit K C "index") := by
  refine F.ok sc_init (fun vs H Q E h => ?_) (fun cdv A outer s H vs Q E hr h => ⟨tOst K "index" (tVar 0) (tVar 1), pss_one (ps_ost (pv 0) (pv 1)), ?_⟩)
  · obtain ⟨a, v, rfl, _⟩ := h
    rfl
  · obtain ⟨a, v, rfl, T, hno, ha, hq⟩ := h
    refine ⟨v, rfl, .ref a, rfl, a, C, rfl, T, hno, .inl ⟨ha, fun dx hdx n => ?_⟩⟩
    exact hq dx hdx n

theorem ok_is_whole {P : Program} {w : World} {K : PySem.W.Frag} {mg : Str → Option Value} {base : Heap} (hsys : ∃ o, base.get? sysModules = some o) (T : Txt K mg)
    {f_is_whole : Addr} {fd_is_whole : FuncData} (D_is_whole : Def K mg "is_whole" s_is_whole ["value", "least", "most"] f_is_whole fd_is_whole) :
    FnG P w K mg base 1 f_is_whole fd_is_whole ["value", "least", "most"] (c_is_whole.sp K) :=
  FnG.data D_is_whole.fn sc_is_whole hsys len_is_whole (fun cdv A outer s H E cx => (css_cons (cs_if (CW.ct (cw_or (ct_val (ce_isi (T := "bool") (by rfl) T.n_isinstance (by rfl) T.n_bool (by decide +kernel) (ce_var (i := 0) rfl (by first | exact .inl rfl | exact .inr (.inl rfl) | exact .inr (.inr rfl))))) (cw_or1 (ct_not (ct_val (ce_isi (T := "int") (by rfl) T.n_isinstance (by rfl) T.n_int (by decide +kernel) (ce_var (i := 0) rfl (by first | exact .inl rfl | exact .inr (.inl rfl) | exact .inr (.inr rfl))))))))) (css_one (cs_ret ce_bl)) css_nil)
    (css_one (cs_ret (ce_and (ce_cmp opd_le (ce_var (i := 1) rfl (by first | exact .inl rfl | exact .inr (.inl rfl) | exact .inr (.inr rfl))) (ce_var (i := 0) rfl (by first | exact .inl rfl | exact .inr (.inl rfl) | exact .inr (.inr rfl)))) (ce_one (ce_cmp opd_le (ce_var (i := 0) rfl (by first | exact .inl rfl | exact .inr (.inl rfl) | exact .inr (.inr rfl))) (ce_var (i := 2) rfl (by first | exact .inl rfl | exact .inr (.inl rfl) | exact .inr (.inr rfl)))))))))) (sp_is_whole)
theorem ok_is_tuple {P : Program} {w : World} {K : PySem.W.Frag} {mg : Str → Option Value} {base : Heap} (hsys : ∃ o, base.get? sysModules = some o) (T : Txt K mg)
    {f_is_tuple : Addr} {fd_is_tuple : FuncData} (D_is_tuple : Def K mg "is_tuple" s_is_tuple ["value", "least", "most"] f_is_tuple fd_is_tuple) :
    FnG P w K mg base 1 f_is_tuple fd_is_tuple ["value", "least", "most"] (c_is_tuple.sp K) :=
  FnG.data D_is_tuple.fn sc_is_tuple hsys len_is_tuple (fun cdv A outer s H E cx => (css_one (cs_ret (ce_and (ce_tyEq (T := "tuple") (by rfl) T.n_type (by rfl) T.n_tuple (by decide +kernel) (by decide) (ce_var (i := 0) rfl (by first | exact .inl rfl | exact .inr (.inl rfl) | exact .inr (.inr rfl)))) (ce_and (ce_cmp opd_le (ce_var (i := 1) rfl (by first | exact .inl rfl | exact .inr (.inl rfl) | exact .inr (.inr rfl))) (ce_callB cd_len (by rfl) T.n_len (by decide +kernel) (ca_cons (ce_var (i := 0) rfl (by first | exact .inl rfl | exact .inr (.inl rfl) | exact .inr (.inr rfl))) ca_nil))) (ce_one (ce_cmp opd_le (ce_callB cd_len (by rfl) T.n_len (by decide +kernel) (ca_cons (ce_var (i := 0) rfl (by first | exact .inl rfl | exact .inr (.inl rfl) | exact .inr (.inr rfl))) ca_nil)) (ce_var (i := 2) rfl (by first | exact .inl rfl | exact .inr (.inl rfl) | exact .inr (.inr rfl)))))))))) (sp_is_tuple)
theorem ok_bound_value {P : Program} {w : World} {K : PySem.W.Frag} {mg : Str → Option Value} {base : Heap} (hsys : ∃ o, base.get? sysModules = some o) (T : Txt K mg)
    {f_bound_value : Addr} {fd_bound_value : FuncData} (D_bound_value : Def K mg "bound_value" s_bound_value ["bound", "numbers"] f_bound_value fd_bound_value) :
    FnG P w K mg base 1 f_bound_value fd_bound_value ["bound", "numbers"] (c_bound_value.sp K) :=
  FnG.data D_bound_value.fn sc_bound_value hsys len_bound_value (fun cdv A outer s H E cx => (css_cons (cs_asg (ce_var (i := 0) rfl (by first | exact .inl rfl | exact .inr (.inl rfl) | exact .inr (.inr rfl))) (cg_many cx.toCxe.calm (cgs_cons (i := 2) cx.toCxe.nd rfl (cgs_cons (i := 3) cx.toCxe.nd rfl (cgs_cons (i := 4) cx.toCxe.nd rfl cgs_nil)))))
    (css_cons (cs_asg (ce_var (i := 1) rfl (by first | exact .inl rfl | exact .inr (.inl rfl) | exact .inr (.inr rfl))) (cg_many cx.toCxe.calm (cgs_cons (i := 5) cx.toCxe.nd rfl (cgs_cons (i := 6) cx.toCxe.nd rfl (cgs_cons (i := 7) cx.toCxe.nd rfl cgs_nil)))))
    (css_one (cs_ret (ce_bin opd_add (ce_bin opd_add (ce_bin opd_mul (ce_var (i := 2) rfl (by first | exact .inl rfl | exact .inr (.inl rfl) | exact .inr (.inr rfl))) (ce_var (i := 5) rfl (by first | exact .inl rfl | exact .inr (.inl rfl) | exact .inr (.inr rfl)))) (ce_bin opd_mul (ce_var (i := 3) rfl (by first | exact .inl rfl | exact .inr (.inl rfl) | exact .inr (.inr rfl))) (ce_var (i := 6) rfl (by first | exact .inl rfl | exact .inr (.inl rfl) | exact .inr (.inr rfl))))) (ce_var (i := 4) rfl (by first | exact .inl rfl | exact .inr (.inl rfl) | exact .inr (.inr rfl))))))))) (sp_bound_value)
theorem ok_is_resilience_row {P : Program} {w : World} {K : PySem.W.Frag} {mg : Str → Option Value} {base : Heap} (hsys : ∃ o, base.get? sysModules = some o) (T : Txt K mg)
    {f_is_resilience_row : Addr} {fd_is_resilience_row : FuncData} (D_is_resilience_row : Def K mg "is_resilience_row" s_is_resilience_row ["value"] f_is_resilience_row fd_is_resilience_row)
    {f_is_tuple : Addr} {fd_is_tuple : FuncData} (D_is_tuple : Def K mg "is_tuple" s_is_tuple ["value", "least", "most"] f_is_tuple fd_is_tuple)
    {f_is_whole : Addr} {fd_is_whole : FuncData} (D_is_whole : Def K mg "is_whole" s_is_whole ["value", "least", "most"] f_is_whole fd_is_whole)
    (F_is_tuple : FnG P w K mg base 1 f_is_tuple fd_is_tuple ["value", "least", "most"] (c_is_tuple.sp K))
    (F_is_whole : FnG P w K mg base 1 f_is_whole fd_is_whole ["value", "least", "most"] (c_is_whole.sp K)) :
    FnG P w K mg base 2 f_is_resilience_row fd_is_resilience_row ["value"] (c_is_resilience_row.sp K) :=
  FnG.data D_is_resilience_row.fn sc_is_resilience_row hsys len_is_resilience_row (fun cdv A outer s H E cx => (css_cons (cs_if (ct_not (ct_val (ce_call F_is_tuple cx.toCxe (by decide) (by rfl) D_is_tuple.g D_is_tuple.fn.kp D_is_tuple.b (ca_cons (ce_var (i := 0) rfl (by first | exact .inl rfl | exact .inr (.inl rfl) | exact .inr (.inr rfl))) (ca_cons ce_int (ca_cons ce_int ca_nil)))))) (css_one (cs_ret ce_bl)) css_nil)
    (css_one (cs_ret (ce_and (ce_callB (cd_all cx.toCxe.calm) (by rfl) T.n_all (by decide +kernel) (ca_cons (ce_lc (own := [("part", 1)]) cx.toCxe (ci_tupD (ce_slice (ce_var (i := 0) rfl (by first | exact .inl rfl | exact .inr (.inl rfl) | exact .inr (.inr rfl))) co_none (co_some ce_int))) (by show blkC ["value", "part"] (defScope s_is_resilience_row) _ _ = true; decide +kernel) (fun s H C cl fp => (cg_one (i := 1) (cx.toCxe.blk).nd rfl)) (fun s H C cl fp => cts_nil) (fun s H C cl fp => (ce_call F_is_whole (cx.toCxe.blk) (by decide) (by rfl) D_is_whole.g D_is_whole.fn.kp D_is_whole.b (ca_cons (ce_var (i := 1) rfl (by first | exact .inl rfl | exact .inr (.inl rfl) | exact .inr (.inr rfl))) (ca_cons (ce_un und_neg ce_int) (ca_cons ce_int ca_nil)))))) ca_nil)) (ce_one (ce_call F_is_whole cx.toCxe (by decide) (by rfl) D_is_whole.g D_is_whole.fn.kp D_is_whole.b (ca_cons (ce_sub (ce_var (i := 0) rfl (by first | exact .inl rfl | exact .inr (.inl rfl) | exact .inr (.inr rfl))) ce_int) (ca_cons ce_int (ca_cons ce_int ca_nil)))))))))) (sp_is_resilience_row)
theorem ok_require_resilience {P : Program} {w : World} {K : PySem.W.Frag} {mg : Str → Option Value} {base : Heap} (hsys : ∃ o, base.get? sysModules = some o) (T : Txt K mg)
    {f_require_resilience : Addr} {fd_require_resilience : FuncData} (D_require_resilience : Def K mg "require_resilience" s_require_resilience ["value"] f_require_resilience fd_require_resilience)
    {f_is_tuple : Addr} {fd_is_tuple : FuncData} (D_is_tuple : Def K mg "is_tuple" s_is_tuple ["value", "least", "most"] f_is_tuple fd_is_tuple)
    {f_is_resilience_row : Addr} {fd_is_resilience_row : FuncData} (D_is_resilience_row : Def K mg "is_resilience_row" s_is_resilience_row ["value"] f_is_resilience_row fd_is_resilience_row)
    {e_InvalidResilience i_InvalidResilience : Addr} {ed_InvalidResilience : FuncData} (E_InvalidResilience : ErrC K mg "InvalidResilience" "index" e_InvalidResilience i_InvalidResilience ed_InvalidResilience)
    (I_InvalidResilience : FnOk P w K mg base CX0 1 i_InvalidResilience ed_InvalidResilience ["self", "index"] (spInit K e_InvalidResilience "index"))
    (F_is_tuple : FnG P w K mg base 1 f_is_tuple fd_is_tuple ["value", "least", "most"] (c_is_tuple.sp K))
    (F_is_resilience_row : FnG P w K mg base 2 f_is_resilience_row fd_is_resilience_row ["value"] (c_is_resilience_row.sp K)) :
    FnG P w K mg base 3 f_require_resilience fd_require_resilience ["value"] ((c_require_resilience e_InvalidResilience).sp K) :=
  FnG.data D_require_resilience.fn sc_require_resilience hsys len_require_resilience (fun cdv A outer s H E cx => (css_cons (cs_if (ct_not (ct_val (ce_call F_is_tuple cx.toCxe (by decide) (by rfl) D_is_tuple.g D_is_tuple.fn.kp D_is_tuple.b (ca_cons (ce_var (i := 0) rfl (by first | exact .inl rfl | exact .inr (.inl rfl) | exact .inr (.inr rfl))) (ca_cons ce_int (ca_cons ce_int ca_nil)))))) (css_one (cs_raise E_InvalidResilience I_InvalidResilience cx.toCxe (by decide) (by rfl) ce_non)) css_nil)
    (css_cons (cs_for cx (ci_enum (by rfl) T.n_enumerate (ca_cons (ce_var (i := 0) rfl (by first | exact .inl rfl | exact .inr (.inl rfl) | exact .inr (.inr rfl))) ca_nil)) (cg_many cx.toCxe.calm (cgs_cons (i := 1) cx.toCxe.nd rfl (cgs_cons (i := 2) cx.toCxe.nd rfl cgs_nil))) (css_one (cs_if (ct_not (ct_val (ce_call F_is_resilience_row cx.toCxe (by decide) (by rfl) D_is_resilience_row.g D_is_resilience_row.fn.kp D_is_resilience_row.b (ca_cons (ce_var (i := 2) rfl (by first | exact .inl rfl | exact .inr (.inl rfl) | exact .inr (.inr rfl))) ca_nil)))) (css_one (cs_raise E_InvalidResilience I_InvalidResilience cx.toCxe (by decide) (by rfl) (ce_var (i := 1) rfl (by first | exact .inl rfl | exact .inr (.inl rfl) | exact .inr (.inr rfl))))) css_nil)))
    (css_one (cs_ret (ce_var (i := 0) rfl (by first | exact .inl rfl | exact .inr (.inl rfl) | exact .inr (.inr rfl)))))))) (sp_require_resilience e_InvalidResilience)
theorem ok_fits {P : Program} {w : World} {K : PySem.W.Frag} {mg : Str → Option Value} {base : Heap} (hsys : ∃ o, base.get? sysModules = some o) (T : Txt K mg)
    {f_fits : Addr} {fd_fits : FuncData} (D_fits : Def K mg "fits" s_fits ["resilience", "numbers"] f_fits fd_fits) :
    FnG P w K mg base 1 f_fits fd_fits ["resilience", "numbers"] (c_fits.sp K) :=
  FnG.data D_fits.fn sc_fits hsys len_fits (fun cdv A outer s H E cx => (css_cons (cs_asg (ce_var (i := 1) rfl (by first | exact .inl rfl | exact .inr (.inl rfl) | exact .inr (.inr rfl))) (cg_many cx.toCxe.calm (cgs_cons (i := 2) cx.toCxe.nd rfl (cgs_cons (i := 3) cx.toCxe.nd rfl (cgs_cons (i := 4) cx.toCxe.nd rfl cgs_nil)))))
    (css_one (cs_ret (ce_and (ce_cmp opd_ge (ce_var (i := 2) rfl (by first | exact .inl rfl | exact .inr (.inl rfl) | exact .inr (.inr rfl))) (ce_var (i := 4) rfl (by first | exact .inl rfl | exact .inr (.inl rfl) | exact .inr (.inr rfl)))) (ce_one (ce_callB (cd_all cx.toCxe.calm) (by rfl) T.n_all (by decide +kernel) (ca_cons (ce_lc (own := [("p", 5), ("q", 6), ("r", 7), ("c", 8)]) cx.toCxe (ci_tupD (ce_var (i := 0) rfl (by first | exact .inl rfl | exact .inr (.inl rfl) | exact .inr (.inr rfl)))) (by show blkC ["resilience", "numbers", "n", "t", "f", "p", "q", "r", "c"] (defScope s_fits) _ _ = true; decide +kernel) (fun s H C cl fp => (cg_many (cx.toCxe.blk).calm (cgs_cons (i := 5) (cx.toCxe.blk).nd rfl (cgs_cons (i := 6) (cx.toCxe.blk).nd rfl (cgs_cons (i := 7) (cx.toCxe.blk).nd rfl (cgs_cons (i := 8) (cx.toCxe.blk).nd rfl cgs_nil)))))) (fun s H C cl fp => cts_nil) (fun s H C cl fp => (ce_cmp opd_ge (ce_bin opd_add (ce_bin opd_add (ce_bin opd_mul (ce_var (i := 5) rfl (by first | exact .inl rfl | exact .inr (.inl rfl) | exact .inr (.inr rfl))) (ce_var (i := 2) rfl (by first | exact .inl rfl | exact .inr (.inl rfl) | exact .inr (.inr rfl)))) (ce_bin opd_mul (ce_var (i := 6) rfl (by first | exact .inl rfl | exact .inr (.inl rfl) | exact .inr (.inr rfl))) (ce_var (i := 3) rfl (by first | exact .inl rfl | exact .inr (.inl rfl) | exact .inr (.inr rfl))))) (ce_bin opd_mul (ce_var (i := 7) rfl (by first | exact .inl rfl | exact .inr (.inl rfl) | exact .inr (.inr rfl))) (ce_var (i := 4) rfl (by first | exact .inl rfl | exact .inr (.inl rfl) | exact .inr (.inr rfl))))) (ce_var (i := 8) rfl (by first | exact .inl rfl | exact .inr (.inl rfl) | exact .inr (.inr rfl)))))) ca_nil)))))))) (sp_fits)
theorem ok_with_factor {P : Program} {w : World} {K : PySem.W.Frag} {mg : Str → Option Value} {base : Heap} (hsys : ∃ o, base.get? sysModules = some o) (T : Txt K mg)
    {f_with_factor : Addr} {fd_with_factor : FuncData} (D_with_factor : Def K mg "with_factor" s_with_factor ["resilience", "m"] f_with_factor fd_with_factor) :
    FnG P w K mg base 1 f_with_factor fd_with_factor ["resilience", "m"] (c_with_factor.sp K) :=
  FnG.data D_with_factor.fn sc_with_factor hsys len_with_factor (fun cdv A outer s H E cx => (css_one (cs_ret (ce_bin opd_add (ce_var (i := 0) rfl (by first | exact .inl rfl | exact .inr (.inl rfl) | exact .inr (.inr rfl))) (ce_tup (ca_cons (ce_tup (ca_cons ce_int (ca_cons (ce_un und_neg (ce_var (i := 1) rfl (by first | exact .inl rfl | exact .inr (.inl rfl) | exact .inr (.inr rfl)))) (ca_cons ce_int (ca_cons ce_int ca_nil))))) ca_nil)))))) (sp_with_factor)
theorem ok__law_pen {P : Program} {w : World} {K : PySem.W.Frag} {mg : Str → Option Value} {base : Heap} (hsys : ∃ o, base.get? sysModules = some o) (T : Txt K mg)
    {f__law_pen : Addr} {fd__law_pen : FuncData} (D__law_pen : Def K mg "_law_pen" s__law_pen ["script"] f__law_pen fd__law_pen) :
    FnG P w K mg base 1 f__law_pen fd__law_pen ["script"] (c__law_pen.sp K) :=
  FnG.data D__law_pen.fn sc__law_pen hsys len__law_pen (fun cdv A outer s H E cx => (css_one (cs_ret (ce_lstM (ca_cons (ce_callTy cd_list (by rfl) T.n_list (by decide +kernel) (ca_cons (ce_slice (ce_var (i := 0) rfl (by first | exact .inl rfl | exact .inr (.inl rfl) | exact .inr (.inr rfl))) co_none (co_some ce_int)) ca_nil)) (ca_cons ce_int (ca_cons ce_int ca_nil))))))) (sp__law_pen)
theorem ok__law_fresh {P : Program} {w : World} {K : PySem.W.Frag} {mg : Str → Option Value} {base : Heap} (hsys : ∃ o, base.get? sysModules = some o) (T : Txt K mg)
    {f__law_fresh : Addr} {fd__law_fresh : FuncData} (D__law_fresh : Def K mg "_law_fresh" s__law_fresh ["pen"] f__law_fresh fd__law_fresh) :
    FnG P w K mg base 1 f__law_fresh fd__law_fresh ["pen"] (c__law_fresh.sp K) :=
  FnG.data D__law_fresh.fn sc__law_fresh hsys len__law_fresh (fun cdv A outer s H E cx => (css_cons (cs_par (i := 1) (j := 2) cx.toCxe.calm cx.toCxe.nd rfl rfl (by decide) (ca_cons (ce_sub (ce_var (i := 0) rfl (by first | exact .inl rfl | exact .inr (.inl rfl) | exact .inr (.inr rfl))) ce_int) (ca_cons (ce_sub (ce_var (i := 0) rfl (by first | exact .inl rfl | exact .inr (.inl rfl) | exact .inr (.inr rfl))) ce_int) ca_nil)))
    (css_cons (cs_put (ce_bin opd_add (ce_var (i := 1) rfl (by first | exact .inl rfl | exact .inr (.inl rfl) | exact .inr (.inr rfl))) ce_int) (ce_var (i := 0) rfl (by first | exact .inl rfl | exact .inr (.inl rfl) | exact .inr (.inr rfl))) ce_int)
    (css_cons (cs_set (i := 3) cx.toCxe.nd rfl (ce_if (ct_cmp (opd_neC (hu64 cx.toCxe)) (ce_var (i := 2) rfl (by first | exact .inl rfl | exact .inr (.inl rfl) | exact .inr (.inr rfl))) (ce_lst ca_nil)) (ce_sub (ce_var (i := 2) rfl (by first | exact .inl rfl | exact .inr (.inl rfl) | exact .inr (.inr rfl))) (ce_bin opd_mod (ce_callTy cd_int (by rfl) T.n_int (by decide +kernel) (ca_cons (ce_var (i := 1) rfl (by first | exact .inl rfl | exact .inr (.inl rfl) | exact .inr (.inr rfl))) ca_nil)) (ce_callB cd_len (by rfl) T.n_len (by decide +kernel) (ca_cons (ce_var (i := 2) rfl (by first | exact .inl rfl | exact .inr (.inl rfl) | exact .inr (.inr rfl))) ca_nil)))) ce_int))
    (css_cons (cs_if (CW.ct (cw_and (ct_cmp opd_lt (ce_var (i := 1) rfl (by first | exact .inl rfl | exact .inr (.inl rfl) | exact .inr (.inr rfl))) (ce_callB cd_len (by rfl) T.n_len (by decide +kernel) (ca_cons (ce_var (i := 2) rfl (by first | exact .inl rfl | exact .inr (.inl rfl) | exact .inr (.inr rfl))) ca_nil))) (cw_and1 (ct_cmp opd_ge (ce_var (i := 3) rfl (by first | exact .inl rfl | exact .inr (.inl rfl) | exact .inr (.inr rfl))) (ce_bin opd_pow ce_int ce_int))))) (css_one (cs_ret (ce_bin opd_sub (ce_var (i := 3) rfl (by first | exact .inl rfl | exact .inr (.inl rfl) | exact .inr (.inr rfl))) (ce_bin opd_pow ce_int ce_int)))) css_nil)
    (css_cons (cs_set (i := 4) cx.toCxe.nd rfl ce_int)
    (css_cons (cs_set (i := 5) cx.toCxe.nd rfl (ce_bin opd_mod (ce_callTy cd_int (by rfl) T.n_int (by decide +kernel) (ca_cons (ce_bin opd_add (ce_bin opd_add (ce_bin opd_mul (ce_var (i := 3) rfl (by first | exact .inl rfl | exact .inr (.inl rfl) | exact .inr (.inr rfl))) ce_int) (ce_bin opd_mul ce_int (ce_var (i := 1) rfl (by first | exact .inl rfl | exact .inr (.inl rfl) | exact .inr (.inr rfl))))) ce_int) ca_nil)) (ce_var (i := 4) rfl (by first | exact .inl rfl | exact .inr (.inl rfl) | exact .inr (.inr rfl)))))
    (css_cons (cs_set (i := 6) cx.toCxe.nd rfl (ce_var (i := 5) rfl (by first | exact .inl rfl | exact .inr (.inl rfl) | exact .inr (.inr rfl))))
    (css_cons (cs_for cx (ci_range1 (by rfl) T.n_range (ca_cons ce_int ca_nil)) (cg_one (i := 7) cx.toCxe.nd rfl) (css_cons (cs_set (i := 5) cx.toCxe.nd rfl (ce_bin opd_mod (ce_callTy cd_int (by rfl) T.n_int (by decide +kernel) (ca_cons (ce_bin opd_add (ce_bin opd_add (ce_bin opd_mul (ce_var (i := 5) rfl (by first | exact .inl rfl | exact .inr (.inl rfl) | exact .inr (.inr rfl))) (ce_var (i := 5) rfl (by first | exact .inl rfl | exact .inr (.inl rfl) | exact .inr (.inr rfl)))) (ce_bin opd_mul (ce_bin opd_mul ce_int (ce_bin opd_add (ce_var (i := 7) rfl (by first | exact .inl rfl | exact .inr (.inl rfl) | exact .inr (.inr rfl))) ce_int)) (ce_bin opd_add (ce_var (i := 1) rfl (by first | exact .inl rfl | exact .inr (.inl rfl) | exact .inr (.inr rfl))) ce_int))) (ce_var (i := 3) rfl (by first | exact .inl rfl | exact .inr (.inl rfl) | exact .inr (.inr rfl)))) ca_nil)) (ce_var (i := 4) rfl (by first | exact .inl rfl | exact .inr (.inl rfl) | exact .inr (.inr rfl)))))
    (css_one (cs_set (i := 6) cx.toCxe.nd rfl (ce_bin opd_add (ce_bin opd_mul (ce_var (i := 6) rfl (by first | exact .inl rfl | exact .inr (.inl rfl) | exact .inr (.inr rfl))) (ce_var (i := 4) rfl (by first | exact .inl rfl | exact .inr (.inl rfl) | exact .inr (.inr rfl)))) (ce_var (i := 5) rfl (by first | exact .inl rfl | exact .inr (.inl rfl) | exact .inr (.inr rfl))))))))
    (css_one (cs_ret (ce_var (i := 6) rfl (by first | exact .inl rfl | exact .inr (.inl rfl) | exact .inr (.inr rfl)))))))))))))) (sp__law_fresh)
theorem ok__law_draw {P : Program} {w : World} {K : PySem.W.Frag} {mg : Str → Option Value} {base : Heap} (hsys : ∃ o, base.get? sysModules = some o) (T : Txt K mg)
    {f__law_draw : Addr} {fd__law_draw : FuncData} (D__law_draw : Def K mg "_law_draw" s__law_draw ["pen", "bound"] f__law_draw fd__law_draw)
    {f__law_fresh : Addr} {fd__law_fresh : FuncData} (D__law_fresh : Def K mg "_law_fresh" s__law_fresh ["pen"] f__law_fresh fd__law_fresh)
    (F__law_fresh : FnG P w K mg base 1 f__law_fresh fd__law_fresh ["pen"] (c__law_fresh.sp K)) :
    FnG P w K mg base 2 f__law_draw fd__law_draw ["pen", "bound"] (c__law_draw.sp K) :=
  FnG.data D__law_draw.fn sc__law_draw hsys len__law_draw (fun cdv A outer s H E cx => (css_cons (cs_if (ct_cmp opd_lt (ce_sub (ce_var (i := 0) rfl (by first | exact .inl rfl | exact .inr (.inl rfl) | exact .inr (.inr rfl))) ce_int) (ce_var (i := 1) rfl (by first | exact .inl rfl | exact .inr (.inl rfl) | exact .inr (.inr rfl)))) (css_one (cs_put (ce_call F__law_fresh cx.toCxe (by decide) (by rfl) D__law_fresh.g D__law_fresh.fn.kp D__law_fresh.b (ca_cons (ce_var (i := 0) rfl (by first | exact .inl rfl | exact .inr (.inl rfl) | exact .inr (.inr rfl))) ca_nil)) (ce_var (i := 0) rfl (by first | exact .inl rfl | exact .inr (.inl rfl) | exact .inr (.inr rfl))) ce_int)) css_nil)
    (css_cons (cs_set (i := 2) cx.toCxe.nd rfl (ce_bin opd_mod (ce_callTy cd_int (by rfl) T.n_int (by decide +kernel) (ca_cons (ce_sub (ce_var (i := 0) rfl (by first | exact .inl rfl | exact .inr (.inl rfl) | exact .inr (.inr rfl))) ce_int) ca_nil)) (ce_var (i := 1) rfl (by first | exact .inl rfl | exact .inr (.inl rfl) | exact .inr (.inr rfl)))))
    (css_cons (cs_put (ce_bin opd_fdiv (ce_callTy cd_int (by rfl) T.n_int (by decide +kernel) (ca_cons (ce_sub (ce_var (i := 0) rfl (by first | exact .inl rfl | exact .inr (.inl rfl) | exact .inr (.inr rfl))) ce_int) ca_nil)) (ce_var (i := 1) rfl (by first | exact .inl rfl | exact .inr (.inl rfl) | exact .inr (.inr rfl)))) (ce_var (i := 0) rfl (by first | exact .inl rfl | exact .inr (.inl rfl) | exact .inr (.inr rfl))) ce_int)
    (css_one (cs_ret (ce_var (i := 2) rfl (by first | exact .inl rfl | exact .inr (.inl rfl) | exact .inr (.inr rfl))))))))) (sp__law_draw)
theorem ok__law_one_of {P : Program} {w : World} {K : PySem.W.Frag} {mg : Str → Option Value} {base : Heap} (hsys : ∃ o, base.get? sysModules = some o) (T : Txt K mg)
    {f__law_one_of : Addr} {fd__law_one_of : FuncData} (D__law_one_of : Def K mg "_law_one_of" s__law_one_of ["pen", "some"] f__law_one_of fd__law_one_of)
    {f__law_draw : Addr} {fd__law_draw : FuncData} (D__law_draw : Def K mg "_law_draw" s__law_draw ["pen", "bound"] f__law_draw fd__law_draw)
    (F__law_draw : FnG P w K mg base 2 f__law_draw fd__law_draw ["pen", "bound"] (c__law_draw.sp K)) :
    FnG P w K mg base 3 f__law_one_of fd__law_one_of ["pen", "some"] (c__law_one_of.sp K) :=
  FnG.data D__law_one_of.fn sc__law_one_of hsys len__law_one_of (fun cdv A outer s H E cx => (css_one (cs_ret (ce_sub (ce_var (i := 1) rfl (by first | exact .inl rfl | exact .inr (.inl rfl) | exact .inr (.inr rfl))) (ce_call F__law_draw cx.toCxe (by decide) (by rfl) D__law_draw.g D__law_draw.fn.kp D__law_draw.b (ca_cons (ce_var (i := 0) rfl (by first | exact .inl rfl | exact .inr (.inl rfl) | exact .inr (.inr rfl))) (ca_cons (ce_callB cd_len (by rfl) T.n_len (by decide +kernel) (ca_cons (ce_var (i := 1) rfl (by first | exact .inl rfl | exact .inr (.inl rfl) | exact .inr (.inr rfl))) ca_nil)) ca_nil))))))) (sp__law_one_of)
theorem ok__law_whole {P : Program} {w : World} {K : PySem.W.Frag} {mg : Str → Option Value} {base : Heap} (hsys : ∃ o, base.get? sysModules = some o) (T : Txt K mg)
    {f__law_whole : Addr} {fd__law_whole : FuncData} (D__law_whole : Def K mg "_law_whole" s__law_whole ["value", "low", "high"] f__law_whole fd__law_whole) :
    FnG P w K mg base 1 f__law_whole fd__law_whole ["value", "low", "high"] (c__law_whole.sp K) :=
  FnG.data D__law_whole.fn sc__law_whole hsys len__law_whole (fun cdv A outer s H E cx => (css_one (cs_ret (ce_and (ce_isi (T := "int") (by rfl) T.n_isinstance (by rfl) T.n_int (by decide +kernel) (ce_var (i := 0) rfl (by first | exact .inl rfl | exact .inr (.inl rfl) | exact .inr (.inr rfl)))) (ce_and (ce_not (ce_isi (T := "bool") (by rfl) T.n_isinstance (by rfl) T.n_bool (by decide +kernel) (ce_var (i := 0) rfl (by first | exact .inl rfl | exact .inr (.inl rfl) | exact .inr (.inr rfl))))) (ce_one (ce_chain opd_le opd_le (ce_var (i := 1) rfl (by first | exact .inl rfl | exact .inr (.inl rfl) | exact .inr (.inr rfl))) (ce_var (i := 0) rfl (by first | exact .inl rfl | exact .inr (.inl rfl) | exact .inr (.inr rfl))) (ce_var (i := 2) rfl (by first | exact .inl rfl | exact .inr (.inl rfl) | exact .inr (.inr rfl)))))))))) (sp__law_whole)
theorem ok__law_bound {P : Program} {w : World} {K : PySem.W.Frag} {mg : Str → Option Value} {base : Heap} (hsys : ∃ o, base.get? sysModules = some o) (T : Txt K mg)
    {f__law_bound : Addr} {fd__law_bound : FuncData} (D__law_bound : Def K mg "_law_bound" s__law_bound ["pen"] f__law_bound fd__law_bound)
    {f__law_draw : Addr} {fd__law_draw : FuncData} (D__law_draw : Def K mg "_law_draw" s__law_draw ["pen", "bound"] f__law_draw fd__law_draw)
    {f__law_one_of : Addr} {fd__law_one_of : FuncData} (D__law_one_of : Def K mg "_law_one_of" s__law_one_of ["pen", "some"] f__law_one_of fd__law_one_of)
    (F__law_draw : FnG P w K mg base 2 f__law_draw fd__law_draw ["pen", "bound"] (c__law_draw.sp K))
    (F__law_one_of : FnG P w K mg base 3 f__law_one_of fd__law_one_of ["pen", "some"] (c__law_one_of.sp K)) :
    FnG P w K mg base 4 f__law_bound fd__law_bound ["pen"] (c__law_bound.sp K) :=
  FnG.data D__law_bound.fn sc__law_bound hsys len__law_bound (fun cdv A outer s H E cx => (css_cons (cs_if (ct_cmp (opd_eqC (hu64 cx.toCxe)) (ce_call F__law_draw cx.toCxe (by decide) (by rfl) D__law_draw.g D__law_draw.fn.kp D__law_draw.b (ca_cons (ce_var (i := 0) rfl (by first | exact .inl rfl | exact .inr (.inl rfl) | exact .inr (.inr rfl))) (ca_cons ce_int ca_nil))) ce_int) (css_one (cs_ret (ce_tup (ca_cons (ce_bin opd_sub (ce_call F__law_draw cx.toCxe (by decide) (by rfl) D__law_draw.g D__law_draw.fn.kp D__law_draw.b (ca_cons (ce_var (i := 0) rfl (by first | exact .inl rfl | exact .inr (.inl rfl) | exact .inr (.inr rfl))) (ca_cons ce_int ca_nil))) ce_int) (ca_cons (ce_bin opd_sub (ce_call F__law_draw cx.toCxe (by decide) (by rfl) D__law_draw.g D__law_draw.fn.kp D__law_draw.b (ca_cons (ce_var (i := 0) rfl (by first | exact .inl rfl | exact .inr (.inl rfl) | exact .inr (.inr rfl))) (ca_cons ce_int ca_nil))) ce_int) (ca_cons (ce_call F__law_draw cx.toCxe (by decide) (by rfl) D__law_draw.g D__law_draw.fn.kp D__law_draw.b (ca_cons (ce_var (i := 0) rfl (by first | exact .inl rfl | exact .inr (.inl rfl) | exact .inr (.inr rfl))) (ca_cons ce_int ca_nil))) ca_nil)))))) css_nil)
    (css_one (cs_ret (ce_call F__law_one_of cx.toCxe (by decide) (by rfl) D__law_one_of.g D__law_one_of.fn.kp D__law_one_of.b (ca_cons (ce_var (i := 0) rfl (by first | exact .inl rfl | exact .inr (.inl rfl) | exact .inr (.inr rfl))) (ca_cons (ce_lst (ca_cons (ce_tup (ca_cons ce_int (ca_cons ce_int (ca_cons ce_int ca_nil)))) (ca_cons (ce_tup (ca_cons ce_int (ca_cons (ce_un und_neg ce_int) (ca_cons ce_int ca_nil)))) (ca_cons (ce_tup (ca_cons ce_int (ca_cons ce_int (ca_cons ce_int ca_nil)))) (ca_cons (ce_tup (ca_cons ce_int (ca_cons ce_int (ca_cons ce_int ca_nil)))) (ca_cons (ce_tup (ca_cons ce_int (ca_cons (ce_un und_neg ce_int) (ca_cons ce_int ca_nil)))) (ca_cons (ce_tup (ca_cons ce_int (ca_cons ce_int (ca_cons ce_int ca_nil)))) (ca_cons (ce_tup (ca_cons ce_int (ca_cons ce_int (ca_cons ce_int ca_nil)))) ca_nil)))))))) ca_nil))))))) (sp__law_bound)
theorem ok__law_resilience {P : Program} {w : World} {K : PySem.W.Frag} {mg : Str → Option Value} {base : Heap} (hsys : ∃ o, base.get? sysModules = some o) (T : Txt K mg)
    {f__law_resilience : Addr} {fd__law_resilience : FuncData} (D__law_resilience : Def K mg "_law_resilience" s__law_resilience ["pen"] f__law_resilience fd__law_resilience)
    {f__law_draw : Addr} {fd__law_draw : FuncData} (D__law_draw : Def K mg "_law_draw" s__law_draw ["pen", "bound"] f__law_draw fd__law_draw)
    {f__law_one_of : Addr} {fd__law_one_of : FuncData} (D__law_one_of : Def K mg "_law_one_of" s__law_one_of ["pen", "some"] f__law_one_of fd__law_one_of)
    (F__law_draw : FnG P w K mg base 2 f__law_draw fd__law_draw ["pen", "bound"] (c__law_draw.sp K))
    (F__law_one_of : FnG P w K mg base 3 f__law_one_of fd__law_one_of ["pen", "some"] (c__law_one_of.sp K)) :
    FnG P w K mg base 4 f__law_resilience fd__law_resilience ["pen"] (c__law_resilience.sp K) :=
  FnG.data D__law_resilience.fn sc__law_resilience hsys len__law_resilience (fun cdv A outer s H E cx => (css_cons (cs_if (ct_cmp opd_gt (ce_call F__law_draw cx.toCxe (by decide) (by rfl) D__law_draw.g D__law_draw.fn.kp D__law_draw.b (ca_cons (ce_var (i := 0) rfl (by first | exact .inl rfl | exact .inr (.inl rfl) | exact .inr (.inr rfl))) (ca_cons ce_int ca_nil))) ce_int) (css_cons (cs_set (i := 1) cx.toCxe.nd rfl (ce_tup (ca_cons (ce_tup (ca_cons ce_int (ca_cons (ce_bin opd_sub ce_int (ce_call F__law_one_of cx.toCxe (by decide) (by rfl) D__law_one_of.g D__law_one_of.fn.kp D__law_one_of.b (ca_cons (ce_var (i := 0) rfl (by first | exact .inl rfl | exact .inr (.inl rfl) | exact .inr (.inr rfl))) (ca_cons (ce_lst (ca_cons ce_int (ca_cons ce_int (ca_cons ce_int (ca_cons ce_int ca_nil))))) ca_nil)))) (ca_cons ce_int (ca_cons ce_int ca_nil))))) (ca_cons (ce_tup (ca_cons ce_int (ca_cons ce_int (ca_cons (ce_un und_neg ce_int) (ca_cons ce_int ca_nil))))) ca_nil))))
    (css_one (cs_ret (ce_if (ct_cmp (opd_eqC (hu64 cx.toCxe)) (ce_call F__law_draw cx.toCxe (by decide) (by rfl) D__law_draw.g D__law_draw.fn.kp D__law_draw.b (ca_cons (ce_var (i := 0) rfl (by first | exact .inl rfl | exact .inr (.inl rfl) | exact .inr (.inr rfl))) (ca_cons ce_int ca_nil))) ce_int) (ce_bin opd_add (ce_var (i := 1) rfl (by first | exact .inl rfl | exact .inr (.inl rfl) | exact .inr (.inr rfl))) (ce_tup (ca_cons (ce_tup (ca_cons ce_int (ca_cons ce_int (ca_cons ce_int (ca_cons ce_int ca_nil))))) ca_nil))) (ce_var (i := 1) rfl (by first | exact .inl rfl | exact .inr (.inl rfl) | exact .inr (.inr rfl))))))) css_nil)
    (css_cons (cs_set (i := 2) cx.toCxe.nd rfl (ce_lstM ca_nil))
    (css_cons (cs_asg (ce_call F__law_one_of cx.toCxe (by decide) (by rfl) D__law_one_of.g D__law_one_of.fn.kp D__law_one_of.b (ca_cons (ce_var (i := 0) rfl (by first | exact .inl rfl | exact .inr (.inl rfl) | exact .inr (.inr rfl))) (ca_cons (ce_lst (ca_cons (ce_tup (ca_cons ce_int (ca_cons ce_int ca_nil))) (ca_cons (ce_tup (ca_cons ce_int (ca_cons ce_int ca_nil))) (ca_cons (ce_tup (ca_cons ce_int (ca_cons ce_int ca_nil))) ca_nil)))) ca_nil))) (cg_many cx.toCxe.calm (cgs_cons (i := 3) cx.toCxe.nd rfl (cgs_cons (i := 4) cx.toCxe.nd rfl cgs_nil))))
    (css_cons (cs_for cx (ci_range1 (by rfl) T.n_range (ca_cons (ce_bin opd_add ce_int (ce_call F__law_draw cx.toCxe (by decide) (by rfl) D__law_draw.g D__law_draw.fn.kp D__law_draw.b (ca_cons (ce_var (i := 0) rfl (by first | exact .inl rfl | exact .inr (.inl rfl) | exact .inr (.inr rfl))) (ca_cons ce_int ca_nil)))) ca_nil)) (cg_one (i := 5) cx.toCxe.nd rfl) (css_one (cs_expr (ce_append (ce_var (i := 2) rfl (by first | exact .inl rfl | exact .inr (.inl rfl) | exact .inr (.inr rfl))) (ce_bin opd_add (ce_callTy cd_tuple (by rfl) T.n_tuple (by decide +kernel) (ca_cons (ce_lc (own := [("place", 6)]) cx.toCxe (ci_range1 (by rfl) T.n_range (ca_cons ce_int ca_nil)) (by show blkC ["pen", "rows", "found", "top", "least", "lap", "place"] (defScope s__law_resilience) _ _ = true; decide +kernel) (fun s H C cl fp => (cg_one (i := 6) (cx.toCxe.blk).nd rfl)) (fun s H C cl fp => cts_nil) (fun s H C cl fp => (ce_bin opd_sub (ce_call F__law_draw (cx.toCxe.blk) (by decide) (by rfl) D__law_draw.g D__law_draw.fn.kp D__law_draw.b (ca_cons (ce_var (i := 0) rfl (by first | exact .inl rfl | exact .inr (.inl rfl) | exact .inr (.inr rfl))) (ca_cons (ce_bin opd_add (ce_bin opd_mul ce_int (ce_var (i := 3) rfl (by first | exact .inl rfl | exact .inr (.inl rfl) | exact .inr (.inr rfl)))) ce_int) ca_nil))) (ce_var (i := 3) rfl (by first | exact .inl rfl | exact .inr (.inl rfl) | exact .inr (.inr rfl)))))) ca_nil)) (ce_tup (ca_cons (ce_call F__law_draw cx.toCxe (by decide) (by rfl) D__law_draw.g D__law_draw.fn.kp D__law_draw.b (ca_cons (ce_var (i := 0) rfl (by first | exact .inl rfl | exact .inr (.inl rfl) | exact .inr (.inr rfl))) (ca_cons (ce_var (i := 4) rfl (by first | exact .inl rfl | exact .inr (.inl rfl) | exact .inr (.inr rfl))) ca_nil))) ca_nil)))))))
    (css_one (cs_ret (ce_callTy cd_tuple (by rfl) T.n_tuple (by decide +kernel) (ca_cons (ce_var (i := 2) rfl (by first | exact .inl rfl | exact .inr (.inl rfl) | exact .inr (.inr rfl))) ca_nil))))))))) (sp__law_resilience)
theorem ok__law_value {P : Program} {w : World} {K : PySem.W.Frag} {mg : Str → Option Value} {base : Heap} (hsys : ∃ o, base.get? sysModules = some o) (T : Txt K mg)
    {f__law_value : Addr} {fd__law_value : FuncData} (D__law_value : Def K mg "_law_value" s__law_value ["bound", "numbers"] f__law_value fd__law_value) :
    FnG P w K mg base 1 f__law_value fd__law_value ["bound", "numbers"] (c__law_value.sp K) :=
  FnG.data D__law_value.fn sc__law_value hsys len__law_value (fun cdv A outer s H E cx => (css_one (cs_ret (ce_bin opd_add (ce_bin opd_add (ce_bin opd_mul (ce_sub (ce_var (i := 0) rfl (by first | exact .inl rfl | exact .inr (.inl rfl) | exact .inr (.inr rfl))) ce_int) (ce_sub (ce_var (i := 1) rfl (by first | exact .inl rfl | exact .inr (.inl rfl) | exact .inr (.inr rfl))) ce_int)) (ce_bin opd_mul (ce_sub (ce_var (i := 0) rfl (by first | exact .inl rfl | exact .inr (.inl rfl) | exact .inr (.inr rfl))) ce_int) (ce_sub (ce_var (i := 1) rfl (by first | exact .inl rfl | exact .inr (.inl rfl) | exact .inr (.inr rfl))) ce_int))) (ce_sub (ce_var (i := 0) rfl (by first | exact .inl rfl | exact .inr (.inl rfl) | exact .inr (.inr rfl))) ce_int))))) (sp__law_value)
theorem ok__law_numbers {P : Program} {w : World} {K : PySem.W.Frag} {mg : Str → Option Value} {base : Heap} (hsys : ∃ o, base.get? sysModules = some o) (T : Txt K mg)
    {f__law_numbers : Addr} {fd__law_numbers : FuncData} (D__law_numbers : Def K mg "_law_numbers" s__law_numbers ["pen", "most"] f__law_numbers fd__law_numbers)
    {f__law_draw : Addr} {fd__law_draw : FuncData} (D__law_draw : Def K mg "_law_draw" s__law_draw ["pen", "bound"] f__law_draw fd__law_draw)
    {f__law_one_of : Addr} {fd__law_one_of : FuncData} (D__law_one_of : Def K mg "_law_one_of" s__law_one_of ["pen", "some"] f__law_one_of fd__law_one_of)
    (F__law_draw : FnG P w K mg base 2 f__law_draw fd__law_draw ["pen", "bound"] (c__law_draw.sp K))
    (F__law_one_of : FnG P w K mg base 3 f__law_one_of fd__law_one_of ["pen", "some"] (c__law_one_of.sp K)) :
    FnG P w K mg base 4 f__law_numbers fd__law_numbers ["pen", "most"] (c__law_numbers.sp K) :=
  FnG.data D__law_numbers.fn sc__law_numbers hsys len__law_numbers (fun cdv A outer s H E cx => (css_cons (cs_set (i := 2) cx.toCxe.nd rfl (ce_call F__law_draw cx.toCxe (by decide) (by rfl) D__law_draw.g D__law_draw.fn.kp D__law_draw.b (ca_cons (ce_var (i := 0) rfl (by first | exact .inl rfl | exact .inr (.inl rfl) | exact .inr (.inr rfl))) (ca_cons (ce_bin opd_add (ce_var (i := 1) rfl (by first | exact .inl rfl | exact .inr (.inl rfl) | exact .inr (.inr rfl))) ce_int) ca_nil))))
    (css_one (cs_ret (ce_tup (ca_cons (ce_var (i := 2) rfl (by first | exact .inl rfl | exact .inr (.inl rfl) | exact .inr (.inr rfl))) (ca_cons (ce_call F__law_draw cx.toCxe (by decide) (by rfl) D__law_draw.g D__law_draw.fn.kp D__law_draw.b (ca_cons (ce_var (i := 0) rfl (by first | exact .inl rfl | exact .inr (.inl rfl) | exact .inr (.inr rfl))) (ca_cons ce_int ca_nil))) (ca_cons (ce_call F__law_one_of cx.toCxe (by decide) (by rfl) D__law_one_of.g D__law_one_of.fn.kp D__law_one_of.b (ca_cons (ce_var (i := 0) rfl (by first | exact .inl rfl | exact .inr (.inl rfl) | exact .inr (.inr rfl))) (ca_cons (ce_lst (ca_cons ce_int (ca_cons (ce_callB (cd_min2 cx.toCxe.calm) (by rfl) T.n_min (by decide +kernel) (ca_cons ce_int (ca_cons (ce_var (i := 2) rfl (by first | exact .inl rfl | exact .inr (.inl rfl) | exact .inr (.inr rfl))) ca_nil))) (ca_cons (ce_call F__law_draw cx.toCxe (by decide) (by rfl) D__law_draw.g D__law_draw.fn.kp D__law_draw.b (ca_cons (ce_var (i := 0) rfl (by first | exact .inl rfl | exact .inr (.inl rfl) | exact .inr (.inr rfl))) (ca_cons (ce_bin opd_add (ce_var (i := 2) rfl (by first | exact .inl rfl | exact .inr (.inl rfl) | exact .inr (.inr rfl))) ce_int) ca_nil))) ca_nil)))) ca_nil))) ca_nil)))))))) (sp__law_numbers)
theorem ok__law_fits {P : Program} {w : World} {K : PySem.W.Frag} {mg : Str → Option Value} {base : Heap} (hsys : ∃ o, base.get? sysModules = some o) (T : Txt K mg)
    {f__law_fits : Addr} {fd__law_fits : FuncData} (D__law_fits : Def K mg "_law_fits" s__law_fits ["resilience", "numbers"] f__law_fits fd__law_fits) :
    FnG P w K mg base 1 f__law_fits fd__law_fits ["resilience", "numbers"] (c__law_fits.sp K) :=
  FnG.data D__law_fits.fn sc__law_fits hsys len__law_fits (fun cdv A outer s H E cx => (css_cons (cs_asg (ce_var (i := 1) rfl (by first | exact .inl rfl | exact .inr (.inl rfl) | exact .inr (.inr rfl))) (cg_many cx.toCxe.calm (cgs_cons (i := 2) cx.toCxe.nd rfl (cgs_cons (i := 3) cx.toCxe.nd rfl (cgs_cons (i := 4) cx.toCxe.nd rfl cgs_nil)))))
    (css_cons (cs_for cx (ci_tupD (ce_var (i := 0) rfl (by first | exact .inl rfl | exact .inr (.inl rfl) | exact .inr (.inr rfl)))) (cg_many cx.toCxe.calm (cgs_cons (i := 5) cx.toCxe.nd rfl (cgs_cons (i := 6) cx.toCxe.nd rfl (cgs_cons (i := 7) cx.toCxe.nd rfl (cgs_cons (i := 8) cx.toCxe.nd rfl cgs_nil))))) (css_one (cs_if (ct_cmp opd_lt (ce_bin opd_add (ce_bin opd_add (ce_bin opd_mul (ce_var (i := 5) rfl (by first | exact .inl rfl | exact .inr (.inl rfl) | exact .inr (.inr rfl))) (ce_var (i := 2) rfl (by first | exact .inl rfl | exact .inr (.inl rfl) | exact .inr (.inr rfl)))) (ce_bin opd_mul (ce_var (i := 6) rfl (by first | exact .inl rfl | exact .inr (.inl rfl) | exact .inr (.inr rfl))) (ce_var (i := 3) rfl (by first | exact .inl rfl | exact .inr (.inl rfl) | exact .inr (.inr rfl))))) (ce_bin opd_mul (ce_var (i := 7) rfl (by first | exact .inl rfl | exact .inr (.inl rfl) | exact .inr (.inr rfl))) (ce_var (i := 4) rfl (by first | exact .inl rfl | exact .inr (.inl rfl) | exact .inr (.inr rfl))))) (ce_var (i := 8) rfl (by first | exact .inl rfl | exact .inr (.inl rfl) | exact .inr (.inr rfl)))) (css_one (cs_ret ce_bl)) css_nil)))
    (css_one (cs_ret (ce_cmp opd_le (ce_var (i := 4) rfl (by first | exact .inl rfl | exact .inr (.inl rfl) | exact .inr (.inr rfl))) (ce_var (i := 2) rfl (by first | exact .inl rfl | exact .inr (.inl rfl) | exact .inr (.inr rfl))))))))) (sp__law_fits)
theorem ok__law_at {P : Program} {w : World} {K : PySem.W.Frag} {mg : Str → Option Value} {base : Heap} (hsys : ∃ o, base.get? sysModules = some o) (T : Txt K mg)
    {f__law_at : Addr} {fd__law_at : FuncData} (D__law_at : Def K mg "_law_at" s__law_at ["rows", "place", "thing"] f__law_at fd__law_at) :
    FnG P w K mg base 1 f__law_at fd__law_at ["rows", "place", "thing"] (c__law_at.sp K) :=
  FnG.data D__law_at.fn sc__law_at hsys len__law_at (fun cdv A outer s H E cx => (css_one (cs_ret (ce_bin opd_add (ce_bin opd_add (ce_slice (ce_var (i := 0) rfl (by first | exact .inl rfl | exact .inr (.inl rfl) | exact .inr (.inr rfl))) co_none (co_some (ce_var (i := 1) rfl (by first | exact .inl rfl | exact .inr (.inl rfl) | exact .inr (.inr rfl))))) (ce_tup (ca_cons (ce_var (i := 2) rfl (by first | exact .inl rfl | exact .inr (.inl rfl) | exact .inr (.inr rfl))) ca_nil))) (ce_slice (ce_var (i := 0) rfl (by first | exact .inl rfl | exact .inr (.inl rfl) | exact .inr (.inr rfl))) (co_some (ce_bin opd_add (ce_var (i := 1) rfl (by first | exact .inl rfl | exact .inr (.inl rfl) | exact .inr (.inr rfl))) ce_int)) co_none))))) (sp__law_at)
theorem ok__law_odd {P : Program} {w : World} {K : PySem.W.Frag} {mg : Str → Option Value} {base : Heap} (hsys : ∃ o, base.get? sysModules = some o) (T : Txt K mg)
    {f__law_odd : Addr} {fd__law_odd : FuncData} (D__law_odd : Def K mg "_law_odd" s__law_odd ["pen"] f__law_odd fd__law_odd)
    {f__law_one_of : Addr} {fd__law_one_of : FuncData} (D__law_one_of : Def K mg "_law_one_of" s__law_one_of ["pen", "some"] f__law_one_of fd__law_one_of)
    (F__law_one_of : FnG P w K mg base 3 f__law_one_of fd__law_one_of ["pen", "some"] (c__law_one_of.sp K)) :
    FnG P w K mg base 4 f__law_odd fd__law_odd ["pen"] (c__law_odd.sp K) :=
  FnG.data D__law_odd.fn sc__law_odd hsys len__law_odd (fun cdv A outer s H E cx => (css_cons (cs_set (i := 1) cx.toCxe.nd rfl (ce_lst (ca_cons ce_non (ca_cons ce_bl (ca_cons ce_bl (ca_cons (ce_un und_neg ce_int) (ca_cons ce_int (ca_cons ce_int (ca_cons ce_int (ca_cons ce_int (ca_cons ce_int (ca_cons ce_int (ca_cons ce_int (ca_cons ce_str (ca_cons ce_str (ca_cons ce_str (ca_cons (ce_tup ca_nil) (ca_cons (ce_lst ca_nil) (ca_cons ce_dict0 (ca_cons (ce_tup (ca_cons ce_int ca_nil)) (ca_cons (ce_tup (ca_cons ce_int (ca_cons ce_int ca_nil))) (ca_cons (ce_tup (ca_cons ce_int (ca_cons ce_int (ca_cons ce_int ca_nil)))) ca_nil))))))))))))))))))))))
    (css_cons (cs_set (i := 1) cx.toCxe.nd rfl (ce_bin opd_add (ce_var (i := 1) rfl (by first | exact .inl rfl | exact .inr (.inl rfl) | exact .inr (.inr rfl))) (ce_lst (ca_cons (ce_bin opd_pow ce_int ce_int) (ca_cons (ce_tup (ca_cons (ce_tup ca_nil) ca_nil)) (ca_cons (ce_lst (ca_cons ce_int ca_nil)) (ca_cons (ce_tup (ca_cons ce_int (ca_cons (ce_tup (ca_cons ce_int (ca_cons ce_int (ca_cons ce_int ca_nil)))) ca_nil))) (ca_cons (ce_tup (ca_cons ce_int (ca_cons ce_int (ca_cons (ce_tup ca_nil) (ca_cons (ce_tup ca_nil) ca_nil))))) (ca_cons (ce_tup (ca_cons ce_int (ca_cons (ce_un und_neg ce_int) (ca_cons ce_int (ca_cons ce_int ca_nil))))) (ca_cons (ce_tup (ca_cons ce_int (ca_cons ce_int (ca_cons ce_int ca_nil)))) ca_nil))))))))))
    (css_one (cs_ret (ce_call F__law_one_of cx.toCxe (by decide) (by rfl) D__law_one_of.g D__law_one_of.fn.kp D__law_one_of.b (ca_cons (ce_var (i := 0) rfl (by first | exact .inl rfl | exact .inr (.inl rfl) | exact .inr (.inr rfl))) (ca_cons (ce_var (i := 1) rfl (by first | exact .inl rfl | exact .inr (.inl rfl) | exact .inr (.inr rfl))) ca_nil)))))))) (sp__law_odd)
theorem len__law_bent (k t : Nat) : ∀ xs M, (cB k (t + 1)).pre xs M → xs.length = 3 := by
  rintro _ M ⟨p, v, rfl, _⟩; rfl
theorem ok__law_bent {P : Program} {w : World} {K : PySem.W.Frag} {mg : Str → Option Value} {base : Heap} (hsys : ∃ o, base.get? sysModules = some o) (T : Txt K mg)
    {f__law_bent : Addr} {fd__law_bent : FuncData} (D__law_bent : Def K mg "_law_bent" s__law_bent ["pen", "value", "depth"] f__law_bent fd__law_bent)
    {f__law_draw : Addr} {fd__law_draw : FuncData} (D__law_draw : Def K mg "_law_draw" s__law_draw ["pen", "bound"] f__law_draw fd__law_draw)
    {f__law_odd : Addr} {fd__law_odd : FuncData} (D__law_odd : Def K mg "_law_odd" s__law_odd ["pen"] f__law_odd fd__law_odd)
    (F__law_draw : FnG P w K mg base 2 f__law_draw fd__law_draw ["pen", "bound"] (c__law_draw.sp K))
    (F__law_odd : FnG P w K mg base 4 f__law_odd fd__law_odd ["pen"] (c__law_odd.sp K)) (k : Nat) : ∀ t : Nat, FnG P w K mg base (4 + t) f__law_bent fd__law_bent ["pen", "value", "depth"] ((cB k t).sp K)
  | 0 => FnG.union fun vs H Q E ⟨xs, M, _, _, z, _⟩ => z.elim
  | t + 1 => FnG.data D__law_bent.fn sc__law_bent hsys (len__law_bent k t) (fun cdv A outer s H E cx => (css_cons (cs_if (CW.ct (cw_or (ct_not (ct_val (ce_isi (T := "tuple") (by rfl) T.n_isinstance (by rfl) T.n_tuple (by decide +kernel) (ce_var (i := 1) rfl (by first | exact .inl rfl | exact .inr (.inl rfl) | exact .inr (.inr rfl)))))) (cw_or (ct_cmp (opd_eqC (hu64 cx.toCxe)) (ce_var (i := 1) rfl (by first | exact .inl rfl | exact .inr (.inl rfl) | exact .inr (.inr rfl))) (ce_tup ca_nil)) (cw_or (ct_cmp (opd_eqC (hu64 cx.toCxe)) (ce_var (i := 2) rfl (by first | exact .inl rfl | exact .inr (.inl rfl) | exact .inr (.inr rfl))) ce_int) (cw_or1 (ct_cmp (opd_eqC (hu64 cx.toCxe)) (ce_call F__law_draw cx.toCxe (by show _ ≤ 4 + t; omega) (by rfl) D__law_draw.g D__law_draw.fn.kp D__law_draw.b (ca_cons (ce_var (i := 0) rfl (by first | exact .inl rfl | exact .inr (.inl rfl) | exact .inr (.inr rfl))) (ca_cons ce_int ca_nil))) ce_int)))))) (css_cons (cs_set (i := 3) cx.toCxe.nd rfl (ce_call F__law_draw cx.toCxe (by show _ ≤ 4 + t; omega) (by rfl) D__law_draw.g D__law_draw.fn.kp D__law_draw.b (ca_cons (ce_var (i := 0) rfl (by first | exact .inl rfl | exact .inr (.inl rfl) | exact .inr (.inr rfl))) (ca_cons ce_int ca_nil))))
    (css_cons (cs_if (CW.ct (cw_and (ct_val (ce_isi (T := "int") (by rfl) T.n_isinstance (by rfl) T.n_int (by decide +kernel) (ce_var (i := 1) rfl (by first | exact .inl rfl | exact .inr (.inl rfl) | exact .inr (.inr rfl))))) (cw_and (ct_not (ct_val (ce_isi (T := "bool") (by rfl) T.n_isinstance (by rfl) T.n_bool (by decide +kernel) (ce_var (i := 1) rfl (by first | exact .inl rfl | exact .inr (.inl rfl) | exact .inr (.inr rfl)))))) (cw_and1 (ct_cmp opd_lt (ce_var (i := 3) rfl (by first | exact .inl rfl | exact .inr (.inl rfl) | exact .inr (.inr rfl))) ce_int))))) (css_one (cs_ret (ce_sub (ce_lst (ca_cons (ce_bin opd_add (ce_var (i := 1) rfl (by first | exact .inl rfl | exact .inr (.inl rfl) | exact .inr (.inr rfl))) ce_int) (ca_cons (ce_bin opd_sub (ce_var (i := 1) rfl (by first | exact .inl rfl | exact .inr (.inl rfl) | exact .inr (.inr rfl))) ce_int) (ca_cons (ce_cmp (opd_eqC (hu64 cx.toCxe)) (ce_var (i := 1) rfl (by first | exact .inl rfl | exact .inr (.inl rfl) | exact .inr (.inr rfl))) ce_int) (ca_cons ce_int (ca_cons (ce_un und_neg (ce_var (i := 1) rfl (by first | exact .inl rfl | exact .inr (.inl rfl) | exact .inr (.inr rfl)))) (ca_cons (ce_bin opd_add (ce_var (i := 1) rfl (by first | exact .inl rfl | exact .inr (.inl rfl) | exact .inr (.inr rfl))) ce_int) ca_nil))))))) (ce_var (i := 3) rfl (by first | exact .inl rfl | exact .inr (.inl rfl) | exact .inr (.inr rfl)))))) css_nil)
    (css_cons (cs_if (CW.ct (cw_and (ct_val (ce_isi (T := "tuple") (by rfl) T.n_isinstance (by rfl) T.n_tuple (by decide +kernel) (ce_var (i := 1) rfl (by first | exact .inl rfl | exact .inr (.inl rfl) | exact .inr (.inr rfl))))) (cw_and1 (ct_cmp opd_lt (ce_var (i := 3) rfl (by first | exact .inl rfl | exact .inr (.inl rfl) | exact .inr (.inr rfl))) ce_int)))) (css_one (cs_ret (ce_sub (ce_lst (ca_cons (ce_slice (ce_var (i := 1) rfl (by first | exact .inl rfl | exact .inr (.inl rfl) | exact .inr (.inr rfl))) (co_some ce_int) co_none) (ca_cons (ce_slice (ce_var (i := 1) rfl (by first | exact .inl rfl | exact .inr (.inl rfl) | exact .inr (.inr rfl))) co_none (co_some (ce_un und_neg ce_int))) (ca_cons (ce_bin opd_add (ce_var (i := 1) rfl (by first | exact .inl rfl | exact .inr (.inl rfl) | exact .inr (.inr rfl))) (ce_slice (ce_var (i := 1) rfl (by first | exact .inl rfl | exact .inr (.inl rfl) | exact .inr (.inr rfl))) co_none (co_some ce_int))) (ca_cons (ce_rev (ce_var (i := 1) rfl (by first | exact .inl rfl | exact .inr (.inl rfl) | exact .inr (.inr rfl)))) (ca_cons (ce_callTy cd_list (by rfl) T.n_list (by decide +kernel) (ca_cons (ce_var (i := 1) rfl (by first | exact .inl rfl | exact .inr (.inl rfl) | exact .inr (.inr rfl))) ca_nil)) (ca_cons (ce_bin opd_add (ce_var (i := 1) rfl (by first | exact .inl rfl | exact .inr (.inl rfl) | exact .inr (.inr rfl))) (ce_tup (ca_cons ce_int ca_nil))) ca_nil))))))) (ce_var (i := 3) rfl (by first | exact .inl rfl | exact .inr (.inl rfl) | exact .inr (.inr rfl)))))) css_nil)
    (css_one (cs_ret (ce_call F__law_odd cx.toCxe (by show _ ≤ 4 + t; omega) (by rfl) D__law_odd.g D__law_odd.fn.kp D__law_odd.b (ca_cons (ce_var (i := 0) rfl (by first | exact .inl rfl | exact .inr (.inl rfl) | exact .inr (.inr rfl))) ca_nil))))))) css_nil)
    (css_cons (cs_set (i := 4) cx.toCxe.nd rfl (ce_call F__law_draw cx.toCxe (by show _ ≤ 4 + t; omega) (by rfl) D__law_draw.g D__law_draw.fn.kp D__law_draw.b (ca_cons (ce_var (i := 0) rfl (by first | exact .inl rfl | exact .inr (.inl rfl) | exact .inr (.inr rfl))) (ca_cons (ce_callB cd_len (by rfl) T.n_len (by decide +kernel) (ca_cons (ce_var (i := 1) rfl (by first | exact .inl rfl | exact .inr (.inl rfl) | exact .inr (.inr rfl))) ca_nil)) ca_nil))))
    (css_cons (cs_set (i := 5) cx.toCxe.nd rfl (ce_call (ok__law_bent hsys T D__law_bent D__law_draw D__law_odd F__law_draw F__law_odd k t) cx.toCxe (by show _ ≤ 4 + t; omega) (by rfl) D__law_bent.g D__law_bent.fn.kp D__law_bent.b (ca_cons (ce_var (i := 0) rfl (by first | exact .inl rfl | exact .inr (.inl rfl) | exact .inr (.inr rfl))) (ca_cons (ce_sub (ce_var (i := 1) rfl (by first | exact .inl rfl | exact .inr (.inl rfl) | exact .inr (.inr rfl))) (ce_var (i := 4) rfl (by first | exact .inl rfl | exact .inr (.inl rfl) | exact .inr (.inr rfl)))) (ca_cons (ce_bin opd_sub (ce_var (i := 2) rfl (by first | exact .inl rfl | exact .inr (.inl rfl) | exact .inr (.inr rfl))) ce_int) ca_nil)))))
    (css_one (cs_ret (ce_bin opd_add (ce_bin opd_add (ce_slice (ce_var (i := 1) rfl (by first | exact .inl rfl | exact .inr (.inl rfl) | exact .inr (.inr rfl))) co_none (co_some (ce_var (i := 4) rfl (by first | exact .inl rfl | exact .inr (.inl rfl) | exact .inr (.inr rfl))))) (ce_tup (ca_cons (ce_var (i := 5) rfl (by first | exact .inl rfl | exact .inr (.inl rfl) | exact .inr (.inr rfl))) ca_nil))) (ce_slice (ce_var (i := 1) rfl (by first | exact .inl rfl | exact .inr (.inl rfl) | exact .inr (.inr rfl))) (co_some (ce_bin opd_add (ce_var (i := 4) rfl (by first | exact .inl rfl | exact .inr (.inl rfl) | exact .inr (.inr rfl))) ce_int)) co_none)))))))) (sp_bent k t)
theorem ok__law_told {P : Program} {w : World} {K : PySem.W.Frag} {mg : Str → Option Value} {base : Heap} (hsys : ∃ o, base.get? sysModules = some o) (T : Txt K mg)
    {f__law_told : Addr} {fd__law_told : FuncData} (D__law_told : Def K mg "_law_told" s__law_told ["value"] f__law_told fd__law_told)
    {f_require_resilience : Addr} {fd_require_resilience : FuncData} (D_require_resilience : Def K mg "require_resilience" s_require_resilience ["value"] f_require_resilience fd_require_resilience)
    {e_InvalidResilience i_InvalidResilience : Addr} {ed_InvalidResilience : FuncData} (E_InvalidResilience : ErrC K mg "InvalidResilience" "index" e_InvalidResilience i_InvalidResilience ed_InvalidResilience)
    (F_require_resilience : FnG P w K mg base 3 f_require_resilience fd_require_resilience ["value"] ((c_require_resilience e_InvalidResilience).sp K)) :
    FnG P w K mg base 4 f__law_told fd__law_told ["value"] (c__law_told.sp K) :=
  FnG.data D__law_told.fn sc__law_told hsys len__law_told (fun cdv A outer s H E cx => (css_cons (cs_try (i := 2) E_InvalidResilience cx (by rfl) rfl (fun W1 pn xe cx1 => (css_one (cs_set (i := 1) cx1.toCxe.nd rfl (ce_call F_require_resilience cx1.toCxe (by decide) (by rfl) D_require_resilience.g D_require_resilience.fn.kp D_require_resilience.b (ca_cons (ce_var (i := 0) rfl (by first | exact .inl rfl | exact .inr (.inl rfl) | exact .inr (.inr rfl))) ca_nil))))) (fun a oe cls d pn hz hf => (css_one (cs_ret (ce_tup (ca_cons ce_str (ca_cons (ce_fld E_InvalidResilience hz hf (ce_var (i := 2) rfl (by first | exact .inl rfl | exact .inr (.inl rfl) | exact .inr (.inr rfl)))) ca_nil)))))))
    (css_one (cs_ret (ce_tup (ca_cons ce_str (ca_cons (ce_callB (cd_repr cx.toCxe.gd cx.toCxe.sys (hu64 cx.toCxe)) (by rfl) T.n_repr (by decide +kernel) (ca_cons (ce_var (i := 1) rfl (by first | exact .inl rfl | exact .inr (.inl rfl) | exact .inr (.inr rfl))) ca_nil)) ca_nil))))))) (sp__law_told e_InvalidResilience)
theorem ok__law_is_row {P : Program} {w : World} {K : PySem.W.Frag} {mg : Str → Option Value} {base : Heap} (hsys : ∃ o, base.get? sysModules = some o) (T : Txt K mg)
    {f__law_is_row : Addr} {fd__law_is_row : FuncData} (D__law_is_row : Def K mg "_law_is_row" s__law_is_row ["value"] f__law_is_row fd__law_is_row)
    {f__law_whole : Addr} {fd__law_whole : FuncData} (D__law_whole : Def K mg "_law_whole" s__law_whole ["value", "low", "high"] f__law_whole fd__law_whole)
    (F__law_whole : FnG P w K mg base 1 f__law_whole fd__law_whole ["value", "low", "high"] (c__law_whole.sp K)) :
    FnG P w K mg base 2 f__law_is_row fd__law_is_row ["value"] (c__law_is_row.sp K) :=
  FnG.data D__law_is_row.fn sc__law_is_row hsys len__law_is_row (fun cdv A outer s H E cx => (css_cons (cs_if (CW.ct (cw_or (ct_not (ct_val (ce_isi (T := "tuple") (by rfl) T.n_isinstance (by rfl) T.n_tuple (by decide +kernel) (ce_var (i := 0) rfl (by first | exact .inl rfl | exact .inr (.inl rfl) | exact .inr (.inr rfl)))))) (cw_or (ct_cmp (opd_neC (hu64 cx.toCxe)) (ce_callB cd_len (by rfl) T.n_len (by decide +kernel) (ca_cons (ce_var (i := 0) rfl (by first | exact .inl rfl | exact .inr (.inl rfl) | exact .inr (.inr rfl))) ca_nil)) ce_int) (cw_or1 (ct_not (ct_val (ce_call F__law_whole cx.toCxe (by decide) (by rfl) D__law_whole.g D__law_whole.fn.kp D__law_whole.b (ca_cons (ce_sub (ce_var (i := 0) rfl (by first | exact .inl rfl | exact .inr (.inl rfl) | exact .inr (.inr rfl))) ce_int) (ca_cons ce_int (ca_cons ce_int ca_nil)))))))))) (css_one (cs_ret ce_bl)) css_nil)
    (css_one (cs_ret (ce_cmp (opd_eqC (hu64 cx.toCxe)) (ce_lc (own := [("part", 1)]) cx.toCxe (ci_tupD (ce_slice (ce_var (i := 0) rfl (by first | exact .inl rfl | exact .inr (.inl rfl) | exact .inr (.inr rfl))) co_none (co_some ce_int))) (by show blkC ["value", "part"] (defScope s__law_is_row) _ _ = true; decide +kernel) (fun s H C cl fp => (cg_one (i := 1) (cx.toCxe.blk).nd rfl)) (fun s H C cl fp => (cts_one (ct_not (ct_val (ce_call F__law_whole (cx.toCxe.blk) (by decide) (by rfl) D__law_whole.g D__law_whole.fn.kp D__law_whole.b (ca_cons (ce_var (i := 1) rfl (by first | exact .inl rfl | exact .inr (.inl rfl) | exact .inr (.inr rfl))) (ca_cons (ce_un und_neg ce_int) (ca_cons ce_int ca_nil)))))))) (fun s H C cl fp => ce_int)) (ce_lst ca_nil)))))) (sp__law_is_row)
theorem ok__law_due {P : Program} {w : World} {K : PySem.W.Frag} {mg : Str → Option Value} {base : Heap} (hsys : ∃ o, base.get? sysModules = some o) (T : Txt K mg)
    {f__law_due : Addr} {fd__law_due : FuncData} (D__law_due : Def K mg "_law_due" s__law_due ["value"] f__law_due fd__law_due)
    {f__law_is_row : Addr} {fd__law_is_row : FuncData} (D__law_is_row : Def K mg "_law_is_row" s__law_is_row ["value"] f__law_is_row fd__law_is_row)
    (F__law_is_row : FnG P w K mg base 2 f__law_is_row fd__law_is_row ["value"] (c__law_is_row.sp K)) :
    FnG P w K mg base 3 f__law_due fd__law_due ["value"] (c__law_due.sp K) :=
  FnG.data D__law_due.fn sc__law_due hsys len__law_due (fun cdv A outer s H E cx => (css_cons (cs_if (CW.ct (cw_or (ct_not (ct_val (ce_isi (T := "tuple") (by rfl) T.n_isinstance (by rfl) T.n_tuple (by decide +kernel) (ce_var (i := 0) rfl (by first | exact .inl rfl | exact .inr (.inl rfl) | exact .inr (.inr rfl)))))) (cw_or1 (ct_not (ct_chain opd_le opd_le ce_int (ce_callB cd_len (by rfl) T.n_len (by decide +kernel) (ca_cons (ce_var (i := 0) rfl (by first | exact .inl rfl | exact .inr (.inl rfl) | exact .inr (.inr rfl))) ca_nil)) ce_int))))) (css_one (cs_ret (ce_tup (ca_cons ce_str (ca_cons ce_non ca_nil))))) css_nil)
    (css_cons (cs_setLc (i := 1) (own := [("at", 2), ("row", 3)]) cx.toCxe rfl (ci_enum (by rfl) T.n_enumerate (ca_cons (ce_var (i := 0) rfl (by first | exact .inl rfl | exact .inr (.inl rfl) | exact .inr (.inr rfl))) ca_nil)) (by show blkC ["value", "bad", "at", "row"] (defScope s__law_due) _ _ = true; decide +kernel) (fun s H C cl fp => (cg_many (cx.toCxe.blk).calm (cgs_cons (i := 2) (cx.toCxe.blk).nd rfl (cgs_cons (i := 3) (cx.toCxe.blk).nd rfl cgs_nil)))) (fun s H C cl fp => (cts_one (ct_not (ct_val (ce_call F__law_is_row (cx.toCxe.blk) (by decide) (by rfl) D__law_is_row.g D__law_is_row.fn.kp D__law_is_row.b (ca_cons (ce_var (i := 3) rfl (by first | exact .inl rfl | exact .inr (.inl rfl) | exact .inr (.inr rfl))) ca_nil)))))) (fun s H C cl fp => (ce_var (i := 2) rfl (by first | exact .inl rfl | exact .inr (.inl rfl) | exact .inr (.inr rfl)))))
    (css_one (cs_ret (ce_if (ct_cmp (opd_neC (hu64 cx.toCxe)) (ce_var (i := 1) rfl (by first | exact .inl rfl | exact .inr (.inl rfl) | exact .inr (.inr rfl))) (ce_lst ca_nil)) (ce_tup (ca_cons ce_str (ca_cons (ce_sub (ce_var (i := 1) rfl (by first | exact .inl rfl | exact .inr (.inl rfl) | exact .inr (.inr rfl))) ce_int) ca_nil))) (ce_tup (ca_cons ce_str (ca_cons (ce_callB (cd_repr cx.toCxe.gd cx.toCxe.sys (hu64 cx.toCxe)) (by rfl) T.n_repr (by decide +kernel) (ca_cons (ce_var (i := 0) rfl (by first | exact .inl rfl | exact .inr (.inl rfl) | exact .inr (.inr rfl))) ca_nil)) ca_nil))))))))) (sp__law_due)
theorem ok__law_others {P : Program} {w : World} {K : PySem.W.Frag} {mg : Str → Option Value} {base : Heap} (hsys : ∃ o, base.get? sysModules = some o) (T : Txt K mg)
    {f__law_others : Addr} {fd__law_others : FuncData} (D__law_others : Def K mg "_law_others" s__law_others ["pen", "rows"] f__law_others fd__law_others)
    {f__law_draw : Addr} {fd__law_draw : FuncData} (D__law_draw : Def K mg "_law_draw" s__law_draw ["pen", "bound"] f__law_draw fd__law_draw)
    {f__law_odd : Addr} {fd__law_odd : FuncData} (D__law_odd : Def K mg "_law_odd" s__law_odd ["pen"] f__law_odd fd__law_odd)
    {f__law_bent : Addr} {fd__law_bent : FuncData} (D__law_bent : Def K mg "_law_bent" s__law_bent ["pen", "value", "depth"] f__law_bent fd__law_bent)
    {f__law_at : Addr} {fd__law_at : FuncData} (D__law_at : Def K mg "_law_at" s__law_at ["rows", "place", "thing"] f__law_at fd__law_at)
    {f__law_one_of : Addr} {fd__law_one_of : FuncData} (D__law_one_of : Def K mg "_law_one_of" s__law_one_of ["pen", "some"] f__law_one_of fd__law_one_of)
    (F__law_draw : FnG P w K mg base 2 f__law_draw fd__law_draw ["pen", "bound"] (c__law_draw.sp K))
    (F__law_odd : FnG P w K mg base 4 f__law_odd fd__law_odd ["pen"] (c__law_odd.sp K))
    (F_b1 : FnG P w K mg base 8 f__law_bent fd__law_bent ["pen", "value", "depth"] ((cB 0 4).sp K)) (F_b2 : FnG P w K mg base 8 f__law_bent fd__law_bent ["pen", "value", "depth"] ((cB 1 4).sp K)) (F_b3 : FnG P w K mg base 7 f__law_bent fd__law_bent ["pen", "value", "depth"] ((cB 0 3).sp K))
    (F__law_at : FnG P w K mg base 1 f__law_at fd__law_at ["rows", "place", "thing"] (c__law_at.sp K))
    (F__law_one_of : FnG P w K mg base 3 f__law_one_of fd__law_one_of ["pen", "some"] (c__law_one_of.sp K)) :
    FnG P w K mg base 9 f__law_others fd__law_others ["pen", "rows"] (c__law_others.sp K) :=
  FnG.data D__law_others.fn sc__law_others hsys len__law_others (fun cdv A outer s H E cx => (css_cons (cs_par (i := 2) (j := 3) cx.toCxe.calm cx.toCxe.nd rfl rfl (by decide) (ca_cons (ce_call F__law_draw cx.toCxe (by decide) (by rfl) D__law_draw.g D__law_draw.fn.kp D__law_draw.b (ca_cons (ce_var (i := 0) rfl (by first | exact .inl rfl | exact .inr (.inl rfl) | exact .inr (.inr rfl))) (ca_cons (ce_callB cd_len (by rfl) T.n_len (by decide +kernel) (ca_cons (ce_var (i := 1) rfl (by first | exact .inl rfl | exact .inr (.inl rfl) | exact .inr (.inr rfl))) ca_nil)) ca_nil))) (ca_cons (ce_call F__law_draw cx.toCxe (by decide) (by rfl) D__law_draw.g D__law_draw.fn.kp D__law_draw.b (ca_cons (ce_var (i := 0) rfl (by first | exact .inl rfl | exact .inr (.inl rfl) | exact .inr (.inr rfl))) (ca_cons ce_int ca_nil))) ca_nil)))
    (css_cons (cs_set (i := 4) cx.toCxe.nd rfl (ce_lstM (ca_cons (ce_var (i := 1) rfl (by first | exact .inl rfl | exact .inr (.inl rfl) | exact .inr (.inr rfl))) (ca_cons (ce_tup ca_nil) (ca_cons (ce_callTy cd_list (by rfl) T.n_list (by decide +kernel) (ca_cons (ce_var (i := 1) rfl (by first | exact .inl rfl | exact .inr (.inl rfl) | exact .inr (.inr rfl))) ca_nil)) (ca_cons (ce_bin opd_mul (ce_var (i := 1) rfl (by first | exact .inl rfl | exact .inr (.inl rfl) | exact .inr (.inr rfl))) ce_int) (ca_cons (ce_bin opd_mul (ce_var (i := 1) rfl (by first | exact .inl rfl | exact .inr (.inl rfl) | exact .inr (.inr rfl))) ce_int) (ca_cons (ce_bin opd_add (ce_var (i := 1) rfl (by first | exact .inl rfl | exact .inr (.inl rfl) | exact .inr (.inr rfl))) (ce_tup (ca_cons (ce_call F__law_odd cx.toCxe (by decide) (by rfl) D__law_odd.g D__law_odd.fn.kp D__law_odd.b (ca_cons (ce_var (i := 0) rfl (by first | exact .inl rfl | exact .inr (.inl rfl) | exact .inr (.inr rfl))) ca_nil)) ca_nil))) (ca_cons (ce_call F_b1 cx.toCxe (by decide) (by rfl) D__law_bent.g D__law_bent.fn.kp D__law_bent.b (ca_cons (ce_var (i := 0) rfl (by first | exact .inl rfl | exact .inr (.inl rfl) | exact .inr (.inr rfl))) (ca_cons (ce_var (i := 1) rfl (by first | exact .inl rfl | exact .inr (.inl rfl) | exact .inr (.inr rfl))) (ca_cons ce_int ca_nil)))) (ca_cons (ce_call F__law_odd cx.toCxe (by decide) (by rfl) D__law_odd.g D__law_odd.fn.kp D__law_odd.b (ca_cons (ce_var (i := 0) rfl (by first | exact .inl rfl | exact .inr (.inl rfl) | exact .inr (.inr rfl))) ca_nil)) ca_nil))))))))))
    (css_cons (cs_for cx (ci_tupD (ce_tup (ca_cons ce_int (ca_cons ce_int (ca_cons (ce_un und_neg ce_int) (ca_cons (ce_un und_neg ce_int) (ca_cons ce_bl (ca_cons ce_non ca_nil)))))))) (cg_one (i := 5) cx.toCxe.nd rfl) (css_one (cs_expr (ce_append (ce_var (i := 4) rfl (by first | exact .inl rfl | exact .inr (.inl rfl) | exact .inr (.inr rfl))) (ce_call F__law_at cx.toCxe (by decide) (by rfl) D__law_at.g D__law_at.fn.kp D__law_at.b (ca_cons (ce_var (i := 1) rfl (by first | exact .inl rfl | exact .inr (.inl rfl) | exact .inr (.inr rfl))) (ca_cons (ce_var (i := 2) rfl (by first | exact .inl rfl | exact .inr (.inl rfl) | exact .inr (.inr rfl))) (ca_cons (ce_call F__law_at cx.toCxe (by decide) (by rfl) D__law_at.g D__law_at.fn.kp D__law_at.b (ca_cons (ce_sub (ce_var (i := 1) rfl (by first | exact .inl rfl | exact .inr (.inl rfl) | exact .inr (.inr rfl))) (ce_var (i := 2) rfl (by first | exact .inl rfl | exact .inr (.inl rfl) | exact .inr (.inr rfl)))) (ca_cons (ce_var (i := 3) rfl (by first | exact .inl rfl | exact .inr (.inl rfl) | exact .inr (.inr rfl))) (ca_cons (ce_var (i := 5) rfl (by first | exact .inl rfl | exact .inr (.inl rfl) | exact .inr (.inr rfl))) ca_nil)))) ca_nil))))))))
    (css_cons (cs_set (i := 6) cx.toCxe.nd rfl (ce_bin opd_add (ce_callTy cd_tuple (by rfl) T.n_tuple (by decide +kernel) (ca_cons (ce_lc (own := [("lap", 7)]) cx.toCxe (ci_range1 (by rfl) T.n_range (ca_cons ce_int ca_nil)) (by show blkC ["pen", "rows", "at", "place", "found", "part", "edge", "lap"] (defScope s__law_others) _ _ = true; decide +kernel) (fun s H C cl fp => (cg_one (i := 7) (cx.toCxe.blk).nd rfl)) (fun s H C cl fp => cts_nil) (fun s H C cl fp => (ce_call F__law_one_of (cx.toCxe.blk) (by decide) (by rfl) D__law_one_of.g D__law_one_of.fn.kp D__law_one_of.b (ca_cons (ce_var (i := 0) rfl (by first | exact .inl rfl | exact .inr (.inl rfl) | exact .inr (.inr rfl))) (ca_cons (ce_lst (ca_cons (ce_un und_neg ce_int) (ca_cons ce_int (ca_cons ce_int ca_nil)))) ca_nil))))) ca_nil)) (ce_tup (ca_cons (ce_call F__law_one_of cx.toCxe (by decide) (by rfl) D__law_one_of.g D__law_one_of.fn.kp D__law_one_of.b (ca_cons (ce_var (i := 0) rfl (by first | exact .inl rfl | exact .inr (.inl rfl) | exact .inr (.inr rfl))) (ca_cons (ce_lst (ca_cons ce_int (ca_cons ce_int ca_nil))) ca_nil))) ca_nil))))
    (css_one (cs_ret (ce_bin opd_add (ce_var (i := 4) rfl (by first | exact .inl rfl | exact .inr (.inl rfl) | exact .inr (.inr rfl))) (ce_lst (ca_cons (ce_call F_b2 cx.toCxe (by decide) (by rfl) D__law_bent.g D__law_bent.fn.kp D__law_bent.b (ca_cons (ce_var (i := 0) rfl (by first | exact .inl rfl | exact .inr (.inl rfl) | exact .inr (.inr rfl))) (ca_cons (ce_call F_b3 cx.toCxe (by decide) (by rfl) D__law_bent.g D__law_bent.fn.kp D__law_bent.b (ca_cons (ce_var (i := 0) rfl (by first | exact .inl rfl | exact .inr (.inl rfl) | exact .inr (.inr rfl))) (ca_cons (ce_var (i := 1) rfl (by first | exact .inl rfl | exact .inr (.inl rfl) | exact .inr (.inr rfl))) (ca_cons ce_int ca_nil)))) (ca_cons ce_int ca_nil)))) (ca_cons (ce_call F__law_at cx.toCxe (by decide) (by rfl) D__law_at.g D__law_at.fn.kp D__law_at.b (ca_cons (ce_var (i := 1) rfl (by first | exact .inl rfl | exact .inr (.inl rfl) | exact .inr (.inr rfl))) (ca_cons (ce_var (i := 2) rfl (by first | exact .inl rfl | exact .inr (.inl rfl) | exact .inr (.inr rfl))) (ca_cons (ce_var (i := 6) rfl (by first | exact .inl rfl | exact .inr (.inl rfl) | exact .inr (.inr rfl))) ca_nil)))) (ca_cons (ce_tup (ca_cons (ce_var (i := 6) rfl (by first | exact .inl rfl | exact .inr (.inl rfl) | exact .inr (.inr rfl))) ca_nil)) ca_nil)))))))))))) (sp__law_others)
theorem ok_law {P : Program} {w : World} {K : PySem.W.Frag} {mg : Str → Option Value} {base : Heap} (hsys : ∃ o, base.get? sysModules = some o) (T : Txt K mg)
    {f_law : Addr} {fd_law : FuncData} (D_law : Def K mg "law" s_law ["script"] f_law fd_law)
    {f__law_pen : Addr} {fd__law_pen : FuncData} (D__law_pen : Def K mg "_law_pen" s__law_pen ["script"] f__law_pen fd__law_pen)
    {f__law_resilience : Addr} {fd__law_resilience : FuncData} (D__law_resilience : Def K mg "_law_resilience" s__law_resilience ["pen"] f__law_resilience fd__law_resilience)
    {f__law_others : Addr} {fd__law_others : FuncData} (D__law_others : Def K mg "_law_others" s__law_others ["pen", "rows"] f__law_others fd__law_others)
    {f__law_told : Addr} {fd__law_told : FuncData} (D__law_told : Def K mg "_law_told" s__law_told ["value"] f__law_told fd__law_told)
    {f__law_due : Addr} {fd__law_due : FuncData} (D__law_due : Def K mg "_law_due" s__law_due ["value"] f__law_due fd__law_due)
    {f__law_bound : Addr} {fd__law_bound : FuncData} (D__law_bound : Def K mg "_law_bound" s__law_bound ["pen"] f__law_bound fd__law_bound)
    {f__law_numbers : Addr} {fd__law_numbers : FuncData} (D__law_numbers : Def K mg "_law_numbers" s__law_numbers ["pen", "most"] f__law_numbers fd__law_numbers)
    {f__law_one_of : Addr} {fd__law_one_of : FuncData} (D__law_one_of : Def K mg "_law_one_of" s__law_one_of ["pen", "some"] f__law_one_of fd__law_one_of)
    {f_bound_value : Addr} {fd_bound_value : FuncData} (D_bound_value : Def K mg "bound_value" s_bound_value ["bound", "numbers"] f_bound_value fd_bound_value)
    {f__law_value : Addr} {fd__law_value : FuncData} (D__law_value : Def K mg "_law_value" s__law_value ["bound", "numbers"] f__law_value fd__law_value)
    {f__law_at : Addr} {fd__law_at : FuncData} (D__law_at : Def K mg "_law_at" s__law_at ["rows", "place", "thing"] f__law_at fd__law_at)
    {f__law_draw : Addr} {fd__law_draw : FuncData} (D__law_draw : Def K mg "_law_draw" s__law_draw ["pen", "bound"] f__law_draw fd__law_draw)
    {f_fits : Addr} {fd_fits : FuncData} (D_fits : Def K mg "fits" s_fits ["resilience", "numbers"] f_fits fd_fits)
    {f__law_fits : Addr} {fd__law_fits : FuncData} (D__law_fits : Def K mg "_law_fits" s__law_fits ["resilience", "numbers"] f__law_fits fd__law_fits)
    {f_with_factor : Addr} {fd_with_factor : FuncData} (D_with_factor : Def K mg "with_factor" s_with_factor ["resilience", "m"] f_with_factor fd_with_factor)
    (F__law_pen : FnG P w K mg base 1 f__law_pen fd__law_pen ["script"] (c__law_pen.sp K))
    (F__law_resilience : FnG P w K mg base 4 f__law_resilience fd__law_resilience ["pen"] (c__law_resilience.sp K))
    (F__law_others : FnG P w K mg base 9 f__law_others fd__law_others ["pen", "rows"] (c__law_others.sp K))
    (F__law_told : FnG P w K mg base 4 f__law_told fd__law_told ["value"] (c__law_told.sp K))
    (F__law_due : FnG P w K mg base 3 f__law_due fd__law_due ["value"] (c__law_due.sp K))
    (F__law_bound : FnG P w K mg base 4 f__law_bound fd__law_bound ["pen"] (c__law_bound.sp K))
    (F__law_numbers : FnG P w K mg base 4 f__law_numbers fd__law_numbers ["pen", "most"] (c__law_numbers.sp K))
    (F__law_one_of : FnG P w K mg base 3 f__law_one_of fd__law_one_of ["pen", "some"] (c__law_one_of.sp K))
    (F_bound_value : FnG P w K mg base 1 f_bound_value fd_bound_value ["bound", "numbers"] (c_bound_value.sp K))
    (F__law_value : FnG P w K mg base 1 f__law_value fd__law_value ["bound", "numbers"] (c__law_value.sp K))
    (F__law_at : FnG P w K mg base 1 f__law_at fd__law_at ["rows", "place", "thing"] (c__law_at.sp K))
    (F__law_draw : FnG P w K mg base 2 f__law_draw fd__law_draw ["pen", "bound"] (c__law_draw.sp K))
    (F_fits : FnG P w K mg base 1 f_fits fd_fits ["resilience", "numbers"] (c_fits.sp K))
    (F__law_fits : FnG P w K mg base 1 f__law_fits fd__law_fits ["resilience", "numbers"] (c__law_fits.sp K))
    (F_with_factor : FnG P w K mg base 1 f_with_factor fd_with_factor ["resilience", "m"] (c_with_factor.sp K)) :
    FnG P w K mg base 10 f_law fd_law ["script"] (c_law.sp K) :=
  FnG.data D_law.fn sc_law hsys len_law (fun cdv A outer s H E cx => (css_cons (cs_set (i := 1) cx.toCxe.nd rfl (ce_call F__law_pen cx.toCxe (by decide) (by rfl) D__law_pen.g D__law_pen.fn.kp D__law_pen.b (ca_cons (ce_var (i := 0) rfl (by first | exact .inl rfl | exact .inr (.inl rfl) | exact .inr (.inr rfl))) ca_nil)))
    (css_cons (cs_for cx (ci_range1 (by rfl) T.n_range (ca_cons ce_int ca_nil)) (cg_one (i := 2) cx.toCxe.nd rfl) (css_cons (cs_set (i := 3) cx.toCxe.nd rfl (ce_call F__law_resilience cx.toCxe (by decide) (by rfl) D__law_resilience.g D__law_resilience.fn.kp D__law_resilience.b (ca_cons (ce_var (i := 1) rfl (by first | exact .inl rfl | exact .inr (.inl rfl) | exact .inr (.inr rfl))) ca_nil)))
    (css_cons (cs_for cx (ci_lst (ce_call F__law_others cx.toCxe (by decide) (by rfl) D__law_others.g D__law_others.fn.kp D__law_others.b (ca_cons (ce_var (i := 1) rfl (by first | exact .inl rfl | exact .inr (.inl rfl) | exact .inr (.inr rfl))) (ca_cons (ce_var (i := 3) rfl (by first | exact .inl rfl | exact .inr (.inl rfl) | exact .inr (.inr rfl))) ca_nil)))) (cg_one (i := 4) cx.toCxe.nd rfl) (css_cons (cs_set (i := 5) cx.toCxe.nd rfl (ce_callB (cd_repr cx.toCxe.gd cx.toCxe.sys (hu64 cx.toCxe)) (by rfl) T.n_repr (by decide +kernel) (ca_cons (ce_var (i := 4) rfl (by first | exact .inl rfl | exact .inr (.inl rfl) | exact .inr (.inr rfl))) ca_nil)))
    (css_one (cs_if (CW.ct (cw_or (ct_cmp (opd_neC (hu64 cx.toCxe)) (ce_call F__law_told cx.toCxe (by decide) (by rfl) D__law_told.g D__law_told.fn.kp D__law_told.b (ca_cons (ce_var (i := 4) rfl (by first | exact .inl rfl | exact .inr (.inl rfl) | exact .inr (.inr rfl))) ca_nil)) (ce_call F__law_due cx.toCxe (by decide) (by rfl) D__law_due.g D__law_due.fn.kp D__law_due.b (ca_cons (ce_var (i := 4) rfl (by first | exact .inl rfl | exact .inr (.inl rfl) | exact .inr (.inr rfl))) ca_nil))) (cw_or1 (ct_cmp (opd_neC (hu64 cx.toCxe)) (ce_callB (cd_repr cx.toCxe.gd cx.toCxe.sys (hu64 cx.toCxe)) (by rfl) T.n_repr (by decide +kernel) (ca_cons (ce_var (i := 4) rfl (by first | exact .inl rfl | exact .inr (.inl rfl) | exact .inr (.inr rfl))) ca_nil)) (ce_var (i := 5) rfl (by first | exact .inl rfl | exact .inr (.inl rfl) | exact .inr (.inr rfl))))))) (css_one (cs_ret ce_bl)) css_nil))))
    (css_cons (cs_for cx (ci_range1 (by rfl) T.n_range (ca_cons ce_int ca_nil)) (cg_one (i := 6) cx.toCxe.nd rfl) (css_cons (cs_par (i := 7) (j := 8) cx.toCxe.calm cx.toCxe.nd rfl rfl (by decide) (ca_cons (ce_call F__law_numbers cx.toCxe (by decide) (by rfl) D__law_numbers.g D__law_numbers.fn.kp D__law_numbers.b (ca_cons (ce_var (i := 1) rfl (by first | exact .inl rfl | exact .inr (.inl rfl) | exact .inr (.inr rfl))) (ca_cons ce_int ca_nil))) (ca_cons (ce_call F__law_bound cx.toCxe (by decide) (by rfl) D__law_bound.g D__law_bound.fn.kp D__law_bound.b (ca_cons (ce_var (i := 1) rfl (by first | exact .inl rfl | exact .inr (.inl rfl) | exact .inr (.inr rfl))) ca_nil)) ca_nil)))
    (css_cons (cs_set (i := 9) cx.toCxe.nd rfl (ce_call F__law_one_of cx.toCxe (by decide) (by rfl) D__law_one_of.g D__law_one_of.fn.kp D__law_one_of.b (ca_cons (ce_var (i := 1) rfl (by first | exact .inl rfl | exact .inr (.inl rfl) | exact .inr (.inr rfl))) (ca_cons (ce_lst (ca_cons ce_int (ca_cons ce_int (ca_cons (ce_bin opd_add (ce_bin opd_pow ce_int ce_int) ce_int) ca_nil)))) ca_nil))))
    (css_cons (cs_set (i := 7) cx.toCxe.nd rfl (ce_callTy cd_tuple (by rfl) T.n_tuple (by decide +kernel) (ca_cons (ce_lc (own := [("part", 15)]) cx.toCxe (ci_tupD (ce_var (i := 7) rfl (by first | exact .inl rfl | exact .inr (.inl rfl) | exact .inr (.inr rfl)))) (by show blkC ["script", "pen", "lap", "rows", "value", "kept", "turn", "numbers", "bound", "far", "more", "last", "some", "long", "m", "part", "place"] (defScope s_law) _ _ = true; decide +kernel) (fun s H C cl fp => (cg_one (i := 15) (cx.toCxe.blk).nd rfl)) (fun s H C cl fp => cts_nil) (fun s H C cl fp => (ce_bin opd_mul (ce_var (i := 15) rfl (by first | exact .inl rfl | exact .inr (.inl rfl) | exact .inr (.inr rfl))) (ce_var (i := 9) rfl (by first | exact .inl rfl | exact .inr (.inl rfl) | exact .inr (.inr rfl)))))) ca_nil)))
    (css_cons (cs_if (ct_cmp (opd_neC (hu64 cx.toCxe)) (ce_callB (cd_repr cx.toCxe.gd cx.toCxe.sys (hu64 cx.toCxe)) (by rfl) T.n_repr (by decide +kernel) (ca_cons (ce_call F_bound_value cx.toCxe (by decide) (by rfl) D_bound_value.g D_bound_value.fn.kp D_bound_value.b (ca_cons (ce_var (i := 8) rfl (by first | exact .inl rfl | exact .inr (.inl rfl) | exact .inr (.inr rfl))) (ca_cons (ce_var (i := 7) rfl (by first | exact .inl rfl | exact .inr (.inl rfl) | exact .inr (.inr rfl))) ca_nil))) ca_nil)) (ce_callB (cd_repr cx.toCxe.gd cx.toCxe.sys (hu64 cx.toCxe)) (by rfl) T.n_repr (by decide +kernel) (ca_cons (ce_call F__law_value cx.toCxe (by decide) (by rfl) D__law_value.g D__law_value.fn.kp D__law_value.b (ca_cons (ce_var (i := 8) rfl (by first | exact .inl rfl | exact .inr (.inl rfl) | exact .inr (.inr rfl))) (ca_cons (ce_var (i := 7) rfl (by first | exact .inl rfl | exact .inr (.inl rfl) | exact .inr (.inr rfl))) ca_nil))) ca_nil))) (css_one (cs_ret ce_bl)) css_nil)
    (css_cons (cs_set (i := 10) cx.toCxe.nd rfl (ce_call F__law_at cx.toCxe (by decide) (by rfl) D__law_at.g D__law_at.fn.kp D__law_at.b (ca_cons (ce_var (i := 7) rfl (by first | exact .inl rfl | exact .inr (.inl rfl) | exact .inr (.inr rfl))) (ca_cons ce_int (ca_cons (ce_bin opd_add (ce_sub (ce_var (i := 7) rfl (by first | exact .inl rfl | exact .inr (.inl rfl) | exact .inr (.inr rfl))) ce_int) ce_int) ca_nil)))))
    (css_cons (cs_set (i := 11) cx.toCxe.nd rfl (ce_bin opd_add (ce_callTy cd_tuple (by rfl) T.n_tuple (by decide +kernel) (ca_cons (ce_lc (own := [("place", 16)]) cx.toCxe (ci_range1 (by rfl) T.n_range (ca_cons ce_int ca_nil)) (by show blkC ["script", "pen", "lap", "rows", "value", "kept", "turn", "numbers", "bound", "far", "more", "last", "some", "long", "m", "part", "place"] (defScope s_law) _ _ = true; decide +kernel) (fun s H C cl fp => (cg_one (i := 16) (cx.toCxe.blk).nd rfl)) (fun s H C cl fp => cts_nil) (fun s H C cl fp => (ce_bin opd_sub (ce_call F__law_draw (cx.toCxe.blk) (by decide) (by rfl) D__law_draw.g D__law_draw.fn.kp D__law_draw.b (ca_cons (ce_var (i := 1) rfl (by first | exact .inl rfl | exact .inr (.inl rfl) | exact .inr (.inr rfl))) (ca_cons ce_int ca_nil))) ce_int))) ca_nil)) (ce_tup (ca_cons (ce_call F__law_draw cx.toCxe (by decide) (by rfl) D__law_draw.g D__law_draw.fn.kp D__law_draw.b (ca_cons (ce_var (i := 1) rfl (by first | exact .inl rfl | exact .inr (.inl rfl) | exact .inr (.inr rfl))) (ca_cons ce_int ca_nil))) ca_nil))))
    (css_one (cs_for cx (ci_tupD (ce_tup (ca_cons (ce_var (i := 7) rfl (by first | exact .inl rfl | exact .inr (.inl rfl) | exact .inr (.inr rfl))) (ca_cons (ce_var (i := 10) rfl (by first | exact .inl rfl | exact .inr (.inl rfl) | exact .inr (.inr rfl))) ca_nil)))) (cg_one (i := 12) cx.toCxe.nd rfl) (css_one (cs_for cx (ci_tupD (ce_tup (ca_cons (ce_var (i := 3) rfl (by first | exact .inl rfl | exact .inr (.inl rfl) | exact .inr (.inr rfl))) (ca_cons (ce_tup (ca_cons (ce_var (i := 11) rfl (by first | exact .inl rfl | exact .inr (.inl rfl) | exact .inr (.inr rfl))) ca_nil)) (ca_cons (ce_bin opd_add (ce_slice (ce_bin opd_mul (ce_var (i := 3) rfl (by first | exact .inl rfl | exact .inr (.inl rfl) | exact .inr (.inr rfl))) ce_int) co_none (co_some ce_int)) (ce_tup (ca_cons (ce_var (i := 11) rfl (by first | exact .inl rfl | exact .inr (.inl rfl) | exact .inr (.inr rfl))) ca_nil))) ca_nil))))) (cg_one (i := 13) cx.toCxe.nd rfl) (css_one (cs_if (ct_cmp (opd_neC (hu64 cx.toCxe)) (ce_callB (cd_repr cx.toCxe.gd cx.toCxe.sys (hu64 cx.toCxe)) (by rfl) T.n_repr (by decide +kernel) (ca_cons (ce_call F_fits cx.toCxe (by decide) (by rfl) D_fits.g D_fits.fn.kp D_fits.b (ca_cons (ce_var (i := 13) rfl (by first | exact .inl rfl | exact .inr (.inl rfl) | exact .inr (.inr rfl))) (ca_cons (ce_var (i := 12) rfl (by first | exact .inl rfl | exact .inr (.inl rfl) | exact .inr (.inr rfl))) ca_nil))) ca_nil)) (ce_callB (cd_repr cx.toCxe.gd cx.toCxe.sys (hu64 cx.toCxe)) (by rfl) T.n_repr (by decide +kernel) (ca_cons (ce_call F__law_fits cx.toCxe (by decide) (by rfl) D__law_fits.g D__law_fits.fn.kp D__law_fits.b (ca_cons (ce_var (i := 13) rfl (by first | exact .inl rfl | exact .inr (.inl rfl) | exact .inr (.inr rfl))) (ca_cons (ce_var (i := 12) rfl (by first | exact .inl rfl | exact .inr (.inl rfl) | exact .inr (.inr rfl))) ca_nil))) ca_nil))) (css_one (cs_ret ce_bl)) css_nil)))))))))))))
    (css_cons (cs_set (i := 14) cx.toCxe.nd rfl (ce_call F__law_draw cx.toCxe (by decide) (by rfl) D__law_draw.g D__law_draw.fn.kp D__law_draw.b (ca_cons (ce_var (i := 1) rfl (by first | exact .inl rfl | exact .inr (.inl rfl) | exact .inr (.inr rfl))) (ca_cons ce_int ca_nil))))
    (css_one (cs_if (ct_cmp (opd_neC (hu64 cx.toCxe)) (ce_callB (cd_repr cx.toCxe.gd cx.toCxe.sys (hu64 cx.toCxe)) (by rfl) T.n_repr (by decide +kernel) (ca_cons (ce_call F_with_factor cx.toCxe (by decide) (by rfl) D_with_factor.g D_with_factor.fn.kp D_with_factor.b (ca_cons (ce_slice (ce_var (i := 3) rfl (by first | exact .inl rfl | exact .inr (.inl rfl) | exact .inr (.inr rfl))) co_none (co_some ce_int)) (ca_cons (ce_var (i := 14) rfl (by first | exact .inl rfl | exact .inr (.inl rfl) | exact .inr (.inr rfl))) ca_nil))) ca_nil)) (ce_callB (cd_repr cx.toCxe.gd cx.toCxe.sys (hu64 cx.toCxe)) (by rfl) T.n_repr (by decide +kernel) (ca_cons (ce_bin opd_add (ce_slice (ce_var (i := 3) rfl (by first | exact .inl rfl | exact .inr (.inl rfl) | exact .inr (.inr rfl))) co_none (co_some ce_int)) (ce_tup (ca_cons (ce_tup (ca_cons ce_int (ca_cons (ce_bin opd_sub ce_int (ce_var (i := 14) rfl (by first | exact .inl rfl | exact .inr (.inl rfl) | exact .inr (.inr rfl)))) (ca_cons ce_int (ca_cons ce_int ca_nil))))) ca_nil))) ca_nil))) (css_one (cs_ret ce_bl)) css_nil)))))))
    (css_one (cs_ret ce_bl))))) (sp_law)

theorem exm_self {K : PySem.W.Frag} {S : Addr} (h1 : PySem.W.subIn K (.ref S) (.type "BaseException") = some true) (h2 : PySem.W.isClsIn K S = true) (h3 : PySem.W.typeIn K (.ref S) = some (.type "type")) (h4 : PySem.W.subIn K (.ref S) (.ref S) = some true) :
    PySem.W.exmOne K (.ref S) (.ref S) = some true := by
  have e1 : (PySem.W.subIn K (.ref S) (.type "BaseException") == some true) = true := by rw [h1] <;> rfl
  have e2 : ((PySem.W.clsIn K S).isSome && PySem.W.typeIn K (.ref S) == some (.type "type")) = true := by
    have h2' : (PySem.W.clsIn K S).isSome = true := h2
    rw [h2', h3] <;> rfl
  unfold PySem.W.exmOne
  rw [if_pos e1]
  unfold PySem.W.kitCls
  exact (if_pos e2).trans h4

theorem all_mk {P : Program} {w : World} {K : PySem.W.Frag} {h : Heap} {mg : Str → Option Value} {fa C fI f_is_whole f_is_tuple f_bound_value f_is_resilience_row f_require_resilience f_fits f_with_factor f__law_pen f__law_fresh f__law_draw f__law_one_of f__law_whole f__law_bound f__law_resilience f__law_value f__law_numbers f__law_fits f__law_at f__law_odd f__law_bent f__law_told f__law_is_row f__law_due f__law_others f_law : Addr} (X : K.In h) (G : h.Ns mainGlobals mg) (hfa : mg "law" = some (.ref fa))
    {nm q : Str} {N : Addr} {bs : List Value} {sn : List Str} {sub : List Value} {ab : Bool} {col : Option Bool} {dd : Option Addr} {m0 m1 m2 m3 m5 : Option Value}
    {od0 an0 od1 an1 od2 an2 od3 an3 od4 an4 od5 an5 od6 an6 od7 an7 od8 an8 od9 an9 od10 an10 od11 an11 od12 an12 od13 an13 od14 an14 od15 an15 od16 an16 od17 an17 od18 an18 od19 an19 od20 an20 od21 an21 od22 an22 od23 an23 od24 an24 od25 an25 : Option Addr} {sl0 sl1 sl2 sl3 sl4 sl5 sl6 sl7 sl8 sl9 sl10 sl11 sl12 sl13 sl14 sl15 sl16 sl17 sl18 sl19 sl20 sl21 sl22 sl23 sl24 sl25 : Array (Option Value)} {oc0 kV0 dc0 pm0 cd0 ct0 oc1 kV1 dc1 pm1 cd1 ct1 oc2 kV2 dc2 pm2 cd2 ct2 oc3 kV3 dc3 pm3 cd3 ct3 oc4 kV4 dc4 pm4 cd4 ct4 oc5 kV5 dc5 pm5 cd5 ct5 oc6 kV6 dc6 pm6 cd6 ct6 oc7 kV7 dc7 pm7 cd7 ct7 oc8 kV8 dc8 pm8 cd8 ct8 oc9 kV9 dc9 pm9 cd9 ct9 oc10 kV10 dc10 pm10 cd10 ct10 oc11 kV11 dc11 pm11 cd11 ct11 oc12 kV12 dc12 pm12 cd12 ct12 oc13 kV13 dc13 pm13 cd13 ct13 oc14 kV14 dc14 pm14 cd14 ct14 oc15 kV15 dc15 pm15 cd15 ct15 oc16 kV16 dc16 pm16 cd16 ct16 oc17 kV17 dc17 pm17 cd17 ct17 oc18 kV18 dc18 pm18 cd18 ct18 oc19 kV19 dc19 pm19 cd19 ct19 oc20 kV20 dc20 pm20 cd20 ct20 oc21 kV21 dc21 pm21 cd21 ct21 oc22 kV22 dc22 pm22 cd22 ct22 oc23 kV23 dc23 pm23 cd23 ct23 oc24 kV24 dc24 pm24 cd24 ct24 oc25 kV25 dc25 pm25 cd25 ct25 : Value}
    (a0 : PySem.W.nsIn K mainGlobals "is_whole" = some (some (.ref f_is_whole)))
    (l0 : K.lookup f_is_whole = some ⟨oc0, od0, .func (PySem.W.fnOf "is_whole" "is_whole" (defArgs s_is_whole) (defBody s_is_whole) (defScope s_is_whole) .none kV0 dc0 pm0 an0 cd0 ct0), sl0⟩)
    (c0 : PySem.W.codeIn K cd0 "is_whole" = true)
    (k0 : PySem.W.keepIn K (.ref f_is_whole) = true)
    (a1 : PySem.W.nsIn K mainGlobals "is_tuple" = some (some (.ref f_is_tuple)))
    (l1 : K.lookup f_is_tuple = some ⟨oc1, od1, .func (PySem.W.fnOf "is_tuple" "is_tuple" (defArgs s_is_tuple) (defBody s_is_tuple) (defScope s_is_tuple) .none kV1 dc1 pm1 an1 cd1 ct1), sl1⟩)
    (c1 : PySem.W.codeIn K cd1 "is_tuple" = true)
    (k1 : PySem.W.keepIn K (.ref f_is_tuple) = true)
    (a2 : PySem.W.nsIn K mainGlobals "bound_value" = some (some (.ref f_bound_value)))
    (l2 : K.lookup f_bound_value = some ⟨oc2, od2, .func (PySem.W.fnOf "bound_value" "bound_value" (defArgs s_bound_value) (defBody s_bound_value) (defScope s_bound_value) .none kV2 dc2 pm2 an2 cd2 ct2), sl2⟩)
    (c2 : PySem.W.codeIn K cd2 "bound_value" = true)
    (k2 : PySem.W.keepIn K (.ref f_bound_value) = true)
    (a3 : PySem.W.nsIn K mainGlobals "is_resilience_row" = some (some (.ref f_is_resilience_row)))
    (l3 : K.lookup f_is_resilience_row = some ⟨oc3, od3, .func (PySem.W.fnOf "is_resilience_row" "is_resilience_row" (defArgs s_is_resilience_row) (defBody s_is_resilience_row) (defScope s_is_resilience_row) .none kV3 dc3 pm3 an3 cd3 ct3), sl3⟩)
    (c3 : PySem.W.codeIn K cd3 "is_resilience_row" = true)
    (k3 : PySem.W.keepIn K (.ref f_is_resilience_row) = true)
    (a4 : PySem.W.nsIn K mainGlobals "require_resilience" = some (some (.ref f_require_resilience)))
    (l4 : K.lookup f_require_resilience = some ⟨oc4, od4, .func (PySem.W.fnOf "require_resilience" "require_resilience" (defArgs s_require_resilience) (defBody s_require_resilience) (defScope s_require_resilience) .none kV4 dc4 pm4 an4 cd4 ct4), sl4⟩)
    (c4 : PySem.W.codeIn K cd4 "require_resilience" = true)
    (k4 : PySem.W.keepIn K (.ref f_require_resilience) = true)
    (a5 : PySem.W.nsIn K mainGlobals "fits" = some (some (.ref f_fits)))
    (l5 : K.lookup f_fits = some ⟨oc5, od5, .func (PySem.W.fnOf "fits" "fits" (defArgs s_fits) (defBody s_fits) (defScope s_fits) .none kV5 dc5 pm5 an5 cd5 ct5), sl5⟩)
    (c5 : PySem.W.codeIn K cd5 "fits" = true)
    (k5 : PySem.W.keepIn K (.ref f_fits) = true)
    (a6 : PySem.W.nsIn K mainGlobals "with_factor" = some (some (.ref f_with_factor)))
    (l6 : K.lookup f_with_factor = some ⟨oc6, od6, .func (PySem.W.fnOf "with_factor" "with_factor" (defArgs s_with_factor) (defBody s_with_factor) (defScope s_with_factor) .none kV6 dc6 pm6 an6 cd6 ct6), sl6⟩)
    (c6 : PySem.W.codeIn K cd6 "with_factor" = true)
    (k6 : PySem.W.keepIn K (.ref f_with_factor) = true)
    (a7 : PySem.W.nsIn K mainGlobals "_law_pen" = some (some (.ref f__law_pen)))
    (l7 : K.lookup f__law_pen = some ⟨oc7, od7, .func (PySem.W.fnOf "_law_pen" "_law_pen" (defArgs s__law_pen) (defBody s__law_pen) (defScope s__law_pen) .none kV7 dc7 pm7 an7 cd7 ct7), sl7⟩)
    (c7 : PySem.W.codeIn K cd7 "_law_pen" = true)
    (k7 : PySem.W.keepIn K (.ref f__law_pen) = true)
    (a8 : PySem.W.nsIn K mainGlobals "_law_fresh" = some (some (.ref f__law_fresh)))
    (l8 : K.lookup f__law_fresh = some ⟨oc8, od8, .func (PySem.W.fnOf "_law_fresh" "_law_fresh" (defArgs s__law_fresh) (defBody s__law_fresh) (defScope s__law_fresh) .none kV8 dc8 pm8 an8 cd8 ct8), sl8⟩)
    (c8 : PySem.W.codeIn K cd8 "_law_fresh" = true)
    (k8 : PySem.W.keepIn K (.ref f__law_fresh) = true)
    (a9 : PySem.W.nsIn K mainGlobals "_law_draw" = some (some (.ref f__law_draw)))
    (l9 : K.lookup f__law_draw = some ⟨oc9, od9, .func (PySem.W.fnOf "_law_draw" "_law_draw" (defArgs s__law_draw) (defBody s__law_draw) (defScope s__law_draw) .none kV9 dc9 pm9 an9 cd9 ct9), sl9⟩)
    (c9 : PySem.W.codeIn K cd9 "_law_draw" = true)
    (k9 : PySem.W.keepIn K (.ref f__law_draw) = true)
    (a10 : PySem.W.nsIn K mainGlobals "_law_one_of" = some (some (.ref f__law_one_of)))
    (l10 : K.lookup f__law_one_of = some ⟨oc10, od10, .func (PySem.W.fnOf "_law_one_of" "_law_one_of" (defArgs s__law_one_of) (defBody s__law_one_of) (defScope s__law_one_of) .none kV10 dc10 pm10 an10 cd10 ct10), sl10⟩)
    (c10 : PySem.W.codeIn K cd10 "_law_one_of" = true)
    (k10 : PySem.W.keepIn K (.ref f__law_one_of) = true)
    (a11 : PySem.W.nsIn K mainGlobals "_law_whole" = some (some (.ref f__law_whole)))
    (l11 : K.lookup f__law_whole = some ⟨oc11, od11, .func (PySem.W.fnOf "_law_whole" "_law_whole" (defArgs s__law_whole) (defBody s__law_whole) (defScope s__law_whole) .none kV11 dc11 pm11 an11 cd11 ct11), sl11⟩)
    (c11 : PySem.W.codeIn K cd11 "_law_whole" = true)
    (k11 : PySem.W.keepIn K (.ref f__law_whole) = true)
    (a12 : PySem.W.nsIn K mainGlobals "_law_bound" = some (some (.ref f__law_bound)))
    (l12 : K.lookup f__law_bound = some ⟨oc12, od12, .func (PySem.W.fnOf "_law_bound" "_law_bound" (defArgs s__law_bound) (defBody s__law_bound) (defScope s__law_bound) .none kV12 dc12 pm12 an12 cd12 ct12), sl12⟩)
    (c12 : PySem.W.codeIn K cd12 "_law_bound" = true)
    (k12 : PySem.W.keepIn K (.ref f__law_bound) = true)
    (a13 : PySem.W.nsIn K mainGlobals "_law_resilience" = some (some (.ref f__law_resilience)))
    (l13 : K.lookup f__law_resilience = some ⟨oc13, od13, .func (PySem.W.fnOf "_law_resilience" "_law_resilience" (defArgs s__law_resilience) (defBody s__law_resilience) (defScope s__law_resilience) .none kV13 dc13 pm13 an13 cd13 ct13), sl13⟩)
    (c13 : PySem.W.codeIn K cd13 "_law_resilience" = true)
    (k13 : PySem.W.keepIn K (.ref f__law_resilience) = true)
    (a14 : PySem.W.nsIn K mainGlobals "_law_value" = some (some (.ref f__law_value)))
    (l14 : K.lookup f__law_value = some ⟨oc14, od14, .func (PySem.W.fnOf "_law_value" "_law_value" (defArgs s__law_value) (defBody s__law_value) (defScope s__law_value) .none kV14 dc14 pm14 an14 cd14 ct14), sl14⟩)
    (c14 : PySem.W.codeIn K cd14 "_law_value" = true)
    (k14 : PySem.W.keepIn K (.ref f__law_value) = true)
    (a15 : PySem.W.nsIn K mainGlobals "_law_numbers" = some (some (.ref f__law_numbers)))
    (l15 : K.lookup f__law_numbers = some ⟨oc15, od15, .func (PySem.W.fnOf "_law_numbers" "_law_numbers" (defArgs s__law_numbers) (defBody s__law_numbers) (defScope s__law_numbers) .none kV15 dc15 pm15 an15 cd15 ct15), sl15⟩)
    (c15 : PySem.W.codeIn K cd15 "_law_numbers" = true)
    (k15 : PySem.W.keepIn K (.ref f__law_numbers) = true)
    (a16 : PySem.W.nsIn K mainGlobals "_law_fits" = some (some (.ref f__law_fits)))
    (l16 : K.lookup f__law_fits = some ⟨oc16, od16, .func (PySem.W.fnOf "_law_fits" "_law_fits" (defArgs s__law_fits) (defBody s__law_fits) (defScope s__law_fits) .none kV16 dc16 pm16 an16 cd16 ct16), sl16⟩)
    (c16 : PySem.W.codeIn K cd16 "_law_fits" = true)
    (k16 : PySem.W.keepIn K (.ref f__law_fits) = true)
    (a17 : PySem.W.nsIn K mainGlobals "_law_at" = some (some (.ref f__law_at)))
    (l17 : K.lookup f__law_at = some ⟨oc17, od17, .func (PySem.W.fnOf "_law_at" "_law_at" (defArgs s__law_at) (defBody s__law_at) (defScope s__law_at) .none kV17 dc17 pm17 an17 cd17 ct17), sl17⟩)
    (c17 : PySem.W.codeIn K cd17 "_law_at" = true)
    (k17 : PySem.W.keepIn K (.ref f__law_at) = true)
    (a18 : PySem.W.nsIn K mainGlobals "_law_odd" = some (some (.ref f__law_odd)))
    (l18 : K.lookup f__law_odd = some ⟨oc18, od18, .func (PySem.W.fnOf "_law_odd" "_law_odd" (defArgs s__law_odd) (defBody s__law_odd) (defScope s__law_odd) .none kV18 dc18 pm18 an18 cd18 ct18), sl18⟩)
    (c18 : PySem.W.codeIn K cd18 "_law_odd" = true)
    (k18 : PySem.W.keepIn K (.ref f__law_odd) = true)
    (a19 : PySem.W.nsIn K mainGlobals "_law_bent" = some (some (.ref f__law_bent)))
    (l19 : K.lookup f__law_bent = some ⟨oc19, od19, .func (PySem.W.fnOf "_law_bent" "_law_bent" (defArgs s__law_bent) (defBody s__law_bent) (defScope s__law_bent) .none kV19 dc19 pm19 an19 cd19 ct19), sl19⟩)
    (c19 : PySem.W.codeIn K cd19 "_law_bent" = true)
    (k19 : PySem.W.keepIn K (.ref f__law_bent) = true)
    (a20 : PySem.W.nsIn K mainGlobals "_law_told" = some (some (.ref f__law_told)))
    (l20 : K.lookup f__law_told = some ⟨oc20, od20, .func (PySem.W.fnOf "_law_told" "_law_told" (defArgs s__law_told) (defBody s__law_told) (defScope s__law_told) .none kV20 dc20 pm20 an20 cd20 ct20), sl20⟩)
    (c20 : PySem.W.codeIn K cd20 "_law_told" = true)
    (k20 : PySem.W.keepIn K (.ref f__law_told) = true)
    (a21 : PySem.W.nsIn K mainGlobals "_law_is_row" = some (some (.ref f__law_is_row)))
    (l21 : K.lookup f__law_is_row = some ⟨oc21, od21, .func (PySem.W.fnOf "_law_is_row" "_law_is_row" (defArgs s__law_is_row) (defBody s__law_is_row) (defScope s__law_is_row) .none kV21 dc21 pm21 an21 cd21 ct21), sl21⟩)
    (c21 : PySem.W.codeIn K cd21 "_law_is_row" = true)
    (k21 : PySem.W.keepIn K (.ref f__law_is_row) = true)
    (a22 : PySem.W.nsIn K mainGlobals "_law_due" = some (some (.ref f__law_due)))
    (l22 : K.lookup f__law_due = some ⟨oc22, od22, .func (PySem.W.fnOf "_law_due" "_law_due" (defArgs s__law_due) (defBody s__law_due) (defScope s__law_due) .none kV22 dc22 pm22 an22 cd22 ct22), sl22⟩)
    (c22 : PySem.W.codeIn K cd22 "_law_due" = true)
    (k22 : PySem.W.keepIn K (.ref f__law_due) = true)
    (a23 : PySem.W.nsIn K mainGlobals "_law_others" = some (some (.ref f__law_others)))
    (l23 : K.lookup f__law_others = some ⟨oc23, od23, .func (PySem.W.fnOf "_law_others" "_law_others" (defArgs s__law_others) (defBody s__law_others) (defScope s__law_others) .none kV23 dc23 pm23 an23 cd23 ct23), sl23⟩)
    (c23 : PySem.W.codeIn K cd23 "_law_others" = true)
    (k23 : PySem.W.keepIn K (.ref f__law_others) = true)
    (a24 : PySem.W.nsIn K mainGlobals "law" = some (some (.ref f_law)))
    (l24 : K.lookup f_law = some ⟨oc24, od24, .func (PySem.W.fnOf "law" "law" (defArgs s_law) (defBody s_law) (defScope s_law) .none kV24 dc24 pm24 an24 cd24 ct24), sl24⟩)
    (c24 : PySem.W.codeIn K cd24 "law" = true)
    (k24 : PySem.W.keepIn K (.ref f_law) = true)
    (aC : PySem.W.nsIn K mainGlobals "InvalidResilience" = some (some (.ref C)))
    (xL : K.lookup C = some (excClassObj nm q C N bs [.type "ValueError", .type "Exception", .type "BaseException", .type "object"] true sn sub ab col dd m0 m1 m2 m3 m5 "ValueError.__new__"))
    (sa : PySem.W.findIn K (.ref C) "__setattr__" = some (some (.builtin "object.__setattr__")))
    (ga : PySem.W.findIn K (.ref C) "__getattribute__" = some (some (.builtin "BaseException.__getattribute__")))
    (gg : PySem.W.findIn K (.ref C) "__getattr__" = some none)
    (nb : PySem.W.findIn K (.ref C) "index" = some none)
    (iI : PySem.W.findIn K (.ref C) "__init__" = some (some (.ref fI)))
    (tI : PySem.W.typeIn K (.ref fI) = some (.type "function"))
    (lI : K.lookup fI = some ⟨oc25, od25, .func (PySem.W.fnOf "__init__" "InvalidResilience.__init__" (defArgs s_InvalidResilience) (defBody s_InvalidResilience) (defScope s_InvalidResilience) .none kV25 dc25 pm25 an25 cd25 ct25), sl25⟩)
    (cI : PySem.W.codeIn K cd25 "InvalidResilience.__init__" = true)
    (kI : PySem.W.keepIn K (.ref fI) = true)
    (kC : PySem.W.keepIn K (.ref C) = true)
    (eC : PySem.W.subIn K (.ref C) (.type "BaseException") = some true)
    (tC : PySem.W.typeIn K (.ref C) = some (.type "type"))
    (hC : PySem.W.hasDictIn K C = true)
    (iC : PySem.W.isClsIn K C = true)
    (sC : PySem.W.subIn K (.ref C) (.ref C) = some true)
    (z_all : PySem.W.nsIn K mainGlobals "all" = some none)
    (z_bool : PySem.W.nsIn K mainGlobals "bool" = some none)
    (z_enumerate : PySem.W.nsIn K mainGlobals "enumerate" = some none)
    (z_int : PySem.W.nsIn K mainGlobals "int" = some none)
    (z_isinstance : PySem.W.nsIn K mainGlobals "isinstance" = some none)
    (z_len : PySem.W.nsIn K mainGlobals "len" = some none)
    (z_list : PySem.W.nsIn K mainGlobals "list" = some none)
    (z_min : PySem.W.nsIn K mainGlobals "min" = some none)
    (z_range : PySem.W.nsIn K mainGlobals "range" = some none)
    (z_repr : PySem.W.nsIn K mainGlobals "repr" = some none)
    (z_tuple : PySem.W.nsIn K mainGlobals "tuple" = some none)
    (z_type : PySem.W.nsIn K mainGlobals "type" = some none)
    : ∃ fd : FuncData, (∀ (s : Shared) (u : Value), BindsTo s fd ⟨[u], []⟩ [("script", u)]) ∧ ∀ base : Heap, K.In base → base.Ns mainGlobals mg → (∃ o, base.get? sysModules = some o) → FnG P w K mg base 10 fa fd ["script"] (c_law.sp K) := by
  have e := hfa.symm.trans (PySem.W.mg_of X G a24)
  cases e
  have T : Txt K mg := ⟨PySem.W.mg_none_of X G z_all, PySem.W.mg_none_of X G z_bool, PySem.W.mg_none_of X G z_enumerate, PySem.W.mg_none_of X G z_int, PySem.W.mg_none_of X G z_isinstance, PySem.W.mg_none_of X G z_len, PySem.W.mg_none_of X G z_list, PySem.W.mg_none_of X G z_min, PySem.W.mg_none_of X G z_range, PySem.W.mg_none_of X G z_repr, PySem.W.mg_none_of X G z_tuple, PySem.W.mg_none_of X G z_type⟩
  have D_is_whole : Def K mg "is_whole" s_is_whole ["value", "least", "most"] f_is_whole _ := Def.mk' X G a0 l0 c0 k0 fun us hl => match us, hl with | [_, _, _], _ => rfl
  have D_is_tuple : Def K mg "is_tuple" s_is_tuple ["value", "least", "most"] f_is_tuple _ := Def.mk' X G a1 l1 c1 k1 fun us hl => match us, hl with | [_, _, _], _ => rfl
  have D_bound_value : Def K mg "bound_value" s_bound_value ["bound", "numbers"] f_bound_value _ := Def.mk' X G a2 l2 c2 k2 fun us hl => match us, hl with | [_, _], _ => rfl
  have D_is_resilience_row : Def K mg "is_resilience_row" s_is_resilience_row ["value"] f_is_resilience_row _ := Def.mk' X G a3 l3 c3 k3 fun us hl => match us, hl with | [_], _ => rfl
  have D_require_resilience : Def K mg "require_resilience" s_require_resilience ["value"] f_require_resilience _ := Def.mk' X G a4 l4 c4 k4 fun us hl => match us, hl with | [_], _ => rfl
  have D_fits : Def K mg "fits" s_fits ["resilience", "numbers"] f_fits _ := Def.mk' X G a5 l5 c5 k5 fun us hl => match us, hl with | [_, _], _ => rfl
  have D_with_factor : Def K mg "with_factor" s_with_factor ["resilience", "m"] f_with_factor _ := Def.mk' X G a6 l6 c6 k6 fun us hl => match us, hl with | [_, _], _ => rfl
  have D__law_pen : Def K mg "_law_pen" s__law_pen ["script"] f__law_pen _ := Def.mk' X G a7 l7 c7 k7 fun us hl => match us, hl with | [_], _ => rfl
  have D__law_fresh : Def K mg "_law_fresh" s__law_fresh ["pen"] f__law_fresh _ := Def.mk' X G a8 l8 c8 k8 fun us hl => match us, hl with | [_], _ => rfl
  have D__law_draw : Def K mg "_law_draw" s__law_draw ["pen", "bound"] f__law_draw _ := Def.mk' X G a9 l9 c9 k9 fun us hl => match us, hl with | [_, _], _ => rfl
  have D__law_one_of : Def K mg "_law_one_of" s__law_one_of ["pen", "some"] f__law_one_of _ := Def.mk' X G a10 l10 c10 k10 fun us hl => match us, hl with | [_, _], _ => rfl
  have D__law_whole : Def K mg "_law_whole" s__law_whole ["value", "low", "high"] f__law_whole _ := Def.mk' X G a11 l11 c11 k11 fun us hl => match us, hl with | [_, _, _], _ => rfl
  have D__law_bound : Def K mg "_law_bound" s__law_bound ["pen"] f__law_bound _ := Def.mk' X G a12 l12 c12 k12 fun us hl => match us, hl with | [_], _ => rfl
  have D__law_resilience : Def K mg "_law_resilience" s__law_resilience ["pen"] f__law_resilience _ := Def.mk' X G a13 l13 c13 k13 fun us hl => match us, hl with | [_], _ => rfl
  have D__law_value : Def K mg "_law_value" s__law_value ["bound", "numbers"] f__law_value _ := Def.mk' X G a14 l14 c14 k14 fun us hl => match us, hl with | [_, _], _ => rfl
  have D__law_numbers : Def K mg "_law_numbers" s__law_numbers ["pen", "most"] f__law_numbers _ := Def.mk' X G a15 l15 c15 k15 fun us hl => match us, hl with | [_, _], _ => rfl
  have D__law_fits : Def K mg "_law_fits" s__law_fits ["resilience", "numbers"] f__law_fits _ := Def.mk' X G a16 l16 c16 k16 fun us hl => match us, hl with | [_, _], _ => rfl
  have D__law_at : Def K mg "_law_at" s__law_at ["rows", "place", "thing"] f__law_at _ := Def.mk' X G a17 l17 c17 k17 fun us hl => match us, hl with | [_, _, _], _ => rfl
  have D__law_odd : Def K mg "_law_odd" s__law_odd ["pen"] f__law_odd _ := Def.mk' X G a18 l18 c18 k18 fun us hl => match us, hl with | [_], _ => rfl
  have D__law_bent : Def K mg "_law_bent" s__law_bent ["pen", "value", "depth"] f__law_bent _ := Def.mk' X G a19 l19 c19 k19 fun us hl => match us, hl with | [_, _, _], _ => rfl
  have D__law_told : Def K mg "_law_told" s__law_told ["value"] f__law_told _ := Def.mk' X G a20 l20 c20 k20 fun us hl => match us, hl with | [_], _ => rfl
  have D__law_is_row : Def K mg "_law_is_row" s__law_is_row ["value"] f__law_is_row _ := Def.mk' X G a21 l21 c21 k21 fun us hl => match us, hl with | [_], _ => rfl
  have D__law_due : Def K mg "_law_due" s__law_due ["value"] f__law_due _ := Def.mk' X G a22 l22 c22 k22 fun us hl => match us, hl with | [_], _ => rfl
  have D__law_others : Def K mg "_law_others" s__law_others ["pen", "rows"] f__law_others _ := Def.mk' X G a23 l23 c23 k23 fun us hl => match us, hl with | [_, _], _ => rfl
  have D_law : Def K mg "law" s_law ["script"] fa _ := Def.mk' X G a24 l24 c24 k24 fun us hl => match us, hl with | [_], _ => rfl
  have FI := fun_mk (st := s_InvalidResilience) lI cI kI
  have bI := FI.binds (ps := ["self", "index"]) fun _ _ _ _ _ _ us hl => match us, hl with | [_, _], _ => rfl
  have E : ErrC K mg "InvalidResilience" "index" C fI _ := ⟨⟨⟨nm, q, N, bs, _, sn, sub, ab, col, dd, m0, m1, m2, m3, m5, xL, by decide +kernel⟩, sa, eC, tC, kC⟩, iI, tI, bI, PySem.W.mg_of X G aC, nb, ⟨ga, gg, eC, hC⟩, exm_self eC iC tC sC⟩
  refine ⟨PySem.W.fnOf "law" "law" (defArgs s_law) (defBody s_law) (defScope s_law) .none kV24 dc24 pm24 an24 cd24 ct24, fun s u => .of_eq rfl, fun base _ _ hsys => ?_⟩
  have F_is_whole := ok_is_whole (P := P) (w := w) (base := base) hsys T D_is_whole
  have F_is_tuple := ok_is_tuple (P := P) (w := w) (base := base) hsys T D_is_tuple
  have F_bound_value := ok_bound_value (P := P) (w := w) (base := base) hsys T D_bound_value
  have F_is_resilience_row := ok_is_resilience_row (P := P) (w := w) (base := base) hsys T D_is_resilience_row D_is_tuple D_is_whole F_is_tuple F_is_whole
  have F_require_resilience := ok_require_resilience (P := P) (w := w) (base := base) hsys T D_require_resilience D_is_tuple D_is_resilience_row E (ok_init FI) F_is_tuple F_is_resilience_row
  have F_fits := ok_fits (P := P) (w := w) (base := base) hsys T D_fits
  have F_with_factor := ok_with_factor (P := P) (w := w) (base := base) hsys T D_with_factor
  have F__law_pen := ok__law_pen (P := P) (w := w) (base := base) hsys T D__law_pen
  have F__law_fresh := ok__law_fresh (P := P) (w := w) (base := base) hsys T D__law_fresh
  have F__law_draw := ok__law_draw (P := P) (w := w) (base := base) hsys T D__law_draw D__law_fresh F__law_fresh
  have F__law_one_of := ok__law_one_of (P := P) (w := w) (base := base) hsys T D__law_one_of D__law_draw F__law_draw
  have F__law_whole := ok__law_whole (P := P) (w := w) (base := base) hsys T D__law_whole
  have F__law_bound := ok__law_bound (P := P) (w := w) (base := base) hsys T D__law_bound D__law_draw D__law_one_of F__law_draw F__law_one_of
  have F__law_resilience := ok__law_resilience (P := P) (w := w) (base := base) hsys T D__law_resilience D__law_draw D__law_one_of F__law_draw F__law_one_of
  have F__law_value := ok__law_value (P := P) (w := w) (base := base) hsys T D__law_value
  have F__law_numbers := ok__law_numbers (P := P) (w := w) (base := base) hsys T D__law_numbers D__law_draw D__law_one_of F__law_draw F__law_one_of
  have F__law_fits := ok__law_fits (P := P) (w := w) (base := base) hsys T D__law_fits
  have F__law_at := ok__law_at (P := P) (w := w) (base := base) hsys T D__law_at
  have F__law_odd := ok__law_odd (P := P) (w := w) (base := base) hsys T D__law_odd D__law_one_of F__law_one_of
  have F_b := fun k t => ok__law_bent (P := P) (w := w) (base := base) hsys T D__law_bent D__law_draw D__law_odd F__law_draw F__law_odd k t
  have F__law_told := ok__law_told (P := P) (w := w) (base := base) hsys T D__law_told D_require_resilience E F_require_resilience
  have F__law_is_row := ok__law_is_row (P := P) (w := w) (base := base) hsys T D__law_is_row D__law_whole F__law_whole
  have F__law_due := ok__law_due (P := P) (w := w) (base := base) hsys T D__law_due D__law_is_row F__law_is_row
  have F__law_others := ok__law_others (P := P) (w := w) (base := base) hsys T D__law_others D__law_draw D__law_odd D__law_bent D__law_at D__law_one_of F__law_draw F__law_odd (F_b 0 4) (F_b 1 4) (F_b 0 3) F__law_at F__law_one_of
  exact ok_law (P := P) (w := w) (base := base) hsys T D_law D__law_pen D__law_resilience D__law_others D__law_told D__law_due D__law_bound D__law_numbers D__law_one_of D_bound_value D__law_value D__law_at D__law_draw D_fits D__law_fits D_with_factor F__law_pen F__law_resilience F__law_others F__law_told F__law_due F__law_bound F__law_numbers F__law_one_of F_bound_value F__law_value F__law_at F__law_draw F_fits F__law_fits F_with_factor
end K01
open PySem PySem.W PyProof.Rows
set_option maxRecDepth 100000 in
set_option maxHeartbeats 0 in
theorem PySem.Challenge.cw_enoughheard_k01_numbers_and_resiliences_holds : PySem.Challenge.rw_enoughheard_k01_numbers_and_resiliences.Holds := by
  w_on; o_law; k_head; (case hw => w_witness2)
  k_fill
  refine HD.walk_G (l := PySem.Challenge.rw_enoughheard_k01_numbers_and_resiliences) (n := 63) (k := 10) (x := "script") (c := fun _ => K01.c_law) rfl (by decide) rfl ⟨rfl, by decide, by decide⟩ ?S (fun w h Y => PySem.W.kIn_of Y) ?F (fun _ a ns _ _ => ⟨a, ns, rfl⟩) (fun _ _ _ _ _ h => h) (fun _ _ _ _ _ _ h => h)
  case S => first | rfl | decide +kernel
  case F =>
    intro w mg fa h KX G hmg
    refine' K01.all_mk KX G hmg ?a0 ?l0 ?c0 ?k0 ?a1 ?l1 ?c1 ?k1 ?a2 ?l2 ?c2 ?k2 ?a3 ?l3 ?c3 ?k3 ?a4 ?l4 ?c4 ?k4 ?a5 ?l5 ?c5 ?k5 ?a6 ?l6 ?c6 ?k6 ?a7 ?l7 ?c7 ?k7 ?a8 ?l8 ?c8 ?k8 ?a9 ?l9 ?c9 ?k9 ?a10 ?l10 ?c10 ?k10 ?a11 ?l11 ?c11 ?k11 ?a12 ?l12 ?c12 ?k12 ?a13 ?l13 ?c13 ?k13 ?a14 ?l14 ?c14 ?k14 ?a15 ?l15 ?c15 ?k15 ?a16 ?l16 ?c16 ?k16 ?a17 ?l17 ?c17 ?k17 ?a18 ?l18 ?c18 ?k18 ?a19 ?l19 ?c19 ?k19 ?a20 ?l20 ?c20 ?k20 ?a21 ?l21 ?c21 ?k21 ?a22 ?l22 ?c22 ?k22 ?a23 ?l23 ?c23 ?k23 ?a24 ?l24 ?c24 ?k24 ?aC ?xL ?sa ?ga ?gg ?nb ?iI ?tI ?lI ?cI ?kI ?kC ?eC ?tC ?hC ?iC ?sC ?z_all ?z_bool ?z_enumerate ?z_int ?z_isinstance ?z_len ?z_list ?z_min ?z_range ?z_repr ?z_tuple ?z_type
    (case a0 => k_is)
    (case l0 => k_is)
    (case c0 => k_is)
    (case k0 => k_is)
    (case a1 => k_is)
    (case l1 => k_is)
    (case c1 => k_is)
    (case k1 => k_is)
    (case a2 => k_is)
    (case l2 => k_is)
    (case c2 => k_is)
    (case k2 => k_is)
    (case a3 => k_is)
    (case l3 => k_is)
    (case c3 => k_is)
    (case k3 => k_is)
    (case a4 => k_is)
    (case l4 => k_is)
    (case c4 => k_is)
    (case k4 => k_is)
    (case a5 => k_is)
    (case l5 => k_is)
    (case c5 => k_is)
    (case k5 => k_is)
    (case a6 => k_is)
    (case l6 => k_is)
    (case c6 => k_is)
    (case k6 => k_is)
    (case a7 => k_is)
    (case l7 => k_is)
    (case c7 => k_is)
    (case k7 => k_is)
    (case a8 => k_is)
    (case l8 => k_is)
    (case c8 => k_is)
    (case k8 => k_is)
    (case a9 => k_is)
    (case l9 => k_is)
    (case c9 => k_is)
    (case k9 => k_is)
    (case a10 => k_is)
    (case l10 => k_is)
    (case c10 => k_is)
    (case k10 => k_is)
    (case a11 => k_is)
    (case l11 => k_is)
    (case c11 => k_is)
    (case k11 => k_is)
    (case a12 => k_is)
    (case l12 => k_is)
    (case c12 => k_is)
    (case k12 => k_is)
    (case a13 => k_is)
    (case l13 => k_is)
    (case c13 => k_is)
    (case k13 => k_is)
    (case a14 => k_is)
    (case l14 => k_is)
    (case c14 => k_is)
    (case k14 => k_is)
    (case a15 => k_is)
    (case l15 => k_is)
    (case c15 => k_is)
    (case k15 => k_is)
    (case a16 => k_is)
    (case l16 => k_is)
    (case c16 => k_is)
    (case k16 => k_is)
    (case a17 => k_is)
    (case l17 => k_is)
    (case c17 => k_is)
    (case k17 => k_is)
    (case a18 => k_is)
    (case l18 => k_is)
    (case c18 => k_is)
    (case k18 => k_is)
    (case a19 => k_is)
    (case l19 => k_is)
    (case c19 => k_is)
    (case k19 => k_is)
    (case a20 => k_is)
    (case l20 => k_is)
    (case c20 => k_is)
    (case k20 => k_is)
    (case a21 => k_is)
    (case l21 => k_is)
    (case c21 => k_is)
    (case k21 => k_is)
    (case a22 => k_is)
    (case l22 => k_is)
    (case c22 => k_is)
    (case k22 => k_is)
    (case a23 => k_is)
    (case l23 => k_is)
    (case c23 => k_is)
    (case k23 => k_is)
    (case a24 => k_is)
    (case l24 => k_is)
    (case c24 => k_is)
    (case k24 => k_is)
    (case aC => k_is)
    (case xL => k_is)
    (case sa => k_is)
    (case ga => k_is)
    (case gg => k_is)
    (case nb => k_is)
    (case iI => k_is)
    (case tI => k_is)
    (case lI => k_is)
    (case cI => k_is)
    (case kI => k_is)
    (case kC => k_is)
    (case eC => k_is)
    (case tC => k_is)
    (case hC => k_is)
    (case iC => k_is)
    (case sC => first | rfl | k_is)
    (case z_all => k_is)
    (case z_bool => k_is)
    (case z_enumerate => k_is)
    (case z_int => k_is)
    (case z_isinstance => k_is)
    (case z_len => k_is)
    (case z_list => k_is)
    (case z_min => k_is)
    (case z_range => k_is)
    (case z_repr => k_is)
    (case z_tuple => k_is)
    (case z_type => k_is)
