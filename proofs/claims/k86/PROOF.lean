import PyProof.Rows.All
import Wide.All
import OpenK.AllK
import Wide.FinOn
import HandS.ForMost
import HandS.ForExc
import HandS.Wide
import HandS.IsInst
import HandS.SortInts
import HandS.RaiseMore
import HandS.EndBits
import HandS.ExcInit
import HandS.TupAny
import HandS.TupMul
import HandS.Zip
import PyProof.TypeEq
import PyProof.ReprRoads
import PyProof.CallFns
import HandS.Walk
import KE.GoesEnum
import HandS.ExcField
import PyProof.InstStoreFacts
import KE.KExcInit
import HandS.TupSets
import KE.KeyNested
import HandS.Small
import KE.GoesMore
import HandS.SetFor
import HandS.Strs
import HandS.SetBool
import KE.KExcIs
import HandS.Defaults
import PySem.Challenge.RW_enoughheard_k86_errors_required
set_option Elab.async false
set_option linter.all false
set_option maxRecDepth 100000
set_option maxHeartbeats 4000000
/-! # HD: a layer of data over the hand layer. Values that are never written again are plain data; lists that are still written stand in a small memory. -/
namespace HD
open PySem PySem.Spec PyProof.Rows L2

/-- the lists that are still written, by address -/
abbrev Mem := Addr → Option (List PyData)
def updM (M : Mem) (a : Addr) (ds : List PyData) : Mem := fun b => if b = a then some ds else M b
theorem updM_same {M : Mem} {a : Addr} {ds : List PyData} : updM M a ds a = some ds := by simp [updM]
theorem updM_ne {M : Mem} {a b : Addr} {ds : List PyData} (h : b ≠ a) : updM M a ds b = M b := by simp [updM, h]
theorem updM_updM {M : Mem} {a : Addr} {ds es : List PyData} : updM (updM M a ds) a es = updM M a es := by
  funext b; simp only [updM]; split <;> rfl

def StL (K : PySem.W.Frag) (H : Hp) (M : Mem) (a : Addr) (xs : List V) : Prop := (Rd H a (.lst xs) ∧ M a = none) ∨ SqL K (fun _ => none) a xs
def StT (K : PySem.W.Frag) (H : Hp) (M : Mem) (a : Addr) (xs : List V) : Prop := (Rd H a (.tup xs) ∧ M a = none) ∨ SqT K (fun _ => none) a xs
theorem noRd {a : Addr} {u : HO} : ¬ Rd (fun _ => none) a u := by
  intro h
  rcases h with h | ⟨o, h⟩
  · cases h
  · cases h
theorem StL.sq {K : PySem.W.Frag} {H : Hp} {M : Mem} {a : Addr} {xs : List V} (h : StL K H M a xs) : SqL K H a xs := by
  rcases h with ⟨h, _⟩ | h
  · exact .inl h
  · rcases h with h | h
    · exact absurd h noRd
    · exact .inr h
theorem StT.sq {K : PySem.W.Frag} {H : Hp} {M : Mem} {a : Addr} {xs : List V} (h : StT K H M a xs) : SqT K H a xs := by
  rcases h with ⟨h, _⟩ | h
  · exact .inl h
  · rcases h with h | h
    · exact absurd h noRd
    · exact .inr h

mutual
/-- v is the data d, for good -/
inductive Fz (K : PySem.W.Frag) (H : Hp) (M : Mem) : V → PyData → Prop
  | non : Fz K H M .non .none
  | bl (b : Bool) : Fz K H M (.bl b) (.bool b)
  | int (i : Int) : Fz K H M (.int i) (.int i)
  | str (x : Str) : Fz K H M (.str x) (.str x)
  | lst {a : Addr} {xs : List V} {ds : List PyData} : H a = some (.lst xs) → M a = none → FzA K H M xs ds → Fz K H M (.ref a) (.list ds)
  | tup {a : Addr} {xs : List V} {ds : List PyData} : StT K H M a xs → FzA K H M xs ds → Fz K H M (.ref a) (.tuple ds)
  | dic {a : Addr} : H a = some (.dK []) → M a = none → Fz K H M (.ref a) (.dict [])
inductive FzA (K : PySem.W.Frag) (H : Hp) (M : Mem) : List V → List PyData → Prop
  | nil : FzA K H M [] []
  | cons {v : V} {vs : List V} {d : PyData} {ds : List PyData} : Fz K H M v d → FzA K H M vs ds → FzA K H M (v :: vs) (d :: ds)
end

/-- what came about between two states: what stood for good stands -/
structure Ext (H : Hp) (M : Mem) (H' : Hp) (M' : Mem) : Prop where
  keep : ∀ a o, H a = some o → M a = none → H' a = some o
  good : ∀ a, H a ≠ none → M a = none → M' a = none
  dom : ∀ a, M a ≠ none → M' a ≠ none
  lst : ∀ a xs, H a = some (.lst xs) → ∃ ys, H' a = some (.lst ys)
  dct : ∀ a kvs, H a = some (.dK kvs) → ∃ ks, H' a = some (.dK ks)

theorem Ext.refl {H : Hp} {M : Mem} : Ext H M H M := ⟨fun _ _ h _ => h, fun _ _ h => h, fun _ h => h, fun _ _ h => ⟨_, h⟩, fun _ _ h => ⟨_, h⟩⟩
theorem Ext.trans {H H1 H2 : Hp} {M M1 M2 : Mem} (e : Ext H M H1 M1) (f : Ext H1 M1 H2 M2) : Ext H M H2 M2 :=
  ⟨fun a o h m => f.keep a o (e.keep a o h m) (e.good a (by rw [h]; simp) m),
   fun a h m => by
     cases q : H a with
     | none => exact absurd q h
     | some o => exact f.good a (by rw [e.keep a o q m]; simp) (e.good a h m),
   fun a h => f.dom a (e.dom a h), fun a xs h => let ⟨ys, h1⟩ := e.lst a xs h; f.lst a ys h1, fun a kvs h => let ⟨ks, h1⟩ := e.dct a kvs h; f.dct a ks h1⟩

theorem Ext.rd {H H' : Hp} {M M' : Mem} {a : Addr} {u : HO} (e : Ext H M H' M') (r : Rd H a u) (m : M a = none) : Rd H' a u ∧ M' a = none := by
  rcases r with r | ⟨o, r⟩
  · exact ⟨.inl (e.keep a _ r m), e.good a (by rw [r]; simp) m⟩
  · exact ⟨.inr ⟨o, e.keep a _ r m⟩, e.good a (by rw [r]; simp) m⟩
theorem StL.ext {K : PySem.W.Frag} {H H' : Hp} {M M' : Mem} {a : Addr} {xs : List V} (e : Ext H M H' M') (h : StL K H M a xs) : StL K H' M' a xs := by
  rcases h with ⟨h, m⟩ | h
  · exact .inl (e.rd h m)
  · exact .inr h
theorem StT.ext {K : PySem.W.Frag} {H H' : Hp} {M M' : Mem} {a : Addr} {xs : List V} (e : Ext H M H' M') (h : StT K H M a xs) : StT K H' M' a xs := by
  rcases h with ⟨h, m⟩ | h
  · exact .inl (e.rd h m)
  · exact .inr h

mutual
theorem Fz.ext {K : PySem.W.Frag} {H H' : Hp} {M M' : Mem} (e : Ext H M H' M') : ∀ {v : V} {d : PyData}, Fz K H M v d → Fz K H' M' v d
  | _, _, .non => .non
  | _, _, .bl b => .bl b
  | _, _, .int i => .int i
  | _, _, .str x => .str x
  | _, _, .lst h m r => .lst (e.keep _ _ h m) (e.good _ (by rw [h]; simp) m) (FzA.ext e r)
  | _, _, .tup h r => .tup (h.ext e) (FzA.ext e r)
  | _, _, .dic h m => .dic (e.keep _ _ h m) (e.good _ (by rw [h]; simp) m)
theorem FzA.ext {K : PySem.W.Frag} {H H' : Hp} {M M' : Mem} (e : Ext H M H' M') : ∀ {vs : List V} {ds : List PyData}, FzA K H M vs ds → FzA K H' M' vs ds
  | _, _, .nil => .nil
  | _, _, .cons h r => .cons (Fz.ext e h) (FzA.ext e r)
end

theorem FzA.length {K : PySem.W.Frag} {H : Hp} {M : Mem} : ∀ {vs : List V} {ds : List PyData}, FzA K H M vs ds → vs.length = ds.length
  | _, _, .nil => rfl
  | _, _, .cons _ r => by simp [FzA.length r]
theorem FzA.get {K : PySem.W.Frag} {H : Hp} {M : Mem} : ∀ {vs : List V} {ds : List PyData} {i : Nat} {d : PyData}, FzA K H M vs ds → ds[i]? = some d → ∃ v, vs[i]? = some v ∧ Fz K H M v d
  | _, _, _, _, .nil, h => by simp at h
  | _, _, 0, _, .cons h _, e => by simp at e; subst e; exact ⟨_, rfl, h⟩
  | _, _, i + 1, _, .cons _ r, e => by
    obtain ⟨v, h1, h2⟩ := FzA.get (i := i) r (by simpa using e)
    exact ⟨v, by simpa using h1, h2⟩
theorem FzA.getV {K : PySem.W.Frag} {H : Hp} {M : Mem} : ∀ {vs : List V} {ds : List PyData} {i : Nat} {v : V}, FzA K H M vs ds → vs[i]? = some v → ∃ d, ds[i]? = some d ∧ Fz K H M v d
  | _, _, _, _, .nil, h => by simp at h
  | _, _, 0, _, .cons h _, e => by simp at e; subst e; exact ⟨_, rfl, h⟩
  | _, _, i + 1, _, .cons _ r, e => by
    obtain ⟨v, h1, h2⟩ := FzA.getV (i := i) r (by simpa using e)
    exact ⟨v, by simpa using h1, h2⟩
theorem FzA.append {K : PySem.W.Frag} {H : Hp} {M : Mem} : ∀ {vs ws : List V} {ds es : List PyData}, FzA K H M vs ds → FzA K H M ws es → FzA K H M (vs ++ ws) (ds ++ es)
  | _, _, _, _, .nil, s => s
  | _, _, _, _, .cons h r, s => .cons h (FzA.append r s)
theorem FzA.take {K : PySem.W.Frag} {H : Hp} {M : Mem} : ∀ {vs : List V} {ds : List PyData} (n : Nat), FzA K H M vs ds → FzA K H M (vs.take n) (ds.take n)
  | _, _, 0, _ => .nil
  | _, _, _ + 1, .nil => .nil
  | _, _, n + 1, .cons h r => .cons h (FzA.take n r)
theorem FzA.drop {K : PySem.W.Frag} {H : Hp} {M : Mem} : ∀ {vs : List V} {ds : List PyData} (n : Nat), FzA K H M vs ds → FzA K H M (vs.drop n) (ds.drop n)
  | _, _, 0, r => r
  | _, _, _ + 1, .nil => .nil
  | _, _, n + 1, .cons _ r => FzA.drop n r
theorem FzA.set {K : PySem.W.Frag} {H : Hp} {M : Mem} {v : V} {d : PyData} (h : Fz K H M v d) : ∀ {vs : List V} {ds : List PyData} (n : Nat), FzA K H M vs ds → FzA K H M (vs.set n v) (ds.set n d)
  | _, _, _, .nil => .nil
  | _, _, 0, .cons _ r => .cons h r
  | _, _, n + 1, .cons q r => .cons q (FzA.set h n r)
theorem FzA.reverse {K : PySem.W.Frag} {H : Hp} {M : Mem} : ∀ {vs : List V} {ds : List PyData}, FzA K H M vs ds → FzA K H M vs.reverse ds.reverse
  | _, _, .nil => .nil
  | _, _, .cons h r => by
    rw [List.reverse_cons, List.reverse_cons]
    exact (FzA.reverse r).append (.cons h .nil)

/-- what a name may hold -/
inductive DV where
  | d (x : PyData)
  | m (a : Addr)
  | k (a : Addr)
  | e (a : Addr) (cls : Value) (d : Option Addr) (fs : List (Str × PyData))
  | s (a : Addr) (ns : List Int)
  | f (a : Addr)
  | n (a : Addr) (bs : List Addr)
  | p (a a1 : Addr) (bs1 : List Addr) (a2 : Addr) (bs2 : List Addr)
  | u (a : Addr) (ds : List PyData) (q : Addr)
  | x (a C : Addr) (d : Option Addr) (fs : List (Str × PyData))
  | xl (a : Addr) (es : List (Addr × Addr × Option Addr × List (Str × PyData)))

/-- the fields of an error in its own dict -/
def ExcAt (K : PySem.W.Frag) (H : Hp) (M : Mem) (d : Option Addr) (fs : List (Str × PyData)) : Prop :=
  fs = [] ∨ ∃ a fv, d = some a ∧ H a = some (.xd fv) ∧ M a = none ∧ fv.map (·.1) = fs.map (·.1) ∧ FzA K H M (fv.map (·.2)) (fs.map (·.2))
theorem ExcAt.ext {K : PySem.W.Frag} {H H' : Hp} {M M' : Mem} {d : Option Addr} {fs : List (Str × PyData)} (e : Ext H M H' M') (h : ExcAt K H M d fs) : ExcAt K H' M' d fs := by
  rcases h with h | ⟨a, fv, h1, h2, h3, h4, h5⟩
  · exact .inl h
  · exact .inr ⟨a, fv, h1, e.keep _ _ h2 h3, e.good _ (by rw [h2]; simp) h3, h4, h5.ext e⟩

/-- at a: a list, not written itself, of lists that are still written -/
structure NL (H : Hp) (M : Mem) (a : Addr) (bs : List Addr) : Prop where
  at_ : H a = some (.lst (bs.map V.ref))
  free : M a = none
  each : ∀ b ∈ bs, M b ≠ none ∧ ∃ xs, H b = some (.lst xs)
theorem NL.ext {H H' : Hp} {M M' : Mem} {a : Addr} {bs : List Addr} (e : Ext H M H' M') (h : NL H M a bs) : NL H' M' a bs :=
  ⟨e.keep _ _ h.at_ h.free, e.good _ (by rw [h.at_]; simp) h.free, fun b hb => ⟨e.dom _ (h.each b hb).1, let ⟨xs, q⟩ := (h.each b hb).2; e.lst _ xs q⟩⟩
/-- at a: an own error that is a value: its class, its dict, its fields -/
def XoAt (K : PySem.W.Frag) (H : Hp) (M : Mem) (a C : Addr) (d : Option Addr) (fs : List (Str × PyData)) : Prop :=
  (H a = some (exo a C d) ∧ M a = none) ∧ ((d = none ∧ fs = []) ∨ ∃ dx fv, d = some dx ∧ (H dx = some (exd dx fv) ∧ M dx = none) ∧ fv.map (·.1) = fs.map (·.1) ∧ FzA K H M (fv.map (·.2)) (fs.map (·.2)))
theorem XoAt.ext {K : PySem.W.Frag} {H H' : Hp} {M M' : Mem} {a C : Addr} {d : Option Addr} {fs : List (Str × PyData)} (e : Ext H M H' M') (h : XoAt K H M a C d fs) : XoAt K H' M' a C d fs := by
  obtain ⟨⟨h1, h2⟩, h⟩ := h
  refine ⟨⟨e.keep _ _ h1 h2, e.good _ (by rw [h1]; simp) h2⟩, ?_⟩
  rcases h with h | ⟨dx, fv, h3, ⟨h4, h5⟩, h6, h7⟩
  · exact .inl h
  · exact .inr ⟨dx, fv, h3, ⟨e.keep _ _ h4 h5, e.good _ (by rw [h4]; simp) h5⟩, h6, h7.ext e⟩
def RV (K : PySem.W.Frag) (H : Hp) (M : Mem) (v : V) : DV → Prop
  | .d x => Fz K H M v x
  | .m a => v = .ref a ∧ M a ≠ none ∧ ∃ xs, H a = some (.lst xs)
  | .k a => v = .ref a ∧ M a ≠ none ∧ ∃ kvs, H a = some (.dK kvs)
  | .e a cls d fs => v = .ref a ∧ ExcAt K H M d fs
  | .s a ns => v = .ref a ∧ StL K H M a (ns.map V.int)
  | .f a => v = .ref a
  | .n a bs => v = .ref a ∧ NL H M a bs
  | .p a a1 bs1 a2 bs2 => v = .ref a ∧ (H a = some (.tup [.ref a1, .ref a2]) ∧ M a = none) ∧ NL H M a1 bs1 ∧ NL H M a2 bs2
  | .u a ds q => v = .ref a ∧ (∃ vs, H a = some (.tup (vs ++ [.ref q])) ∧ M a = none ∧ FzA K H M vs ds) ∧ M q ≠ none ∧ ∃ xs, H q = some (.lst xs)
  | .x a C d fs => v = .ref a ∧ XoAt K H M a C d fs
  | .xl a es => v = .ref a ∧ (H a = some (.lst (es.map fun e => V.ref e.1)) ∧ M a = none) ∧ ∀ e ∈ es, XoAt K H M e.1 e.2.1 e.2.2.1 e.2.2.2
theorem RV.ext {K : PySem.W.Frag} {H H' : Hp} {M M' : Mem} (e : Ext H M H' M') {v : V} : ∀ {x : DV}, RV K H M v x → RV K H' M' v x
  | .d _, h => Fz.ext e h
  | .m _, h => ⟨h.1, e.dom _ h.2.1, let ⟨xs, q⟩ := h.2.2; e.lst _ xs q⟩
  | .k _, h => ⟨h.1, e.dom _ h.2.1, let ⟨xs, q⟩ := h.2.2; e.dct _ xs q⟩
  | .e .., h => ⟨h.1, h.2.ext e⟩
  | .s .., h => ⟨h.1, h.2.ext e⟩
  | .f _, h => h
  | .n .., h => ⟨h.1, h.2.ext e⟩
  | .p .., h => ⟨h.1, ⟨e.keep _ _ h.2.1.1 h.2.1.2, e.good _ (by rw [h.2.1.1]; simp) h.2.1.2⟩, h.2.2.1.ext e, h.2.2.2.ext e⟩
  | .u .., h => ⟨h.1, let ⟨vs, h1, h2, h3⟩ := h.2.1; ⟨vs, e.keep _ _ h1 h2, e.good _ (by rw [h1]; simp) h2, h3.ext e⟩, e.dom _ h.2.2.1, let ⟨xs, q⟩ := h.2.2.2; e.lst _ xs q⟩
  | .x .., h => ⟨h.1, h.2.ext e⟩
  | .xl .., h => ⟨h.1, ⟨e.keep _ _ h.2.1.1 h.2.1.2, e.good _ (by rw [h.2.1.1]; simp) h.2.1.2⟩, fun z hz => (h.2.2 z hz).ext e⟩

inductive RVs (K : PySem.W.Frag) (H : Hp) (M : Mem) : List V → List DV → Prop
  | nil : RVs K H M [] []
  | cons {v : V} {vs : List V} {x : DV} {xs : List DV} : RV K H M v x → RVs K H M vs xs → RVs K H M (v :: vs) (x :: xs)
theorem RVs.ext {K : PySem.W.Frag} {H H' : Hp} {M M' : Mem} (e : Ext H M H' M') : ∀ {vs : List V} {xs : List DV}, RVs K H M vs xs → RVs K H' M' vs xs
  | _, _, .nil => .nil
  | _, _, .cons h r => .cons (h.ext e) (RVs.ext e r)
theorem RVs.length {K : PySem.W.Frag} {H : Hp} {M : Mem} : ∀ {vs : List V} {xs : List DV}, RVs K H M vs xs → vs.length = xs.length
  | _, _, .nil => rfl
  | _, _, .cons _ r => by simp [RVs.length r]

/-- all of them data -/
def allD : List DV → Option (List PyData)
  | [] => some []
  | .d x :: r => (allD r).map (x :: ·)
  | _ :: _ => none
theorem RVs.allD {K : PySem.W.Frag} {H : Hp} {M : Mem} : ∀ {vs : List V} {xs : List DV} {ds : List PyData}, RVs K H M vs xs → HD.allD xs = some ds → FzA K H M vs ds
  | _, _, _, .nil, h => by cases h; exact .nil
  | _, .d x :: r, ds, .cons h t, e => by
    simp only [HD.allD, Option.map_eq_some_iff] at e
    obtain ⟨es, e1, rfl⟩ := e
    exact .cons h (RVs.allD t e1)
  | _, .m _ :: _, _, .cons _ _, e => by cases e
  | _, .k _ :: _, _, .cons _ _, e => by cases e
  | _, .e .. :: _, _, .cons _ _, e => by cases e
  | _, .s .. :: _, _, .cons _ _, e => by cases e

/-- a dict's keys (ints) and values; in the memory it stands as one dict's data -/
def DicD (K : PySem.W.Frag) (H : Hp) (M : Mem) (kvs : List (Key × V)) (ds : List PyData) : Prop :=
  ∃ (ks : List Int) (vs : List V) (es : List PyData), kvs = (ks.map Sum.inl).zip vs ∧ ks.length = vs.length ∧ FzA K H M vs es ∧ ds = [.dict ((ks.map PyData.int).zip es)]
theorem DicD.ext {K : PySem.W.Frag} {H H' : Hp} {M M' : Mem} {kvs : List (Key × V)} {ds : List PyData} (e : Ext H M H' M') : DicD K H M kvs ds → DicD K H' M' kvs ds :=
  fun ⟨ks, vs, es, h1, h2, h3, h4⟩ => ⟨ks, vs, es, h1, h2, h3.ext e, h4⟩
def MemOk (K : PySem.W.Frag) (H : Hp) (M : Mem) : Prop := ∀ a ds, M a = some ds → (∃ xs, H a = some (.lst xs) ∧ FzA K H M xs ds) ∨ ∃ kvs, H a = some (.dK kvs) ∧ DicD K H M kvs ds
theorem MemOk.lst {K : PySem.W.Frag} {H : Hp} {M : Mem} {a : Addr} {ds : List PyData} (o : MemOk K H M) (h : M a = some ds) (hl : ∃ xs, H a = some (.lst xs)) : ∃ xs, H a = some (.lst xs) ∧ FzA K H M xs ds := by
  rcases o a ds h with q | ⟨kvs, q, _⟩
  · exact q
  · obtain ⟨xs, z⟩ := hl; rw [q] at z; cases z
theorem MemOk.dct {K : PySem.W.Frag} {H : Hp} {M : Mem} {a : Addr} {ds : List PyData} (o : MemOk K H M) (h : M a = some ds) (hl : ∃ kvs, H a = some (.dK kvs)) : ∃ kvs, H a = some (.dK kvs) ∧ DicD K H M kvs ds := by
  rcases o a ds h with ⟨xs, q, _⟩ | q
  · obtain ⟨xs, z⟩ := hl; rw [q] at z; cases z
  · exact q
theorem MemOk.out {K : PySem.W.Frag} {H : Hp} {M : Mem} {a : Addr} (o : MemOk K H M) (h : H a = none) : M a = none := by
  cases q : M a with
  | none => rfl
  | some ds => rcases o a ds q with ⟨xs, h1, _⟩ | ⟨xs, h1, _⟩ <;> (rw [h] at h1; cases h1)

/-- a new object that is data -/
theorem Ext.new {H : Hp} {M : Mem} {p : Addr} {o : HO} (hp : H p = none) : Ext H M (upd H p o) M :=
  ⟨fun a u h _ => by rw [upd_ne (ne_of_none h hp)]; exact h, fun _ _ h => h, fun _ h => h, fun a xs h => ⟨xs, by rw [upd_ne (ne_of_none h hp)]; exact h⟩, fun a xs h => ⟨xs, by rw [upd_ne (ne_of_none h hp)]; exact h⟩⟩
theorem MemOk.new {K : PySem.W.Frag} {H : Hp} {M : Mem} {p : Addr} {o : HO} (k : MemOk K H M) (hp : H p = none) : MemOk K (upd H p o) M := fun a ds h => by
  rcases k a ds h with ⟨xs, h1, h2⟩ | ⟨xs, h1, h2⟩
  · exact .inl ⟨xs, by rw [upd_ne (ne_of_none h1 hp)]; exact h1, h2.ext (Ext.new hp)⟩
  · exact .inr ⟨xs, by rw [upd_ne (ne_of_none h1 hp)]; exact h1, h2.ext (Ext.new hp)⟩
/-- a new object that is going to be written -/
theorem Ext.newM {H : Hp} {M : Mem} {p : Addr} {o : HO} {ds : List PyData} (hp : H p = none) : Ext H M (upd H p o) (updM M p ds) :=
  ⟨fun a u h _ => by rw [upd_ne (ne_of_none h hp)]; exact h,
   fun a h m => by
     have : a ≠ p := fun q => by subst q; exact h hp
     rw [updM_ne this]; exact m,
   fun a h => by by_cases q : a = p
                 · subst q; rw [updM_same]; simp
                 · rw [updM_ne q]; exact h, fun a xs h => ⟨xs, by rw [upd_ne (ne_of_none h hp)]; exact h⟩, fun a xs h => ⟨xs, by rw [upd_ne (ne_of_none h hp)]; exact h⟩⟩
theorem MemOk.newM {K : PySem.W.Frag} {H : Hp} {M : Mem} {p : Addr} {xs : List V} {ds : List PyData} (k : MemOk K H M) (hp : H p = none) (h : FzA K H M xs ds) : MemOk K (upd H p (.lst xs)) (updM M p ds) := fun a es q => by
  by_cases e : a = p
  · subst e
    rw [updM_same] at q; cases q
    exact .inl ⟨xs, upd_same, h.ext (Ext.newM hp)⟩
  · rw [updM_ne e] at q
    rcases k a es q with ⟨ys, h1, h2⟩ | ⟨ys, h1, h2⟩
    · exact .inl ⟨ys, by rw [upd_ne e]; exact h1, h2.ext (Ext.newM hp)⟩
    · exact .inr ⟨ys, by rw [upd_ne e]; exact h1, h2.ext (Ext.newM hp)⟩
theorem MemOk.newK {K : PySem.W.Frag} {H : Hp} {M : Mem} {p : Addr} {kvs : List (Key × V)} {ds : List PyData} (k : MemOk K H M) (hp : H p = none) (h : DicD K H M kvs ds) : MemOk K (upd H p (.dK kvs)) (updM M p ds) := fun a es q => by
  by_cases e : a = p
  · subst e
    rw [updM_same] at q; cases q
    exact .inr ⟨kvs, upd_same, h.ext (Ext.newM hp)⟩
  · rw [updM_ne e] at q
    rcases k a es q with ⟨ys, h1, h2⟩ | ⟨ys, h1, h2⟩
    · exact .inl ⟨ys, by rw [upd_ne e]; exact h1, h2.ext (Ext.newM hp)⟩
    · exact .inr ⟨ys, by rw [upd_ne e]; exact h1, h2.ext (Ext.newM hp)⟩
/-- what is written is of its kind -/
def SameKind (H : Hp) (p : Addr) (o : HO) : Prop := (∀ xs, H p = some (.lst xs) → ∃ ys, o = .lst ys) ∧ ∀ kvs, H p = some (.dK kvs) → ∃ ks, o = .dK ks
theorem SameKind.lst {H : Hp} {p : Addr} {xs ys : List V} (h : H p = some (.lst xs)) : SameKind H p (.lst ys) := ⟨fun _ _ => ⟨_, rfl⟩, fun _ z => by rw [h] at z; cases z⟩
theorem SameKind.dct {H : Hp} {p : Addr} {xs ys : List (Key × V)} (h : H p = some (.dK xs)) : SameKind H p (.dK ys) := ⟨fun _ z => (by rw [h] at z; cases z), fun _ _ => ⟨_, rfl⟩⟩
/-- a list or a dict is written -/
theorem Ext.put {H : Hp} {M : Mem} {p : Addr} {o : HO} {ds es : List PyData} (hp : M p = some ds) (hk : SameKind H p o) : Ext H M (upd H p o) (updM M p es) :=
  ⟨fun a u h m => by
     have : a ≠ p := fun q => by subst q; rw [hp] at m; cases m
     rw [upd_ne this]; exact h,
   fun a h m => by
     have : a ≠ p := fun q => by subst q; rw [hp] at m; cases m
     rw [updM_ne this]; exact m,
   fun a h => by by_cases q : a = p
                 · subst q; rw [updM_same]; simp
                 · rw [updM_ne q]; exact h,
   fun a xs h => by by_cases q : a = p
                    · subst q; obtain ⟨ys, rfl⟩ := hk.1 xs h; exact ⟨ys, upd_same⟩
                    · exact ⟨xs, by rw [upd_ne q]; exact h⟩,
   fun a xs h => by by_cases q : a = p
                    · subst q; obtain ⟨ys, rfl⟩ := hk.2 xs h; exact ⟨ys, upd_same⟩
                    · exact ⟨xs, by rw [upd_ne q]; exact h⟩⟩
theorem Ext.write {H : Hp} {M : Mem} {p : Addr} {xs ys : List V} {ds es : List PyData} (hp : M p = some ds) (hl : H p = some (.lst xs)) : Ext H M (upd H p (.lst ys)) (updM M p es) := Ext.put hp (.lst hl)
theorem MemOk.write {K : PySem.W.Frag} {H : Hp} {M : Mem} {p : Addr} {xs xs0 : List V} {ds es : List PyData} (k : MemOk K H M) (hp : M p = some ds) (hl : H p = some (.lst xs0)) (h : FzA K H M xs es) : MemOk K (upd H p (.lst xs)) (updM M p es) := fun a fs q => by
  by_cases e : a = p
  · subst e
    rw [updM_same] at q; cases q
    exact .inl ⟨xs, upd_same, h.ext (Ext.write hp hl)⟩
  · rw [updM_ne e] at q
    rcases k a fs q with ⟨ys, h1, h2⟩ | ⟨ys, h1, h2⟩
    · exact .inl ⟨ys, by rw [upd_ne e]; exact h1, h2.ext (Ext.write hp hl)⟩
    · exact .inr ⟨ys, by rw [upd_ne e]; exact h1, h2.ext (Ext.write hp hl)⟩
theorem MemOk.writeK {K : PySem.W.Frag} {H : Hp} {M : Mem} {p : Addr} {xs xs0 : List (Key × V)} {ds es : List PyData} (k : MemOk K H M) (hp : M p = some ds) (hl : H p = some (.dK xs0)) (h : DicD K H M xs es) : MemOk K (upd H p (.dK xs)) (updM M p es) := fun a fs q => by
  by_cases e : a = p
  · subst e
    rw [updM_same] at q; cases q
    exact .inr ⟨xs, upd_same, h.ext (Ext.put hp (.dct hl))⟩
  · rw [updM_ne e] at q
    rcases k a fs q with ⟨ys, h1, h2⟩ | ⟨ys, h1, h2⟩
    · exact .inl ⟨ys, by rw [upd_ne e]; exact h1, h2.ext (Ext.put hp (.dct hl))⟩
    · exact .inr ⟨ys, by rw [upd_ne e]; exact h1, h2.ext (Ext.put hp (.dct hl))⟩

/-! ### readings -/
abbrev DEnv := List (Option DV)
abbrev DK := DV → Mem → Prop
/-- what is wanted of an error: its class, its fields, the names as they stand, the memory -/
abbrev DX := Value → List (Str × PyData) → DEnv → Mem → Prop
abbrev DE := DX → DEnv → Mem → DK → Prop
abbrev DT := DX → DEnv → Mem → (Bool → Mem → Prop) → Prop
abbrev DA := DX → DEnv → Mem → (List DV → Mem → Prop) → Prop

structure Rel (K : PySem.W.Frag) (σ : L2.St) (H : Hp) (ρ : DEnv) (M : Mem) : Prop where
  mem : MemOk K H M
  len : σ.length = ρ.length
  env : ∀ (i : Nat) x, ρ[i]? = some (some x) → ∃ v, σ[i]? = some (some v) ∧ RV K H M v x
theorem Rel.ext {K : PySem.W.Frag} {σ : L2.St} {H H' : Hp} {ρ : DEnv} {M M' : Mem} (r : Rel K σ H ρ M) (e : Ext H M H' M') (k : MemOk K H' M') : Rel K σ H' ρ M' :=
  ⟨k, r.len, fun i x h => let ⟨v, h1, h2⟩ := r.env i x h; ⟨v, h1, h2.ext e⟩⟩

def XRel (K : PySem.W.Frag) (W : WX) (σ : L2.St) (H : Hp) (ρ : DEnv) (M : Mem) (Xd : DX) : Prop :=
  ∀ cls fs d H' M', Ext H M H' M' → MemOk K H' M' → ExcAt K H' M' d fs → Xd cls fs ρ M' → W cls d σ H'
theorem XRel.at {K : PySem.W.Frag} {W : WX} {σ : L2.St} {H H1 : Hp} {ρ : DEnv} {M M1 : Mem} {Xd : DX} (x : XRel K W σ H ρ M Xd) (e : Ext H M H1 M1) : XRel K W σ H1 ρ M1 Xd :=
  fun cls fs d H' M' e' k a h => x cls fs d H' M' (e.trans e') k a h

def emb (K : PySem.W.Frag) (W : WX) (f : DE) : TE := fun σ H Q => ∃ ρ M Xd, Rel K σ H ρ M ∧ XRel K W σ H ρ M Xd ∧
  f Xd ρ M fun x M' => ∀ v H', Ext H M H' M' → MemOk K H' M' → RV K H' M' v x → Q v H'
def embT (K : PySem.W.Frag) (W : WX) (f : DT) : TT := fun σ H Q => ∃ ρ M Xd, Rel K σ H ρ M ∧ XRel K W σ H ρ M Xd ∧
  f Xd ρ M fun b M' => ∀ H', Ext H M H' M' → MemOk K H' M' → Q b H'
def embA (K : PySem.W.Frag) (W : WX) (f : DA) : TA := fun σ H Q => ∃ ρ M Xd, Rel K σ H ρ M ∧ XRel K W σ H ρ M Xd ∧
  f Xd ρ M fun xs M' => ∀ vs H', Ext H M H' M' → MemOk K H' M' → RVs K H' M' vs xs → Q vs H'

structure CE (X : Cx) (W : WX) (e : Expr) (f : DE) : Prop where
  pe : PE X e (emb X.K W f)
  mono : ∀ Xd ρ M Q Q', (∀ x M', Q x M' → Q' x M') → f Xd ρ M Q → f Xd ρ M Q'
structure CT (X : Cx) (W : WX) (e : Expr) (f : DT) : Prop where
  pt : PT X e (embT X.K W f)
  mono : ∀ Xd ρ M Q Q', (∀ x M', Q x M' → Q' x M') → f Xd ρ M Q → f Xd ρ M Q'
structure CA (X : Cx) (W : WX) (es : List Expr) (f : DA) : Prop where
  pa : PA X es (embA X.K W f)
  mono : ∀ Xd ρ M Q Q', (∀ x M', Q x M' → Q' x M') → f Xd ρ M Q → f Xd ρ M Q'

section
variable {X : Cx} {W : WX} {e a b c : Expr} {es : List Expr} {t : TE} {f fa fb fc : DE} {pos : Pos}
theorem PE.weak {t t' : TE} (h : PE X e t) (w : ∀ σ H Q, t' σ H Q → t σ H Q) : PE X e t' := ⟨fun pins s σ H Q I q => h.run pins s σ H Q I (w σ H Q q)⟩
theorem PT.weak {t t' : TT} (h : PT X e t) (w : ∀ σ H Q, t' σ H Q → t σ H Q) : PT X e t' := ⟨fun pins s σ H Q I q => h.run pins s σ H Q I (w σ H Q q)⟩
theorem PA.weak {t t' : TA} (h : PA X es t) (w : ∀ σ H Q, t' σ H Q → t σ H Q) : PA X es t' := ⟨fun ps pins s σ H Q I q => h.run ps pins s σ H Q I (w σ H Q q)⟩

/-- after one piece, the next from what stands then -/
theorem emb.next {K : PySem.W.Frag} {W : WX} {σ : L2.St} {H : Hp} {ρ : DEnv} {M : Mem} {Xd : DX} {f : DE} {Q : DK} {P : VK} (r : Rel K σ H ρ M) (x : XRel K W σ H ρ M Xd) (m : ∀ Xd ρ M Q Q', (∀ x M', Q x M' → Q' x M') → f Xd ρ M Q → f Xd ρ M Q')
    (h : f Xd ρ M Q) (k : ∀ x M' v H', Ext H M H' M' → Rel K σ H' ρ M' → XRel K W σ H' ρ M' Xd → RV K H' M' v x → Q x M' → P v H') : emb K W f σ H P :=
  ⟨ρ, M, Xd, r, x, m _ _ _ _ _ (fun y M' q v H' e o rv => k y M' v H' e (r.ext e o) (x.at e) rv q) h⟩
theorem embT.next {K : PySem.W.Frag} {W : WX} {σ : L2.St} {H : Hp} {ρ : DEnv} {M : Mem} {Xd : DX} {f : DT} {Q : Bool → Mem → Prop} {P : Bool → Hp → Prop} (r : Rel K σ H ρ M) (x : XRel K W σ H ρ M Xd) (m : ∀ Xd ρ M Q Q', (∀ x M', Q x M' → Q' x M') → f Xd ρ M Q → f Xd ρ M Q')
    (h : f Xd ρ M Q) (k : ∀ b M' H', Ext H M H' M' → Rel K σ H' ρ M' → XRel K W σ H' ρ M' Xd → Q b M' → P b H') : embT K W f σ H P :=
  ⟨ρ, M, Xd, r, x, m _ _ _ _ _ (fun y M' q H' e o => k y M' H' e (r.ext e o) (x.at e) q) h⟩
theorem embA.next {K : PySem.W.Frag} {W : WX} {σ : L2.St} {H : Hp} {ρ : DEnv} {M : Mem} {Xd : DX} {f : DA} {Q : List DV → Mem → Prop} {P : List V → Hp → Prop} (r : Rel K σ H ρ M) (x : XRel K W σ H ρ M Xd) (m : ∀ Xd ρ M Q Q', (∀ x M', Q x M' → Q' x M') → f Xd ρ M Q → f Xd ρ M Q')
    (h : f Xd ρ M Q) (k : ∀ xs M' vs H', Ext H M H' M' → Rel K σ H' ρ M' → XRel K W σ H' ρ M' Xd → RVs K H' M' vs xs → Q xs M' → P vs H') : embA K W f σ H P :=
  ⟨ρ, M, Xd, r, x, m _ _ _ _ _ (fun y M' q v H' e o rv => k y M' v H' e (r.ext e o) (x.at e) rv q) h⟩

/-! names, constants -/
def dVar (i : Nat) : DE := fun _ ρ M Q => match ρ[i]? with | some (some x) => Q x M | _ => False
theorem ce_var {i : Nat} {x : Str} {pos : Pos} (hN : X.N[i]? = some x) (hv : Vis X.env.scope x) (hd : (x == ("__debug__" : Str)) = false := by decide) (hcd : (x == ("__classdict__" : Str)) = false := by decide) : CE X W (.Name x pos) (dVar i) where
  pe := PE.weak (pe_var hN hv hd hcd) fun σ H Q ⟨ρ, M, Xd, r, x, h⟩ => by
    unfold dVar at h
    split at h
    · rename_i x e
      obtain ⟨v, h1, h2⟩ := r.env i x e
      exact ⟨v, h1, h v H Ext.refl r.mem h2⟩
    · exact h.elim
  mono := fun Xd ρ M Q Q' hq h => by
    unfold dVar at h ⊢
    split at h
    · exact hq _ _ h
    · exact h.elim
def dC (x : PyData) : DE := fun _ _ M Q => Q (.d x) M
theorem dC.pe {v : V} {x : PyData} {e : Expr} (h : PE X e (tC v)) (hv : ∀ K H M, Fz K H M v x) : CE X W e (dC x) where
  pe := PE.weak h fun σ H Q ⟨ρ, M, Xd, r, _, h⟩ => h v H Ext.refl r.mem (hv _ _ _)
  mono := fun _ _ _ _ _ hq h => hq _ _ h
theorem ce_int {i j pos} : CE X W (.Constant (.int i) j pos) (dC (.int i)) := dC.pe pe_int fun _ _ _ => .int i
theorem ce_bl {i j pos} : CE X W (.Constant (.bool i) j pos) (dC (.bool i)) := dC.pe pe_bl fun _ _ _ => .bl i
theorem ce_non {j pos} : CE X W (.Constant .none j pos) (dC .none) := dC.pe pe_non fun _ _ _ => .non
theorem ce_str {i j pos} : CE X W (.Constant (.str i) j pos) (dC (.str i)) := dC.pe pe_str fun _ _ _ => .str i

/-! argument lists -/
def dNil : DA := fun _ _ M Q => Q [] M
def dCons (f : DE) (g : DA) : DA := fun Xd ρ M Q => f Xd ρ M fun x M1 => g Xd ρ M1 fun xs M2 => Q (x :: xs) M2
theorem ca_nil : CA X W [] dNil where
  pa := PA.weak pa_nil fun σ H Q ⟨ρ, M, Xd, r, _, h⟩ => h [] H Ext.refl r.mem .nil
  mono := fun _ _ _ _ _ hq h => hq _ _ h
theorem ca_cons {g : DA} (ha : CE X W e f) (hr : CA X W es g) (hs : starEach (e :: es) X.env = (false, eval e X.env) :: starEach es X.env := by rfl) : CA X W (e :: es) (dCons f g) where
  pa := PA.weak (pa_cons ha.pe hr.pa hs) fun σ H Q ⟨ρ, M, Xd, r, x, h⟩ => by
    refine emb.next r x ha.mono h fun y M1 v H1 e1 r1 x1 rv h1 => ?_
    refine embA.next r1 x1 hr.mono h1 fun ys M2 vs H2 e2 r2 _ rvs h2 => ?_
    exact h2 (v :: vs) H2 (e1.trans e2) r2.mem (.cons (rv.ext e2) rvs)
  mono := fun Xd ρ M Q Q' hq h => ha.mono _ _ _ _ _ (fun y M1 h1 => hr.mono _ _ _ _ _ (fun ys M2 h2 => hq _ _ h2) h1) h
end
end HD

namespace HD
open PySem PySem.Spec PyProof.Rows L2

/-! ### how a value is seen -/
def vw (M : Mem) : DV → Option PyData
  | .d x => some x
  | .m a => (M a).map .list
  | .k .. => none
  | .e .. => none
  | .s .. => none
  | .f _ => none
  | .n .. => none
  | .p .. => none
  | .u .. => none
  | .x .. => none
  | .xl .. => none
section
variable {K : PySem.W.Frag} {H : Hp} {M : Mem} {v : V} {x : DV}
theorem vw_int {i : Int} (r : RV K H M v x) (h : vw M x = some (.int i)) : v = .int i := by
  cases x with
  | d y => cases h; cases r; rfl
  | m a => simp only [vw, Option.map_eq_some_iff] at h; obtain ⟨_, _, q⟩ := h; cases q
  | k => cases h
  | e => cases h
  | s => cases h
  | f => cases h
  | n => cases h
  | p => cases h
  | u => cases h
  | x => cases h
  | xl => cases h
theorem vw_bool {i : Bool} (r : RV K H M v x) (h : vw M x = some (.bool i)) : v = .bl i := by
  cases x with
  | d y => cases h; cases r; rfl
  | m a => simp only [vw, Option.map_eq_some_iff] at h; obtain ⟨_, _, q⟩ := h; cases q
  | k => cases h
  | e => cases h
  | s => cases h
  | f => cases h
  | n => cases h
  | p => cases h
  | u => cases h
  | x => cases h
  | xl => cases h
theorem vw_none (r : RV K H M v x) (h : vw M x = some .none) : v = .non := by
  cases x with
  | d y => cases h; cases r; rfl
  | m a => simp only [vw, Option.map_eq_some_iff] at h; obtain ⟨_, _, q⟩ := h; cases q
  | k => cases h
  | e => cases h
  | s => cases h
  | f => cases h
  | n => cases h
  | p => cases h
  | u => cases h
  | x => cases h
  | xl => cases h
theorem vw_str {i : Str} (r : RV K H M v x) (h : vw M x = some (.str i)) : v = .str i := by
  cases x with
  | d y => cases h; cases r; rfl
  | m a => simp only [vw, Option.map_eq_some_iff] at h; obtain ⟨_, _, q⟩ := h; cases q
  | k => cases h
  | e => cases h
  | s => cases h
  | f => cases h
  | n => cases h
  | p => cases h
  | u => cases h
  | x => cases h
  | xl => cases h
theorem vw_tup {ds : List PyData} (r : RV K H M v x) (h : vw M x = some (.tuple ds)) : ∃ a xs, v = .ref a ∧ StT K H M a xs ∧ FzA K H M xs ds := by
  cases x with
  | d y => cases h; cases r with | tup h1 h2 => exact ⟨_, _, rfl, h1, h2⟩
  | m a => simp only [vw, Option.map_eq_some_iff] at h; obtain ⟨_, _, q⟩ := h; cases q
  | k => cases h
  | e => cases h
  | s => cases h
  | f => cases h
  | n => cases h
  | p => cases h
  | u => cases h
  | x => cases h
  | xl => cases h
theorem vw_lst {ds : List PyData} (o : MemOk K H M) (r : RV K H M v x) (h : vw M x = some (.list ds)) : ∃ a xs, v = .ref a ∧ H a = some (.lst xs) ∧ FzA K H M xs ds := by
  cases x with
  | d y => cases h; cases r with | lst h1 _ h2 => exact ⟨_, _, rfl, h1, h2⟩
  | m a =>
    simp only [vw, Option.map_eq_some_iff] at h
    obtain ⟨es, e1, q⟩ := h
    cases q
    obtain ⟨rfl, _, hl⟩ := r
    obtain ⟨xs, h1, h2⟩ := o.lst e1 hl
    exact ⟨a, xs, rfl, h1, h2⟩
  | k => cases h
  | e => cases h
  | s => cases h
  | f => cases h
  | n => cases h
  | p => cases h
  | u => cases h
  | x => cases h
  | xl => cases h
theorem vw_dic {kvs} (r : RV K H M v x) (h : vw M x = some (.dict kvs)) : ∃ a, v = .ref a ∧ kvs = [] ∧ H a = some (.dK []) ∧ M a = none := by
  cases x with
  | d y => cases h; cases r with | dic h1 h2 => exact ⟨_, rfl, rfl, h1, h2⟩
  | m a => simp only [vw, Option.map_eq_some_iff] at h; obtain ⟨_, _, q⟩ := h; cases q
  | k => cases h
  | e => cases h
  | s => cases h
  | f => cases h
  | n => cases h
  | p => cases h
  | u => cases h
  | x => cases h
  | xl => cases h
end

/-! ### the data as the library reads it -/
section
variable {X : Cx} {pins : List (Addr × Obj)} {σ : L2.St} {H : Hp} {M : Mem} {s : Shared}
theorem not_sys (hs : ∃ o, X.base.get? sysModules = some o) (I : Inv X pins σ H s) {a : Addr} (h : H a ≠ none) : a ≠ sysModules := by
  obtain ⟨o, e⟩ := hs
  intro q
  subst q
  exact h (I.bs _ o e).2
mutual
theorem Fz.reads (I : Inv X pins σ H s) : ∀ {d : PyData} {v : V} {u : Value}, Fz X.K H M v d → RelV v u → ∃ as, Reads s.heap u d as ∧ ∀ b ∈ as, H b ≠ none
  | _, _, _, .non, r => by cases r; exact ⟨_, .none, by simp⟩
  | _, _, _, .bl b, r => by cases r; exact ⟨_, .bool b, by simp⟩
  | _, _, _, .int i, r => by obtain ⟨t, rfl⟩ := r; exact ⟨_, .int i t, by simp⟩
  | _, _, _, .str x, r => by obtain ⟨t, rfl⟩ := r; exact ⟨_, .str x t, by simp⟩
  | _, _, _, .lst h _ f, r => by
    cases r
    obtain ⟨its, rv, p, _⟩ := I.list (.of h)
    obtain ⟨as, ra, hn⟩ := FzA.reads I f rv
    obtain ⟨o, n, e, c, dd, hd⟩ := p
    refine ⟨_, .list e c hd (by simpa using ra), fun b hb => ?_⟩
    rcases List.mem_cons.mp hb with z | z
    · rw [z, h]; simp
    · exact hn b z
  | _, _, _, .tup h f, r => by
    cases r
    obtain ⟨its, rv, p, _⟩ := I.tuple h.sq
    obtain ⟨as, ra, hn⟩ := FzA.reads I f rv
    obtain ⟨o, e, c, n, hd⟩ := p
    exact ⟨_, .tuple e c hd (by simpa using ra), hn⟩
  | _, _, _, .dic h m, r => by
    cases r
    obtain ⟨_, _, vs, kv, o, es, ep, e, ex, hd, q⟩ := I.hok _ _ h
    cases kv
    have hz : es.toList = [] := by
      have q1 := q.2.1
      generalize es.toList = l at q1 ⊢
      cases l with
      | nil => rfl
      | cons a r => first | cases q1 | exact absurd q1 (by simp)
    exact ⟨_, .dict (as := []) (bs := []) e ex.1 hd (by rw [hz]; exact .nil) (by rw [hz]; exact .nil), fun b hb => by
      simp only [List.append_nil, List.mem_singleton] at hb
      rw [hb, h]; simp⟩
theorem FzA.reads (I : Inv X pins σ H s) : ∀ {ds : List PyData} {vs : List V} {us : List Value}, FzA X.K H M vs ds → Vals vs us → ∃ as, ReadsAll s.heap us ds as ∧ ∀ b ∈ as, H b ≠ none
  | _, _, _, .nil, .nil => ⟨_, .nil, by simp⟩
  | _, _, _, .cons h t, .cons r rs => by
    obtain ⟨as, q1, n1⟩ := Fz.reads I h r
    obtain ⟨bs, q2, n2⟩ := FzA.reads I t rs
    exact ⟨_, .cons q1 q2, fun b hb => (List.mem_append.mp hb).elim (n1 b) (n2 b)⟩
end
theorem vw.reads {v : V} {u : Value} {x : DV} {d : PyData} (I : Inv X pins σ H s) (o : MemOk X.K H M) (r : RV X.K H M v x) (h : vw M x = some d) (rv : RelV v u) : ∃ as, Reads s.heap u d as ∧ ∀ b ∈ as, H b ≠ none := by
  cases x with
  | d y => cases h; exact Fz.reads I r rv
  | m a =>
    simp only [vw, Option.map_eq_some_iff] at h
    obtain ⟨es, e1, q⟩ := h
    cases q
    obtain ⟨rfl, _, hl⟩ := r
    obtain ⟨xs, h1, h2⟩ := o.lst e1 hl
    cases rv
    obtain ⟨its, rv, p, _⟩ := I.list (.of h1)
    obtain ⟨as, ra, hn⟩ := FzA.reads I h2 rv
    obtain ⟨o, n, e, c, dd, hd⟩ := p
    refine ⟨_, .list e c hd (by simpa using ra), fun b hb => ?_⟩
    rcases List.mem_cons.mp hb with z | z
    · rw [z, h1]; simp
    · exact hn b z
  | k => cases h
  | e => cases h
  | s => cases h
  | f => cases h
  | n => cases h
  | p => cases h
  | u => cases h
  | x => cases h
  | xl => cases h
end

/-! ### operations by values -/
def fin (K : PySem.W.Frag) (H : Hp) (M : Mem) (Q : VK) : DK := fun z M' => ∀ v H', Ext H M H' M' → MemOk K H' M' → RV K H' M' v z → Q v H'
abbrev D2 := DV → DV → Mem → DK → Prop
abbrev D1 := DV → Mem → DK → Prop
structure OpD (X : Cx) (f : Value → Value → Sem Value) (g : D2) : Prop where
  op : OpR X f fun x y H Q => ∃ M dx dy, MemOk X.K H M ∧ RV X.K H M x dx ∧ RV X.K H M y dy ∧ g dx dy M (fin X.K H M Q)
  mono : ∀ x y M Q Q', (∀ z M', Q z M' → Q' z M') → g x y M Q → g x y M Q'
structure UnD (X : Cx) (f : Value → Sem Value) (g : D1) : Prop where
  op : UnR X f fun x H Q => ∃ M dx, MemOk X.K H M ∧ RV X.K H M x dx ∧ g dx M (fin X.K H M Q)
  mono : ∀ x M Q Q', (∀ z M', Q z M' → Q' z M') → g x M Q → g x M Q'
abbrev DF := List DV → Mem → DK → Prop
structure CallD (X : Cx) (f : Value) (g : DF) : Prop where
  op : CallR X f fun xs H Q => ∃ M dxs, MemOk X.K H M ∧ RVs X.K H M xs dxs ∧ g dxs M (fin X.K H M Q)
  mono : ∀ x M Q Q', (∀ z M', Q z M' → Q' z M') → g x M Q → g x M Q'

theorem OpR.weak {X : Cx} {f : Value → Value → Sem Value} {r r' : R2} (h : OpR X f r) (w : ∀ x y H Q, r' x y H Q → r x y H Q) : OpR X f r' :=
  fun pins s σ H x y v u Q I rx ry q => h pins s σ H x y v u Q I rx ry (w _ _ _ _ q)
theorem OpR.orr {X : Cx} {f : Value → Value → Sem Value} {r r' : R2} (h : OpR X f r) (h' : OpR X f r') : OpR X f fun x y H Q => r x y H Q ∨ r' x y H Q :=
  fun pins s σ H x y v u Q I rx ry q => q.elim (h pins s σ H x y v u Q I rx ry) (h' pins s σ H x y v u Q I rx ry)
theorem CallR.weak {X : Cx} {f : Value} {r r' : List V → Hp → VK → Prop} (h : CallR X f r) (w : ∀ x H Q, r' x H Q → r x H Q) : CallR X f r' :=
  fun pins s σ H xs us Q I rx q => h pins s σ H xs us Q I rx (w _ _ _ q)
theorem CallR.orr {X : Cx} {f : Value} {r r' : List V → Hp → VK → Prop} (h : CallR X f r) (h' : CallR X f r') : CallR X f fun x H Q => r x H Q ∨ r' x H Q :=
  fun pins s σ H xs us Q I rx q => q.elim (h pins s σ H xs us Q I rx) (h' pins s σ H xs us Q I rx)

def dBin (g : D2) (fa fb : DE) : DE := fun Xd ρ M Q => fa Xd ρ M fun x M1 => fb Xd ρ M1 fun y M2 => g x y M2 Q
def dUn (g : D1) (fa : DE) : DE := fun Xd ρ M Q => fa Xd ρ M fun x M1 => g x M1 Q
def dFun (g : DF) (fa : DA) : DE := fun Xd ρ M Q => fa Xd ρ M fun xs M1 => g xs M1 Q

section
variable {X : Cx} {W : WX} {e a b c : Expr} {es : List Expr} {f fa fb fc : DE} {pos : Pos} {g g' : D2}
theorem bin_core (gm : ∀ x y M Q Q', (∀ z M', Q z M' → Q' z M') → g x y M Q → g x y M Q') (ha : CE X W a fa) (hb : CE X W b fb) {σ : L2.St} {H : Hp} {Q : VK} (h : emb X.K W (dBin g fa fb) σ H Q) :
    tOp (fun x y H Q => ∃ M dx dy, MemOk X.K H M ∧ RV X.K H M x dx ∧ RV X.K H M y dy ∧ g dx dy M (fin X.K H M Q)) (emb X.K W fa) (emb X.K W fb) σ H Q := by
  obtain ⟨ρ, M, Xd, r, x, h⟩ := h
  refine emb.next r x ha.mono h fun y M1 v H1 e1 r1 x1 rv h1 => ?_
  refine emb.next r1 x1 hb.mono h1 fun z M2 u H2 e2 r2 _ ru h2 => ?_
  exact ⟨M2, y, z, r2.mem, rv.ext e2, ru, gm _ _ _ _ _ (fun w M' q v' H' e3 o rw => q v' H' ((e1.trans e2).trans e3) o rw) h2⟩
theorem dBin.mono (gm : ∀ x y M Q Q', (∀ z M', Q z M' → Q' z M') → g x y M Q → g x y M Q') (ha : CE X W a fa) (hb : CE X W b fb) : ∀ Xd ρ M Q Q', (∀ x M', Q x M' → Q' x M') → dBin g fa fb Xd ρ M Q → dBin g fa fb Xd ρ M Q' :=
  fun Xd ρ M Q Q' hq h => ha.mono _ _ _ _ _ (fun _ _ h1 => hb.mono _ _ _ _ _ (fun _ _ h2 => gm _ _ _ _ _ hq h2) h1) h
theorem ce_bin {op : Operator} (o : OpD X (binaryOp op) g) (ha : CE X W a fa) (hb : CE X W b fb) : CE X W (.BinOp a op b pos) (dBin g fa fb) where
  pe := PE.weak (pe_op o.op ha.pe hb.pe) fun σ H Q h => bin_core o.mono ha hb h
  mono := dBin.mono o.mono ha hb
theorem ce_cmp {op : CmpOp} (o : OpD X (compareOp op) g) (ha : CE X W a fa) (hb : CE X W b fb) (hm : behindInMarks op b = false := by first | exact nomark _ | rfl) : CE X W (.Compare a [op] [b] pos) (dBin g fa fb) where
  pe := PE.weak (pe_cmpR o.op ha.pe hb.pe hm) fun σ H Q h => bin_core o.mono ha hb h
  mono := dBin.mono o.mono ha hb
theorem ce_ix (hr : IxR X fun x y H Q => ∃ M dx dy, MemOk X.K H M ∧ RV X.K H M x dx ∧ RV X.K H M y dy ∧ g dx dy M (fin X.K H M Q)) (gm : ∀ x y M Q Q', (∀ z M', Q z M' → Q' z M') → g x y M Q → g x y M Q')
    (ha : CE X W a fa) (hb : CE X W b fb) (hs : PlainIx b) : CE X W (.Subscript a b pos) (dBin g fa fb) where
  pe := PE.weak (pe_ix hr ha.pe hb.pe hs) fun σ H Q h => bin_core gm ha hb h
  mono := dBin.mono gm ha hb
theorem ce_un {op : UnaryOp} {g : D1} (o : UnD X (unaryOp op) g) (ha : CE X W a fa) : CE X W (.UnaryOp op a pos) (dUn g fa) where
  pe := PE.weak (pe_un o.op ha.pe) fun σ H Q h => by
    obtain ⟨ρ, M, Xd, r, x, h⟩ := h
    refine emb.next r x ha.mono h fun y M1 v H1 e1 r1 x1 rv h1 => ?_
    exact ⟨M1, y, r1.mem, rv, o.mono _ _ _ _ (fun w M' q v' H' e3 ok rw => q v' H' (e1.trans e3) ok rw) h1⟩
  mono := fun Xd ρ M Q Q' hq h => ha.mono _ _ _ _ _ (fun _ _ h1 => o.mono _ _ _ _ hq h1) h
def dNot (fa : DE) : DE := fun Xd ρ M Q => fa Xd ρ M fun x M1 => match x with | .d (.bool k) => Q (.d (.bool (!k))) M1 | _ => False
theorem ce_not (ha : CE X W a fa) : CE X W (.UnaryOp .Not a pos) (dNot fa) where
  pe := PE.weak (pe_not ha.pe) fun σ H Q h => by
    obtain ⟨ρ, M, Xd, r, x, h⟩ := h
    refine emb.next r x ha.mono h fun y M1 v H1 e1 r1 x1 rv h1 => ?_
    split at h1
    · cases rv; exact ⟨_, rfl, h1 _ _ e1 r1.mem (.bl _)⟩
    · exact h1.elim
  mono := fun Xd ρ M Q Q' hq h => ha.mono _ _ _ _ _ (fun x _ h1 => by
    split at h1
    · exact hq _ _ h1
    · exact h1.elim) h

def dChain (g g' : D2) (fa fb fc : DE) : DE := fun Xd ρ M Q => fa Xd ρ M fun x M1 => fb Xd ρ M1 fun y M2 => g x y M2 fun z M3 => match z with
  | .d (.bool true) => fc Xd ρ M3 fun w M4 => g' y w M4 Q
  | .d (.bool false) => Q (.d (.bool false)) M3
  | _ => False
theorem ce_chain {op op' : CmpOp} (o : OpD X (compareOp op) g) (o' : OpD X (compareOp op') g') (ha : CE X W a fa) (hb : CE X W b fb) (hc : CE X W c fc)
    (hm : lastMarks [op, op'] [b, c] = false := by with_unfolding_all rfl) : CE X W (.Compare a [op, op'] [b, c] pos) (dChain g g' fa fb fc) where
  pe := PE.weak (pe_chain o.op o'.op ha.pe hb.pe hc.pe hm) fun σ H Q h => by
    obtain ⟨ρ, M, Xd, r, x, h⟩ := h
    refine emb.next r x ha.mono h fun y M1 v H1 e1 r1 x1 rv h1 => ?_
    refine emb.next r1 x1 hb.mono h1 fun z M2 u H2 e2 r2 x2 ru h2 => ?_
    refine ⟨M2, y, z, r2.mem, rv.ext e2, ru, o.mono _ _ _ _ _ (fun w M3 q v' H3 e3 ok3 rw => ?_) h2⟩
    dsimp only at q
    split at q
    · cases rw
      refine ⟨true, rfl, ?_⟩
      rw [if_pos rfl]
      refine emb.next (r2.ext e3 ok3) (x2.at e3) hc.mono q fun z4 M4 u4 H4 e4 r4 x4 ru4 h4 => ?_
      exact ⟨M4, z, z4, r4.mem, (ru.ext e3).ext e4, ru4, o'.mono _ _ _ _ _ (fun w M' q v' H' e5 o rw => q v' H' ((((e1.trans e2).trans e3).trans e4).trans e5) o rw) h4⟩
    · cases rw
      refine ⟨false, rfl, ?_⟩
      rw [if_neg (by decide)]
      exact q _ _ ((e1.trans e2).trans e3) ok3 (.bl _)
    · exact q.elim
  mono := fun Xd ρ M Q Q' hq h => ha.mono _ _ _ _ _ (fun x _ h1 => hb.mono _ _ _ _ _ (fun y _ h2 => o.mono _ _ _ _ _ (fun z _ h3 => by
    split at h3
    · exact hc.mono _ _ _ _ _ (fun _ _ h4 => o'.mono _ _ _ _ _ hq h4) h3
    · exact hq _ _ h3
    · exact h3.elim) h2) h1) h

/-! calls of built-ins -/
theorem fun_core {g : DF} {t : DA} (gm : ∀ x M Q Q', (∀ z M', Q z M' → Q' z M') → g x M Q → g x M Q') (ha : CA X W es t) {σ : L2.St} {H : Hp} {Q : VK} (h : emb X.K W (dFun g t) σ H Q) :
    tCB (fun xs H Q => ∃ M dxs, MemOk X.K H M ∧ RVs X.K H M xs dxs ∧ g dxs M (fin X.K H M Q)) (embA X.K W t) σ H Q := by
  obtain ⟨ρ, M, Xd, r, x, h⟩ := h
  refine embA.next r x ha.mono h fun ys M1 vs H1 e1 r1 x1 rv h1 => ?_
  exact ⟨M1, ys, r1.mem, rv, gm _ _ _ _ (fun w M' q v' H' e3 ok rw => q v' H' (e1.trans e3) ok rw) h1⟩
theorem ce_callB {id : String} {x : Str} {p : Pos} {g : DF} {t : DA} (hc : CallD X (.builtin id) g) (hg : Gl X x) (hm : X.mg x = none) (hv : bootBuiltins x = some (.builtin id)) (ha : CA X W (e :: es) t) (hn : x ≠ "__name__" := by decide) (hdb : (x == ("__debug__" : Str)) = false := by decide)
    (he : starEach (e :: es) X.env = (false, eval e X.env) :: starEach es X.env := by rfl) (hpl : (backTo pos (starEach es X.env)).any (·.1) = false := by rfl) : CE X W (.Call (.Name x p) (e :: es) [] pos) (dFun g t) where
  pe := PE.weak (pe_callB hc.op hg hm hv ha.pa hn hdb he hpl) fun σ H Q h => fun_core hc.mono ha h
  mono := fun Xd ρ M Q Q' hq h => ha.mono _ _ _ _ _ (fun _ _ h1 => hc.mono _ _ _ _ hq h1) h
theorem ce_callTy {T : String} {x : Str} {p : Pos} {g : DF} {t : DA} (hc : CallD X (.type T) g) (hg : Gl X x) (hm : X.mg x = none) (hv : bootBuiltins x = some (.type T)) (ha : CA X W (e :: es) t) (hn : x ≠ "__name__" := by decide) (hdb : (x == ("__debug__" : Str)) = false := by decide)
    (he : starEach (e :: es) X.env = (false, eval e X.env) :: starEach es X.env := by rfl) (hpl : (backTo pos (starEach es X.env)).any (·.1) = false := by rfl) : CE X W (.Call (.Name x p) (e :: es) [] pos) (dFun g t) where
  pe := PE.weak (pe_callTy hc.op hg hm hv ha.pa hn hdb he hpl) fun σ H Q h => fun_core hc.mono ha h
  mono := fun Xd ρ M Q Q' hq h => ha.mono _ _ _ _ _ (fun _ _ h1 => hc.mono _ _ _ _ hq h1) h
end
end HD

namespace HD
open PySem PySem.Spec PyProof.Rows L2
section
variable {X : Cx} {W : WX} {e a b c : Expr} {es : List Expr} {f fa fb fc : DE} {pos : Pos}

/-! ### + - * % // ** -/
def gAdd : D2 := fun x y M Q => match vw M x, vw M y with
  | some (.int i), some (.int j) => Q (.d (.int (i + j))) M
  | some (.str i), some (.str j) => i.length + j.length ≤ sizeLine ∧ Q (.d (.str (i ++ j))) M
  | some (.tuple i), some (.tuple j) => i.length + j.length ≤ sizeLine ∧ Q (.d (.tuple (i ++ j))) M
  | some (.list i), some (.list j) => i.length + j.length ≤ sizeLine ∧ Q (.d (.list (i ++ j))) M
  | _, _ => False
/-- as gAdd; the new list is going to be written -/
def gAddM : D2 := fun x y M Q => match vw M x, vw M y with
  | some (.list i), some (.list j) => i.length + j.length ≤ sizeLine ∧ ∀ p, M p = none → Q (.m p) (updM M p (i ++ j))
  | _, _ => False
theorem FzA.nil_iff {K : PySem.W.Frag} {H : Hp} {M : Mem} {vs : List V} {ds : List PyData} (h : FzA K H M vs ds) : vs = [] ↔ ds = [] := by
  cases h <;> simp
theorem fin_d {K : PySem.W.Frag} {H : Hp} {M : Mem} {Q : VK} {x : PyData} (h : fin K H M Q (.d x) M) (o : MemOk K H M) {v : V} (r : Fz K H M v x) : Q v H := h v H Ext.refl o r
theorem fin_tup {K : PySem.W.Frag} {H : Hp} {M : Mem} {Q : VK} {ds : List PyData} (h : fin K H M Q (.d (.tuple ds)) M) (o : MemOk K H M) {vs : List V} (r : FzA K H M vs ds) {p : Addr} (hp : H p = none) : Q (.ref p) (upd H p (.tup vs)) :=
  h _ _ (Ext.new hp) (o.new hp) (.tup (.inl ⟨Rd.of upd_same, o.out hp⟩) (r.ext (Ext.new hp)))
theorem fin_lst {K : PySem.W.Frag} {H : Hp} {M : Mem} {Q : VK} {ds : List PyData} (h : fin K H M Q (.d (.list ds)) M) (o : MemOk K H M) {vs : List V} (r : FzA K H M vs ds) {p : Addr} (hp : H p = none) : Q (.ref p) (upd H p (.lst vs)) :=
  h _ _ (Ext.new hp) (o.new hp) (.lst upd_same (o.out hp) (r.ext (Ext.new hp)))
theorem fin_lstM {K : PySem.W.Frag} {H : Hp} {M : Mem} {Q : VK} {ds : List PyData} (h : ∀ p, M p = none → fin K H M Q (.m p) (updM M p ds)) (o : MemOk K H M) {vs : List V} (r : FzA K H M vs ds) {p : Addr} (hp : H p = none) : Q (.ref p) (upd H p (.lst vs)) :=
  h p (o.out hp) _ _ (Ext.newM hp) (o.newM hp r) ⟨rfl, by rw [updM_same]; simp, _, upd_same⟩
theorem opd_add : OpD X (binaryOp .Add) gAdd where
  op := OpR.weak (OpR.orr (OpR.orr (OpR.orr op_add op_add_str) op_catA) op_cat) fun x y H Q ⟨M, dx, dy, o, rx, ry, h⟩ => by
    unfold gAdd at h
    split at h
    · rename_i i j e1 e2
      cases vw_int rx e1; cases vw_int ry e2
      exact .inl (.inl (.inl ⟨_, _, rfl, rfl, fin_d h o (.int _)⟩))
    · rename_i i j e1 e2
      cases vw_str rx e1; cases vw_str ry e2
      exact .inl (.inl (.inr ⟨_, _, rfl, rfl, h.1, fin_d h.2 o (.str _)⟩))
    · rename_i i j e1 e2
      obtain ⟨p, xs, rfl, h1, f1⟩ := vw_tup rx e1
      obtain ⟨q, ys, rfl, h2, f2⟩ := vw_tup ry e2
      refine .inl (.inr ⟨p, q, xs, ys, rfl, rfl, h1.sq, h2.sq, by rw [f1.length, f2.length]; exact h.1, fun z => ?_, fun _ z => ?_, fun _ _ r hr => fin_tup h.2 o (f1.append f2) hr⟩)
      · subst z
        cases f1
        exact fin_d h.2 o (.tup h2 f2)
      · subst z
        cases f2
        refine fin_d h.2 o ?_
        rw [List.append_nil]
        exact .tup h1 f1
    · rename_i i j e1 e2
      obtain ⟨p, xs, rfl, h1, f1⟩ := vw_lst o rx e1
      obtain ⟨q, ys, rfl, h2, f2⟩ := vw_lst o ry e2
      exact .inr ⟨p, q, xs, ys, rfl, rfl, h1, h2, by rw [f1.length, f2.length]; exact h.1, fun r hr => fin_lst h.2 o (f1.append f2) hr⟩
    · exact h.elim
  mono := fun x y M Q Q' hq h => by
    unfold gAdd at h ⊢
    split at h
    · exact hq _ _ h
    · exact ⟨h.1, hq _ _ h.2⟩
    · exact ⟨h.1, hq _ _ h.2⟩
    · exact ⟨h.1, hq _ _ h.2⟩
    · exact h.elim
theorem opd_addM : OpD X (binaryOp .Add) gAddM where
  op := OpR.weak op_cat fun x y H Q ⟨M, dx, dy, o, rx, ry, h⟩ => by
    unfold gAddM at h
    split at h
    · rename_i i j e1 e2
      obtain ⟨p, xs, rfl, h1, f1⟩ := vw_lst o rx e1
      obtain ⟨q, ys, rfl, h2, f2⟩ := vw_lst o ry e2
      exact ⟨p, q, xs, ys, rfl, rfl, h1, h2, by rw [f1.length, f2.length]; exact h.1, fun r hr => fin_lstM h.2 o (f1.append f2) hr⟩
    · exact h.elim
  mono := fun x y M Q Q' hq h => by
    unfold gAddM at h ⊢
    split at h
    · exact ⟨h.1, fun p hp => hq _ _ (h.2 p hp)⟩
    · exact h.elim

/-- two ints in, under a condition, a datum out -/
def gInt (C : Int → Int → Prop) (g : Int → Int → PyData) : D2 := fun x y M Q => match x, y with
  | .d (.int i), .d (.int j) => C i j ∧ Q (.d (g i j)) M
  | _, _ => False
theorem gInt.mono {C : Int → Int → Prop} {g : Int → Int → PyData} : ∀ x y M (Q Q' : DK), (∀ z M', Q z M' → Q' z M') → gInt C g x y M Q → gInt C g x y M Q' := fun x y M Q Q' hq h => by
  unfold gInt at h ⊢
  split at h
  · exact ⟨h.1, hq _ _ h.2⟩
  · exact h.elim
theorem opd_int {fv : Value → Value → Sem Value} {C : Int → Int → Prop} {g : Int → Int → PyData} {gv : Int → Int → V} (h : OpR X fv (rI C gv)) (hg : ∀ K H M i j, Fz K H M (gv i j) (g i j)) : OpD X fv (gInt C g) where
  op := OpR.weak h fun x y H Q ⟨M, dx, dy, o, rx, ry, h⟩ => by
    unfold gInt at h
    split at h
    · cases rx; cases ry
      exact ⟨_, _, rfl, rfl, h.1, fin_d h.2 o (hg _ _ _ _ _)⟩
    · exact h.elim
  mono := gInt.mono
def gInt0 (g : Int → Int → PyData) : D2 := fun x y M Q => match x, y with
  | .d (.int i), .d (.int j) => Q (.d (g i j)) M
  | _, _ => False
theorem opd_int0 {fv : Value → Value → Sem Value} {g : Int → Int → PyData} {gv : Int → Int → V} (h : OpR X fv (rI0 gv)) (hg : ∀ K H M i j, Fz K H M (gv i j) (g i j)) : OpD X fv (gInt0 g) where
  op := OpR.weak h fun x y H Q ⟨M, dx, dy, o, rx, ry, h⟩ => by
    unfold gInt0 at h
    split at h
    · cases rx; cases ry
      exact ⟨_, _, rfl, rfl, fin_d h o (hg _ _ _ _ _)⟩
    · exact h.elim
  mono := fun x y M Q Q' hq h => by
    unfold gInt0 at h ⊢
    split at h
    · exact hq _ _ h
    · exact h.elim
def gSub : D2 := gInt0 fun i j => .int (i - j)
theorem opd_sub : OpD X (binaryOp .Sub) gSub := opd_int0 op_sub fun _ _ _ _ _ => .int _
def gMod : D2 := gInt (fun _ j => 0 < j) fun i j => .int (i % j)
theorem opd_mod : OpD X (binaryOp .Mod) gMod := opd_int op_mod fun _ _ _ _ _ => .int _
def gFdiv : D2 := gInt CDivW fun i j => .int (i / j)
theorem opd_fdiv : OpD X (binaryOp .FloorDiv) gFdiv := opd_int op_fdivW fun _ _ _ _ _ => .int _
def gPow : D2 := gInt CPow fun i j => .int (i ^ j.toNat)
theorem opd_pow : OpD X (binaryOp .Pow) gPow := opd_int op_pow fun _ _ _ _ _ => .int _
def gLt : D2 := gInt0 fun i j => .bool (decide (i < j))
theorem opd_lt : OpD X (compareOp .Lt) gLt := opd_int0 op_lt fun _ _ _ _ _ => .bl _
def gLe : D2 := gInt0 fun i j => .bool (decide (i ≤ j))
theorem opd_le : OpD X (compareOp .LtE) gLe := opd_int0 op_le fun _ _ _ _ _ => .bl _
def gGt : D2 := gInt0 fun i j => .bool (decide (j < i))
theorem opd_gt : OpD X (compareOp .Gt) gGt := opd_int0 op_gt fun _ _ _ _ _ => .bl _
def gGe : D2 := gInt0 fun i j => .bool (decide (j ≤ i))
theorem opd_ge : OpD X (compareOp .GtE) gGe := opd_int0 op_ge fun _ _ _ _ _ => .bl _

/-- * of two ints, of a tuple or a list and an int -/
def gMul : D2 := fun x y M Q => match vw M x, vw M y with
  | some (.int i), some (.int j) => (CMul i j ∨ CMulW i j) ∧ Q (.d (.int (i * j))) M
  | some (.tuple xs), some (.int k) => (xs ≠ [] ∧ 2 ≤ k ∧ k ≤ 1000 ∧ xs.length ≤ 1000) ∧ Q (.d (.tuple (List.replicate k.toNat xs).flatten)) M
  | some (.list xs), some (.int k) => (-(2 ^ 63) ≤ k ∧ k < 2 ^ 63 ∧ xs.length * k.toNat ≤ sizeLine) ∧ Q (.d (.list (List.replicate k.toNat xs).flatten)) M
  | _, _ => False
theorem FzA.rep {K : PySem.W.Frag} {H : Hp} {M : Mem} {vs : List V} {ds : List PyData} (h : FzA K H M vs ds) : ∀ n : Nat, FzA K H M (List.replicate n vs).flatten (List.replicate n ds).flatten
  | 0 => .nil
  | n + 1 => by
    rw [List.replicate_succ, List.replicate_succ, List.flatten_cons, List.flatten_cons]
    exact h.append (FzA.rep h n)
theorem opd_mul : OpD X (binaryOp .Mult) gMul where
  op := OpR.weak (OpR.orr (OpR.orr (OpR.orr op_mul op_mulW) op_repT) op_rep) fun x y H Q ⟨M, dx, dy, o, rx, ry, h⟩ => by
    unfold gMul at h
    split at h
    · rename_i i j e1 e2
      cases vw_int rx e1; cases vw_int ry e2
      rcases h.1 with c | c
      · exact .inl (.inl (.inl ⟨_, _, rfl, rfl, c, fin_d h.2 o (.int _)⟩))
      · exact .inl (.inl (.inr ⟨_, _, rfl, rfl, c, fin_d h.2 o (.int _)⟩))
    · rename_i i j e1 e2
      obtain ⟨p, xs, rfl, h1, f1⟩ := vw_tup rx e1
      cases vw_int ry e2
      obtain ⟨⟨c1, c2, c3, c4⟩, q⟩ := h
      exact .inl (.inr ⟨p, j, xs, rfl, rfl, h1.sq, fun z => c1 (f1.nil_iff.mp z), c2, c3, by rw [f1.length]; exact c4, fun r hr => fin_tup q o (f1.rep _) hr⟩)
    · rename_i i j e1 e2
      obtain ⟨p, xs, rfl, h1, f1⟩ := vw_lst o rx e1
      cases vw_int ry e2
      obtain ⟨⟨c1, c2, c3⟩, q⟩ := h
      exact .inr ⟨p, j, xs, rfl, rfl, h1, c1, c2, by rw [f1.length]; exact c3, fun r hr => fin_lst q o (f1.rep _) hr⟩
    · exact h.elim
  mono := fun x y M Q Q' hq h => by
    unfold gMul at h ⊢
    split at h
    · exact ⟨h.1, hq _ _ h.2⟩
    · exact ⟨h.1, hq _ _ h.2⟩
    · exact ⟨h.1, hq _ _ h.2⟩
    · exact h.elim

def gNeg : D1 := fun x M Q => match x with
  | .d (.int i) => Q (.d (.int (-i))) M
  | _ => False
theorem und_neg : UnD X (unaryOp .USub) gNeg where
  op := fun pins s σ H x v Q I rv ⟨M, dx, o, rx, h⟩ => un_neg pins s σ H x v Q I rv (by
    unfold gNeg at h
    split at h
    · cases rx
      exact ⟨_, rfl, fin_d h o (.int _)⟩
    · exact h.elim)
  mono := fun x M Q Q' hq h => by
    unfold gNeg at h ⊢
    split at h
    · exact hq _ _ h
    · exact h.elim

/-! ### == and != -/
def gEq : D2 := fun x y M Q => match vw M x, vw M y with
  | some d, some e => (SeqAt.shaped d = true ∧ SeqAt.shaped e = true) ∧ Q (.d (.bool (PyData.eqv d e))) M
  | _, _ => False
def gNe : D2 := fun x y M Q => match vw M x, vw M y with
  | some d, some e => (SeqAt.shaped d = true ∧ SeqAt.shaped e = true) ∧ Q (.d (.bool (!PyData.eqv d e))) M
  | _, _ => False
theorem opd_eq (hu : X.A.units + 64 < cLine) : OpD X (compareOp .Eq) gEq where
  op := fun pins s σ H x y v u Q I rx ry ⟨M, dx, dy, o, qx, qy, h⟩ => by
    unfold gEq at h
    split at h
    · rename_i d e e1 e2
      obtain ⟨as, r1, _⟩ := vw.reads I o qx e1 rx
      obtain ⟨bs, r2, _⟩ := vw.reads I o qy e2 ry
      exact SeqAt.compareEq_shaped r1 r2 h.1.1 h.1.2 hu ⟨.bl _, H, I, rfl, fin_d h.2 o (.bl _)⟩
    · exact h.elim
  mono := fun x y M Q Q' hq h => by
    unfold gEq at h ⊢
    split at h
    · exact ⟨h.1, hq _ _ h.2⟩
    · exact h.elim
theorem opd_ne (hu : X.A.units + 64 < cLine) : OpD X (compareOp .NotEq) gNe where
  op := fun pins s σ H x y v u Q I rx ry ⟨M, dx, dy, o, qx, qy, h⟩ => by
    unfold gNe at h
    split at h
    · rename_i d e e1 e2
      obtain ⟨as, r1, _⟩ := vw.reads I o qx e1 rx
      obtain ⟨bs, r2, _⟩ := vw.reads I o qy e2 ry
      exact SeqAt.compareNe_shaped r1 r2 h.1.1 h.1.2 hu ⟨.bl _, H, I, rfl, fin_d h.2 o (.bl _)⟩
    · exact h.elim
  mono := fun x y M Q Q' hq h => by
    unfold gNe at h ⊢
    split at h
    · exact ⟨h.1, hq _ _ h.2⟩
    · exact h.elim

/-! ### displays -/
def dTup (t : DA) : DE := fun Xd ρ M Q => t Xd ρ M fun xs M1 => match allD xs with
  | some ds => ds.length ≤ sizeLine ∧ Q (.d (.tuple ds)) M1
  | none => False
def dLst (t : DA) : DE := fun Xd ρ M Q => t Xd ρ M fun xs M1 => match allD xs with
  | some ds => ds.length ≤ sizeLine ∧ Q (.d (.list ds)) M1
  | none => False
/-- a list that is going to be written -/
def dLstM (t : DA) : DE := fun Xd ρ M Q => t Xd ρ M fun xs M1 => match allD xs with
  | some ds => ds.length ≤ sizeLine ∧ ∀ p, M1 p = none → Q (.m p) (updM M1 p ds)
  | none => False
theorem ce_tup {x1} {t : DA} (h : CA X W es t) : CE X W (.Tuple es x1 pos) (dTup t) where
  pe := PE.weak (pe_tup h.pa) fun σ H Q ⟨ρ, M, Xd, r, x, q⟩ => by
    refine embA.next r x h.mono q fun ys M1 vs H1 e1 r1 x1 rv h1 => ?_
    split at h1
    · rename_i ds e
      refine ⟨by rw [(rv.allD e).length]; exact h1.1, fun p hp => ?_⟩
      exact h1.2 _ _ (e1.trans (Ext.new hp)) (r1.mem.new hp) (.tup (.inl ⟨Rd.of upd_same, r1.mem.out hp⟩) ((rv.allD e).ext (Ext.new hp)))
    · exact h1.elim
  mono := fun Xd ρ M Q Q' hq q => h.mono _ _ _ _ _ (fun xs M1 h1 => by
    split at h1
    · exact ⟨h1.1, hq _ _ h1.2⟩
    · exact h1.elim) q
theorem ce_lst {t : DA} (h : CA X W es t) : CE X W (.List es pos) (dLst t) where
  pe := PE.weak (pe_lst h.pa) fun σ H Q ⟨ρ, M, Xd, r, x, q⟩ => by
    refine embA.next r x h.mono q fun ys M1 vs H1 e1 r1 x1 rv h1 => ?_
    split at h1
    · rename_i ds e
      refine ⟨by rw [(rv.allD e).length]; exact h1.1, fun p hp => ?_⟩
      exact h1.2 _ _ (e1.trans (Ext.new hp)) (r1.mem.new hp) (.lst upd_same (r1.mem.out hp) ((rv.allD e).ext (Ext.new hp)))
    · exact h1.elim
  mono := fun Xd ρ M Q Q' hq q => h.mono _ _ _ _ _ (fun xs M1 h1 => by
    split at h1
    · exact ⟨h1.1, hq _ _ h1.2⟩
    · exact h1.elim) q
theorem ce_lstM {t : DA} (h : CA X W es t) : CE X W (.List es pos) (dLstM t) where
  pe := PE.weak (pe_lst h.pa) fun σ H Q ⟨ρ, M, Xd, r, x, q⟩ => by
    refine embA.next r x h.mono q fun ys M1 vs H1 e1 r1 x1 rv h1 => ?_
    split at h1
    · rename_i ds e
      refine ⟨by rw [(rv.allD e).length]; exact h1.1, fun p hp => ?_⟩
      exact h1.2 p (r1.mem.out hp) _ _ (e1.trans (Ext.newM hp)) (r1.mem.newM hp (rv.allD e)) ⟨rfl, by rw [updM_same]; simp, _, upd_same⟩
    · exact h1.elim
  mono := fun Xd ρ M Q Q' hq q => h.mono _ _ _ _ _ (fun xs M1 h1 => by
    split at h1
    · exact ⟨h1.1, fun p hp => hq _ _ (h1.2 p hp)⟩
    · exact h1.elim) q

/-! ### and, or, if -/
def dAnd (fa fb : DE) : DE := fun Xd ρ M Q => fa Xd ρ M fun x M1 => match x with
  | .d (.bool true) => fb Xd ρ M1 Q
  | .d (.bool false) => Q (.d (.bool false)) M1
  | _ => False
def dOr (fa fb : DE) : DE := fun Xd ρ M Q => fa Xd ρ M fun x M1 => match x with
  | .d (.bool true) => Q (.d (.bool true)) M1
  | .d (.bool false) => fb Xd ρ M1 Q
  | _ => False
theorem ce_one {op} (h : CE X W a fa) : CE X W (.BoolOp op [a] pos) fa := ⟨pe_one h.pe, h.mono⟩
theorem ce_and (ha : CE X W a fa) (hb : CE X W (.BoolOp .And (b :: es) pos) fb) : CE X W (.BoolOp .And (a :: b :: es) pos) (dAnd fa fb) where
  pe := PE.weak (pe_and ha.pe hb.pe) fun σ H Q ⟨ρ, M, Xd, r, x, h⟩ => by
    refine emb.next r x ha.mono h fun y M1 v H1 e1 r1 x1 rv h1 => ?_
    split at h1
    · cases rv
      refine ⟨true, rfl, ?_⟩
      rw [if_pos rfl]
      exact emb.next r1 x1 hb.mono h1 fun z M2 u H2 e2 r2 _ ru q => q u H2 (e1.trans e2) r2.mem ru
    · cases rv
      refine ⟨false, rfl, ?_⟩
      rw [if_neg (by decide)]
      exact h1 _ _ e1 r1.mem (.bl _)
    · exact h1.elim
  mono := fun Xd ρ M Q Q' hq h => ha.mono _ _ _ _ _ (fun x _ h1 => by
    split at h1
    · exact hb.mono _ _ _ _ _ hq h1
    · exact hq _ _ h1
    · exact h1.elim) h
theorem ce_or (ha : CE X W a fa) (hb : CE X W (.BoolOp .Or (b :: es) pos) fb) : CE X W (.BoolOp .Or (a :: b :: es) pos) (dOr fa fb) where
  pe := PE.weak (pe_or ha.pe hb.pe) fun σ H Q ⟨ρ, M, Xd, r, x, h⟩ => by
    refine emb.next r x ha.mono h fun y M1 v H1 e1 r1 x1 rv h1 => ?_
    split at h1
    · cases rv
      refine ⟨true, rfl, ?_⟩
      rw [if_pos rfl]
      exact h1 _ _ e1 r1.mem (.bl _)
    · cases rv
      refine ⟨false, rfl, ?_⟩
      rw [if_neg (by decide)]
      exact emb.next r1 x1 hb.mono h1 fun z M2 u H2 e2 r2 _ ru q => q u H2 (e1.trans e2) r2.mem ru
    · exact h1.elim
  mono := fun Xd ρ M Q Q' hq h => ha.mono _ _ _ _ _ (fun x _ h1 => by
    split at h1
    · exact hq _ _ h1
    · exact hb.mono _ _ _ _ _ hq h1
    · exact h1.elim) h

/-! ### tests -/
def tVal (f : DE) : DT := fun Xd ρ M Q => f Xd ρ M fun x M1 => match x with
  | .d (.bool k) => Q k M1
  | _ => False
theorem ct_core {t : TE} {σ : L2.St} {H : Hp} {Q : Bool → Hp → Prop} (ha : CE X W a fa) (h : embT X.K W (tVal fa) σ H Q) : tB (emb X.K W fa) σ H Q := by
  obtain ⟨ρ, M, Xd, r, x, h⟩ := h
  refine emb.next r x ha.mono h fun y M1 v H1 e1 r1 x1 rv h1 => ?_
  split at h1
  · cases rv; exact ⟨_, rfl, h1 H1 e1 r1.mem⟩
  · exact h1.elim
theorem tVal.mono (ha : CE X W a fa) : ∀ Xd ρ M (Q Q' : Bool → Mem → Prop), (∀ x M', Q x M' → Q' x M') → tVal fa Xd ρ M Q → tVal fa Xd ρ M Q' := fun Xd ρ M Q Q' hq h => ha.mono _ _ _ _ _ (fun x _ h1 => by
    split at h1
    · exact hq _ _ h1
    · exact h1.elim) h
theorem ct_val (ha : CE X W a fa) (he : ∀ whole, isTrue a X.env whole = (do let v ← whole; standAt a.pos; holding [v] (truthy v)) := by intro _; rfl) : CT X W a (tVal fa) where
  pt := PT.weak (pt_val ha.pe he) fun σ H Q h => ct_core (t := emb X.K W fa) ha h
  mono := tVal.mono ha
theorem ct_cmp {op : CmpOp} {g : D2} (o : OpD X (compareOp op) g) (ha : CE X W a fa) (hb : CE X W b fb) (hm : behindInMarks op b = false := by first | exact nomark _ | rfl) : CT X W (.Compare a [op] [b] pos) (tVal (dBin g fa fb)) where
  pt := PT.weak (pt_cmpR o.op ha.pe hb.pe hm) fun σ H Q h => by
    obtain ⟨ρ, M, Xd, r, x, h⟩ := h
    have q := bin_core (X := X) (W := W) (σ := σ) (H := H) (Q := fun z H' => ∃ k, z = .bl k ∧ Q k H') o.mono ha hb ⟨ρ, M, Xd, r, x, dBin.mono o.mono ha hb _ _ _ _ _ (fun z M' hz v H' e ok rv => ?_) h⟩
    · exact q
    · split at hz
      · cases rv; exact ⟨_, rfl, hz H' e ok⟩
      · exact hz.elim
  mono := tVal.mono (ce_cmp o ha hb hm (pos := pos))
theorem ct_chain {op op' : CmpOp} {g g' : D2} (o : OpD X (compareOp op) g) (o' : OpD X (compareOp op') g') (ha : CE X W a fa) (hb : CE X W b fb) (hc : CE X W c fc)
    (hm : lastMarks [op, op'] [b, c] = false := by with_unfolding_all rfl) : CT X W (.Compare a [op, op'] [b, c] pos) (tVal (dChain g g' fa fb fc)) where
  pt := PT.weak (pt_chain o.op o'.op ha.pe hb.pe hc.pe hm) fun σ H Q h => by
    obtain ⟨ρ, M, Xd, r, x, h⟩ := h
    refine emb.next r x ha.mono h fun y M1 v H1 e1 r1 x1 rv h1 => ?_
    refine emb.next r1 x1 hb.mono h1 fun z M2 u H2 e2 r2 x2 ru h2 => ?_
    refine ⟨M2, y, z, r2.mem, rv.ext e2, ru, o.mono _ _ _ _ _ (fun w M3 q v' H3 e3 ok3 rw => ?_) h2⟩
    dsimp only at q
    split at q
    · cases rw
      refine ⟨true, rfl, ?_⟩
      rw [if_pos rfl]
      refine emb.next (r2.ext e3 ok3) (x2.at e3) hc.mono q fun z4 M4 u4 H4 e4 r4 x4 ru4 h4 => ?_
      refine ⟨M4, z, z4, r4.mem, (ru.ext e3).ext e4, ru4, o'.mono _ _ _ _ _ (fun w M' q v' H' e5 o rw => ?_) h4⟩
      split at q
      · cases rw; exact ⟨_, rfl, q H' ((((e1.trans e2).trans e3).trans e4).trans e5) o⟩
      · exact q.elim
    · cases rw
      refine ⟨false, rfl, ?_⟩
      rw [if_neg (by decide)]
      exact ⟨_, rfl, q _ ((e1.trans e2).trans e3) ok3⟩
    · exact q.elim
  mono := tVal.mono (ce_chain o o' ha hb hc hm (pos := pos))
def tAnd2 (t u : DT) : DT := fun Xd ρ M Q => t Xd ρ M fun k M1 => match k with | true => u Xd ρ M1 Q | false => Q false M1
def tOr2 (t u : DT) : DT := fun Xd ρ M Q => t Xd ρ M fun k M1 => match k with | true => Q true M1 | false => u Xd ρ M1 Q
def tNot1 (t : DT) : DT := fun Xd ρ M Q => t Xd ρ M fun k M1 => Q (!k) M1
/-- a test whatever its whole is -/
structure CW (X : Cx) (W : WX) (e : Expr) (f : DT) : Prop where
  pw : PW X e (embT X.K W f)
  mono : ∀ Xd ρ M Q Q', (∀ x M', Q x M' → Q' x M') → f Xd ρ M Q → f Xd ρ M Q'
theorem CW.ct {f : DT} (h : CW X W a f) : CT X W a f := ⟨h.pw.pt, h.mono⟩
variable {ta tb : DT}
theorem cw_and1 (h : CT X W a ta) : CW X W (.BoolOp .And [a] pos) ta := ⟨pw_and1 h.pt, h.mono⟩
theorem cw_or1 (h : CT X W a ta) : CW X W (.BoolOp .Or [a] pos) ta := ⟨pw_or1 h.pt, h.mono⟩
theorem PW.weak {t t' : TT} (h : PW X e t) (w : ∀ σ H Q, t' σ H Q → t σ H Q) : PW X e t' := ⟨fun wh pins s σ H Q I q => h.run wh pins s σ H Q I (w σ H Q q)⟩
theorem cw_and (ha : CT X W a ta) (hb : CW X W (.BoolOp .And (b :: es) pos) tb) : CW X W (.BoolOp .And (a :: b :: es) pos) (tAnd2 ta tb) where
  pw := PW.weak (pw_and ha.pt hb.pw) fun σ H Q ⟨ρ, M, Xd, r, x, h⟩ => by
    refine embT.next r x ha.mono h fun k M1 H1 e1 r1 x1 h1 => ?_
    cases k with
    | true => exact embT.next r1 x1 hb.mono h1 fun k2 M2 H2 e2 r2 x2 q => q H2 (e1.trans e2) r2.mem
    | false => exact h1 H1 e1 r1.mem
  mono := fun Xd ρ M Q Q' hq h => ha.mono _ _ _ _ _ (fun k _ h1 => by
    cases k with
    | true => exact hb.mono _ _ _ _ _ hq h1
    | false => exact hq _ _ h1) h
theorem cw_or (ha : CT X W a ta) (hb : CW X W (.BoolOp .Or (b :: es) pos) tb) : CW X W (.BoolOp .Or (a :: b :: es) pos) (tOr2 ta tb) where
  pw := PW.weak (pw_or ha.pt hb.pw) fun σ H Q ⟨ρ, M, Xd, r, x, h⟩ => by
    refine embT.next r x ha.mono h fun k M1 H1 e1 r1 x1 h1 => ?_
    cases k with
    | true => exact h1 H1 e1 r1.mem
    | false => exact embT.next r1 x1 hb.mono h1 fun k2 M2 H2 e2 r2 x2 q => q H2 (e1.trans e2) r2.mem
  mono := fun Xd ρ M Q Q' hq h => ha.mono _ _ _ _ _ (fun k _ h1 => by
    cases k with
    | true => exact hq _ _ h1
    | false => exact hb.mono _ _ _ _ _ hq h1) h
theorem ct_not (ha : CT X W a ta) : CT X W (.UnaryOp .Not a pos) (tNot1 ta) where
  pt := PT.weak (pt_not ha.pt) fun σ H Q ⟨ρ, M, Xd, r, x, h⟩ => embT.next r x ha.mono h fun k M1 H1 e1 r1 _ h1 => h1 H1 e1 r1.mem
  mono := fun Xd ρ M Q Q' hq h => ha.mono _ _ _ _ _ (fun k _ h1 => hq _ _ h1) h
def dIf (t : DT) (fa fb : DE) : DE := fun Xd ρ M Q => t Xd ρ M fun k M1 => match k with | true => fa Xd ρ M1 Q | false => fb Xd ρ M1 Q
theorem ce_if (hc : CT X W c ta) (ha : CE X W a fa) (hb : CE X W b fb) : CE X W (.IfExp c a b pos) (dIf ta fa fb) where
  pe := PE.weak (pe_ifExp hc.pt ha.pe hb.pe) fun σ H Q ⟨ρ, M, Xd, r, x, h⟩ => by
    refine embT.next r x hc.mono h fun k M1 H1 e1 r1 x1 h1 => ?_
    cases k with
    | true => exact emb.next r1 x1 ha.mono h1 fun z M2 u H2 e2 r2 _ ru q => q u H2 (e1.trans e2) r2.mem ru
    | false => exact emb.next r1 x1 hb.mono h1 fun z M2 u H2 e2 r2 _ ru q => q u H2 (e1.trans e2) r2.mem ru
  mono := fun Xd ρ M Q Q' hq h => hc.mono _ _ _ _ _ (fun k _ h1 => by
    cases k with
    | true => exact ha.mono _ _ _ _ _ hq h1
    | false => exact hb.mono _ _ _ _ _ hq h1) h
end
end HD

namespace HD
open PySem PySem.Spec PyProof.Rows L2
section
variable {X : Cx} {W : WX} {e a b c : Expr} {es : List Expr} {f fa fb fc : DE} {pos : Pos}

/-! ### subscripts -/
theorem atI_get {α : Type} {xs : List α} {i : Int} {x : α} (h : atI xs i = some x) : ∃ j, ixN xs.length i = some j ∧ xs[j]? = some x := by
  simp only [atI, Option.bind_eq_some_iff] at h
  exact h
theorem FzA.atI {K : PySem.W.Frag} {H : Hp} {M : Mem} {vs : List V} {ds : List PyData} {i : Int} {d : PyData} (h : FzA K H M vs ds) (e : L2.atI ds i = some d) : ∃ v, L2.atI vs i = some v ∧ Fz K H M v d := by
  obtain ⟨j, h1, h2⟩ := atI_get e
  obtain ⟨v, h3, h4⟩ := h.get h2
  refine ⟨v, ?_, h4⟩
  simp only [L2.atI, Option.bind_eq_some_iff]
  exact ⟨j, by rw [h.length]; exact h1, h3⟩
def gIx : D2 := fun x y M Q => match vw M x, vw M y with
  | some (.list ds), some (.int i) => match L2.atI ds i with
    | some d => Q (.d d) M
    | none => False
  | some (.tuple ds), some (.int i) => match L2.atI ds i with
    | some d => Q (.d d) M
    | none => False
  | _, _ => False
theorem gIx.mono : ∀ x y M (Q Q' : DK), (∀ z M', Q z M' → Q' z M') → gIx x y M Q → gIx x y M Q' := fun x y M Q Q' hq h => by
  unfold gIx at h ⊢
  split at h
  · split at h
    · exact hq _ _ h
    · exact h.elim
  · split at h
    · exact hq _ _ h
    · exact h.elim
  · exact h.elim
theorem ce_sub (ha : CE X W a fa) (hb : CE X W b fb) (hs : PlainIx b := by exact fun _ _ => rfl) : CE X W (.Subscript a b pos) (dBin gIx fa fb) := by
  have hr : IxR X fun x y H Q => ∃ M dx dy, MemOk X.K H M ∧ RV X.K H M x dx ∧ RV X.K H M y dy ∧ gIx dx dy M (fin X.K H M Q) := by
    intro value slice pins s σ H x y v u Q I rx ry ⟨M, dx, dy, o, qx, qy, h⟩ hs
    unfold gIx at h
    split at h
    · rename_i ds i e1 e2
      split at h
      · rename_i d e3
        obtain ⟨p, xs, rfl, h1, f1⟩ := vw_lst o qx e1
        cases vw_int qy e2
        obtain ⟨z, h2, h3⟩ := f1.atI e3
        exact ix_list value slice pins s σ H _ _ v u Q I rx ry ⟨p, xs, i, z, rfl, rfl, .of h1, h2, fin_d h o h3⟩ hs
      · exact h.elim
    · rename_i ds i e1 e2
      split at h
      · rename_i d e3
        obtain ⟨p, xs, rfl, h1, f1⟩ := vw_tup qx e1
        cases vw_int qy e2
        obtain ⟨z, h2, h3⟩ := f1.atI e3
        exact ix_tup value slice pins s σ H _ _ v u Q I rx ry ⟨p, xs, i, z, rfl, rfl, h1.sq, h2, fin_d h o h3⟩ hs
      · exact h.elim
    · exact h.elim
  exact ce_ix hr gIx.mono ha hb hs

/-! ### slices -/
abbrev DO := DX → DEnv → Mem → (Option Int → Mem → Prop) → Prop
def embO (K : PySem.W.Frag) (W : WX) (f : DO) : TO := fun σ H Q => ∃ ρ M Xd, Rel K σ H ρ M ∧ XRel K W σ H ρ M Xd ∧
  f Xd ρ M fun b M' => ∀ H', Ext H M H' M' → MemOk K H' M' → Q b H'
structure CO (X : Cx) (W : WX) (e : Option Expr) (f : DO) : Prop where
  po : PO X e (embO X.K W f)
  mono : ∀ Xd ρ M Q Q', (∀ x M', Q x M' → Q' x M') → f Xd ρ M Q → f Xd ρ M Q'
theorem PO.weak {e : Option Expr} {t t' : TO} (h : PO X e t) (w : ∀ σ H Q, t' σ H Q → t σ H Q) : PO X e t' := ⟨fun pins s σ H Q I q => h.run pins s σ H Q I (w σ H Q q)⟩
def oNo : DO := fun _ _ M Q => Q none M
def oSome (f : DE) : DO := fun Xd ρ M Q => f Xd ρ M fun x M1 => match x with
  | .d (.int i) => Q (some i) M1
  | _ => False
theorem co_none : CO X W none oNo where
  po := PO.weak po_none fun σ H Q ⟨ρ, M, Xd, r, x, h⟩ => h H Ext.refl r.mem
  mono := fun _ _ _ _ _ hq h => hq _ _ h
theorem co_some (ha : CE X W a fa) : CO X W (some a) (oSome fa) where
  po := PO.weak (po_some ha.pe) fun σ H Q ⟨ρ, M, Xd, r, x, h⟩ => by
    refine emb.next r x ha.mono h fun y M1 v H1 e1 r1 x1 rv h1 => ?_
    split at h1
    · cases rv; exact ⟨_, rfl, h1 H1 e1 r1.mem⟩
    · exact h1.elim
  mono := fun Xd ρ M Q Q' hq h => ha.mono _ _ _ _ _ (fun x _ h1 => by
    split at h1
    · exact hq _ _ h1
    · exact h1.elim) h
def cutD (ds : List PyData) (lo hi : Option Int) : List PyData := (ds.drop (HT.sIx ds.length 0 lo)).take (HT.sIx ds.length ds.length hi - HT.sIx ds.length 0 lo)
theorem FzA.cut {K : PySem.W.Frag} {H : Hp} {M : Mem} {vs : List V} {ds : List PyData} (h : FzA K H M vs ds) (lo hi : Option Int) : FzA K H M (cutV vs lo hi) (cutD ds lo hi) := by
  unfold cutV cutD
  rw [h.length]
  exact (h.drop _).take _
theorem FzA.ints {K : PySem.W.Frag} {H : Hp} {M : Mem} : ∀ ns : List Int, FzA K H M (ns.map V.int) (ns.map PyData.int)
  | [] => .nil
  | n :: r => .cons (.int n) (FzA.ints r)
def gSl : DV → Option Int → Option Int → Mem → DK → Prop := fun x lo hi M Q => match x with
  | .s _ ns => Q (.d (.list (cutD (ns.map .int) lo hi))) M
  | x => match vw M x with
    | some (.list ds) => Q (.d (.list (cutD ds lo hi))) M
    | some (.tuple ds) => Q (.d (.tuple (cutD ds lo hi))) M
    | _ => False
def dSl (f : DE) (l h : DO) : DE := fun Xd ρ M Q => f Xd ρ M fun x M1 => l Xd ρ M1 fun lo M2 => h Xd ρ M2 fun hi M3 => gSl x lo hi M3 Q
theorem gSl.mono : ∀ x lo hi M (Q Q' : DK), (∀ z M', Q z M' → Q' z M') → gSl x lo hi M Q → gSl x lo hi M Q' := fun x lo hi M Q Q' hq h => by
  unfold gSl at h ⊢
  split at h
  · exact hq _ _ h
  · split at h
    · exact hq _ _ h
    · exact hq _ _ h
    · exact h.elim
theorem cutV_whole {xs : List V} {lo hi : Option Int} (h : HT.sIx xs.length 0 lo = 0 ∧ HT.sIx xs.length xs.length hi = xs.length) : cutV xs lo hi = xs := by
  unfold cutV
  rw [h.1, h.2]
  simp
theorem cutD_whole {xs : List PyData} {lo hi : Option Int} (h : HT.sIx xs.length 0 lo = 0 ∧ HT.sIx xs.length xs.length hi = xs.length) : cutD xs lo hi = xs := by
  unfold cutD
  rw [h.1, h.2]
  simp
theorem ce_slice {l h : DO} {lo hi : Option Expr} {p2 : Pos} (ha : CE X W a fa) (hl : CO X W lo l) (hh : CO X W hi h) : CE X W (.Subscript a (.Slice lo hi none p2) pos) (dSl fa l h) where
  pe := PE.weak (pe_slice (SlR.or sl_list sl_tupA) ha.pe hl.po hh.po) fun σ H Q ⟨ρ, M, Xd, r, x, h⟩ => by
    refine emb.next r x ha.mono h fun y M1 v H1 e1 r1 x1 rv h1 => ?_
    refine ⟨ρ, M1, Xd, r1, x1, hl.mono _ _ _ _ _ (fun lo' M2 h2 H2 e2 o2 => ?_) h1⟩
    refine ⟨ρ, M2, Xd, r1.ext e2 o2, x1.at e2, hh.mono _ _ _ _ _ (fun hi' M3 h3 H3 e3 o3 => ?_) h2⟩
    have rv3 := (rv.ext e2).ext e3
    have e13 := (e1.trans e2).trans e3
    unfold gSl at h3
    split at h3
    · obtain ⟨rfl, hs⟩ := rv3
      exact .inl ⟨_, _, rfl, hs.sq, fun p hp => h3 _ _ (e13.trans (Ext.new hp)) (o3.new hp) (.lst upd_same (o3.out hp) ((FzA.ints _).cut _ _))⟩
    · split at h3
      · rename_i ds e4
        obtain ⟨p, xs, rfl, q1, f1⟩ := vw_lst o3 rv3 e4
        exact .inl ⟨p, xs, rfl, .of q1, fun p hp => h3 _ _ (e13.trans (Ext.new hp)) (o3.new hp) (.lst upd_same (o3.out hp) ((f1.cut _ _).ext (Ext.new hp)))⟩
      · rename_i ds e4
        obtain ⟨p, xs, rfl, q1, f1⟩ := vw_tup rv3 e4
        refine .inr ⟨p, xs, rfl, q1.sq, fun w => ?_, fun _ p hp => h3 _ _ (e13.trans (Ext.new hp)) (o3.new hp) (.tup (.inl ⟨Rd.of upd_same, o3.out hp⟩) ((f1.cut _ _).ext (Ext.new hp)))⟩
        refine h3 _ _ e13 o3 ?_
        rw [cutD_whole (by rw [← f1.length]; exact w)]
        exact .tup q1 f1
      · exact h3.elim
  mono := fun Xd ρ M Q Q' hq h => ha.mono _ _ _ _ _ (fun x _ h1 => hl.mono _ _ _ _ _ (fun _ _ h2 => hh.mono _ _ _ _ _ (fun _ _ h3 => gSl.mono _ _ _ _ _ _ hq h3) h2) h1) h

/-! ### built-ins -/
theorem RVs.one {K : PySem.W.Frag} {H : Hp} {M : Mem} {vs : List V} {x : DV} (h : RVs K H M vs [x]) : ∃ v, vs = [v] ∧ RV K H M v x := by
  cases h with | cons h t => cases t; exact ⟨_, rfl, h⟩
theorem RVs.two {K : PySem.W.Frag} {H : Hp} {M : Mem} {vs : List V} {x y : DV} (h : RVs K H M vs [x, y]) : ∃ v u, vs = [v, u] ∧ RV K H M v x ∧ RV K H M u y := by
  cases h with | cons h t => obtain ⟨u, rfl, hu⟩ := t.one; exact ⟨_, _, rfl, h, hu⟩
def gLen : DF := fun xs M Q => match xs with
  | [.s _ ns] => Q (.d (.int ns.length)) M
  | [x] => match vw M x with
    | some (.list ds) => Q (.d (.int ds.length)) M
    | some (.tuple ds) => Q (.d (.int ds.length)) M
    | some (.str s) => s.length ≤ sizeLine ∧ Q (.d (.int s.length)) M
    | _ => False
  | _ => False
theorem cd_len : CallD X (.builtin "len") gLen where
  op := CallR.weak (CallR.orr call_len_seq call_len_str) fun vs H Q ⟨M, xs, o, rx, h⟩ => by
    unfold gLen at h
    split at h
    · obtain ⟨v, rfl, rv⟩ := rx.one
      obtain ⟨rfl, hs⟩ := rv
      refine .inl ⟨_, _, rfl, .inl hs.sq, ?_⟩
      rw [List.length_map]
      exact fin_d h o (.int _)
    · obtain ⟨v, rfl, rv⟩ := rx.one
      split at h
      · rename_i ds e4
        obtain ⟨p, xs, rfl, q1, f1⟩ := vw_lst o rv e4
        refine .inl ⟨_, _, rfl, .inl (.of q1), ?_⟩
        rw [f1.length]
        exact fin_d h o (.int _)
      · rename_i ds e4
        obtain ⟨p, xs, rfl, q1, f1⟩ := vw_tup rv e4
        refine .inl ⟨_, _, rfl, .inr q1.sq, ?_⟩
        rw [f1.length]
        exact fin_d h o (.int _)
      · rename_i ds e4
        cases vw_str rv e4
        exact .inr ⟨_, rfl, h.1, fin_d h.2 o (.int _)⟩
      · exact h.elim
    · exact h.elim
  mono := fun x M Q Q' hq h => by
    unfold gLen at h ⊢
    split at h
    · exact hq _ _ h
    · split at h
      · exact hq _ _ h
      · exact hq _ _ h
      · exact ⟨h.1, hq _ _ h.2⟩
      · exact h.elim
    · exact h.elim
def gInt1 : DF := fun xs M Q => match xs with
  | [.d (.int i)] => Q (.d (.int i)) M
  | [.d (.bool k)] => Q (.d (.int (if k then 1 else 0))) M
  | _ => False
theorem cd_int : CallD X (.type "int") gInt1 where
  op := CallR.weak call_int1 fun vs H Q ⟨M, xs, o, rx, h⟩ => by
    unfold gInt1 at h
    split at h
    · obtain ⟨v, rfl, rv⟩ := rx.one; cases rv
      exact .inl ⟨_, rfl, fin_d h o (.int _)⟩
    · obtain ⟨v, rfl, rv⟩ := rx.one; cases rv
      exact .inr ⟨_, rfl, fin_d h o (.int _)⟩
    · exact h.elim
  mono := fun x M Q Q' hq h => by
    unfold gInt1 at h ⊢
    split at h
    · exact hq _ _ h
    · exact hq _ _ h
    · exact h.elim
def seqOf (M : Mem) : DV → Option (List PyData)
  | .s _ ns => some (ns.map .int)
  | x => match vw M x with
    | some (.list ds) => some ds
    | some (.tuple ds) => some ds
    | _ => none
theorem seqOf_is {K : PySem.W.Frag} {H : Hp} {M : Mem} {v : V} {x : DV} {ds : List PyData} (o : MemOk K H M) (r : RV K H M v x) (h : seqOf M x = some ds) : ∃ p xs, v = .ref p ∧ (SqL K H p xs ∨ SqT K H p xs) ∧ FzA K H M xs ds := by
  unfold seqOf at h
  split at h
  · cases h
    obtain ⟨rfl, hs⟩ := r
    exact ⟨_, _, rfl, .inl hs.sq, FzA.ints _⟩
  · split at h
    · cases h
      rename_i e4
      obtain ⟨p, xs, rfl, q1, f1⟩ := vw_lst o r e4
      exact ⟨_, _, rfl, .inl (.of q1), f1⟩
    · cases h
      rename_i e4
      obtain ⟨p, xs, rfl, q1, f1⟩ := vw_tup r e4
      exact ⟨_, _, rfl, .inr q1.sq, f1⟩
    · cases h
def gList : DF := fun xs M Q => match xs with
  | [x] => match seqOf M x with
    | some ds => Q (.d (.list ds)) M
    | none => False
  | _ => False
def gListM : DF := fun xs M Q => match xs with
  | [x] => match seqOf M x with
    | some ds => ∀ p, M p = none → Q (.m p) (updM M p ds)
    | none => False
  | _ => False
theorem cd_list : CallD X (.type "list") gList where
  op := CallR.weak call_list_of fun vs H Q ⟨M, xs, o, rx, h⟩ => by
    unfold gList at h
    split at h
    · obtain ⟨v, rfl, rv⟩ := rx.one
      split at h
      · rename_i ds e
        obtain ⟨p, xs, rfl, h1, f1⟩ := seqOf_is o rv e
        exact ⟨p, xs, rfl, h1, fun l hl => fin_lst h o f1 hl⟩
      · exact h.elim
    · exact h.elim
  mono := fun x M Q Q' hq h => by
    unfold gList at h ⊢
    split at h
    · split at h
      · exact hq _ _ h
      · exact h.elim
    · exact h.elim
theorem cd_listM : CallD X (.type "list") gListM where
  op := CallR.weak call_list_of fun vs H Q ⟨M, xs, o, rx, h⟩ => by
    unfold gListM at h
    split at h
    · obtain ⟨v, rfl, rv⟩ := rx.one
      split at h
      · rename_i ds e
        obtain ⟨p, xs, rfl, h1, f1⟩ := seqOf_is o rv e
        exact ⟨p, xs, rfl, h1, fun l hl => fin_lstM h o f1 hl⟩
      · exact h.elim
    · exact h.elim
  mono := fun x M Q Q' hq h => by
    unfold gListM at h ⊢
    split at h
    · split at h
      · exact fun p hp => hq _ _ (h p hp)
      · exact h.elim
    · exact h.elim
def gTuple : DF := fun xs M Q => match xs with
  | [x] => match vw M x with
    | some (.list ds) => Q (.d (.tuple ds)) M
    | some (.tuple ds) => Q (.d (.tuple ds)) M
    | _ => False
  | _ => False
theorem cd_tuple : CallD X (.type "tuple") gTuple where
  op := CallR.weak call_tuple_of fun vs H Q ⟨M, xs, o, rx, h⟩ => by
    unfold gTuple at h
    split at h
    · obtain ⟨v, rfl, rv⟩ := rx.one
      split at h
      · rename_i ds e
        obtain ⟨p, xs, rfl, h1, f1⟩ := vw_lst o rv e
        exact ⟨p, xs, rfl, .inl ⟨.of h1, fun l hl => fin_tup h o f1 hl⟩⟩
      · rename_i ds e
        obtain ⟨p, xs, rfl, h1, f1⟩ := vw_tup rv e
        exact ⟨p, xs, rfl, .inr ⟨h1.sq, fin_d h o (.tup h1 f1)⟩⟩
      · exact h.elim
    · exact h.elim
  mono := fun x M Q Q' hq h => by
    unfold gTuple at h ⊢
    split at h
    · split at h
      · exact hq _ _ h
      · exact hq _ _ h
      · exact h.elim
    · exact h.elim
def gMin2 : DF := fun xs M Q => match xs with
  | [.d (.int i), .d (.int j)] => Q (.d (.int (if j < i then j else i))) M
  | _ => False
theorem cd_min2 (hc : X.calm = true) : CallD X (.builtin "min") gMin2 where
  op := CallR.weak (call_min2 hc) fun vs H Q ⟨M, xs, o, rx, h⟩ => by
    unfold gMin2 at h
    split at h
    · obtain ⟨v, u, rfl, rv, ru⟩ := rx.two; cases rv; cases ru
      exact ⟨_, _, rfl, fin_d h o (.int _)⟩
    · exact h.elim
  mono := fun x M Q Q' hq h => by
    unfold gMin2 at h ⊢
    split at h
    · exact hq _ _ h
    · exact h.elim
def gMax2 : DF := fun xs M Q => match xs with
  | [.d (.int i), .d (.int j)] => Q (.d (.int (if j > i then j else i))) M
  | _ => False
theorem cd_max2 (hc : X.calm = true) : CallD X (.builtin "max") gMax2 where
  op := CallR.weak (call_max2 hc) fun vs H Q ⟨M, xs, o, rx, h⟩ => by
    unfold gMax2 at h
    split at h
    · obtain ⟨v, u, rfl, rv, ru⟩ := rx.two; cases rv; cases ru
      exact ⟨_, _, rfl, fin_d h o (.int _)⟩
    · exact h.elim
  mono := fun x M Q Q' hq h => by
    unfold gMax2 at h ⊢
    split at h
    · exact hq _ _ h
    · exact h.elim

/-! ### repr -/
/-- what the layer asks of where a def runs, beyond Room -/
structure Gd (A : Around) : Prop where
  guards : A.guards = some []
def Shows (d : PyData) : Prop := d.showable = true ∧ d.depth ≤ 60 ∧ d.shown.length ≤ sizeLine
def gRepr : DF := fun xs M Q => match xs with
  | [x] => match vw M x with
    | some d => Shows d ∧ Q (.d (.str d.shown)) M
    | none => False
  | _ => False
theorem cd_repr (g : Gd X.A) (hsys : ∃ o, X.base.get? sysModules = some o) (hu : X.A.units + 64 < cLine) : CallD X (.builtin "repr") gRepr where
  op := fun pins s σ H vs us Q I rv ⟨M, xs, o, rx, h⟩ => by
    unfold gRepr at h
    split at h
    · rename_i x
      obtain ⟨v, rfl, qv⟩ := rx.one
      obtain ⟨u, rfl, ru⟩ := vals1 rv
      split at h
      · rename_i d e
        obtain ⟨⟨h1, h3, h4⟩, hq⟩ := h
        have fin0 : ∀ (h' : Heap) (u' : Tok) (tk : Nat), (∀ b ob, s.heap.get? b = some ob → h'.get? b = some ob) → EP X pins σ Q (.str d.shown u') { s with heap := h', toks := tk } := fun h' u' tk k =>
          ⟨.str d.shown, H, I.kept (t' := tk) k, ⟨_, rfl⟩, fin_d hq o (.str _)⟩
        obtain ⟨as, rd, hn⟩ := vw.reads I o qv e ru
        have nsys : sysModules ∉ as := fun z => not_sys hsys I (hn _ z) rfl
        have fin1 : ∀ (u' : Tok) (tk : Nat), EP X pins σ Q (.str d.shown u') { s with toks := tk } := fun u' tk => fin0 s.heap u' tk fun _ _ q => q
        cases rd with
        | none => exact PySem.P.repr_of_none (fin1 _ _)
        | bool b => exact PySem.P.repr_of_bool (fin1 _ _)
        | int i t => exact PySem.P.repr_of_int (by simpa [PyData.showable] using h1) (fin1 _ _)
        | str y t => exact PySem.P.repr_of_str (fin1 _ _) h4
        | list a1 a2 a3 a4 => exact repr_of_reads' (.list a1 a2 a3 a4) h1 (fun _ => nsys) g.guards (by omega) (fun _ _ q => q) (fun h' u' tk k => fin0 h' u' tk k) h4
        | tuple a1 a2 a3 a4 => exact repr_of_reads' (.tuple a1 a2 a3 a4) h1 (fun _ => nsys) g.guards (by omega) (fun _ _ q => q) (fun h' u' tk k => fin0 h' u' tk k) h4
        | dict a1 a2 a3 a4 a5 => exact repr_of_reads' (.dict a1 a2 a3 a4 a5) h1 (fun _ => nsys) g.guards (by omega) (fun _ _ q => q) (fun h' u' tk k => fin0 h' u' tk k) h4
      · exact h.elim
    · exact h.elim
  mono := fun x M Q Q' hq h => by
    unfold gRepr at h ⊢
    split at h
    · split at h
      · exact ⟨h.1, hq _ _ h.2⟩
      · exact h.elim
    · exact h.elim
end
end HD

namespace HD
open PySem PySem.Spec PyProof.Rows L2

/-! ### a def, where no repr is under way -/
structure FnG (P : Program) (w : World) (K : PySem.W.Frag) (mg : Str → Option Value) (base : Heap) (k : Nat) (f : Addr) (fd : FuncData) (ps : List Str) (sp : Sp) : Prop where
  size : ∀ vs H Q E, sp vs H Q E → vs.length = ps.length
  goes : ∀ (A : Around) (outer : List Env) (s : Shared) (H : Hp) (args : Args) (us : List Value) (vs : List V) (Q : VK) (E : XK), Gd A → Room k A → Env0 P w K mg base A outer s H → BindsTo s fd args (ps.zip us) → Vals vs us → sp vs H Q E →
    codeAny (model P w) A (.call (.ref f) args) (CR (L2.CX P w) outer P w H s Q E) s
theorem FnG.lift {P : Program} {w : World} {K : PySem.W.Frag} {mg : Str → Option Value} {base : Heap} {j k : Nat} {f : Addr} {fd : FuncData} {ps : List Str} {sp : Sp} (F : FnG P w K mg base j f fd ps sp) (h : j ≤ k) : FnG P w K mg base k f fd ps sp :=
  ⟨F.size, fun A o s H a us vs Q E g r => F.goes A o s H a us vs Q E g (r.mono h)⟩
theorem Gd.deeper {A : Around} (g : Gd A) (env : Env) : Gd (A.deeper env) := ⟨g.guards⟩

section
variable {P : Program} {w : World} {K : PySem.W.Frag} {mg : Str → Option Value} {base : Heap}
/-- a def of the text by its body -/
theorem FnG.make {x qual : Str} {st : Stmt} {f : Addr} {fd : FuncData} {N ps : List Str} {k : Nat} {sp : Sp} (F : Fun K x qual st f fd) (S : FnScope N ps (defScope st)) (hlen : ∀ vs H Q E, sp vs H Q E → vs.length = ps.length)
    (body : ∀ (cdv : Value) (A : Around) (outer : List Env) (s : Shared) (H : Hp) (vs : List V) (Q : VK) (E : XK), Gd (A.deeper (envOfC qual (defScope st) s.heap.objs.size f cdv)) → Room k (A.deeper (envOfC qual (defScope st) s.heap.objs.size f cdv)) → sp vs H Q E →
      ∃ t, PSs (cxOf (L2.CX P w) P w K mg base N qual (defScope st) f cdv A outer s H E) (defBody st) t ∧ t { nx := fun _ H' => Q .non H', rt := Q } (start N vs) H) : FnG P w K mg base (k + 1) f fd ps sp := by
  obtain ⟨oc, od, kV, doc, pm, an, cdv, ct, osl, rfl, lk, hcode⟩ := F.ex
  refine ⟨hlen, ?_⟩
  intro A outer s H args us vs Q E g room e0 hb rv hsp
  have inK : K.In s.heap := e0.mod.kin.keeps fun b o e => (e0.bs b o e).1
  have nolim : s.heap.NoLimit := e0.mod.nolimit.keeps fun b o e => (e0.bs b o e).1
  have kinds : ∀ y ∈ ps.zip us, (defScope st).names.lookup y.1 = some .local ∨ ((defScope st).names.lookup y.1 = some .cell ∧ ((cellsFrom (s.heap.objs.size + 1) (defScope st).names []).lookup y.1).isSome = true) := by
    rintro ⟨n, v⟩ hy
    rcases S.par n (List.of_mem_zip hy).1 with q | q
    · exact Or.inl q
    · exact Or.inr ⟨q, PySem.W.cellsFrom_some _ _ _ (Or.inl q)⟩
  refine codeAny_call_function room.depth (inK _ _ lk) rfl S.co S.gen rfl (PySem.W.codeRec_of inK hcode) (hb _ _ _ _ ?_)
  refine wpAny_newFunctionEnv_cells S.kind kinds ?_
  intro env henv s1 inCall
  subst henv
  refine ⟨nolim.keeps inCall.toInCall.keep, codeAny_func ?_⟩
  obtain ⟨t, ht, hq⟩ := body cdv A outer s H vs Q E (g.deeper _) (room.deeper _) hsp
  have I := inv_start (CX := L2.CX P w) (P := P) (w := w) (mg := mg) (E := E) S room.hd e0 (hlen _ _ _ _ hsp) rv inCall
  refine wpAny_mono (ht.run [] s1 (start N vs) H _ I hq) ?_ (fun _ _ h => h)
  intro fl s' hs
  cases fl with
  | ret u =>
    obtain ⟨v, σ', H', J, rv', q⟩ := hs
    exact ⟨v, H', J.os, J.bare, J.base, J.hok, rv', q⟩
  | next =>
    obtain ⟨σ', H', J, q⟩ := hs
    exact ⟨V.non, H', J.os, J.bare, J.base, J.hok, (rfl : Value.none = Value.none), q⟩
  | brk => obtain ⟨_, _, _, q⟩ := hs; exact q.elim
  | cont => obtain ⟨_, _, _, q⟩ := hs; exact q.elim
end

section
variable {X : Cx} {W : WX} {k : Nat} {f : Addr} {fd : FuncData} {ps : List Str} {sp : Sp} {x : Str} {p pos : Pos} {e : Expr} {es : List Expr} {t : TA}
theorem FnG.runs {pins : List (Addr × Obj)} {σ : L2.St} {H : Hp} {s : Shared} {Q : VK} {us : List Value} {vs : List V} (F : FnG X.prog X.w X.K X.mg X.base k f fd ps sp) (g : Gd X.A) (room : Room k X.A) (hb : Binds X.K fd ps []) (tk : Takes X W)
    (I : Inv X pins σ H s) (rv : Vals vs us) (h : sp vs H Q (WE W σ)) : wpAny (model X.prog X.w) X.A (call (.ref f) us) (EP X pins σ Q) X.xe s := by
  have hl : us.length = ps.length := rv.length.symm.trans (F.size _ _ _ _ h)
  have b := hb s us I.kIn (by rw [List.append_nil]; exact hl)
  rw [List.append_nil] at b
  refine wpAny_call (codeAny_mono (F.goes X.A X.stack s H ⟨us, []⟩ us vs Q (WE W σ) g room I.env0 b rv h) ?_)
  intro r s' hr
  cases r with
  | error u => exact passAt tk σ pins H s u s' I hr
  | ok fl =>
    cases fl with
    | ret u => exact I.after hr
    | next => exact hr.elim
    | brk => exact hr.elim
    | cont => exact hr.elim
theorem peG_call (F : FnG X.prog X.w X.K X.mg X.base k f fd ps sp) (g : Gd X.A) (room : Room k X.A) (hg : Gl X x) (hm : X.mg x = some (.ref f)) (hk : PySem.W.keepIn X.K (.ref f) = true) (hb : Binds X.K fd ps []) (tk : Takes X W)
    (ha : PA X (e :: es) t) (hdb : (x == ("__debug__" : Str)) = false := by decide) (he : starEach (e :: es) X.env = (false, eval e X.env) :: starEach es X.env := by rfl) (hpl : (backTo pos (starEach es X.env)).any (·.1) = false := by rfl) :
    PE X (.Call (.Name x p) (e :: es) [] pos) (tCallS sp (WE W) t) := by
  constructor
  intro pins s σ H Q I h
  refine wpAny_Call_Name_kw (ld_glob I hg hm ?_ hdb)
  refine PySem.W.callWith_K (h₀ := X.base) I.ok.mod.kin hk (thn (ha.run pos pins s σ H _ I h) ?_) he hpl
  rintro us s1 ⟨vs, H1, I1, r, q⟩
  exact ⟨I1.kIn, F.runs g room hb tk I1 r q⟩
theorem peG_call0 (F : FnG X.prog X.w X.K X.mg X.base k f fd ps sp) (g : Gd X.A) (room : Room k X.A) (hg : Gl X x) (hm : X.mg x = some (.ref f)) (hk : PySem.W.keepIn X.K (.ref f) = true) (hb : Binds X.K fd ps []) (tk : Takes X W)
    (hdb : (x == ("__debug__" : Str)) = false := by decide) : PE X (.Call (.Name x p) [] [] pos) (tCallS sp (WE W) tNil) := by
  constructor
  intro pins s σ H Q I h
  refine wpAny_Call_Name_kw (ld_glob I hg hm ?_ hdb)
  exact PySem.W.callWith_K0 I.kIn hk (F.runs (us := []) g room hb tk I .nil h)
end

/-! ### what a def promises, told of data -/
structure DSp where
  pre : List DV → Mem → Prop
  post : List DV → Mem → DV → Mem → Prop
  err : List DV → Mem → Value → List (Str × PyData) → Mem → Prop := fun _ _ _ _ _ => False
def DSp.sp (K : PySem.W.Frag) (c : DSp) : Sp := fun vs H Q E => ∃ xs M, RVs K H M vs xs ∧ MemOk K H M ∧ c.pre xs M ∧
  (∀ x M' v H', Ext H M H' M' → MemOk K H' M' → RV K H' M' v x → c.post xs M x M' → Q v H') ∧
  (∀ cls fs d H' M', Ext H M H' M' → MemOk K H' M' → ExcAt K H' M' d fs → c.err xs M cls fs M' → E cls d H')
/-- what a call needs of where it stands -/
structure Cxe (X : Cx) (W : WX) (k : Nat) : Prop where
  tk : Takes X W
  calm : X.calm = true
  gd : Gd X.A
  room : Room k X.A
  nd : X.N.Nodup
  sys : ∃ o, X.base.get? sysModules = some o
def dCall (c : DSp) (t : DA) : DE := fun Xd ρ M Q => t Xd ρ M fun xs M1 => c.pre xs M1 ∧ (∀ x M2, c.post xs M1 x M2 → Q x M2) ∧ (∀ cls fs M2, c.err xs M1 cls fs M2 → Xd cls fs ρ M2)
section
variable {X : Cx} {W : WX} {j k : Nat} {f : Addr} {fd : FuncData} {ps : List Str} {c : DSp} {x : Str} {p pos : Pos} {e : Expr} {es : List Expr} {t : DA}
theorem ce_call (F : FnG X.prog X.w X.K X.mg X.base k f fd ps (c.sp X.K)) (cx : Cxe X W j) (hkj : k ≤ j) (hg : Gl X x) (hm : X.mg x = some (.ref f)) (hk : PySem.W.keepIn X.K (.ref f) = true) (hb : Binds X.K fd ps [])
    (ha : CA X W (e :: es) t) (hdb : (x == ("__debug__" : Str)) = false := by decide) (he : starEach (e :: es) X.env = (false, eval e X.env) :: starEach es X.env := by rfl) (hpl : (backTo pos (starEach es X.env)).any (·.1) = false := by rfl) :
    CE X W (.Call (.Name x p) (e :: es) [] pos) (dCall c t) where
  pe := PE.weak (peG_call F cx.gd (cx.room.mono hkj) hg hm hk hb cx.tk ha.pa hdb he hpl) fun σ H Q ⟨ρ, M, Xd, r, xr, h⟩ => by
    refine embA.next r xr ha.mono h fun ys M1 vs H1 e1 r1 x1 rv h1 => ?_
    obtain ⟨hp, hq, hx⟩ := h1
    exact ⟨ys, M1, rv, r1.mem, hp, fun z M2 v H2 e2 o2 rz q => hq z M2 q v H2 (e1.trans e2) o2 rz, fun cls fs d H2 M2 e2 o2 a q => x1 cls fs d H2 M2 e2 o2 a (hx cls fs M2 q)⟩
  mono := fun Xd ρ M Q Q' hq h => ha.mono _ _ _ _ _ (fun _ _ h1 => ⟨h1.1, fun x M2 q => hq _ _ (h1.2.1 x M2 q), h1.2.2⟩) h
theorem ce_call0 (F : FnG X.prog X.w X.K X.mg X.base k f fd ps (c.sp X.K)) (cx : Cxe X W j) (hkj : k ≤ j) (hg : Gl X x) (hm : X.mg x = some (.ref f)) (hk : PySem.W.keepIn X.K (.ref f) = true) (hb : Binds X.K fd ps [])
    (hdb : (x == ("__debug__" : Str)) = false := by decide) : CE X W (.Call (.Name x p) [] [] pos) (dCall c dNil) where
  pe := PE.weak (peG_call0 F cx.gd (cx.room.mono hkj) hg hm hk hb cx.tk hdb) fun σ H Q ⟨ρ, M, Xd, r, xr, h⟩ => by
    obtain ⟨hp, hq, hx⟩ := h
    exact ⟨[], M, .nil, r.mem, hp, fun z M2 v H2 e2 o2 rz q => hq z M2 q v H2 e2 o2 rz, fun cls fs d H2 M2 e2 o2 a q => xr cls fs d H2 M2 e2 o2 a (hx cls fs M2 q)⟩
  mono := fun Xd ρ M Q Q' hq h => ⟨h.1, fun x M2 q => hq _ _ (h.2.1 x M2 q), h.2.2⟩
end
end HD

namespace HD
open PySem PySem.Spec PyProof.Rows L2

structure DEnds where
  nx : DEnv → Mem → Prop
  rt : DV → Mem → Prop
  bk : DEnv → Mem → Prop
  ct : DEnv → Mem → Prop
  ex : DX
abbrev DS := DEnds → DEnv → Mem → Prop
structure EndsRel (K : PySem.W.Frag) (W : WX) (D : Ends) (Dd : DEnds) (H : Hp) (M : Mem) : Prop where
  nx : ∀ σ' H' ρ' M', Ext H M H' M' → Rel K σ' H' ρ' M' → Dd.nx ρ' M' → D.nx σ' H'
  rt : ∀ v H' x M', Ext H M H' M' → MemOk K H' M' → RV K H' M' v x → Dd.rt x M' → D.rt v H'
  bk : ∀ σ' H' ρ' M', Ext H M H' M' → Rel K σ' H' ρ' M' → Dd.bk ρ' M' → D.bk σ' H'
  ct : ∀ σ' H' ρ' M', Ext H M H' M' → Rel K σ' H' ρ' M' → Dd.ct ρ' M' → D.ct σ' H'
  ex : ∀ cls fs d σ' H' ρ' M', Ext H M H' M' → Rel K σ' H' ρ' M' → ExcAt K H' M' d fs → Dd.ex cls fs ρ' M' → W cls d σ' H'
theorem EndsRel.at {K : PySem.W.Frag} {W : WX} {D : Ends} {Dd : DEnds} {H H1 : Hp} {M M1 : Mem} (r : EndsRel K W D Dd H M) (e : Ext H M H1 M1) : EndsRel K W D Dd H1 M1 :=
  ⟨fun σ' H' ρ' M' e' => r.nx σ' H' ρ' M' (e.trans e'), fun v H' x M' e' => r.rt v H' x M' (e.trans e'), fun σ' H' ρ' M' e' => r.bk σ' H' ρ' M' (e.trans e'), fun σ' H' ρ' M' e' => r.ct σ' H' ρ' M' (e.trans e'), fun cls fs d σ' H' ρ' M' e' => r.ex cls fs d σ' H' ρ' M' (e.trans e')⟩
theorem EndsRel.x {K : PySem.W.Frag} {W : WX} {D : Ends} {Dd : DEnds} {σ : L2.St} {H : Hp} {ρ : DEnv} {M : Mem} (r : EndsRel K W D Dd H M) (q : Rel K σ H ρ M) : XRel K W σ H ρ M Dd.ex :=
  fun cls fs d H' M' e k a h => r.ex cls fs d σ H' ρ M' e (q.ext e k) a h
def embS (K : PySem.W.Frag) (W : WX) (g : DS) : TS := fun D σ H => ∃ ρ M Dd, Rel K σ H ρ M ∧ EndsRel K W D Dd H M ∧ g Dd ρ M
structure CS (X : Cx) (W : WX) (st : Stmt) (g : DS) : Prop where
  ps : PS X st (embS X.K W g)
structure CSs (X : Cx) (W : WX) (st : List Stmt) (g : DS) : Prop where
  pss : PSs X st (embS X.K W g)
theorem PS.weak {X : Cx} {st : Stmt} {t t' : TS} (h : PS X st t) (w : ∀ D σ H, t' D σ H → t D σ H) : PS X st t' := ⟨fun pins s σ H D I q => h.run pins s σ H D I (w D σ H q)⟩
theorem PSs.weak {X : Cx} {st : List Stmt} {t t' : TS} (h : PSs X st t) (w : ∀ D σ H, t' D σ H → t D σ H) : PSs X st t' := ⟨fun pins s σ H D I q => h.run pins s σ H D I (w D σ H q)⟩

theorem Rel.set {K : PySem.W.Frag} {σ : L2.St} {H : Hp} {ρ : DEnv} {M : Mem} (r : Rel K σ H ρ M) {v : V} {x : DV} (h : RV K H M v x) (i : Nat) : Rel K (σ.set i (some v)) H (ρ.set i (some x)) M where
  mem := r.mem
  len := by rw [List.length_set, List.length_set]; exact r.len
  env := fun j y q => by
    by_cases e : i = j
    · subst e
      by_cases hi : i < ρ.length
      · rw [List.getElem?_set_self hi] at q
        cases q
        exact ⟨v, List.getElem?_set_self (by rw [r.len]; exact hi), h⟩
      · rw [List.getElem?_eq_none (by rw [List.length_set]; omega)] at q
        cases q
    · rw [List.getElem?_set_ne e] at q
      obtain ⟨u, h1, h2⟩ := r.env j y q
      exact ⟨u, by rw [List.getElem?_set_ne e]; exact h1, h2⟩
theorem Rel.clear {K : PySem.W.Frag} {σ : L2.St} {H : Hp} {ρ : DEnv} {M : Mem} (r : Rel K σ H ρ M) (o : Option V) (i : Nat) : Rel K (σ.set i o) H (ρ.set i none) M where
  mem := r.mem
  len := by rw [List.length_set, List.length_set]; exact r.len
  env := fun j y q => by
    by_cases e : i = j
    · subst e
      by_cases hi : i < ρ.length
      · rw [List.getElem?_set_self hi] at q
        cases q
      · rw [List.getElem?_eq_none (by rw [List.length_set]; omega)] at q
        cases q
    · rw [List.getElem?_set_ne e] at q
      obtain ⟨u, h1, h2⟩ := r.env j y q
      exact ⟨u, by rw [List.getElem?_set_ne e]; exact h1, h2⟩

section
variable {X : Cx} {W : WX} {st : Stmt} {sts : List Stmt} {g g1 g2 : DS} {e : Expr} {f : DE} {pos pos' : Pos}
/-! ### blocks -/
def dNext : DS := fun D ρ M => D.nx ρ M
def dSeq (g1 g2 : DS) : DS := fun D ρ M => g1 { D with nx := fun ρ' M' => g2 D ρ' M' } ρ M
theorem css_nil : CSs X W [] dNext := ⟨PSs.weak pss_nil fun D σ H ⟨ρ, M, Dd, r, en, h⟩ => en.nx σ H ρ M Ext.refl r h⟩
theorem css_one (h : CS X W st g) : CSs X W [st] g := ⟨pss_one h.ps⟩
theorem css_cons (h1 : CS X W st g1) (h2 : CSs X W sts g2) : CSs X W (st :: sts) (dSeq g1 g2) :=
  ⟨PSs.weak (pss_cons h1.ps h2.pss) fun D σ H ⟨ρ, M, Dd, r, en, h⟩ => ⟨ρ, M, { Dd with nx := fun ρ' M' => g2 Dd ρ' M' }, r,
    ⟨fun σ' H' ρ' M' e r' q => ⟨ρ', M', Dd, r', en.at e, q⟩, en.rt, en.bk, en.ct, en.ex⟩, h⟩⟩
theorem cs_pass : CS X W (.Pass pos) dNext := ⟨PS.weak ps_pass fun D σ H ⟨ρ, M, Dd, r, en, h⟩ => en.nx σ H ρ M Ext.refl r h⟩
def dBreak : DS := fun D ρ M => D.bk ρ M
def dCont : DS := fun D ρ M => D.ct ρ M
theorem cs_break : CS X W (.Break pos) dBreak := ⟨PS.weak ps_break fun D σ H ⟨ρ, M, Dd, r, en, h⟩ => en.bk σ H ρ M Ext.refl r h⟩
theorem cs_cont : CS X W (.Continue pos) dCont := ⟨PS.weak ps_continue fun D σ H ⟨ρ, M, Dd, r, en, h⟩ => en.ct σ H ρ M Ext.refl r h⟩
def dDrop (f : DE) : DS := fun D ρ M => f D.ex ρ M fun _ M' => D.nx ρ M'
theorem cs_expr (h : CE X W e f) (hs : swapsWith e none pos.line X.env = pure false := by rfl) : CS X W (.Expr e pos) (dDrop f) :=
  ⟨PS.weak (ps_expr h.pe hs) fun D σ H ⟨ρ, M, Dd, r, en, q⟩ => emb.next r (en.x r) h.mono q fun x M' v H' e' r' _ _ hq => en.nx σ H' ρ M' e' r' hq⟩
def dRet (f : DE) : DS := fun D ρ M => f D.ex ρ M D.rt
theorem cs_ret (h : CE X W e f) : CS X W (.Return (some e) pos) (dRet f) :=
  ⟨PS.weak (ps_ret h.pe) fun D σ H ⟨ρ, M, Dd, r, en, q⟩ => emb.next r (en.x r) h.mono q fun x M' v H' e' r' _ rv hq => en.rt v H' x M' e' r'.mem rv hq⟩
def dRetN : DS := fun D _ M => D.rt (.d .none) M
theorem cs_retN : CS X W (.Return none pos) dRetN := ⟨PS.weak ps_retN fun D σ H ⟨ρ, M, Dd, r, en, q⟩ => en.rt .non H (.d .none) M Ext.refl r.mem Fz.non q⟩
def dIfS (t : DT) (g1 g2 : DS) : DS := fun D ρ M => t D.ex ρ M fun k M' => match k with | true => g1 D ρ M' | false => g2 D ρ M'
theorem cs_if {c : Expr} {t : DT} {a b : List Stmt} (hc : CT X W c t) (ha : CSs X W a g1) (hb : CSs X W b g2) : CS X W (.If c a b pos) (dIfS t g1 g2) :=
  ⟨PS.weak (ps_if hc.pt ha.pss hb.pss) fun D σ H ⟨ρ, M, Dd, r, en, q⟩ => embT.next r (en.x r) hc.mono q fun k M' H' e' r' _ hq => by
    cases k with
    | true => exact ⟨ρ, M', Dd, r', en.at e', hq⟩
    | false => exact ⟨ρ, M', Dd, r', en.at e', hq⟩⟩
theorem css_never : CSs X W sts fun _ _ _ => False := ⟨PSs.weak pss_never fun D σ H ⟨ρ, M, Dd, r, en, q⟩ => q⟩

/-! ### targets -/
/-- one name, or a tuple of names -/
inductive Tg where
  | one (i : Nat)
  | many (is : List Nat)
  | nest (i : Nat) (is : List Nat)
def setAll (ρ : DEnv) : List Nat → List PyData → Option DEnv
  | [], [] => some ρ
  | i :: is, d :: ds => setAll (ρ.set i (some (.d d))) is ds
  | _, _ => none
def setT (M : Mem) (ρ : DEnv) : Tg → DV → Option DEnv
  | .one i, x => some (ρ.set i (some x))
  | .many is, x => match vw M x with
    | some (.tuple ds) => setAll ρ is ds
    | _ => none
  | .nest i is, x => match x with
    | .d (.tuple [d, .tuple ds]) => setAll (ρ.set i (some (.d d))) is ds
    | _ => none
def gsOf : List Nat → TGs
  | [] => gNil
  | i :: is => gCons (gName i) (gsOf is)
def tgOf (K : PySem.W.Frag) : Tg → TG
  | .one i => gName i
  | .many is => gTup K is.length (gsOf is)
  | .nest i is => gTup K 2 (gCons (gName i) (gCons (gTup K is.length (gsOf is)) gNil))
/-- the slots behind a store -/
def setV (σ : L2.St) : List Nat → List V → L2.St
  | i :: is, v :: vs => setV (σ.set i (some v)) is vs
  | _, _ => σ
theorem gsOf_run {K : PySem.W.Frag} {H : Hp} {M : Mem} : ∀ {is : List Nat} {vs : List V} {ds : List PyData} {σ : L2.St} {ρ ρ' : DEnv} {Q : L2.St → Hp → Prop}, FzA K H M vs ds → Rel K σ H ρ M → setAll ρ is ds = some ρ' →
    (Rel K (setV σ is vs) H ρ' M → Q (setV σ is vs) H) → gsOf is vs σ H Q
  | [], _, _, σ, ρ, ρ', Q, .nil, r, e, h => by cases e; exact ⟨rfl, h r⟩
  | [], _, _, σ, ρ, ρ', Q, .cons _ _, r, e, h => by cases e
  | i :: is, _, _, σ, ρ, ρ', Q, .nil, r, e, h => by cases e
  | i :: is, v :: vs, d :: ds, σ, ρ, ρ', Q, .cons hv t, r, e, h => ⟨v, vs, rfl, gsOf_run (is := is) t (r.set (x := .d d) hv i) e h⟩
theorem setAll_len : ∀ {is : List Nat} {ds : List PyData} {ρ ρ' : DEnv}, setAll ρ is ds = some ρ' → ds.length = is.length
  | [], [], _, _, _ => rfl
  | [], _ :: _, _, _, e => by cases e
  | _ :: _, [], _, _, e => by cases e
  | i :: is, d :: ds, _, _, e => by
    simp only [setAll] at e
    simp only [List.length_cons, setAll_len e]
/-- the target stores, and what stands behind it -/
theorem tgOf_run {K : PySem.W.Frag} {H : Hp} {M : Mem} {tg : Tg} {v : V} {x : DV} {σ : L2.St} {ρ ρ' : DEnv} {Q : L2.St → Hp → Prop} (rv : RV K H M v x) (r : Rel K σ H ρ M) (e : setT M ρ tg x = some ρ') (h : ∀ σ', Rel K σ' H ρ' M → Q σ' H) : tgOf K tg v σ H Q := by
  cases tg with
  | one i => cases e; exact h _ (r.set rv i)
  | many is =>
    simp only [setT] at e
    split at e
    · rename_i ds e1
      obtain ⟨a, xs, rfl, h1, f1⟩ := vw_tup rv e1
      refine ⟨a, xs, rfl, h1.sq, ?_, gsOf_run f1 r e fun r' => h _ r'⟩
      rw [f1.length]
      clear h1 f1 r h rv e1
      induction is generalizing ρ ds with
      | nil => cases ds with | nil => rfl | cons _ _ => cases e
      | cons i is ih => cases ds with | nil => cases e | cons d ds => simp only [setAll] at e; simp only [List.length_cons]; rw [ih ds e]
    · cases e
  | nest i is =>
    simp only [setT] at e
    split at e
    · rename_i d ds
      cases rv with
      | tup h1 f1 =>
        cases f1 with
        | cons r1 f1 =>
          cases f1 with
          | cons r2 f1 =>
            cases f1
            cases r2 with
            | tup h2 f2 =>
              refine ⟨_, _, rfl, h1.sq, rfl, _, _, rfl, _, _, rfl, ⟨_, _, rfl, h2.sq, ?_, ?_⟩⟩
              · rw [f2.length]
                exact setAll_len e
              · exact gsOf_run f2 (r.set (x := .d d) r1 i) e fun r' => ⟨rfl, h _ r'⟩
    · cases e
structure CG (X : Cx) (tg : Expr) (g : Tg) : Prop where
  pg : PG X tg (tgOf X.K g)
theorem cg_one {i : Nat} {x : Str} (hN : X.N.Nodup) (hi : X.N[i]? = some x) (hx : Loc X.env.scope x := by first | exact .inl rfl | exact .inr rfl) (hf : X.fn x = true ∨ X.env.scope.names.lookup x = some .local := by first | exact .inl rfl | exact .inr rfl) : CG X (.Name x pos) (.one i) := ⟨pg_name hN hi hx hf⟩
structure CGs (X : Cx) (tgs : List Expr) (is : List Nat) : Prop where
  pgs : PGs X tgs (gsOf is)
theorem cgs_nil : CGs X [] [] := ⟨pgs_nil⟩
theorem cgs_cons {i : Nat} {is : List Nat} {x : Str} {es : List Expr} (hN : X.N.Nodup) (hi : X.N[i]? = some x) (t : CGs X es is) (hx : Loc X.env.scope x := by first | exact .inl rfl | exact .inr rfl) (hf : X.fn x = true ∨ X.env.scope.names.lookup x = some .local := by first | exact .inl rfl | exact .inr rfl)
    (hs : (assignEach (.Name x pos :: es) X.env).map (·.2) = assign (.Name x pos) X.env :: (assignEach es X.env).map (·.2) := by rfl) : CGs X (.Name x pos :: es) (i :: is) := ⟨pgs_cons (pg_name hN hi hx hf) t.pgs hs⟩
theorem cg_many {is : List Nat} {es : List Expr} {kk : Nat} (hc : X.calm = true) (h : CGs X es is) (hn : (assignEach es X.env).length = is.length := by rfl) (hst : (assignEach es X.env).findIdx? (·.1) = none := by rfl) : CG X (.Tuple es kk pos) (.many is) := ⟨pg_tup hc h.pgs hn hst⟩
theorem cg_nest {i : Nat} {x : Str} {is : List Nat} {es : List Expr} {kk kk2 : Nat} {pos2 : Pos} (hc : X.calm = true) (hN : X.N.Nodup) (hi : X.N[i]? = some x) (h : CGs X es is) (hn : (assignEach es X.env).length = is.length := by rfl) (hst : (assignEach es X.env).findIdx? (·.1) = none := by rfl)
    (hx : Loc X.env.scope x := by first | exact .inl rfl | exact .inr rfl) (hf : X.fn x = true ∨ X.env.scope.names.lookup x = some .local := by first | exact .inl rfl | exact .inr rfl)
    (hs : (assignEach (.Name x pos :: [.Tuple es kk pos2]) X.env).map (·.2) = assign (.Name x pos) X.env :: (assignEach [.Tuple es kk pos2] X.env).map (·.2) := by rfl)
    (hs2 : (assignEach (.Tuple es kk pos2 :: []) X.env).map (·.2) = assign (.Tuple es kk pos2) X.env :: (assignEach [] X.env).map (·.2) := by rfl)
    (hn2 : (assignEach [.Name x pos, .Tuple es kk pos2] X.env).length = 2 := by rfl) (hst2 : (assignEach [.Name x pos, .Tuple es kk pos2] X.env).findIdx? (·.1) = none := by rfl) :
    CG X (.Tuple [.Name x pos, .Tuple es kk pos2] kk2 pos') (.nest i is) :=
  ⟨pg_tup hc (pgs_cons (pg_name hN hi hx hf) (pgs_cons (pg_tup hc h.pgs hn hst) pgs_nil hs2) hs) hn2 hst2⟩
/-! ### stores -/
def dAsg (f : DE) (tg : Tg) : DS := fun D ρ M => f D.ex ρ M fun x M' => match setT M' ρ tg x with | some ρ' => D.nx ρ' M' | none => False
theorem cs_set {i : Nat} {x : Str} (hN : X.N.Nodup) (hi : X.N[i]? = some x) (h : CE X W e f) (hx : Loc X.env.scope x := by first | exact .inl rfl | exact .inr rfl) (hs : swapsWith e (some (.Name x pos')) pos.line X.env = pure false := by rfl) (hf : X.fn x = true ∨ X.env.scope.names.lookup x = some .local := by first | exact .inl rfl | exact .inr rfl) :
    CS X W (.Assign [.Name x pos'] e pos) (dAsg f (.one i)) :=
  ⟨PS.weak (ps_set hN hi hx h.pe hs hf) fun D σ H ⟨ρ, M, Dd, r, en, q⟩ => emb.next r (en.x r) h.mono q fun x M' v H' e' r' _ rv hq => en.nx _ H' _ M' e' (r'.set rv i) hq⟩
theorem cs_asg {tg : Expr} {t : Tg} (h : CE X W e f) (hg : CG X tg t) (hs : swapsWithSole [tg] e pos.line X.env = pure false := by rfl) (hw : swappedStores [tg] e X.env = pure none := by rfl)
    (h1 : (assignEach [tg] X.env).map (·.2) = [assign tg X.env] := by rfl) : CS X W (.Assign [tg] e pos) (dAsg f t) :=
  ⟨PS.weak (ps_asg h.pe hg.pg hs hw h1) fun D σ H ⟨ρ, M, Dd, r, en, q⟩ => emb.next r (en.x r) h.mono q fun x M' v H' e' r' _ rv hq => by
    split at hq
    · rename_i ρ' eq
      exact tgOf_run rv r' eq fun σ' r'' => en.nx σ' H' ρ' M' e' r'' hq
    · exact hq.elim⟩
def dPar (i j : Nat) (t : DA) : DS := fun D ρ M => t D.ex ρ M fun xs M' => match xs with | [x, y] => D.nx ((ρ.set i (some x)).set j (some y)) M' | _ => False
theorem cs_par {i j : Nat} {x y : Str} {a b : Expr} {t : DA} {px py pt : Pos} {kt k2 pt2} (hc : X.calm = true) (hN : X.N.Nodup) (hi : X.N[i]? = some x) (hj : X.N[j]? = some y) (hij : i ≠ j) (ha : CA X W [a, b] t)
    (hx : X.env.scope.names.lookup x = some .local := by rfl) (hy : X.env.scope.names.lookup y = some .local := by rfl)
    (hw : swappedStores [.Tuple [.Name x px, .Name y py] kt pt] (.Tuple [a, b] k2 pt2) X.env = pure (some [x, y]) := by rfl)
    (hs : swapsWithSole [.Tuple [.Name x px, .Name y py] kt pt] (.Tuple [a, b] k2 pt2) pos.line X.env = pure false := by rfl) :
    CS X W (.Assign [.Tuple [.Name x px, .Name y py] kt pt] (.Tuple [a, b] k2 pt2) pos) (dPar i j t) :=
  ⟨PS.weak (ps_par hc hN hi hj hij hx hy ha.pa hw hs) fun D σ H ⟨ρ, M, Dd, r, en, q⟩ => embA.next r (en.x r) ha.mono q fun xs M' vs H' e' r' _ rv hq => by
    split at hq
    · obtain ⟨v, u, rfl, rv1, rv2⟩ := rv.two
      exact ⟨v, u, rfl, en.nx _ H' _ M' e' ((r'.set rv1 i).set rv2 j) hq⟩
    · exact hq.elim⟩
/-- o[i] = e, o a list that is still written -/
def dPut (f fo fi : DE) : DS := fun D ρ M => f D.ex ρ M fun x M1 => fo D.ex ρ M1 fun o M2 => fi D.ex ρ M2 fun i M3 => match x, o, i with
  | .d d, .m a, .d (.int k) => match M3 a with
    | some ds => match ixN ds.length k with
      | some j => D.nx ρ (updM M3 a (ds.set j d))
      | none => False
    | none => False
  | _, _, _ => False
theorem cs_put {o i : Expr} {fo fi : DE} {pt : Pos} (he : CE X W e f) (ho : CE X W o fo) (hi : CE X W i fi)
    (ha : ∀ v, assign (.Subscript o i pt) X.env v = (do
      let ov ← holding [v] (eval o X.env)
      let iv ← holding [v, ov] (eval i X.env)
      standAt pt
      holding [v, ov, iv] (setItem ov iv v)
      release [v, ov, iv] []) := by intro _; rfl)
    (hs : swapsWithSole [.Subscript o i pt] e pos.line X.env = pure false := by rfl) (hw : swappedStores [.Subscript o i pt] e X.env = pure none := by rfl)
    (h1 : (assignEach [.Subscript o i pt] X.env).map (·.2) = [assign (.Subscript o i pt) X.env] := by rfl) : CS X W (.Assign [.Subscript o i pt] e pos) (dPut f fo fi) :=
  ⟨PS.weak (ps_asg he.pe (pg_sub ho.pe hi.pe set_list ha) hs hw h1) fun D σ H ⟨ρ, M, Dd, r, en, q⟩ => by
    refine emb.next r (en.x r) he.mono q fun x M1 v H1 e1 r1 x1 rv h1 => ?_
    refine emb.next r1 x1 ho.mono h1 fun y M2 u H2 e2 r2 x2 ru h2 => ?_
    refine emb.next r2 x2 hi.mono h2 fun z M3 z' H3 e3 r3 x3 rz h3 => ?_
    split at h3
    · rename_i d a kk
      split at h3
      · rename_i ds em
        split at h3
        · rename_i j ej
          obtain ⟨xs, hx, fx⟩ := r3.mem.lst em (RV.ext e3 ru).2.2
          have hu : u = .ref a := (RV.ext e3 ru).1
          subst hu
          cases rz
          have fv : Fz X.K H3 M3 v d := ((rv.ext e2).ext e3 : RV X.K H3 M3 v (.d d))
          refine ⟨a, xs, kk, j, rfl, rfl, hx, by rw [fx.length]; exact ej, ?_⟩
          refine en.nx σ _ ρ _ (((e1.trans e2).trans e3).trans (Ext.write em hx)) ?_ h3
          exact r3.ext (Ext.write em hx) (r3.mem.write em hx (FzA.set fv j fx))
        · exact h3.elim
      · exact h3.elim
    · exact h3.elim⟩
end
end HD

namespace HD
open PySem PySem.Spec PyProof.Rows L2

/-! ### what is walked -/
/-- its: the items; keep: what must stay so of the memory -/
def DWalk (K : PySem.W.Frag) (J : It) (its : List DV) (keep : Mem → Prop) (H1 : Hp) (M1 : Mem) : Prop :=
  ∃ (G : Hp → Prop) (Y : Nat → Hp → V → Hp → Prop), L2.Walk J its.length G Y ∧
    (∀ H' M', Ext H1 M1 H' M' → MemOk K H' M' → keep M' → G H') ∧
    (∀ i v H' H'' M', i < its.length → Ext H1 M1 H' M' → MemOk K H' M' → keep M' → Y i H' v H'' → ∃ x, its[i]? = some x ∧ Ext H' M' H'' M' ∧ MemOk K H'' M' ∧ RV K H'' M' v x)
abbrev DI := DX → DEnv → Mem → (List DV → (Mem → Prop) → Mem → Prop) → Prop
def embI (K : PySem.W.Frag) (W : WX) (f : DI) : TI := fun σ H R => ∃ ρ M Xd, Rel K σ H ρ M ∧ XRel K W σ H ρ M Xd ∧
  f Xd ρ M fun its keep M1 => ∀ J H1, Ext H M H1 M1 → MemOk K H1 M1 → DWalk K J its keep H1 M1 → R J H1
structure CI (X : Cx) (W : WX) (tg iter : Expr) (f : DI) : Prop where
  pi : PI X tg iter (embI X.K W f)
  mono : ∀ Xd ρ M Q Q', (∀ its keep M', Q its keep M' → Q' its keep M') → f Xd ρ M Q → f Xd ρ M Q'
theorem PI.weak {X : Cx} {tg iter : Expr} {t t' : TI} (h : PI X tg iter t) (w : ∀ σ H R, t' σ H R → t σ H R) : PI X tg iter t' := ⟨fun pins s σ H R I q => h.run pins s σ H R I (w σ H R q)⟩

theorem FzA.at {K : PySem.W.Frag} {H : Hp} {M : Mem} {vs : List V} {ds : List PyData} {i : Nat} {v : V} (f : FzA K H M vs ds) (h : vs[i]? = some v) : ∃ x, (ds.map DV.d)[i]? = some x ∧ RV K H M v x := by
  obtain ⟨d, h1, h2⟩ := f.getV h
  exact ⟨.d d, by rw [List.getElem?_map, h1]; rfl, h2⟩
section
variable {K : PySem.W.Frag} {H : Hp} {M : Mem} {a b : Addr} {vs us : List V} {ds es : List PyData}
theorem dwalk_tup (h : StT K H M a vs) (f : FzA K H M vs ds) : DWalk K (Itt K a) (ds.map .d) (fun _ => True) H M :=
  ⟨fun H => SqT K H a vs, YAt vs, by rw [List.length_map, ← f.length]; exact walk_tup, fun H' M' e _ _ => (h.ext e).sq, fun i v H' H'' M' _ e o _ ⟨q, y⟩ => by
    subst q
    obtain ⟨x, h1, h2⟩ := (f.ext e).at y
    exact ⟨x, h1, Ext.refl, o, h2⟩⟩
theorem dwalk_lst (h : H a = some (.lst vs)) (m : M a = none) (f : FzA K H M vs ds) : DWalk K (Itl K a) (ds.map .d) (fun _ => True) H M :=
  ⟨fun H => SqL K H a vs, YAt vs, by rw [List.length_map, ← f.length]; exact walk_list, fun H' M' e _ _ => .of (e.keep _ _ h m), fun i v H' H'' M' _ e o _ ⟨q, y⟩ => by
    subst q
    obtain ⟨x, h1, h2⟩ := (f.ext e).at y
    exact ⟨x, h1, Ext.refl, o, h2⟩⟩
/-- a list that is still written, as long as it is not -/
theorem dwalk_m (hm : M a = some ds) (o1 : MemOk K H M) (hl : ∃ ws, H a = some (.lst ws)) : DWalk K (Itl K a) (ds.map .d) (fun M' => M' a = some ds) H M := by
  refine ⟨fun H' => ∃ ws, H' a = some (.lst ws) ∧ ws.length = ds.length, fun i H' v H'' => H'' = H' ∧ ∀ ws, H' a = some (.lst ws) → ws[i]? = some v, ⟨fun i H' hi ⟨ws, h1, h2⟩ => ?_, fun H' ⟨ws, h1, h2⟩ => ?_, fun i H' v H'' hi g ⟨e, y⟩ => ⟨e, fun ws h => y ws (.of h)⟩⟩, ?_, ?_⟩
  · rw [List.length_map] at hi
    exact ⟨ws, ws[i]'(by omega), .of h1, by simp [h2, hi]⟩
  · exact ⟨ws, .of h1, by rw [List.length_map]; omega⟩
  · intro H' M' e o k
    obtain ⟨xs, h1, h2⟩ := o.lst k (let ⟨ws, z⟩ := hl; e.lst a ws z)
    exact ⟨xs, h1, h2.length⟩
  · intro i v H' H'' M' _ e o k ⟨q, y⟩
    subst q
    obtain ⟨xs, h1, h2⟩ := o.lst k (let ⟨ws, z⟩ := hl; e.lst a ws z)
    obtain ⟨x, h3, h4⟩ := h2.at (y xs h1)
    exact ⟨x, h3, Ext.refl, o, h4⟩
def rangeD (lo : Int) (n : Nat) : List DV := (List.range n).map fun (i : Nat) => .d (.int (lo + (i : Int)))
theorem dwalk_range {lo : Int} {n : Nat} : DWalk K (Itr lo n) (rangeD lo n) (fun _ => True) H M :=
  ⟨fun _ => True, YFn fun i => .int (lo + i), by rw [rangeD, List.length_map, List.length_range]; exact walk_range, fun _ _ _ _ _ => True.intro, fun i v H' H'' M' hi e o _ ⟨q, y⟩ => by
    subst q; subst y
    rw [rangeD, List.length_map, List.length_range] at hi
    exact ⟨.d (.int (lo + (i : Int))), by simp [rangeD, hi], Ext.refl, o, .int _⟩⟩
/-- a pair of each -/
def pairsD (xs ys : List PyData) : List DV := (xs.zip ys).map fun p => .d (.tuple [p.1, p.2])
theorem dwalk_zip (h : SqL K H a vs) (h' : SqL K H b us) (k : ∀ H' M', Ext H M H' M' → SqL K H' a vs ∧ SqL K H' b us) (f : FzA K H M vs ds) (f' : FzA K H M us es) : DWalk K (Itz K a b) (pairsD ds es) (fun _ => True) H M := by
  have hl : (pairsD ds es).length = min vs.length us.length := by rw [pairsD, List.length_map, List.length_zip, f.length, f'.length]
  refine ⟨fun H => SqL K H a vs ∧ SqL K H b us, YPair (fun i => vs[i]?) (fun i => us[i]?), by rw [hl]; exact walk_zip rfl, fun H' M' e _ _ => k H' M' e, fun i v H' H'' M' hi e o _ ⟨T, x, y, h1, h2, h3, h4, h5⟩ => ?_⟩
  subst h1; subst h3
  obtain ⟨d1, q1, r1⟩ := (f.ext e).getV h4
  obtain ⟨d2, q2, r2⟩ := (f'.ext e).getV h5
  refine ⟨.d (.tuple [d1, d2]), ?_, Ext.new h2, o.new h2, .tup (.inl ⟨Rd.of upd_same, o.out h2⟩) (.cons (r1.ext (Ext.new h2)) (.cons (r2.ext (Ext.new h2)) .nil))⟩
  rw [pairsD, List.getElem?_map]
  have : (ds.zip es)[i]? = some (d1, d2) := by rw [List.getElem?_zip_eq_some]; exact ⟨q1, q2⟩
  rw [this]; rfl
end

section
variable {X : Cx} {W : WX} {tg a b : Expr} {es : List Expr} {fa fb : DE} {t : DA} {p pos tpos : Pos}
/-- a tuple or a list as it stands -/
def iSeq (f : DE) : DI := fun Xd ρ M R => f Xd ρ M fun x M1 => match x with
  | .d (.tuple ds) => R (ds.map .d) (fun _ => True) M1
  | .d (.list ds) => R (ds.map .d) (fun _ => True) M1
  | .m a => match M1 a with
    | some ds => R (ds.map .d) (fun M' => M' a = some ds) M1
    | none => False
  | _ => False
theorem iSeq.mono (ha : CE X W a fa) : ∀ Xd ρ M Q Q', (∀ its keep M', Q its keep M' → Q' its keep M') → iSeq fa Xd ρ M Q → iSeq fa Xd ρ M Q' := fun Xd ρ M Q Q' hq h => ha.mono _ _ _ _ _ (fun x M1 h1 => by
  split at h1
  · exact hq _ _ _ h1
  · exact hq _ _ _ h1
  · split at h1
    · exact hq _ _ _ h1
    · exact h1.elim
  · exact h1.elim) h
/-- over a tuple -/
theorem ci_tup (ha : CE X W a fa) : CI X W tg a (fun Xd ρ M R => fa Xd ρ M fun x M1 => match x with | .d (.tuple ds) => R (ds.map .d) (fun _ => True) M1 | _ => False) where
  pi := PI.weak (pi_tup ha.pe) fun σ H R ⟨ρ, M, Xd, r, x, h⟩ => emb.next r x ha.mono h fun y M1 v H1 e1 r1 x1 rv h1 => by
    split at h1
    · cases rv with | tup h2 f => exact ⟨_, rfl, ⟨_, h2.sq⟩, h1 _ _ e1 r1.mem (dwalk_tup h2 f)⟩
    · exact h1.elim
  mono := fun Xd ρ M Q Q' hq h => ha.mono _ _ _ _ _ (fun x M1 h1 => by
    split at h1
    · exact hq _ _ _ h1
    · exact h1.elim) h
/-- over a list -/
def iLst (f : DE) : DI := fun Xd ρ M R => f Xd ρ M fun x M1 => match x with
  | .d (.list ds) => R (ds.map .d) (fun _ => True) M1
  | .m a => match M1 a with
    | some ds => R (ds.map .d) (fun M' => M' a = some ds) M1
    | none => False
  | _ => False
def iTupD (f : DE) : DI := fun Xd ρ M R => f Xd ρ M fun x M1 => match x with | .d (.tuple ds) => R (ds.map .d) (fun _ => True) M1 | _ => False
theorem ci_tupD (ha : CE X W a fa) : CI X W tg a (iTupD fa) := ci_tup ha
theorem ci_lst (ha : CE X W a fa) : CI X W tg a (iLst fa) where
  pi := PI.weak (pi_list ha.pe) fun σ H R ⟨ρ, M, Xd, r, x, h⟩ => emb.next r x ha.mono h fun y M1 v H1 e1 r1 x1 rv h1 => by
    split at h1
    · cases rv with | lst h2 m f => exact ⟨_, rfl, ⟨_, .of h2⟩, h1 _ _ e1 r1.mem (dwalk_lst h2 m f)⟩
    · split at h1
      · rename_i ds em
        obtain ⟨rfl, _, hl⟩ := rv
        obtain ⟨xs, h2, _⟩ := r1.mem.lst em hl
        exact ⟨_, rfl, ⟨_, .of h2⟩, h1 _ _ e1 r1.mem (dwalk_m em r1.mem hl)⟩
      · exact h1.elim
    · exact h1.elim
  mono := fun Xd ρ M Q Q' hq h => ha.mono _ _ _ _ _ (fun x M1 h1 => by
    split at h1
    · exact hq _ _ _ h1
    · split at h1
      · exact hq _ _ _ h1
      · exact h1.elim
    · exact h1.elim) h
def iRange1 (t : DA) : DI := fun Xd ρ M R => t Xd ρ M fun xs M1 => match xs with
  | [.d (.int j)] => (-(2 ^ 62) ≤ j ∧ j < 2 ^ 62) ∧ R (rangeD 0 j.toNat) (fun _ => True) M1
  | _ => False
theorem ci_range1 (hg : Gl X "range") (hm : X.mg "range" = none) (ha : CA X W [a] t) (hs : starEach [a] X.env = [(false, eval a X.env)] := by rfl) : CI X W tg (.Call (.Name "range" p) [a] [] pos) (iRange1 t) where
  pi := PI.weak (pi_range1 hg hm ha.pa hs) fun σ H R ⟨ρ, M, Xd, r, x, h⟩ => embA.next r x ha.mono h fun ys M1 vs H1 e1 r1 x1 rv h1 => by
    split at h1
    · obtain ⟨v, rfl, rv1⟩ := rv.one
      cases rv1
      exact ⟨_, rfl, h1.1.1, h1.1.2, h1.2 _ _ e1 r1.mem dwalk_range⟩
    · exact h1.elim
  mono := fun Xd ρ M Q Q' hq h => ha.mono _ _ _ _ _ (fun x M1 h1 => by
    split at h1
    · exact ⟨h1.1, hq _ _ _ h1.2⟩
    · exact h1.elim) h
def iRange2 (t : DA) : DI := fun Xd ρ M R => t Xd ρ M fun xs M1 => match xs with
  | [.d (.int i), .d (.int j)] => (-(2 ^ 62) ≤ i ∧ i < 2 ^ 62 ∧ -(2 ^ 62) ≤ j ∧ j < 2 ^ 62) ∧ R (rangeD i (j - i).toNat) (fun _ => True) M1
  | _ => False
theorem ci_range2 (hg : Gl X "range") (hm : X.mg "range" = none) (ha : CA X W [a, b] t) (hs : starEach [a, b] X.env = [(false, eval a X.env), (false, eval b X.env)] := by rfl) (hs2 : starEach [b] X.env = [(false, eval b X.env)] := by rfl) : CI X W tg (.Call (.Name "range" p) [a, b] [] pos) (iRange2 t) where
  pi := PI.weak (pi_range2 hg hm ha.pa hs hs2) fun σ H R ⟨ρ, M, Xd, r, x, h⟩ => embA.next r x ha.mono h fun ys M1 vs H1 e1 r1 x1 rv h1 => by
    split at h1
    · obtain ⟨v, u, rfl, rv1, rv2⟩ := rv.two
      cases rv1; cases rv2
      exact ⟨_, _, rfl, h1.1, h1.2 _ _ e1 r1.mem dwalk_range⟩
    · exact h1.elim
  mono := fun Xd ρ M Q Q' hq h => ha.mono _ _ _ _ _ (fun x M1 h1 => by
    split at h1
    · exact ⟨h1.1, hq _ _ _ h1.2⟩
    · exact h1.elim) h

/-! ### for -/
def forD (keep : Mem → Prop) (tg : Tg) (body : DS) : List DV → DEnds → DEnv → Mem → Prop
  | [], D, ρ, M => keep M ∧ D.nx ρ M
  | x :: r, D, ρ, M => keep M ∧ match setT M ρ tg x with
    | some ρ' => body { D with nx := fun ρ2 M2 => forD keep tg body r D ρ2 M2, ct := fun ρ2 M2 => forD keep tg body r D ρ2 M2, bk := D.nx } ρ' M
    | none => False
def dFor (f : DI) (tg : Tg) (body : DS) : DS := fun D ρ M => f D.ex ρ M fun its keep M1 => forD keep tg body its D ρ M1
structure Cxs (X : Cx) (W : WX) (k : Nat) : Prop extends Cxe X W k where
  po : PassesOwn (model X.prog X.w) X.A X.env X.xe
  stk : X.stack = X.env :: X.outer
  frm : X.env.frame = some X.env.locals
theorem cs_for {target iter : Expr} {body : List Stmt} {f : DI} {tg : Tg} {g : DS} {k : Nat} (cx : Cxs X W k) (hi : CI X W target iter f) (hg : CG X target tg) (hb : CSs X W body g)
    (hs : ∀ x, foldedSetIterable iter X.env x = pure x := by intro _; rfl) : CS X W (.For target iter body [] pos) (dFor f tg g) :=
  ⟨PS.weak (ps_for cx.po cx.calm hi.pi hg.pg hb.pss hs) fun D σ H ⟨ρ, M, Dd, r, en, q⟩ => by
    refine ⟨ρ, M, Dd.ex, r, en.x r, hi.mono _ _ _ _ _ (fun its keep M1 h1 J H1 e1 o1 w => ?_) q⟩
    obtain ⟨G, Y, w, hG, hY⟩ := w
    refine for_it w (fun i σ' H' => ∃ ρ' M', Ext H1 M1 H' M' ∧ Rel X.K σ' H' ρ' M' ∧ forD keep tg g (its.drop i) Dd ρ' M') ⟨ρ, M1, Ext.refl, r.ext e1 o1, h1⟩ ?_ ?_ ?_
    · rintro i σ' H' hi' ⟨ρ', M', e', r', hf⟩
      refine hG H' M' e' r'.mem ?_
      cases hd : its.drop i with
      | nil => rw [hd] at hf; exact hf.1
      | cons x rr => rw [hd] at hf; exact hf.1
    · rintro i v σ' H' H'' hi' ⟨ρ', M', e', r', hf⟩ hy
      have hd : its.drop i = its[i] :: its.drop (i + 1) := by rw [List.drop_eq_getElem_cons hi']
      rw [hd] at hf
      obtain ⟨hk, hf⟩ := hf
      obtain ⟨x, hx, e2, o2, rv⟩ := hY i v H' H'' M' hi' e' r'.mem hk hy
      have ex : its[i] = x := by rw [List.getElem?_eq_getElem hi'] at hx; exact Option.some.inj hx
      rw [ex] at hf
      split at hf
      · rename_i ρ2 eq
        refine tgOf_run rv (r'.ext e2 o2) eq fun σ2 r2 => ?_
        have e12 : Ext H1 M1 H'' M' := e'.trans e2
        refine ⟨ρ2, M', _, r2, ?_, hf⟩
        have en2 := en.at (e1.trans e12)
        exact ⟨fun σ3 H3 ρ3 M3 e3 r3 h3 => ⟨ρ3, M3, e12.trans e3, r3, h3⟩, en2.rt, en2.nx, fun σ3 H3 ρ3 M3 e3 r3 h3 => ⟨ρ3, M3, e12.trans e3, r3, h3⟩, en2.ex⟩
      · exact hf.elim
    · rintro σ' H' ⟨ρ', M', e', r', hf⟩
      rw [List.drop_length] at hf
      exact en.nx σ' H' ρ' M' (e1.trans e') r' hf.2⟩
end
end HD

namespace HD
open PySem PySem.Spec PyProof.Rows L2

/-! ### comprehensions -/
structure CTs (X : Cx) (W : WX) (ifs : List Expr) (f : DT) : Prop where
  pts : PTs X ifs (embT X.K W f)
  mono : ∀ Xd ρ M Q Q', (∀ x M', Q x M' → Q' x M') → f Xd ρ M Q → f Xd ρ M Q'
def tAll : DT := fun _ _ M Q => Q true M
section
variable {X : Cx} {W : WX} {c : Expr} {t : DT}
theorem PTs.weak {ifs : List Expr} {t t' : TT} (h : PTs X ifs t) (w : ∀ σ H Q, t' σ H Q → t σ H Q) : PTs X ifs t' := ⟨fun pins s σ H Q I q => h.run pins s σ H Q I (w σ H Q q)⟩
theorem cts_nil : CTs X W [] tAll := ⟨PTs.weak pts_nil fun σ H Q ⟨ρ, M, Xd, r, x, h⟩ => h H Ext.refl r.mem, fun _ _ _ _ _ hq h => hq _ _ h⟩
theorem cts_one (h : CT X W c t) : CTs X W [c] t := ⟨pts_one h.pt, h.mono⟩
end
def wipeD (ρ : DEnv) : List Nat → DEnv
  | [] => ρ
  | v :: vs => (wipeD ρ vs).set v none
theorem Rel.wipe {K : PySem.W.Frag} {σ : L2.St} {H : Hp} {ρ : DEnv} {M : Mem} (r : Rel K σ H ρ M) : ∀ vs : List Nat, Rel K (L2.wipe σ vs) H (wipeD ρ vs) M
  | [] => r
  | v :: vs => (Rel.wipe r vs).clear none v
def noX : DX := fun _ _ _ _ => False
def W0 : WX := fun _ _ _ _ => False
/-- the turns: p is the new list -/
def lcD (keep : Mem → Prop) (tg : Tg) (tt : DT) (te : DE) (p : Addr) (ρ : DEnv) : List DV → Mem → (Mem → Prop) → Prop
  | [], M, Q => keep M ∧ Q M
  | x :: r, M, Q => keep M ∧ match setT M ρ tg x with
    | some ρ' => tt noX ρ' M fun k M1 => match k with
      | true => te noX ρ' M1 fun y M2 => match y, M2 p with
        | .d d, some acc => acc.length < sizeLine ∧ lcD keep tg tt te p ρ r (updM M2 p (acc ++ [d])) Q
        | _, _ => False
      | false => lcD keep tg tt te p ρ r M1 Q
    | none => False
theorem lcD.mono {keep : Mem → Prop} {tg : Tg} {tt : DT} {te : DE} {p : Addr} {ρ : DEnv} (ht : ∀ Xd ρ M Q Q', (∀ x M', Q x M' → Q' x M') → tt Xd ρ M Q → tt Xd ρ M Q') (he : ∀ Xd ρ M Q Q', (∀ x M', Q x M' → Q' x M') → te Xd ρ M Q → te Xd ρ M Q') :
    ∀ (its : List DV) (M : Mem) (Q Q' : Mem → Prop), (∀ M', Q M' → Q' M') → lcD keep tg tt te p ρ its M Q → lcD keep tg tt te p ρ its M Q'
  | [], M, Q, Q', hq, h => ⟨h.1, hq _ h.2⟩
  | x :: r, M, Q, Q', hq, h => by
    simp only [lcD] at h ⊢
    refine ⟨h.1, ?_⟩
    have h2 := h.2
    split at h2
    · rename_i ρ' e
      refine ht _ _ _ _ _ (fun k M1 h3 => ?_) h2
      cases k with
      | false => exact lcD.mono ht he r _ _ _ hq h3
      | true =>
        refine he _ _ _ _ _ (fun y M2 h4 => ?_) h3
        split at h4
        · exact ⟨h4.1, lcD.mono ht he r _ _ _ hq h4.2⟩
        · exact h4.elim
    · exact h2.elim
def dLcM (f : DI) (vs : List Nat) (tg : Tg) (tt : DT) (te : DE) : DE := fun Xd ρ M Q => f Xd ρ M fun its keep M1 => ∀ p, M1 p = none → lcD keep tg tt te p (wipeD ρ vs) its (updM M1 p []) fun M2 => Q (.m p) M2
theorem wipe_set {σ : L2.St} {v : Option V} {i : Nat} : ∀ {vs : List Nat}, i ∈ vs → L2.wipe (σ.set i v) vs = L2.wipe σ vs
  | u :: vs, h => by
    simp only [L2.wipe]
    rcases List.mem_cons.mp h with e | e
    · subst e
      by_cases hm : i ∈ vs
      · rw [wipe_set hm]
      · have : ∀ ws : List Nat, i ∉ ws → (L2.wipe (σ.set i v) ws) = (L2.wipe σ ws).set i v := by
          intro ws hw
          induction ws with
          | nil => rfl
          | cons w ws ih =>
            simp only [List.mem_cons, not_or] at hw
            simp only [L2.wipe]
            rw [ih hw.2, List.set_comm _ _ hw.1]
        rw [this vs hm, List.set_set]
    · rw [wipe_set e]
/-- the target's slots -/
def Tg.slots : Tg → List Nat
  | .one i => [i]
  | .many is => is
  | .nest i is => i :: is
theorem gsOf_run2 {K : PySem.W.Frag} {H : Hp} {M : Mem} {vs0 : List Nat} : ∀ {is : List Nat} {vs : List V} {ds : List PyData} {σ : L2.St} {ρ ρ' : DEnv} {Q : L2.St → Hp → Prop}, (∀ i ∈ is, i ∈ vs0) → FzA K H M vs ds → Rel K σ H ρ M → setAll ρ is ds = some ρ' →
    (∀ σ', L2.wipe σ' vs0 = L2.wipe σ vs0 → Rel K σ' H ρ' M → Q σ' H) → gsOf is vs σ H Q
  | [], _, _, σ, ρ, ρ', Q, _, .nil, r, e, h => by cases e; exact ⟨rfl, h σ rfl r⟩
  | [], _, _, σ, ρ, ρ', Q, _, .cons _ _, r, e, h => by cases e
  | i :: is, _, _, σ, ρ, ρ', Q, _, .nil, r, e, h => by cases e
  | i :: is, v :: vs, d :: ds, σ, ρ, ρ', Q, hi, .cons hv t, r, e, h => ⟨v, vs, rfl, gsOf_run2 (is := is) (fun j hj => hi j (List.mem_cons_of_mem _ hj)) t (r.set (x := .d d) hv i) e fun σ' w => h σ' (w.trans (wipe_set (hi i (List.mem_cons_self ..))))⟩
theorem tgOf_run2 {K : PySem.W.Frag} {H : Hp} {M : Mem} {tg : Tg} {v : V} {x : DV} {vs0 : List Nat} {σ : L2.St} {ρ ρ' : DEnv} {Q : L2.St → Hp → Prop} (hi : ∀ i ∈ tg.slots, i ∈ vs0) (rv : RV K H M v x) (r : Rel K σ H ρ M) (e : setT M ρ tg x = some ρ') (h : ∀ σ', L2.wipe σ' vs0 = L2.wipe σ vs0 → Rel K σ' H ρ' M → Q σ' H) : tgOf K tg v σ H Q := by
  cases tg with
  | one i => cases e; exact h _ (wipe_set (hi i (List.mem_cons_self ..))) (r.set rv i)
  | many is =>
    simp only [setT] at e
    split at e
    · rename_i ds e1
      obtain ⟨a, xs, rfl, h1, f1⟩ := vw_tup rv e1
      refine ⟨a, xs, rfl, h1.sq, ?_, gsOf_run2 hi f1 r e h⟩
      rw [f1.length]
      clear h1 f1 r h rv e1 hi
      induction is generalizing ρ ds with
      | nil => cases ds with | nil => rfl | cons _ _ => cases e
      | cons i is ih => cases ds with | nil => cases e | cons d ds => simp only [setAll] at e; simp only [List.length_cons]; rw [ih ds e]
    · cases e
  | nest i is =>
    simp only [setT] at e
    split at e
    · rename_i d ds
      cases rv with
      | tup h1 f1 =>
        cases f1 with
        | cons r1 f1 =>
          cases f1 with
          | cons r2 f1 =>
            cases f1
            cases r2 with
            | tup h2 f2 =>
              refine ⟨_, _, rfl, h1.sq, rfl, _, _, rfl, _, _, rfl, ⟨_, _, rfl, h2.sq, ?_, ?_⟩⟩
              · rw [f2.length]
                exact setAll_len e
              · exact gsOf_run2 (fun j hj => hi j (List.mem_cons_of_mem _ hj)) f2 (r.set (x := .d d) r1 i) e fun σ' w r' => ⟨rfl, h σ' (w.trans (wipe_set (hi i (List.mem_cons_self ..)))) r'⟩
    · cases e

section
variable {X : Cx} {W : WX} {elt target iter : Expr} {ifs : List Expr} {scope : Scope} {own : List (Str × Nat)} {pos : Pos} {f : DI} {tg : Tg} {tt : DT} {te : DE} {k : Nat}
theorem lc_read {σ : L2.St} {H : Hp} {Q : VK} {vs0 : List Nat} (hi : ∀ i ∈ tg.slots, i ∈ vs0) (ht : ∀ Xd ρ M Q Q', (∀ x M', Q x M' → Q' x M') → tt Xd ρ M Q → tt Xd ρ M Q') (he : ∀ Xd ρ M Q Q', (∀ x M', Q x M' → Q' x M') → te Xd ρ M Q → te Xd ρ M Q')
    (fm : ∀ Xd ρ M Q Q', (∀ its keep M', Q its keep M' → Q' its keep M') → f Xd ρ M Q → f Xd ρ M Q') {En : Addr → Mem → Prop} {ρ : DEnv} {M : Mem} {Xd : DX} (r : Rel X.K σ H ρ M) (x : XRel X.K W σ H ρ M Xd)
    (q : f Xd ρ M fun its keep M1 => ∀ p, M1 p = none → lcD keep tg tt te p (wipeD ρ vs0) its (updM M1 p []) fun M2 => En p M2)
    (hE : ∀ p M2 H', Ext H M H' M2 → MemOk X.K H' M2 → M p = none → (M2 p ≠ none ∧ ∃ xs, H' p = some (.lst xs)) → En p M2 → Q (.ref p) H') : tLc (embI X.K W f) (tgOf X.K tg) (embT X.K W0 tt) (emb X.K W0 te) vs0 σ H Q := by
  refine ⟨ρ, M, Xd, r, x, fm _ _ _ _ _ (fun its keep M1 h1 J H1 e1 o1 w => ?_) q⟩
  intro D hD
  have mD : M1 D = none := o1.out hD
  have h1 := h1 D mD
  obtain ⟨G, Y, w, hG, hY⟩ := w
  refine lc_it w (fun i H' => ∃ M', Ext H1 M1 H' M' ∧ Rel X.K (L2.wipe σ vs0) H' (wipeD ρ vs0) M' ∧ (M' D ≠ none ∧ ∃ xs, H' D = some (.lst xs)) ∧ lcD keep tg tt te D (wipeD ρ vs0) (its.drop i) M' fun M2 => En D M2) ?_ ?_ ?_ ?_
  · exact ⟨updM M1 D [], Ext.newM hD, ((r.ext e1 o1).wipe vs0).ext (Ext.newM hD) (o1.newM hD .nil), ⟨by rw [updM_same]; simp, _, upd_same⟩, h1⟩
  · rintro i H' hi' ⟨M', e', r', _, hf⟩
    refine hG H' M' e' r'.mem ?_
    cases hd : its.drop i with
    | nil => rw [hd] at hf; exact hf.1
    | cons y rr => rw [hd] at hf; exact hf.1
  · rintro i v H' H'' hi' ⟨M', e', r', nd, hf⟩ hy
    have hd : its.drop i = its[i] :: its.drop (i + 1) := by rw [List.drop_eq_getElem_cons hi']
    rw [hd] at hf
    obtain ⟨hk, hf⟩ := hf
    obtain ⟨y, hx, e2, o2, rv⟩ := hY i v H' H'' M' hi' e' r'.mem hk hy
    have ey : its[i] = y := by rw [List.getElem?_eq_getElem hi'] at hx; exact Option.some.inj hx
    rw [ey] at hf
    split at hf
    · rename_i ρ2 eq
      refine tgOf_run2 hi rv (r'.ext e2 o2) eq fun σ2 hw r2 => ?_
      have hw2 : L2.wipe σ2 vs0 = L2.wipe σ vs0 := by
        rw [hw]
        clear hw r2 eq hf rv
        have : ∀ ws : List Nat, (∀ i ∈ ws, i ∈ vs0) → L2.wipe (L2.wipe σ ws) vs0 = L2.wipe σ vs0 := by
          intro ws
          induction ws with
          | nil => intro _; rfl
          | cons a ws ih => intro h; simp only [L2.wipe]; rw [wipe_set (h a (List.mem_cons_self ..)), ih fun i hi => h i (List.mem_cons_of_mem _ hi)]
        exact this vs0 fun i h => h
      refine ⟨hw2, ?_⟩
      have x0 : ∀ {H3 M3}, XRel X.K W0 σ2 H3 ρ2 M3 noX := fun _ _ _ _ _ _ _ _ z => z.elim
      refine embT.next r2 x0 ht hf fun kk M3 H3 e3 r3 x3 h3 => ?_
      cases kk with
      | false =>
        rw [if_neg (by decide)]
        refine ⟨M3, (e'.trans e2).trans e3, ((r.ext e1 o1).wipe vs0).ext ((e'.trans e2).trans e3) r3.mem, ⟨e3.dom _ nd.1, let ⟨_, z⟩ := nd.2; (e2.trans e3).lst _ _ z⟩, h3⟩
      | true =>
        rw [if_pos rfl]
        refine emb.next r3 x3 he h3 fun z M4 u H4 e4 r4 x4 ru h4 => ?_
        split at h4
        · rename_i d acc em
          have hl4 : ∃ xs, H4 D = some (.lst xs) := let ⟨_, z⟩ := nd.2; ((e2.trans e3).trans e4).lst _ _ z
          obtain ⟨xs, hx4, fx⟩ := r4.mem.lst em hl4
          refine ⟨xs, hx4, by rw [fx.length]; exact h4.1, ?_⟩
          have e5 : Ext H4 M4 (upd H4 D (.lst (xs ++ [u]))) (updM M4 D (acc ++ [d])) := Ext.write em hx4
          have o5 : MemOk X.K (upd H4 D (.lst (xs ++ [u]))) (updM M4 D (acc ++ [d])) := r4.mem.write em hx4 (fx.append (.cons ru .nil))
          have e15 := (((e'.trans e2).trans e3).trans e4).trans e5
          exact ⟨updM M4 D (acc ++ [d]), e15, ((r.ext e1 o1).wipe vs0).ext e15 o5, ⟨by rw [updM_same]; simp, _, upd_same⟩, h4.2⟩
        · exact h4.elim
    · exact hf.elim
  · rintro H' ⟨M', e', r', nd, hf⟩
    rw [List.drop_length] at hf
    refine hE D M' H' (e1.trans e') r'.mem ?_ nd hf.2
    cases q : M D with
    | none => rfl
    | some ds => exact absurd mD (e1.dom D (by rw [q]; simp))
/-- what is not going to be written any more -/
def eraseM (M : Mem) (p : Addr) : Mem := fun a => if a = p then none else M a
mutual
theorem Fz.less {K : PySem.W.Frag} {H : Hp} {M M' : Mem} (h : ∀ a, M a = none → M' a = none) : ∀ {v : V} {d : PyData}, Fz K H M v d → Fz K H M' v d
  | _, _, .non => .non
  | _, _, .bl b => .bl b
  | _, _, .int i => .int i
  | _, _, .str x => .str x
  | _, _, .lst e m r => .lst e (h _ m) (FzA.less h r)
  | _, _, .tup (.inl ⟨e, m⟩) r => .tup (.inl ⟨e, h _ m⟩) (FzA.less h r)
  | _, _, .tup (.inr e) r => .tup (.inr e) (FzA.less h r)
  | _, _, .dic e m => .dic e (h _ m)
theorem FzA.less {K : PySem.W.Frag} {H : Hp} {M M' : Mem} (h : ∀ a, M a = none → M' a = none) : ∀ {vs : List V} {ds : List PyData}, FzA K H M vs ds → FzA K H M' vs ds
  | _, _, .nil => .nil
  | _, _, .cons e r => .cons (Fz.less h e) (FzA.less h r)
end
theorem eraseM_none {M : Mem} {p a : Addr} (h : M a = none) : eraseM M p a = none := by
  unfold eraseM
  split
  · rfl
  · exact h
theorem MemOk.erase {K : PySem.W.Frag} {H : Hp} {M : Mem} (o : MemOk K H M) (p : Addr) : MemOk K H (eraseM M p) := fun a ds h => by
  unfold eraseM at h
  split at h
  · cases h
  · rcases o a ds h with ⟨xs, h1, h2⟩ | ⟨kvs, h1, ks, vs, es, h2, h3, h4, h5⟩
    · exact .inl ⟨xs, h1, h2.less fun a => eraseM_none⟩
    · exact .inr ⟨kvs, h1, ks, vs, es, h2, h3, h4.less fun a => eraseM_none, h5⟩
theorem Ext.erase {H H' : Hp} {M M' : Mem} {p : Addr} (e : Ext H M H' M') (hp : M p = none) : Ext H M H' (eraseM M' p) :=
  ⟨e.keep, fun a h m => eraseM_none (e.good a h m), fun a h => by
    unfold eraseM
    rw [if_neg (fun q => by subst q; exact h hp)]
    exact e.dom a h, e.lst, e.dct⟩
def dLc (f : DI) (vs : List Nat) (tg : Tg) (tt : DT) (te : DE) : DE := fun Xd ρ M Q => f Xd ρ M fun its keep M1 => ∀ p, M1 p = none → lcD keep tg tt te p (wipeD ρ vs) its (updM M1 p []) fun M2 => match M2 p with
  | some acc => Q (.d (.list acc)) (eraseM M2 p)
  | none => False
theorem frozen {K : PySem.W.Frag} {H : Hp} {M : Mem} {p : Addr} {acc : List PyData} (o : MemOk K H M) (h : M p = some acc) (hl : ∃ xs, H p = some (.lst xs)) : Fz K H (eraseM M p) (.ref p) (.list acc) := by
  obtain ⟨xs, h1, h2⟩ := o.lst h hl
  exact .lst h1 (by simp [eraseM]) (h2.less fun a => eraseM_none)

theorem ce_lcM (cx : Cxe X W k) (hi : CI X W target iter f) (ok : blkC X.N X.env.scope scope own = true)
    (hg : ∀ (s : Shared) (H : Hp) (C : Addr) (cl : List (Str × Addr)) (fp : List Addr), CG (X.blk s H scope (compEnvC scope cl C X.env) fp) target tg) (ht : ∀ (s : Shared) (H : Hp) (C : Addr) (cl : List (Str × Addr)) (fp : List Addr), CTs (X.blk s H scope (compEnvC scope cl C X.env) fp) W0 ifs tt)
    (he : ∀ (s : Shared) (H : Hp) (C : Addr) (cl : List (Str × Addr)) (fp : List Addr), CE (X.blk s H scope (compEnvC scope cl C X.env) fp) W0 elt te) (hsl : ∀ i ∈ tg.slots, i ∈ own.map (·.2) := by decide) (hs : ∀ x, foldedSetIterable iter X.env x = pure x := by intro _; rfl) :
    CE X W (.ListComp elt [⟨target, iter, ifs, 0⟩] scope pos) (dLcM f (own.map (·.2)) tg tt te) where
  pe := PE.weak (pe_lc cx.calm cx.nd hi.pi (blkOk_by ok) (fun s H C cl fp => (hg s H C cl fp).pg) (fun s H C cl fp => (ht s H C cl fp).pts) (fun s H C cl fp => (he s H C cl fp).pe) hs) fun σ H Q ⟨ρ, M, Xd, r, x, q⟩ =>
    lc_read hsl (ht X.s_0 X.H_0 0 [] []).mono (he X.s_0 X.H_0 0 [] []).mono hi.mono r x q fun p M2 H' e o _ nd h => h _ _ e o ⟨rfl, nd⟩
  mono := fun Xd ρ M Q Q' hq h => hi.mono _ _ _ _ _ (fun its keep M1 h1 p hp => lcD.mono (ht X.s_0 X.H_0 0 [] []).mono (he X.s_0 X.H_0 0 [] []).mono _ _ _ _ (fun M' h2 => hq _ _ h2) (h1 p hp)) h
theorem ce_lc (cx : Cxe X W k) (hi : CI X W target iter f) (ok : blkC X.N X.env.scope scope own = true)
    (hg : ∀ (s : Shared) (H : Hp) (C : Addr) (cl : List (Str × Addr)) (fp : List Addr), CG (X.blk s H scope (compEnvC scope cl C X.env) fp) target tg) (ht : ∀ (s : Shared) (H : Hp) (C : Addr) (cl : List (Str × Addr)) (fp : List Addr), CTs (X.blk s H scope (compEnvC scope cl C X.env) fp) W0 ifs tt)
    (he : ∀ (s : Shared) (H : Hp) (C : Addr) (cl : List (Str × Addr)) (fp : List Addr), CE (X.blk s H scope (compEnvC scope cl C X.env) fp) W0 elt te) (hsl : ∀ i ∈ tg.slots, i ∈ own.map (·.2) := by decide) (hs : ∀ x, foldedSetIterable iter X.env x = pure x := by intro _; rfl) :
    CE X W (.ListComp elt [⟨target, iter, ifs, 0⟩] scope pos) (dLc f (own.map (·.2)) tg tt te) where
  pe := PE.weak (pe_lc cx.calm cx.nd hi.pi (blkOk_by ok) (fun s H C cl fp => (hg s H C cl fp).pg) (fun s H C cl fp => (ht s H C cl fp).pts) (fun s H C cl fp => (he s H C cl fp).pe) hs) fun σ H Q ⟨ρ, M, Xd, r, x, q⟩ =>
    lc_read hsl (ht X.s_0 X.H_0 0 [] []).mono (he X.s_0 X.H_0 0 [] []).mono hi.mono r x q fun p M2 H' e o mp nd h => by
      dsimp only at h
      split at h
      · rename_i acc em
        exact h _ _ (e.erase mp) (o.erase p) (frozen o em nd.2)
      · exact h.elim
  mono := fun Xd ρ M Q Q' hq h => hi.mono _ _ _ _ _ (fun its keep M1 h1 p hp => lcD.mono (ht X.s_0 X.H_0 0 [] []).mono (he X.s_0 X.H_0 0 [] []).mono _ _ _ _ (fun M' h2 => by
    split at h2
    · exact hq _ _ h2
    · exact h2.elim) (h1 p hp)) h
/-! y = [..] -/
variable {i : Nat} {y : Str} {py spos : Pos}
def dSet1 (f : DE) (i : Nat) : DS := fun D ρ M => f D.ex ρ M fun x M' => D.nx (ρ.set i (some x)) M'
theorem cs_setLcM (cx : Cxe X W k) (hy : X.N[i]? = some y) (hi : CI X W target iter f) (ok : blkC X.N X.env.scope scope own = true)
    (hg : ∀ (s : Shared) (H : Hp) (C : Addr) (cl : List (Str × Addr)) (fp : List Addr), CG (X.blk s H scope (compEnvC scope cl C X.env) fp) target tg) (ht : ∀ (s : Shared) (H : Hp) (C : Addr) (cl : List (Str × Addr)) (fp : List Addr), CTs (X.blk s H scope (compEnvC scope cl C X.env) fp) W0 ifs tt)
    (he : ∀ (s : Shared) (H : Hp) (C : Addr) (cl : List (Str × Addr)) (fp : List Addr), CE (X.blk s H scope (compEnvC scope cl C X.env) fp) W0 elt te) (hsw : swapsWith (.ListComp elt [⟨target, iter, ifs, 0⟩] scope pos) (some (.Name y py)) spos.line X.env = pure true := by exact sw_true rfl rfl rfl (by decide +kernel))
    (hyl : X.env.scope.names.lookup y = some .local := by rfl) (hsl : ∀ i ∈ tg.slots, i ∈ own.map (·.2) := by decide) (hs : ∀ x, foldedSetIterable iter X.env x = pure x := by intro _; rfl) :
    CS X W (.Assign [.Name y py] (.ListComp elt [⟨target, iter, ifs, 0⟩] scope pos) spos) (dSet1 (dLcM f (own.map (·.2)) tg tt te) i) :=
  ⟨PS.weak (ps_setLc cx.calm cx.nd hy hyl hsw hi.pi (blkOk_by ok) (fun s H C cl fp => (hg s H C cl fp).pg) (fun s H C cl fp => (ht s H C cl fp).pts) (fun s H C cl fp => (he s H C cl fp).pe) hs) fun D σ H ⟨ρ, M, Dd, r, en, q⟩ =>
    lc_read hsl (ht X.s_0 X.H_0 0 [] []).mono (he X.s_0 X.H_0 0 [] []).mono hi.mono r (en.x r) q fun p M2 H' e o _ nd h =>
      en.nx _ H' _ M2 e ((r.ext e o).set (x := .m p) ⟨rfl, nd⟩ i) h⟩
theorem cs_setLc (cx : Cxe X W k) (hy : X.N[i]? = some y) (hi : CI X W target iter f) (ok : blkC X.N X.env.scope scope own = true)
    (hg : ∀ (s : Shared) (H : Hp) (C : Addr) (cl : List (Str × Addr)) (fp : List Addr), CG (X.blk s H scope (compEnvC scope cl C X.env) fp) target tg) (ht : ∀ (s : Shared) (H : Hp) (C : Addr) (cl : List (Str × Addr)) (fp : List Addr), CTs (X.blk s H scope (compEnvC scope cl C X.env) fp) W0 ifs tt)
    (he : ∀ (s : Shared) (H : Hp) (C : Addr) (cl : List (Str × Addr)) (fp : List Addr), CE (X.blk s H scope (compEnvC scope cl C X.env) fp) W0 elt te) (hsw : swapsWith (.ListComp elt [⟨target, iter, ifs, 0⟩] scope pos) (some (.Name y py)) spos.line X.env = pure true := by exact sw_true rfl rfl rfl (by decide +kernel))
    (hyl : X.env.scope.names.lookup y = some .local := by rfl) (hsl : ∀ i ∈ tg.slots, i ∈ own.map (·.2) := by decide) (hs : ∀ x, foldedSetIterable iter X.env x = pure x := by intro _; rfl) :
    CS X W (.Assign [.Name y py] (.ListComp elt [⟨target, iter, ifs, 0⟩] scope pos) spos) (dSet1 (dLc f (own.map (·.2)) tg tt te) i) :=
  ⟨PS.weak (ps_setLc cx.calm cx.nd hy hyl hsw hi.pi (blkOk_by ok) (fun s H C cl fp => (hg s H C cl fp).pg) (fun s H C cl fp => (ht s H C cl fp).pts) (fun s H C cl fp => (he s H C cl fp).pe) hs) fun D σ H ⟨ρ, M, Dd, r, en, q⟩ =>
    lc_read hsl (ht X.s_0 X.H_0 0 [] []).mono (he X.s_0 X.H_0 0 [] []).mono hi.mono r (en.x r) q fun p M2 H' e o mp nd h => by
      dsimp only at h
      split at h
      · rename_i acc em
        exact en.nx _ H' _ _ (e.erase mp) ((r.ext (e.erase mp) (o.erase p)).set (x := .d (.list acc)) (frozen o em nd.2) i) h
      · exact h.elim⟩
end
end HD

namespace HD
open PySem PySem.Spec PyProof.Rows L2
/-- the kind of a datum, by its class's name -/
def kindD : PyData → String
  | .none => "NoneType"
  | .bool _ => "bool"
  | .int _ => "int"
  | .str _ => "str"
  | .list _ => "list"
  | .tuple _ => "tuple"
  | .dict _ => "dict"
def kinds : List String := ["NoneType", "bool", "int", "str", "list", "tuple", "dict"]
theorem kindD_mem (d : PyData) : kindD d ∈ kinds := by cases d <;> simp [kindD, kinds]
section
variable {K : PySem.W.Frag} {H : Hp} {M : Mem} {v : V} {x : DV} {d : PyData}
theorem tyx_of (o : MemOk K H M) (r : RV K H M v x) (h : vw M x = some d) : TyX K H v (.type (kindD d)) := by
  cases d with
  | none => cases vw_none r h; exact .base .non
  | bool b => cases vw_bool r h; exact .base (.bl b)
  | int b => cases vw_int r h; exact .base (.int b)
  | str b => cases vw_str r h; exact .base (.str b)
  | list ds => obtain ⟨a, xs, rfl, h1, _⟩ := vw_lst o r h; exact .base (.lst h1)
  | tuple ds =>
    obtain ⟨a, xs, rfl, h1, _⟩ := vw_tup r h
    rcases h1 with ⟨h1 | ⟨ob, h1⟩, _⟩ | h1
    · exact .base (.tup h1)
    · exact .fTuple h1
    · rcases h1 with h1 | ⟨ob, its, n, k1, k2, _⟩
      · exact absurd h1 noRd
      · exact .kTuple k1 k2
  | dict kvs => obtain ⟨a, rfl, rfl, h1, _⟩ := vw_dic r h; exact .base (.dK h1)
end
section
variable {X : Cx} {W : WX} {e a b c : Expr} {es : List Expr} {f fa fb fc : DE} {pos p p2 : Pos}
theorem ty_is {pins : List (Addr × Obj)} {σ : L2.St} {H : Hp} {M : Mem} {s : Shared} {v : V} {u : Value} {x : DV} {d : PyData} (I : Inv X pins σ H s) (o : MemOk X.K H M) (r : RV X.K H M v x) (h : vw M x = some d) (ru : RelV v u) : s.TypeIs u (kindD d) := by
  obtain ⟨as, rd, _⟩ := vw.reads I o r h ru
  cases rd with
  | none => rfl
  | bool b => rfl
  | int i t => rfl
  | str y t => rfl
  | list a1 a2 a3 a4 => exact ⟨_, a1, a2⟩
  | tuple a1 a2 a3 a4 => exact ⟨_, a1, a2⟩
  | dict a1 a2 a3 a4 a5 => exact ⟨_, a1, a2⟩
/-! isinstance(e, T), T a built-in class by its name -/
def dIsi (T : String) (fa : DE) : DE := fun Xd ρ M Q => fa Xd ρ M fun x M1 => match vw M1 x with
  | some d => match kitB (kindD d) T with
    | some k => Q (.d (.bool k)) M1
    | none => False
  | none => False
theorem ce_isi {T : String} {n : Str} (hg : Gl X "isinstance") (hm : X.mg "isinstance" = none) (hgT : Gl X n) (hmT : X.mg n = none) (hbT : bootBuiltins n = some (.type T)) (ha : CE X W a fa) (hn : n ≠ "__name__" := by decide) (hdb : (n == ("__debug__" : Str)) = false := by decide)
    (he : starEach (a :: [.Name n p2]) X.env = (false, eval a X.env) :: starEach [.Name n p2] X.env := by rfl) (he2 : starEach (.Name n p2 :: []) X.env = (false, eval (.Name n p2) X.env) :: starEach [] X.env := by rfl) (hpl : (backTo pos (starEach [.Name n p2] X.env)).any (·.1) = false := by rfl) :
    CE X W (.Call (.Name "isinstance" p) [a, .Name n p2] [] pos) (dIsi T fa) where
  pe := PE.weak (pe_callB call_isi hg hm PyProof.Rows.boot_isinstance (pa_cons ha.pe (pa_cons (pe_bltn (v := .ty T) hgT hmT hbT rfl hn hdb) pa_nil he2) he) (by decide) (by decide) he hpl) fun σ H Q ⟨ρ, M, Xd, r, x, h⟩ => by
    refine emb.next r x ha.mono h fun y M1 v H1 e1 r1 x1 rv h1 => ?_
    split at h1
    · rename_i d ev
      split at h1
      · rename_i k ek
        exact ⟨v, .ty T, _, _, k, rfl, .ty T, tyx_of r1.mem rv ev, kit_ty ek, h1 _ _ e1 r1.mem (.bl k)⟩
      · exact h1.elim
    · exact h1.elim
  mono := fun Xd ρ M Q Q' hq h => ha.mono _ _ _ _ _ (fun x M1 h1 => by
    split at h1
    · split at h1
      · exact hq _ _ h1
      · exact h1.elim
    · exact h1.elim) h
/-! type(e) == T -/
def rTyD (K : PySem.W.Frag) : List V → Hp → VK → Prop := fun xs H Q => ∃ v x M d, xs = [v] ∧ MemOk K H M ∧ RV K H M v x ∧ vw M x = some d ∧ Q (.ty (kindD d)) H
theorem call_tyD : CallR X (.type "type") (rTyD X.K) := by
  intro pins s σ H xs us Q I r h
  obtain ⟨v, x, M, d, rfl, o, rv, ev, q⟩ := h
  obtain ⟨u, rfl, ru⟩ := vals1 r
  refine call_type_of (ty_is I o rv ev ru) ?_ ⟨.ty _, H, I, rfl, q⟩
  have := kindD_mem d
  generalize kindD d = k at this
  simp only [kinds, List.mem_cons, List.not_mem_nil, or_false] at this
  rcases this with rfl | rfl | rfl | rfl | rfl | rfl | rfl <;> decide +kernel
theorem kinds_meta {k : String} (h : k ∈ kinds) (s : Shared) : s.TypeIs (.type k) "type" := by
  simp only [kinds, List.mem_cons, List.not_mem_nil, or_false] at h
  rcases h with rfl | rfl | rfl | rfl | rfl | rfl | rfl <;> (show typeOf _ = pure _) <;> kernel_rfl
theorem op_tyEq : OpR X (compareOp .Eq) (fun x y H Q => ∃ S T, x = .ty S ∧ y = .ty T ∧ S ∈ kinds ∧ T ∈ kinds ∧ Q (.bl (decide (S = T))) H) := by
  intro pins s σ H x y v u Q I rx ry ⟨S, T, h1, h2, hS, hT, q⟩
  subst h1 h2
  cases rx; cases ry
  by_cases e : S = T
  · subst e
    exact TypeEq.eq_type_same (kinds_meta hS) ⟨.bl true, H, I, rfl, by simpa using q⟩
  · refine TypeEq.eq_type_other (kinds_meta hS) (kinds_meta hT) ?_ ⟨.bl false, H, I, rfl, by simpa [e] using q⟩
    rw [beq_eq_false_iff_ne]
    intro z
    exact e (by injection z)
def dTyEq (T : String) (fa : DE) : DE := fun Xd ρ M Q => fa Xd ρ M fun x M1 => match vw M1 x with
  | some d => Q (.d (.bool (decide (kindD d = T)))) M1
  | none => False
theorem ce_tyEq {T : String} {n : Str} {p3 : Pos} (hg : Gl X "type") (hm : X.mg "type" = none) (hgT : Gl X n) (hmT : X.mg n = none) (hbT : bootBuiltins n = some (.type T)) (hT : T ∈ kinds) (ha : CE X W a fa) (hn : n ≠ "__name__" := by decide) (hdb : (n == ("__debug__" : Str)) = false := by decide)
    (he : starEach (a :: []) X.env = (false, eval a X.env) :: starEach [] X.env := by rfl) (hpl : (backTo pos (starEach [] X.env)).any (·.1) = false := by rfl) :
    CE X W (.Compare (.Call (.Name "type" p) [a] [] pos) [.Eq] [.Name n p2] p3) (dTyEq T fa) where
  pe := PE.weak (pe_cmpR op_tyEq (pe_callTy call_tyD hg hm PyProof.Rows.boot_type (pa_cons ha.pe pa_nil he) (by decide) (by decide) he hpl) (pe_bltn (v := .ty T) hgT hmT hbT rfl hn hdb) (nomark _)) fun σ H Q ⟨ρ, M, Xd, r, x, h⟩ => by
    refine emb.next r x ha.mono h fun y M1 v H1 e1 r1 x1 rv h1 => ?_
    split at h1
    · rename_i d ev
      exact ⟨v, y, M1, d, rfl, r1.mem, rv, ev, kindD d, T, rfl, rfl, kindD_mem d, hT, h1 _ _ e1 r1.mem (.bl _)⟩
    · exact h1.elim
  mono := fun Xd ρ M Q Q' hq h => ha.mono _ _ _ _ _ (fun x M1 h1 => by
    split at h1
    · exact hq _ _ h1
    · exact h1.elim) h

/-! ### xs.append(e) -/
def dAppend (fo fe : DE) : DE := fun Xd ρ M Q => fo Xd ρ M fun o M1 => match o with
  | .m a => fe Xd ρ M1 fun x M2 => match x with
    | .d d => match M2 a with
      | some ds => ds.length < sizeLine ∧ Q (.d .none) (updM M2 a (ds ++ [d]))
      | none => False
    | _ => False
  | _ => False
theorem ce_append {o : Expr} {fo fe : DE} {apos : Pos} (ho : CE X W o fo) (he : CE X W e fe) (hbase : attributeBase o "append" X.env (eval o X.env) = eval o X.env := by rfl)
    (hfew : ((backTo pos (starEach [e] X.env)).all (fun x => !x.1) && (backToKw pos (keywordEach [] X.env)).all (fun x => x.1.isSome)
      && decide ([e].length + ([] : List Keyword).length + (if ([] : List Keyword).isEmpty then 0 else 1) < 30)) = true := by rfl)
    (hline : (apos.endLine == pos.line) = true := by rfl) (hs : starEach [e] X.env = (false, eval e X.env) :: starEach [] X.env := by rfl) (hplain : (backTo pos (starEach [] X.env)).any (·.1) = false := by rfl) :
    CE X W (.Call (.Attribute o "append" apos) [e] [] pos) (dAppend fo fe) where
  pe := PE.weak (pe_bm PySem.F.plainAttrs_list PySem.F.slot_list_append PySem.F.type_list_append mt_append ho.pe (pa_cons he.pe pa_nil hs) hbase hfew hline hs hplain) fun σ H Q ⟨ρ, M, Xd, r, x, h⟩ => by
    refine emb.next r x ho.mono h fun y M1 v H1 e1 r1 x1 rv h1 => ?_
    split at h1
    · rename_i a
      obtain ⟨rfl, nm, hl⟩ := rv
      have : ∃ ds, M1 a = some ds := by cases q : M1 a with
        | none => exact absurd q nm
        | some ds => exact ⟨ds, rfl⟩
      obtain ⟨ds1, em1⟩ := this
      obtain ⟨xs1, hx1, _⟩ := r1.mem.lst em1 hl
      refine ⟨.inl ⟨rfl, _, .of hx1⟩, ?_⟩
      refine emb.next r1 x1 he.mono h1 fun z M2 u H2 e2 r2 x2 ru h2 => ?_
      split at h2
      · rename_i d
        split at h2
        · rename_i ds em
          obtain ⟨xs, hx, fx⟩ := r2.mem.lst em (e2.lst _ _ hx1)
          refine ⟨_, xs, u, rfl, rfl, hx, by rw [fx.length]; exact h2.1, ?_⟩
          exact h2.2 _ _ ((e1.trans e2).trans (Ext.write em hx)) (r2.mem.write em hx (fx.append (.cons ru .nil))) .non
        · exact h2.elim
      · exact h2.elim
    · exact h1.elim
  mono := fun Xd ρ M Q Q' hq h => ho.mono _ _ _ _ _ (fun y M1 h1 => by
    split at h1
    · exact he.mono _ _ _ _ _ (fun x M2 h2 => by
        split at h2
        · split at h2
          · exact ⟨h2.1, hq _ _ h2.2⟩
          · exact h2.elim
        · exact h2.elim) h1
    · exact h1.elim) h
end
end HD

namespace HD
open PySem PySem.Spec PyProof.Rows L2

/-! ### enumerate(t), t a tuple -/
set_option maxHeartbeats 1000000 in
theorem new_enum {v : Value} {o : Obj} {C : Heap → Prop} (B : Begins v o C) :
    Meets (Builtin.«enumerate.__new__» ⟨[.type "enumerate", v], []⟩) (fun _ R s => C s.heap ∧
      R (.ok (.ret (.ref (s.heap.push o).objs.size))) { s with heap := (s.heap.push o).push { cls := .type "enumerate", data := .fields #[.none, .bool false, .ref s.heap.objs.size, rawInt 0, .none, .none] } }) := by
  refine .of_wp ?_
  intro prog w A R s h
  obtain ⟨hp, gs, dr, tk, os⟩ := s
  obtain ⟨hC, hR⟩ := h
  have hsub := sub_enumerate
  have it : ∀ {A' : Around} {E : Value → Shared → Prop} {Q : Value → Shared → Prop}, Q (.ref hp.objs.size) ⟨hp.push o, gs, dr, tk, os⟩ → wpAny (model prog w) A' (pyIter v) Q E ⟨hp, gs, dr, tk, os⟩ := by
    intro A' E Q hq
    exact B.iter prog w _ _ ⟨hp, gs, dr, tk, os⟩ _ hC hq
  wp_walk using it
  refine wpAny_stack_any ?_
  intro st
  refine wpAny_pure ?_
  split
  · rename_i c _ _ _ _ _
    cases (c == Value.type "enumerate") <;> (wp_walk using it; exact ⟨_, rfl, hR⟩)
  · wp_walk using it; exact ⟨_, rfl, hR⟩
theorem enum_of {prog : Program} {w : World} {A : Around} {E : Value → Shared → Prop} {s : Shared} {v : Value} {o : Obj} {C : Heap → Prop} {Q : Value → Shared → Prop} (B : Begins v o C) (hC : C s.heap)
    (h : ∀ h', IsEnum h' (s.heap.objs.size + 1) s.heap.objs.size 0 .none → h'.get? s.heap.objs.size = some o → h'.objs.size = s.heap.objs.size + 2 →
      (∀ b ob, s.heap.get? b = some ob → h'.get? b = some ob) → Q (.ref (s.heap.objs.size + 1)) { s with heap := h' }) :
    wpAny (model prog w) A (call (.type "enumerate") [v]) Q E s := by
  refine callType_new F.called_enumerate (by decide) (F.typeCall_enumerate_1 _) (F.newCall_enumerate_1 _) (fun obj => F.args_object_init_2 obj _) F.entry_enumerate_new (new_enum B) ⟨hC, ?_⟩
  have hz : (s.heap.push o).objs.size = s.heap.objs.size + 1 := Heap.size_push ..
  show _ ∧ _
  rw [hz]
  have he : IsEnum ((s.heap.push o).push { cls := .type "enumerate", data := .fields #[.none, .bool false, .ref s.heap.objs.size, rawInt 0, .none, .none] }) (s.heap.objs.size + 1) s.heap.objs.size 0 .none := by
    have q := Heap.get?_push_size (s.heap.push o) (o := { cls := .type "enumerate", data := .fields #[.none, .bool false, .ref s.heap.objs.size, rawInt 0, .none, .none] }) rfl
    rw [hz] at q
    exact q
  exact ⟨⟨_, he, rfl⟩, h _ he (Heap.get?_push_of_some _ (Heap.get?_push_size _ B.free)) (by rw [Heap.size_push, hz]) (fun b ob x => Heap.get?_push_of_some _ (Heap.get?_push_of_some _ x))⟩
/-- a walk of a tuple that is at its end -/
theorem spent {prog : Program} {w : World} {A : Around} (hh : A.handled = none) (it t : Addr) (hne : t ≠ it) (items : Array Value) (n : Nat) (hn : items.size ≤ n) :
    Draws prog w A it [it, t] n (fun _ _ => True) (fun j h => j = n ∧ h.IsTupleIter it t n ∧ h.IsTuple t items) where
  live := fun _ _ st => let ⟨o, ho, _⟩ := st.2.1; ⟨o, ho⟩
  frame := fun _ _ _ st hk => ⟨st.1, st.2.1.at fun o e => hk it (by simp) o e, st.2.2.at fun o e => hk t (by simp) o e⟩
  item := fun i s Q E hi st hQ => absurd st.1 (by omega)
  done := fun s Q E st hE => wpAny_nextOf_tuple_end hh st.2.1 st.2.2 (by simp [hn]) hE
/-- the tuple at a, each item in a new pair -/
def ItEnT (K : PySem.W.Frag) (a : Addr) : It where
  go := fun i H => ∃ (xs : List V) (x : V), SqT K H a xs ∧ xs[i]? = some x
  yld := fun i H v H' => ∃ T x, v = .ref T ∧ H T = none ∧ H' = upd H T (.tup [.int (i : Nat), x]) ∧ ∀ xs, SqT K H a xs → xs[i]? = some x
  stop := fun i H => ∃ xs : List V, SqT K H a xs ∧ xs.length ≤ i
theorem turnEnT {P : Program} {w : World} {K : PySem.W.Frag} {elts : List Expr} {kk : Nat} {tpos : Pos} (a e it : Addr) :
    Turn P w K (.Tuple elts kk tpos) (ItEnT K a) [e, it] e (fun i h => (∃ old, IsEnum h e it ((i : Nat) : Int) old) ∧ h.IsTupleIter it a i ∧ e ≠ it ∧ it ≠ a ∧ e ≠ a) where
  mem := List.mem_cons_self ..
  obj := by
    rintro i h ⟨⟨old, he⟩, ⟨o, ho, hc, hd⟩, _⟩ b hb
    simp only [List.mem_cons, List.not_mem_nil, or_false] at hb
    rcases hb with z | z
    · rw [z]; exact ⟨_, he, fun v q => nomatch q⟩
    · rw [z]; exact ⟨o, ho, fun v q => by rw [hd] at q; cases q⟩
  keep := by
    rintro i h h' ⟨⟨old, he⟩, hi, hne⟩ k
    exact ⟨⟨old, k e (by simp) _ he⟩, hi.at fun o q => k it (by simp) o q, hne⟩
  item := by
    intro X hP hw hK hc i pins s σ H E I hf st hg
    subst hP hw hK
    obtain ⟨⟨old, he⟩, hit, hne, hia, hea⟩ := st
    obtain ⟨xs, x, hq, hx⟩ := hg
    obtain ⟨its, rv, p, hz⟩ := I.tuple hq
    obtain ⟨u, hu, ru⟩ := rv.get hx
    have hlen : i < its.toArray.size := by
      rw [List.size_toArray]
      by_cases hlt : i < its.length
      · exact hlt
      · rw [List.getElem?_eq_none (by omega)] at hu; cases hu
    have hel : e < s.heap.objs.size := Heap.lt_size he
    have hil : it < s.heap.objs.size := by obtain ⟨_, q, _⟩ := hit; exact Heap.lt_size q
    refine wpAny_pyNext_enum_itemC (D := Draws.tuple (prog := X.prog) (w := X.w) (A := X.A.in1) (by exact I.ok.hd hc) it a (Ne.symm hia) its.toArray) he ⟨hit, p⟩ hlen hne (by simp [hne, hea]) ?_
    intro x' h' tk hx' ho hst' hT hsz hk
    have ex : x' = u := by
      have q : its[i]? = some x' := by simpa using hx'
      rw [hu] at q; exact (Option.some.inj q).symm
    subst ex
    refine ⟨_, rfl, wpAny_letOwnedTupleGo_enum (s := { s with heap := h', toks := tk + 1 }) ho fun h'' he' sb => ?_⟩
    have hT2 : h''.get? s.heap.objs.size = some { cls := .type "tuple", data := .seq #[.int i tk, x'] } := (sb.2 _ (Nat.ne_of_gt hel)).trans hT
    have fresh : ObjOk X.prog X.w (upd H s.heap.objs.size (.tup [.int (i : Nat), x])) h'' s.heap.objs.size (.tup [.int (i : Nat), x]) :=
      ⟨by show 2 ≤ sizeLine; decide, [.int i tk, x'], .cons ⟨_, rfl⟩ (.cons ru .nil), ⟨_, hT2, rfl, _, rfl⟩⟩
    have I1 : Inv X pins σ (upd H s.heap.objs.size (.tup [.int (i : Nat), x])) { s with heap := h'', toks := tk + 1 } :=
      I.turnedNew (ch := [e, it]) (fun b ob hb q => (sb.2 b (fun z => hb (by simp [z]))).trans (hk b ob (fun z => hb (by simp [z])) (fun z => hb (by simp [z])) q)) hf (Nat.le_refl _) fresh
    refine ⟨.ref s.heap.objs.size, _, I1, rfl, ⟨_, x, rfl, I.hok.fresh (Nat.le_refl _), rfl, fun ys hy => by rw [I.tuple_inj hy hq]; exact hx⟩, ⟨⟨x', ?_⟩, hst'.1.at fun o q => (sb.2 it (Ne.symm hne)).trans q, hne, hia, hea⟩, fun b hb => ?_⟩
    · have e1 : ((i + 1 : Nat) : Int) = (i : Int) + 1 := by omega
      rw [e1]; exact he'
    · have hb' : b < s.heap.objs.size := by
        simp only [List.mem_cons, List.not_mem_nil, or_false] at hb
        rcases hb with z | z
        · rw [z]; exact hel
        · rw [z]; exact hil
      rw [upd_ne (Nat.ne_of_lt hb')]
      exact (hf b hb).1
  done := by
    intro X hP hw hK hc i pins s σ H E I hf st hg
    subst hP hw hK
    obtain ⟨⟨old, he⟩, hit, hne, hia, hea⟩ := st
    obtain ⟨xs, hq, hx⟩ := hg
    obtain ⟨its, rv, p, hz⟩ := I.tuple hq
    obtain ⟨f0, f1, f2, f3, f4, f5⟩ := hf it (by simp)
    have hl := rv.length
    refine wpAny_pyNext_enum_endD (D := spent (prog := X.prog) (w := X.w) (A := X.A.in1) (by exact I.ok.hd hc) it a (Ne.symm hia) its.toArray i (by rw [List.size_toArray]; omega)) he ⟨rfl, hit, p⟩ ?_
    intro h' eb
    exact ⟨rfl, I.turned (t' := s.toks) (fun b o hb q => eb b o hb q) f0 f1 f3 f4 f5⟩
  self := by
    rintro A i s Q E ⟨⟨_, he⟩, _⟩ h
    exact wpAny_pyIter_enum he h
def iEnT (K : PySem.W.Frag) (ta : TA) : TI := fun σ H R => ta σ H fun vs H1 => ∃ a xs, vs = [.ref a] ∧ ((SqT K H1 a xs ∧ R (ItEnT K a) H1) ∨ (SqL K H1 a xs ∧ R (Ite K a) H1))
theorem pi_enT {X : Cx} {e : Expr} {ta : TA} {p pos tpos : Pos} {elts : List Expr} {kk : Nat} (hg : Gl X "enumerate") (hm : X.mg "enumerate" = none) (ha : PA X [e] ta) (hs : starEach [e] X.env = [(false, eval e X.env)] := by rfl) :
    PI X (.Tuple elts kk tpos) (.Call (.Name "enumerate" p) [e] [] pos) (iEnT X.K ta) := by
  constructor
  intro pins s σ H R I h
  refine Call_ (ld_blt I hg hm PyProof.Rows.boot_enumerate (PyProof.Rows.callWith_type1 (thn (ha.run pos pins s σ H _ I h) fun us s1 ⟨vs, H1, I1, r1, q1⟩ => ?_) hs rfl))
  obtain ⟨a, xs, ex, q1⟩ := q1
  subst ex
  cases r1 with
  | cons r rr =>
    cases rr
    cases r
    have cell : ∀ {h' : Heap}, (∀ b o, s1.heap.get? b = some o → h'.get? b = some o) → ∀ b ∈ [s1.heap.objs.size + 1, s1.heap.objs.size], FpOk X pins H1 b := by
      intro h' hk b hb
      have hle : s1.heap.objs.size ≤ b := by
        simp only [List.mem_cons, List.not_mem_nil, or_false] at hb
        rcases hb with z | z <;> omega
      exact I1.fpOk hle (I1.hok.fresh hle)
    rcases q1 with ⟨hq, q⟩ | ⟨hq, q⟩
    · obtain ⟨its, rv, p', hz⟩ := I1.tuple hq
      have hlt := p'.lt
      refine enum_of (begins_tuple a its.toArray) p' fun h' he hit hsz hk => wpAny_pyIter_enum he ?_
      have I2 : Inv X pins σ H1 { s1 with heap := h' } := I1.kept (t' := s1.toks) hk
      exact ⟨s1.heap.objs.size + 1, [s1.heap.objs.size + 1, s1.heap.objs.size], _, _, H1, rfl, I2, turnEnT a (s1.heap.objs.size + 1) s1.heap.objs.size, ⟨⟨.none, he⟩, ⟨_, hit, rfl, rfl⟩, Nat.succ_ne_self _, Nat.ne_of_gt hlt, Nat.ne_of_gt (Nat.lt_succ_of_lt hlt)⟩, cell hk, q⟩
    · obtain ⟨its, rv, p', hz⟩ := I1.list hq
      refine call_enumerate_list p'.isList fun h' he hit hsz hk => wpAny_pyIter_enum he ?_
      have I2 : Inv X pins σ H1 { s1 with heap := h' } := I1.kept (t' := s1.toks) hk
      exact ⟨s1.heap.objs.size + 1, [s1.heap.objs.size + 1, s1.heap.objs.size], _, _, H1, rfl, I2, turn_enum a (s1.heap.objs.size + 1) s1.heap.objs.size, ⟨⟨.none, he⟩, hit, Nat.succ_ne_self _⟩, cell hk, q⟩
theorem walk_enT {K : PySem.W.Frag} {a : Addr} {xs : List V} : L2.Walk (ItEnT K a) xs.length (fun H => SqT K H a xs) (YPair (fun i => some (.int (i : Nat))) (fun i => xs[i]?)) where
  goes := fun i H hi h => ⟨xs, xs[i], h, by simp [hi]⟩
  stops := fun H h => ⟨xs, h, Nat.le_refl _⟩
  yields := fun i H v H' hi h ⟨T, x, h1, h2, h3, h4⟩ => ⟨T, .int (i : Nat), x, h1, h2, h3, rfl, h4 xs h⟩
/-- the pairs of enumerate -/
def enumD (ds : List PyData) : List DV := (List.range ds.length).map fun i => .d (.tuple [.int ((i : Nat) : Int), ds.getD i .none])
section
variable {K : PySem.W.Frag} {H : Hp} {M : Mem} {a b : Addr} {vs us : List V} {ds es : List PyData}
theorem enum_yield {i : Nat} {v : V} {H' H'' : Hp} {M' : Mem} (f : FzA K H' M' vs ds) (o : MemOk K H' M') (y : YPair (fun i => some (.int (i : Nat))) (fun i => vs[i]?) i H' v H'') : ∃ x, (enumD ds)[i]? = some x ∧ Ext H' M' H'' M' ∧ MemOk K H'' M' ∧ RV K H'' M' v x := by
  obtain ⟨T, x, y, h1, h2, h3, h4, h5⟩ := y
  subst h1; subst h3
  obtain ⟨d, q1, r1⟩ := f.getV h5
  cases h4
  have hi : i < ds.length := by
    by_cases hlt : i < ds.length
    · exact hlt
    · rw [List.getElem?_eq_none (by omega)] at q1; cases q1
  refine ⟨.d (.tuple [.int (i : Nat), d]), ?_, Ext.new h2, o.new h2, .tup (.inl ⟨Rd.of upd_same, o.out h2⟩) (.cons (.int _) (.cons (r1.ext (Ext.new h2)) .nil))⟩
  rw [enumD, List.getElem?_map]
  simp [hi]
  rw [List.getElem?_eq_getElem hi] at q1
  exact Option.some.inj q1
theorem enumD_length : (enumD ds).length = ds.length := by simp [enumD]
theorem dwalk_enT (h : StT K H M a vs) (f : FzA K H M vs ds) : DWalk K (ItEnT K a) (enumD ds) (fun _ => True) H M :=
  ⟨fun H => SqT K H a vs, _, by rw [enumD_length, ← f.length]; exact walk_enT, fun H' M' e _ _ => (h.ext e).sq, fun i v H' H'' M' _ e o _ y => enum_yield (f.ext e) o y⟩
theorem dwalk_enL (h : H a = some (.lst vs)) (m : M a = none) (f : FzA K H M vs ds) : DWalk K (Ite K a) (enumD ds) (fun _ => True) H M :=
  ⟨fun H => SqL K H a vs, _, by rw [enumD_length, ← f.length]; exact walk_enum, fun H' M' e _ _ => .of (e.keep _ _ h m), fun i v H' H'' M' _ e o _ y => enum_yield (f.ext e) o y⟩
end
section
variable {X : Cx} {W : WX} {a : Expr} {t : DA} {p pos tpos : Pos} {elts : List Expr} {kk : Nat}
def iEnumD (t : DA) : DI := fun Xd ρ M R => t Xd ρ M fun xs M1 => match xs with
  | [.d (.tuple ds)] => R (enumD ds) (fun _ => True) M1
  | [.d (.list ds)] => R (enumD ds) (fun _ => True) M1
  | _ => False
theorem ci_enum (hg : Gl X "enumerate") (hm : X.mg "enumerate" = none) (ha : CA X W [a] t) (hs : starEach [a] X.env = [(false, eval a X.env)] := by rfl) : CI X W (.Tuple elts kk tpos) (.Call (.Name "enumerate" p) [a] [] pos) (iEnumD t) where
  pi := PI.weak (pi_enT hg hm ha.pa hs) fun σ H R ⟨ρ, M, Xd, r, x, h⟩ => embA.next r x ha.mono h fun ys M1 vs H1 e1 r1 x1 rv h1 => by
    split at h1
    · obtain ⟨v, rfl, rv1⟩ := rv.one
      cases rv1 with | tup h2 f => exact ⟨_, _, rfl, .inl ⟨h2.sq, h1 _ _ e1 r1.mem (dwalk_enT h2 f)⟩⟩
    · obtain ⟨v, rfl, rv1⟩ := rv.one
      cases rv1 with | lst h2 m f => exact ⟨_, _, rfl, .inr ⟨.of h2, h1 _ _ e1 r1.mem (dwalk_enL h2 m f)⟩⟩
    · exact h1.elim
  mono := fun Xd ρ M Q Q' hq h => ha.mono _ _ _ _ _ (fun x M1 h1 => by
    split at h1
    · exact hq _ _ _ h1
    · exact hq _ _ _ h1
    · exact h1.elim) h
end
end HD

namespace HD
open PySem PySem.Spec PyProof.Rows L2

/-! ### a def, told of data -/
def startD (N : List Str) (xs : List DV) : DEnv := xs.map some ++ List.replicate (N.length - xs.length) none
theorem rvs_get {K : PySem.W.Frag} {H : Hp} {M : Mem} : ∀ {vs : List V} {xs : List DV} {i : Nat} {x : DV}, RVs K H M vs xs → xs[i]? = some x → ∃ v, vs[i]? = some v ∧ RV K H M v x
  | _, _, _, _, .nil, h => by simp at h
  | _, _, 0, _, .cons h _, e => by simp at e; subst e; exact ⟨_, rfl, h⟩
  | _, _, i + 1, _, .cons _ r, e => by
    obtain ⟨v, h1, h2⟩ := rvs_get (i := i) r (by simpa using e)
    exact ⟨v, by simpa using h1, h2⟩
theorem rel_start {K : PySem.W.Frag} {H : Hp} {M : Mem} {vs : List V} {xs : List DV} {N : List Str} (o : MemOk K H M) (r : RVs K H M vs xs) : Rel K (L2.start N vs) H (startD N xs) M where
  mem := o
  len := by simp [L2.start, startD, r.length]
  env := fun i x h => by
    unfold startD at h
    by_cases hi : i < xs.length
    · rw [List.getElem?_append_left (by simpa using hi), List.getElem?_map] at h
      cases e : xs[i]? with
      | none => rw [e] at h; cases h
      | some y =>
        rw [e] at h; cases h
        obtain ⟨v, h1, h2⟩ := rvs_get r e
        refine ⟨v, ?_, h2⟩
        unfold L2.start
        rw [List.getElem?_append_left (by rw [List.length_map, r.length]; exact hi), List.getElem?_map, h1]
        rfl
    · rw [List.getElem?_append_right (by simpa using hi), List.getElem?_replicate] at h
      split at h <;> cases h
/-- what is wanted of an error that leaves the def -/
abbrev WOut (E : XK) : WX := fun cls d _ H => E cls d H
section
variable {P : Program} {w : World} {K : PySem.W.Frag} {mg : Str → Option Value} {base : Heap}
theorem FnG.data {x qual : Str} {st : Stmt} {f : Addr} {fd : FuncData} {N ps : List Str} {k : Nat} {c : DSp} {g : DS} (F : Fun K x qual st f fd) (S : FnScope N ps (defScope st)) (hsys : ∃ o, base.get? sysModules = some o)
    (hlen : ∀ xs M, c.pre xs M → xs.length = ps.length)
    (body : ∀ (cdv : Value) (A : Around) (outer : List Env) (s : Shared) (H : Hp) (E : XK), Cxs (cxOf (L2.CX P w) P w K mg base N qual (defScope st) f cdv A outer s H E) (WOut E) k →
      CSs (cxOf (L2.CX P w) P w K mg base N qual (defScope st) f cdv A outer s H E) (WOut E) (defBody st) g)
    (hg : ∀ xs M, c.pre xs M → g ⟨fun _ M' => c.post xs M (.d .none) M', fun x M' => c.post xs M x M', fun _ _ => False, fun _ _ => False, fun cls fs _ M' => c.err xs M cls fs M'⟩ (startD N xs) M) :
    FnG P w K mg base (k + 1) f fd ps (c.sp K) := by
  refine FnG.make F S ?_ ?_
  · rintro vs H Q E ⟨xs, M, rv, _, hp, _⟩
    rw [rv.length]; exact hlen xs M hp
  · rintro cdv A outer s H vs Q E gd room ⟨xs, M, rv, o, hp, hq, hx⟩
    refine ⟨_, (body cdv A outer s H E ⟨⟨takes_of rfl rfl rfl rfl, rfl, gd, room, S.nd, hsys⟩, passes_of rfl, rfl, rfl⟩).pss, ?_⟩
    refine ⟨startD N xs, M, _, rel_start o rv, ⟨?_, ?_, ?_, ?_, ?_⟩, hg xs M hp⟩
    · intro σ' H' ρ' M' e r h
      exact hq (.d .none) M' _ H' e r.mem Fz.non h
    · intro v H' x M' e o' r h
      exact hq x M' v H' e o' r h
    · intro σ' H' ρ' M' e r h; exact h.elim
    · intro σ' H' ρ' M' e r h; exact h.elim
    · intro cls fs d σ' H' ρ' M' e r a h
      exact hx cls fs d H' M' e r.mem a h
end

/-! ### the law's call -/
theorem law_callG {P : Program} {w : World} {K : PySem.W.Frag} {mg mb : Str → Option Value} {k : Nat} {fa a : Addr} {fd : FuncData} {x : Str} {c : DSp} {s₁ : Shared} {vs : List Value} {ns : List Int}
    (inK : K.In s₁.heap) (hns : s₁.heap.Ns mainGlobals mg) (hb : s₁.heap.Ns builtinsNs mb) (hbb : ∀ x : Str, x ≠ "__name__" → mb x = bootBuiltins x) (hlim : s₁.heap.NoLimit) (hgen : s₁.gens = #[]) (hsys : ∃ o, s₁.heap.get? sysModules = some o) (hna : a ≠ sysModules)
    (ha : s₁.heap.get? a = some { cls := .type "list", data := .seq vs.toArray }) (hi : IntsAre vs ns) (hl : ns.length ≤ sizeLine) (hr : Room k callerA)
    (F : ∀ base : Heap, K.In base → base.Ns mainGlobals mg → (∃ o, base.get? sysModules = some o) → FnG P w K mg base k fa fd [x] (c.sp K)) (hbind : ∀ (s : Shared) (u : Value), BindsTo s fd ⟨[u], []⟩ [(x, u)])
    (hpre : c.pre [.s a ns] fun _ => none) (hpost : ∀ y M', c.post [.s a ns] (fun _ => none) y M' → y = .d (.bool true)) (herr : ∀ cls fs M', c.err [.s a ns] (fun _ => none) cls fs M' → False) :
    codeAny (model P w) callerA (.call (.ref fa) ⟨[.ref a], []⟩) (fun r s' => r = .ok (.ret (.bool true)) ∧ OldK s₁.heap s'.heap ∧ s'.os = s₁.os ∧ AllBare s'.gens) s₁ := by
  have rv := vals_ints hi
  have lenV := hi.length
  have main : ∀ H : Hp, Only H → StL K H (fun _ => none) a (ns.map V.int) → HOk P w H s₁.heap → (∀ b, H b ≠ none → b = a) → (H a ≠ none → K.lookup a = none) →
      codeAny (model P w) callerA (.call (.ref fa) ⟨[.ref a], []⟩) (fun r s' => r = .ok (.ret (.bool true)) ∧ OldK s₁.heap s'.heap ∧ s'.os = s₁.os ∧ AllBare s'.gens) s₁ := by
    intro H only hS hok just apart
    have plain : ∀ {b : Addr} {o : Obj} {es : Array DictEntry} {ep : Nat}, s₁.heap.get? b = some o → o.data = .dict es ep → H b = none := by
      intro b o es ep e d
      cases q : H b with
      | none => rfl
      | some u =>
        have hba : b = a := just b (by rw [q]; simp)
        subst hba
        rw [ha] at e; cases e
        exact nomatch (show Data.seq vs.toArray _ = Data.dict es ep from d)
    have nsOf : ∀ {b : Addr} {m : Str → Option Value}, s₁.heap.Ns b m → (hidT s₁.heap H).Ns b m := by
      rintro b m ⟨o, es, ep, e, d, r⟩
      exact ⟨o, es, ep, hidT_get e (plain e d), d, r⟩
    have kIn : K.In (hidT s₁.heap H) := by
      intro b o e
      refine hidT_get (inK b o e) ?_
      cases q : H b with
      | none => rfl
      | some u =>
        have hba : b = a := just b (by rw [q]; simp)
        subst hba
        rw [apart (by rw [q]; simp)] at e; cases e
    have md : Mod K mg (hidT s₁.heap H) := ⟨kIn, nsOf hns, ⟨mb, nsOf hb, hbb⟩, let ⟨mc, h1, h2⟩ := hlim; ⟨mc, nsOf h1, h2⟩⟩
    have e0 : Env0 P w K mg (hidT s₁.heap H) callerA [] s₁ H :=
      ⟨rfl, md, fun b o e => of_hidT e, Nat.le_of_eq (hidT_size _ _), trivial, fun b hb => absurd (show b ∈ ([] : List Addr) from hb) (by simp), hok, .of_eq hgen⟩
    have sys : ∃ o, (hidT s₁.heap H).get? sysModules = some o := let ⟨o, e⟩ := hsys; ⟨o, hidT_get e (by cases q : H sysModules with | none => rfl | some u => exact absurd (just _ (by rw [q]; simp)).symm hna)⟩
    refine codeAny_mono ((F _ kIn (nsOf hns) sys).goes callerA [] s₁ H ⟨[.ref a], []⟩ [.ref a] [.ref a] (fun v _ => v = .bl true) (fun _ _ _ => False) ⟨rfl⟩ hr e0 (hbind s₁ (.ref a)) (.cons rfl .nil) ?_) ?_
    · refine ⟨[.s a ns], fun _ => none, .cons ⟨rfl, hS⟩ .nil, (fun _ _ q => nomatch q), hpre, ?_, ?_⟩
      · intro y M' v H' _ _ r h
        cases hpost y M' h
        cases r; rfl
      · intro cls fs d H' M' _ _ _ h
        exact herr cls fs M' h
    · intro r s' h
      cases r with
      | error e =>
        obtain ⟨_, _, _, _, _, _, _, _, _, _, _, _, z⟩ := h
        exact z.elim
      | ok fl =>
        cases fl with
        | next => exact h.elim
        | brk => exact h.elim
        | cont => exact h.elim
        | ret u =>
          obtain ⟨v, H', os, bare, un, hok', r', q⟩ := h
          obtain rfl : v = .bl true := q
          obtain rfl : u = Value.bool true := r'
          refine ⟨rfl, OldK.of_keep ?_, os, bare⟩
          intro b o e
          cases q : H b with
          | none => exact un.keep b o e q (fun z => absurd (show b ∈ ([] : List Addr) from z) (by simp)) (by simp)
          | some u =>
            rcases only b with z | ⟨ob, xs, z⟩
            · rw [q] at z; cases z
            · obtain ⟨e1, _⟩ := hok b _ z
              obtain ⟨e2, _⟩ := hok' b _ (un.frzs b ob _ z)
              rw [e] at e1; cases e1
              exact e2
  cases hk : K.lookup a with
  | some o =>
    have e := inK a o hk
    rw [ha] at e
    cases e
    exact main (fun _ => none) (fun _ => .inl rfl) (.inr (.inr ⟨_, vs.toArray, _, hk, rfl, rfl, rfl, by rw [List.size_toArray, lenV]; exact hl, by simpa using rv⟩)) (fun b u z => nomatch z) (fun b z => absurd rfl z) fun z => absurd rfl z
  | none =>
    have at_a : ∀ {b : Addr}, b = a → (fun b => if b = a then some (HO.frz { cls := .type "list", data := .seq vs.toArray } (.lst (ns.map V.int))) else none) b = some (HO.frz { cls := .type "list", data := .seq vs.toArray } (.lst (ns.map V.int))) := fun h => if_pos h
    refine main (fun b => if b = a then some (.frz { cls := .type "list", data := .seq vs.toArray } (.lst (ns.map V.int))) else none) ?_ (.inl ⟨.inr ⟨_, at_a rfl⟩, rfl⟩) ?_ ?_ fun _ => hk
    · intro b
      by_cases hb : b = a
      · exact .inr ⟨_, _, at_a hb⟩
      · exact .inl (if_neg hb)
    · intro b u z
      by_cases hb : b = a
      · have z' := (at_a hb).symm.trans z
        cases z'
        subst hb
        exact ⟨ha, by rw [List.length_map]; exact hl, vs, _, rv, ha⟩
      · exact nomatch (if_neg hb).symm.trans z
    · intro b z
      by_cases hb : b = a
      · exact hb
      · exact absurd (if_neg hb) z
end HD

/-! own error classes over any built-in class of errors: making one, storing its fields -/
namespace HD
open PySem PySem.Spec PyProof.Rows L2
/-- the built-in class above an own one -/
structure Over (B : String) (bm : List Value) (nI : String) : Prop where
  built : ∃ iI, ExcBaseFacts B nI iI bm
  store : StoreFacts B bm "object.__setattr__" "object"
  tail : PySem.W.excTail bm bm = true
theorem over_Value : Over "ValueError" [.type "ValueError", .type "Exception", .type "BaseException", .type "object"] "ValueError.__new__" := ⟨⟨_, PySem.F.excBase_ValueError⟩, PySem.F.store_ValueError, by decide +kernel⟩
theorem over_Runtime : Over "RuntimeError" [.type "RuntimeError", .type "Exception", .type "BaseException", .type "object"] "RuntimeError.__new__" := ⟨⟨_, PySem.F.excBase_RuntimeError⟩, PySem.F.store_RuntimeError, by decide +kernel⟩
theorem over_Lookup : Over "LookupError" [.type "LookupError", .type "Exception", .type "BaseException", .type "object"] "LookupError.__new__" := ⟨⟨_, PySem.F.excBase_LookupError⟩, PySem.F.store_LookupError, by decide +kernel⟩
theorem over_Overflow : Over "OverflowError" [.type "OverflowError", .type "ArithmeticError", .type "Exception", .type "BaseException", .type "object"] "OverflowError.__new__" := ⟨⟨_, PySem.F.excBase_OverflowError⟩, PySem.F.store_OverflowError, by decide +kernel⟩
/-- what the text says of an own class of errors -/
structure OexB (K : PySem.W.Frag) (C : Addr) : Prop where
  cl : ∃ (nm q : Str) (N : Addr) (bs bm : List Value) (sn : List Str) (sub : List Value) (ab : Bool) (col : Option Bool) (dd : Option Addr) (a0 a1 a2 a3 a5 : Option Value) (B nI : String), K.lookup C = some (excClassObj nm q C N bs bm true sn sub ab col dd a0 a1 a2 a3 a5 nI) ∧ Over B bm nI
  st : PySem.W.findIn K (.ref C) "__setattr__" = some (some (.builtin "object.__setattr__"))
  ex : PySem.W.subIn K (.ref C) (.type "BaseException") = some true
  ty : PySem.W.typeIn K (.ref C) = some (.type "type")
  kp : PySem.W.keepIn K (.ref C) = true
theorem OexB.clsOf {K : PySem.W.Frag} {C : Addr} (T : OexB K C) : ∃ B bm cd, StoreFacts B bm "object.__setattr__" "object" ∧ PySem.W.excOver K C bm = true ∧ PySem.W.clsIn K C = some cd ∧ cd.hasDict = true := by
  obtain ⟨nm, q, N, bs, bm, sn, sub, ab, col, dd, a0, a1, a2, a3, a5, B, nI, e, o⟩ := T.cl
  have hc : PySem.W.clsIn K C = some { name := nm, bases := bs, mro := .ref C :: bm, ns := N, qualname := q, hasDict := true, slotNames := sn, subclasses := sub, abstract := ab, collection := col, hasDel := false } := by
    unfold PySem.W.clsIn; rw [e] <;> rfl
  refine ⟨B, bm, _, o.store, ?_, hc, rfl⟩
  unfold PySem.W.excOver
  rw [hc]
  simp [o.tail]

namespace Er
open Builtin Builtin.ObjectAttr PySem.W PySem.Calls PySem.HandSPX PySem.OEX
section
variable {P : Program} {w : World} {A : Around} {Qr : Result → Shared → Prop} {m : Heap} {gs : Array GenState} {dr : Drawn} {k : Nat} {os : OsState} {K : W.Frag} {fld : Str} {tk : Tok} {v : Value} {e C dx : Addr} {fv : Array Value} {bm : List Value}
theorem taker_none (hn : W.findIn K (.ref C) fld = some none) : takerIn K C fld = some none := by
  unfold takerIn; rw [hn]; rfl
/-- the first field: the error's dict is made -/
theorem put_first (T : OexB K C) (hK : K.In m) (he : m.get? e = some { cls := .ref C, data := .fields fv }) (hn : W.findIn K (.ref C) fld = some none)
    (q : ∀ m' tk' dx, (∀ b o, b ≠ e → m.get? b = some o → m'.get? b = some o) → m.objs.size ≤ dx → dx ≠ e → m'.get? e = some { cls := .ref C, dict := some dx, data := .fields fv } → m'.Ns1 dx (fun y => if y = fld then some v else none) → Qr (.ok (.ret .none)) ⟨m', gs, dr, tk', os⟩) :
    codeAny (model P w) A (.call (.builtin "object.__setattr__") ⟨[.ref e, .str fld tk, v], []⟩) Qr ⟨m, gs, dr, k, os⟩ := by
  obtain ⟨B, bm, cd, S, ov, hcd, hd⟩ := T.clsOf
  have hes : e ≠ m.objs.size := Nat.ne_of_lt (Heap.lt_size he)
  refine osa_openX (od := none) S hK ⟨he, rfl, rfl, trivial⟩ ov (taker_none hn) fun b => ?_
  have hcl : W.Looks (model P w) m (classData C) cd := W.looks_clsIn hK hcd
  obtain ⟨c1, c2, c3, c4, c5, hdD, c6, c7, c8, c9, c10⟩ := cd
  dsimp only at hd
  subst hd
  dsimp only
  unfold storeInOwnDict ownDictForStores
  repeat (first | with_reducible refine store_in_new ?_ ?_ | with_reducible refine wpAny_loadPart_at he ?_ | with_reducible refine hcl.at ?_ | wp_step)
  · exact ⟨_, #[], _, (Heap.get?_update_ne _ _ _ _ hes.symm).trans (Heap.get?_push_at rfl rfl), rfl, fun x hx => absurd hx (by simp), fun _ => rfl⟩
  · intro m' tk' hn' hs
    have h1 : (m.push { cls := .type "dict", data := .dict #[] }).get? e = some { cls := .ref C, data := .fields fv } := Heap.get?_push_of_some _ he
    refine q m' tk' m.objs.size (fun b o hb ho => (hs.2 b (Nat.ne_of_lt (Heap.lt_size ho))).trans ((Heap.get?_update_ne _ _ _ _ hb).trans (Heap.get?_push_of_some _ ho))) (Nat.le_refl _) hes.symm ?_ hn'
    exact (hs.2 e hes).trans (Heap.get?_update_self _ h1 rfl)
/-- a further field -/
theorem put_more {m0 : Str → Option Value} {nl : List Str} (T : OexB K C) (hK : K.In m) (he : m.get? e = some { cls := .ref C, dict := some dx, data := .fields fv }) (hns : m.Ns1 dx m0) (hw : Within m0 nl) (hz : nl.length ≤ 1000) (hn : W.findIn K (.ref C) fld = some none)
    (q : ∀ m' tk', (∀ b o, b ≠ dx → m.get? b = some o → m'.get? b = some o) → m'.Ns1 dx (fun y => if y = fld then some v else m0 y) → Qr (.ok (.ret .none)) ⟨m', gs, dr, tk', os⟩) :
    codeAny (model P w) A (.call (.builtin "object.__setattr__") ⟨[.ref e, .str fld tk, v], []⟩) Qr ⟨m, gs, dr, k, os⟩ := by
  obtain ⟨B, bm, cd, S, ov, hcd, hd⟩ := T.clsOf
  obtain ⟨oD, _, _, hoD, _, _⟩ := hns.count hw
  refine osa_openX (od := some oD) S hK ⟨he, rfl, rfl, hoD⟩ ov (taker_none hn) fun b => ?_
  have hcl : W.Looks (model P w) m (classData C) cd := W.looks_clsIn hK hcd
  obtain ⟨c1, c2, c3, c4, c5, hdD, c6, c7, c8, c9, c10⟩ := cd
  dsimp only at hd
  subst hd
  dsimp only
  unfold storeInOwnDict ownDictForStores
  repeat (first | with_reducible refine store_in_old hns hw hz ?_ | with_reducible refine wpAny_loadPart_at he ?_ | with_reducible refine hcl.at ?_ | wp_step)
  intro m' tk' hn' hs
  exact q m' tk' (fun b o hb ho => (hs.2 b hb).trans ho) hn'
end
end Er

section
variable {X : Cx} {pins : List (Addr × Obj)} {σ : L2.St} {H : Hp} {s : Shared} {a C dx : Addr} {fld : Str} {y : V} {u : Value} {fs : List (Str × V)} {Q : Unit → Shared → Prop} {E : Value → Shared → Prop} {A : Around}
theorem er_new (T : OexB X.K C) (I : Inv X pins σ H s) (e : H a = some (exo a C none)) (hn : PySem.W.findIn X.K (.ref C) fld = some none) (ry : RelV y u)
    (h : ∀ dx s', H dx = none → dx ≠ a → Inv X pins σ (upd (upd H dx (exd dx [(fld, y)])) a (exo a C (some dx))) s' → Q () s') : wpAny (model X.prog X.w) A (setAttr (.ref a) fld u) Q E s := by
  obtain ⟨t1, ho⟩ := exo_at I.hok e
  obtain ⟨m, g, dr, tk, os⟩ := s
  refine PySem.W.set_plain I.kIn (od := none) (ox := { cls := .ref C, dict := none, data := .fields #[.ref t1, .none, .none, .none, .bool false, .none] }) ⟨ho, rfl, rfl, trivial⟩ T.st ?_
  refine Er.put_first T I.kIn ho hn fun m' tk' dx kp dn dne he hns => ?_
  have hnd : H dx = none := I.hok.fresh dn
  have old : ∀ {b : Addr} {o : Obj}, m.get? b = some o → b ≠ dx := fun {b o} q => Nat.ne_of_lt (Nat.lt_of_lt_of_le (Heap.lt_size q) dn)
  have notA : ∀ {b : Addr}, H b = none → b ≠ a := fun {b} n z => by rw [z, e] at n; cases n
  have U : Un X.fs [] H (upd (upd H dx (exd dx [(fld, y)])) a (exo a C (some dx))) m m' :=
    ⟨fun b o q n _ _ => kp b o (notA n) q, fun b o q n _ _ => ⟨o.slots, kp b o (notA n) q⟩, fun b o q n _ => by rw [upd_ne (notA n), upd_ne (old q)]; exact n,
     fun b o q _ => by
      by_cases hb : b = a
      · exact ⟨_, hb ▸ he⟩
      · exact ⟨o, kp b o hb q⟩,
     fun b xs q => by rw [upd_ne (at_ne e q exo_tup), upd_ne (ne_of_none q hnd)]; exact q,
     fun b o v q => by rw [upd_ne (at_ne e q exo_frz), upd_ne (ne_of_none q hnd)]; exact q,
     fun b ps q => ⟨#[], by rw [upd_ne (at_ne e q exo_tbl), upd_ne (ne_of_none q hnd), q]; simp⟩⟩
  refine h dx _ hnd dne (I.un (t' := tk') U fun b o q => ?_)
  rcases Classical.em (b = a) with hb | hb
  · rw [hb, upd_same] at q
    cases q
    rw [hb]
    exact exo_ok he
  · rw [upd_ne hb] at q
    rcases Classical.em (b = dx) with hd | hd
    · rw [hd, upd_same] at q
      cases q
      rw [hd]
      exact exd_ok hns (relO_put (fs := []) ry fun g => True.intro)
    · rw [upd_ne hd] at q
      refine (I.hok b o q).stay (fun c v hc z => kp c v ?_ z) (fun c hc => ?_) (fun c xs hc => ?_)
      · rcases hc with hc | hc
        · exact hc ▸ hb
        · exact at_ne e hc exo_own
      · rw [upd_ne (at_ne e hc exo_own), upd_ne (ne_of_none hc hnd), hc]
      · rw [upd_ne (at_ne e hc exo_tup), upd_ne (ne_of_none hc hnd), hc]
theorem er_more (T : OexB X.K C) (I : Inv X pins σ H s) (e : H a = some (exo a C (some dx))) (ed : H dx = some (exd dx fs)) (hl : fs.length ≤ 900) (hn : PySem.W.findIn X.K (.ref C) fld = some none) (ry : RelV y u)
    (h : ∀ s', Inv X pins σ (upd H dx (exd dx ((fld, y) :: fs))) s' → Q () s') : wpAny (model X.prog X.w) A (setAttr (.ref a) fld u) Q E s := by
  obtain ⟨t1, ho⟩ := exo_at I.hok e
  obtain ⟨mA, hns, rel⟩ := exd_at I.hok ed
  have hw := within_of rel
  obtain ⟨m, g, dr, tk, os⟩ := s
  obtain ⟨oD, _, _, hoD, _, _⟩ := hns.count hw
  refine PySem.W.set_plain I.kIn (od := some oD) (ox := { cls := .ref C, dict := some dx, data := .fields #[.ref t1, .none, .none, .none, .bool false, .none] }) ⟨ho, rfl, rfl, hoD⟩ T.st ?_
  refine Er.put_more T I.kIn ho hns hw (by rw [List.length_map]; omega) hn fun m' tk' kp hns' => ?_
  obtain ⟨o, q1, q2, e1, q3⟩ := hns'
  exact h _ (I.write (t' := tk') (x := dx) (e := dx) (o := exd dx ((fld, y) :: fs)) (by rw [ed]; exact True.intro) (.inl rfl) kp ⟨o, e1⟩ (exd_ok ⟨o, q1, q2, e1, q3⟩ (relO_put ry rel)))
end

/-- self.f = e within an own error's __init__ -/
def tErS (K : PySem.W.Frag) (f : Str) (to te : TE) : TS := fun D σ H => te σ H fun y H1 => to σ H1 fun x H2 => ∃ a C : Addr, x = .ref a ∧ OexB K C ∧ PySem.W.findIn K (.ref C) f = some none ∧
  ((H2 a = some (exo a C none) ∧ ∀ dx, H2 dx = none → dx ≠ a → D.nx σ (upd (upd H2 dx (exd dx [(f, y)])) a (exo a C (some dx)))) ∨
    ∃ (dx : Addr) (fs : List (Str × V)), H2 a = some (exo a C (some dx)) ∧ H2 dx = some (exd dx fs) ∧ fs.length ≤ 900 ∧ D.nx σ (upd H2 dx (exd dx ((f, y) :: fs))))
section
variable {X : Cx} {o e : Expr} {es : List Expr} {to te : TE} {ta : TA} {f x : Str} {p p' pos : Pos}
theorem ps_erS (ho : PE X o to) (he : PE X e te) (hs : swapsWith e (some (.Attribute o f p')) pos.line X.env = pure false := by rfl) : PS X (.Assign [.Attribute o f p'] e pos) (tErS X.K f to te) :=
  ⟨fun pins s σ H D I h => plainObj_wpAny_Assign_Attribute (thn (he.run pins s σ H _ I h) fun v s1 ⟨y, H1, I1, r1, q1⟩ => thn (ho.run pins s1 σ H1 _ I1 q1) fun u s2 ⟨x, H2, I2, r2, a, C, ex, T, hn, q⟩ => by
    subst ex
    cases r2
    rcases q with ⟨ea, q⟩ | ⟨dx, fs, ea, ed, hl, q⟩
    · exact er_new T I2 ea hn r1 fun dx s' n ne J => ⟨σ, _, J, q dx n ne⟩
    · exact er_more T I2 ea ed hl hn r1 fun s' J => ⟨σ, _, J, q⟩) hs⟩
/-- what C(..) wants of C's own __init__ (its contract sp) -/
def erMk (C : Addr) (sp : Sp) (dvs : List V) (vs : List V) (H1 : Hp) (Q : XK) : Prop := vs.length ≤ 1000 ∧ ∀ a, H1 a = none → sp (.ref a :: (vs ++ dvs)) (upd H1 a (exo a C none))
  (fun v H2 => v = .non ∧ ∃ (d : Addr) (fs : List (Str × V)), H2 a = some (exo a C (some d)) ∧ H2 d = some (exd d fs) ∧ H1 d = none ∧ Q (.ref C) (some d) (upd (del H2 a) d (.xd fs))) (fun _ _ _ => False)
theorem er_call {CX : CXT} {C fI : Addr} {k : Nat} {fd : FuncData} {ps : List Str} {sp : Sp} {ds us : List Value} {dvs vs : List V} {pins : List (Addr × Obj)} {σ : L2.St} {H1 : Hp} {Q : XK} {s : Shared} (T : OexB X.K C) (iC : PySem.W.findIn X.K (.ref C) "__init__" = some (some (.ref fI))) (tI : PySem.W.typeIn X.K (.ref fI) = some (.type "function"))
    (F1 : FnOk X.prog X.w X.K X.mg X.base CX k fI fd ps sp) (hr : Room (k + 1) X.A) (hb : Binds X.K fd ps ds) (hd : Vals dvs ds) (hx : Passes CX X (fun _ _ _ => False)) (I1 : Inv X pins σ H1 s) (r1 : Vals vs us) (q : erMk C sp dvs vs H1 Q) :
    wpAny (model X.prog X.w) X.A (call (.ref C) us) (MkP X pins σ Q) X.xe s := by
  obtain ⟨hz, q1⟩ := q
  obtain ⟨nm, qn, N, bs, bm, sn, sub, ab, col, dd, a0, a1, a2, a3, a5, B, nI, hC, ov⟩ := T.cl
  obtain ⟨iI, FB⟩ := ov.built
  obtain ⟨m, g, dr, tk, os⟩ := s
  have up : m.objs.size ≤ m.objs.size + 1 := Nat.le_succ _
  have hq := q1 (m.objs.size + 1) (I1.hok.fresh up)
  have kk : ∀ b o, m.get? b = some o → ((m.push (PySem.W.kdv_tup us)).push (PySem.HandSPX.excO C m.objs.size)).get? b = some o := fun b o e => Heap.get?_push_of_some _ (Heap.get?_push_of_some _ e)
  have got : ((m.push (PySem.W.kdv_tup us)).push (PySem.HandSPX.excO C m.objs.size)).get? (m.objs.size + 1) = some (PySem.HandSPX.excO C m.objs.size) := by heap_get
  have I2 := I1.laid (t' := tk) (a := m.objs.size + 1) (o := exo (m.objs.size + 1) C none) kk up (exo_ok got)
  have r2 : Vals (V.ref (m.objs.size + 1) :: (vs ++ dvs)) (Value.ref (m.objs.size + 1) :: (us ++ ds)) := .cons rfl (r1.append hd)
  have hl : (Value.ref (m.objs.size + 1) :: us ++ ds).length = ps.length := (F1.len _ _ _ _ hq ▸ r2.length).symm
  have hus : us.length ≤ sizeLine := by rw [← r1.length, sizeLine_eq]; omega
  refine wpAny_call (PySem.HandSPX.call_own FB (fun _ => rfl) (I1.kIn _ _ hC) (PySem.W.looks_findIn I1.kIn iC) (fun self => PySem.W.bind_fn I1.kIn self tI) hus ?_)
  refine codeAny_mono (F1.run _ X.stack _ _ ⟨Value.ref (m.objs.size + 1) :: us, []⟩ (Value.ref (m.objs.size + 1) :: (us ++ ds)) _ _ (fun _ _ _ => False) (hr.make C us []) (I2.env0.make C us []) (hb _ (Value.ref (m.objs.size + 1) :: us) I2.kIn hl) r2 hq) fun r s' hq' => ?_
  match r, hq' with
  | .error er, hq' => exact hx pins σ _ _ er s' I2 hq'
  | .ok (.ret u), hq' =>
    obtain ⟨v, H2, os2, bare2, un2, hok2, rv, ev, d, fs, ea, ed, hd1, q2⟩ := hq'
    subst ev
    obtain ⟨h2, g2, d2, t2, os'⟩ := s'
    exact ⟨rv, mk_end (raises_own T.ex T.ty) I1 up kk un2 hok2 os2 bare2 ea ed hd1 q2⟩
  | .ok .next, hq' => exact False.elim hq'
  | .ok .brk, hq' => exact False.elim hq'
  | .ok .cont, hq' => exact False.elim hq'
theorem pmk_er {CX : CXT} {C fI : Addr} {k : Nat} {fd : FuncData} {ps : List Str} {sp : Sp} {ds : List Value} {dvs : List V} (T : OexB X.K C) (iC : PySem.W.findIn X.K (.ref C) "__init__" = some (some (.ref fI))) (tI : PySem.W.typeIn X.K (.ref fI) = some (.type "function"))
    (F1 : FnOk X.prog X.w X.K X.mg X.base CX k fI fd ps sp) (hr : Room (k + 1) X.A) (hb : Binds X.K fd ps ds) (hd : Vals dvs ds) (hx : Passes CX X (fun _ _ _ => False)) (hg : Gl X x) (hm : X.mg x = some (.ref C)) (ha : PA X (e :: es) ta)
    (hdb : (x == ("__debug__" : Str)) = false := by decide) (hse : starEach (e :: es) X.env = (false, eval e X.env) :: starEach es X.env := by rfl) (hpl : (backTo pos (starEach es X.env)).any (·.1) = false := by rfl) :
    PMk X (.Call (.Name x p) (e :: es) [] pos) (fun σ H Q => ta σ H fun vs H1 => erMk C sp dvs vs H1 Q) := fun pins s σ H Q I h =>
  wpAny_Call_Name_kw (ld_glob I hg hm (PySem.W.callWith_K (h₀ := X.base) I.ok.mod.kin T.kp (thn (ha.run pos pins s σ H _ I h) fun us s1 ⟨vs, H1, I1, r1, q1⟩ => ⟨I1.kIn, er_call T iC tI F1 hr hb hd hx I1 r1 q1⟩) hse hpl) hdb)
end
end HD

namespace HD
open PySem PySem.Spec PyProof.Rows L2

/-! ### an own error over ValueError that keeps one thing -/
/-- its __init__ keeps the argument under the name fld -/
def spInit (K : PySem.W.Frag) (C : Addr) (fld : Str) : Sp := fun vs H Q _ => ∃ a v, vs = [.ref a, v] ∧ OexB K C ∧ PySem.W.findIn K (.ref C) fld = some none ∧ H a = some (exo a C none) ∧
  ∀ dx, H dx = none → dx ≠ a → Q .non (upd (upd H dx (exd dx [(fld, v)])) a (exo a C (some dx)))
/-- what the text says of such a class -/
structure ErrC (K : PySem.W.Frag) (mg : Str → Option Value) (x fld : Str) (C fI : Addr) (fd : FuncData) : Prop where
  oex : OexB K C
  iC : PySem.W.findIn K (.ref C) "__init__" = some (some (.ref fI))
  tI : PySem.W.typeIn K (.ref fI) = some (.type "function")
  bd : Binds K fd ["self", fld] []
  g : mg x = some (.ref C)
  no : PySem.W.findIn K (.ref C) fld = some none
  xf : XfC K C
  self : PySem.W.exmOne K (.ref C) (.ref C) = some true
theorem heap_made {H : Hp} {a dx : Addr} {o1 o2 o3 o4 : HO} (h : H a = none) (n : dx ≠ a) : upd (L2.del (upd (upd (upd H a o1) dx o2) a o3) a) dx o4 = upd H dx o4 := by
  funext b
  by_cases e : b = dx
  · subst e; rw [upd_same, upd_same]
  · rw [upd_ne e, upd_ne e]
    by_cases e2 : b = a
    · subst e2; rw [del_same, h]
    · rw [del_ne e2, upd_ne e2, upd_ne e, upd_ne e2]
def dRaise (C : Addr) (fld : Str) (f : DE) : DS := fun D ρ M => f D.ex ρ M fun y M1 => match y with
  | .d d => D.ex (.ref C) [(fld, d)] ρ M1
  | _ => False
section
variable {X : Cx} {W : WX} {j : Nat} {x fld n : Str} {C fI : Addr} {fd : FuncData} {e : Expr} {f : DE} {p pos pos2 pos3 : Pos}
theorem cs_raise (E : ErrC X.K X.mg x fld C fI fd) (F : FnOk X.prog X.w X.K X.mg X.base CX0 1 fI fd ["self", fld] (spInit X.K C fld)) (cx : Cxe X W j) (hj : 2 ≤ j) (hg : Gl X x) (he : CE X W e f)
    (hdb : (x == ("__debug__" : Str)) = false := by decide) (hse : starEach (e :: []) X.env = (false, eval e X.env) :: starEach [] X.env := by rfl) (hpl : (backTo pos (starEach [] X.env)).any (·.1) = false := by rfl) :
    CS X W (.Raise (some (.Call (.Name x p) [e] [] pos)) none pos2) (dRaise C fld f) :=
  ⟨PS.weak (ps_raise cx.calm cx.tk (pmk_er E.oex E.iC E.tI F (cx.room.mono hj) E.bd .nil (fun _ _ _ _ _ _ _ z => z.elim) hg E.g (pa_cons he.pe pa_nil hse) hdb hse hpl)) fun D σ H ⟨ρ, M, Dd, r, en, q⟩ => by
    refine emb.next r (en.x r) he.mono q fun y M1 v H1 e1 r1 x1 rv h1 => ?_
    show ([v].length ≤ 1000) ∧ _
    refine ⟨by simp, fun a ha => ⟨a, v, rfl, E.oex, E.no, upd_same, fun dx hdx ndx => ?_⟩⟩
    rw [upd_ne ndx] at hdx
    refine ⟨rfl, dx, [(fld, v)], upd_same, ?_, hdx, ?_⟩
    · rw [upd_ne ndx, upd_same]
    · rw [heap_made ha ndx]
      split at h1
      · rename_i d
        refine en.ex (.ref C) [(fld, d)] (some dx) σ _ ρ M1 (e1.trans (Ext.new hdx)) (r1.ext (Ext.new hdx) (r1.mem.new hdx)) ?_ h1
        exact .inr ⟨dx, [(fld, v)], rfl, upd_same, r1.mem.out hdx, rfl, .cons (Fz.ext (Ext.new hdx) rv) .nil⟩
      · exact h1.elim⟩

/-! ### try .. except C as n -/
def inSuite (D : DEnds) (i : Nat) : DEnds := ⟨fun ρ2 M2 => D.nx (ρ2.set i none) M2, D.rt, fun ρ2 M2 => D.bk (ρ2.set i none) M2, fun ρ2 M2 => D.ct (ρ2.set i none) M2, noX⟩
def catching (D : DEnds) (C : Addr) (i : Nat) (suite : Addr → Value → Option Addr → DS) : DEnds :=
  ⟨D.nx, D.rt, D.bk, D.ct, fun cls fs ρ1 M1 => cls = .ref C ∧ ∀ a d, suite a cls d (inSuite D i) (ρ1.set i (some (.e a cls d fs))) M1⟩
def dTry (body : DS) (C : Addr) (i : Nat) (suite : Addr → Value → Option Addr → DS) : DS := fun D ρ M => body (catching D C i suite) ρ M
/-- n.fld, n the error that the suite holds -/
def dFld (a : Addr) (cls : Value) (d : Option Addr) (C : Addr) (fld : Str) (f : DE) : DE := fun Xd ρ M Q => f Xd ρ M fun x M1 => match x with
  | .e a' _ d' fs => (a' = a ∧ cls = .ref C ∧ d' = d) ∧ match fs with
    | [(g, y)] => g = fld ∧ Q (.d y) M1
    | _ => False
  | _ => False
theorem ce_fld {a : Addr} {oe : Obj} {cls : Value} {d : Option Addr} {pn : List (Addr × Obj)} (E : ErrC X.K X.mg x fld C fI fd) (hz : Zc cls d oe) (hf : ∃ vs, oe.data = .fields vs) (he : CE (X.suite a ((a, oe) :: pn)) W e f) (hb : attributeBase e fld X.env (eval e X.env) = eval e X.env := by rfl) :
    CE (X.suite a ((a, oe) :: pn)) W (.Attribute e fld pos) (dFld a cls d C fld f) where
  pe := PE.weak (pe_xf E.xf E.no hz hf he.pe hb) fun σ H Q ⟨ρ, M, Xd, r, xr, q⟩ => by
    refine emb.next r xr he.mono q fun y M1 v H1 e1 r1 x1 rv h1 => ?_
    split at h1
    · rename_i a' c' d' fs
      obtain ⟨⟨q1, q2, q3⟩, h2⟩ := h1
      subst q1; subst q3
      obtain ⟨rfl, ex⟩ := rv
      split at h2
      · rename_i g y
        obtain ⟨rfl, h3⟩ := h2
        rcases ex with z | ⟨dd, fv, ed, hd, md, hk, hv⟩
        · cases z
        · match fv, hk, hv with
          | [(g', v')], hk, .cons hv1 .nil =>
            simp only [List.map_cons, List.map_nil, List.cons.injEq, and_true] at hk
            subst hk
            exact ⟨rfl, q2, dd, _, v', ed, hd, by simp [List.lookup], h3 v' H1 e1 r1.mem hv1⟩
      · exact h2.elim
    · exact h1.elim
  mono := fun Xd ρ M Q Q' hq h => he.mono _ _ _ _ _ (fun y M1 h1 => by
    split at h1
    · refine ⟨h1.1, ?_⟩
      have h2 := h1.2
      split at h2
      · exact ⟨h2.1, hq _ _ h2.2⟩
      · exact h2.elim
    · exact h1.elim) h
theorem cs_try {i : Nat} {body suite : List Stmt} {b₀ : Stmt} {np : Pos} {gb : DS} {gs : Addr → Value → Option Addr → DS} {k : Nat} (E : ErrC X.K X.mg x fld C fI fd) (cx : Cxs X W k) (hg : Gl X x) (hi : X.N[i]? = some n)
    (hb : ∀ (W' : WX) (pn : List (Addr × Obj)) (xe : Value → Shared → Prop), Cxs (X.tr pn xe) W' k → CSs (X.tr pn xe) W' body gb)
    (hsu : ∀ (a : Addr) (oe : Obj) (cls : Value) (d : Option Addr) (pn : List (Addr × Obj)), Zc cls d oe → (∃ vs, oe.data = .fields vs) → CSs (X.suite a ((a, oe) :: pn)) W0 (b₀ :: suite) (gs a cls d))
    (hln : X.env.kindOf n = some .local := by rfl) (hdb : (x == ("__debug__" : Str)) = false := by decide) :
    CS X W (.Try body [.ExceptHandler (some (.Name x np)) (some n) (b₀ :: suite) pos3] [] [] pos) (dTry gb C i gs) :=
  ⟨PS.weak (ps_try_as (c := .ref C) (tb := fun W' => embS X.K W' gb) (ts := fun a cls d => embS X.K W0 (gs a cls d)) (Wout := W) cx.stk cx.frm cx.nd hi hln ⟨hg, hdb, .inl E.g⟩ cx.tk
      (fun W' pn xe tk po => (hb W' pn xe ⟨⟨tk, cx.calm, cx.gd, cx.room, cx.nd, cx.sys⟩, po, cx.stk, cx.frm⟩).pss) (fun a oe cls d pn hz hf => (hsu a oe cls d pn hz hf).pss)) fun D σ H ⟨ρ, M, Dd, r, en, q⟩ => by
    refine ⟨ρ, M, catching Dd C i gs, r, ⟨en.nx, en.rt, en.bk, en.ct, ?_⟩, q⟩
    rintro cls fs d σ' H' ρ' M' e' r' a' ⟨rfl, h⟩
    refine ⟨true, E.self, fun _ a ha => ?_, fun z => nomatch z⟩
    have en' := en.at e'
    refine ⟨_, M', inSuite Dd i, r'.set (v := .ref a) (x := .e a (.ref C) d fs) ⟨rfl, a'⟩ i, ⟨?_, en'.rt, ?_, ?_, ?_⟩, h a d⟩
    · intro σ2 H2 ρ2 M2 e2 r2 h2; exact en'.nx _ H2 _ M2 e2 (r2.clear none i) h2
    · intro σ2 H2 ρ2 M2 e2 r2 h2; exact en'.bk _ H2 _ M2 e2 (r2.clear none i) h2
    · intro σ2 H2 ρ2 M2 e2 r2 h2; exact en'.ct _ H2 _ M2 e2 (r2.clear none i) h2
    · intro _ _ _ _ _ _ _ _ _ _ z; exact z.elim⟩
end

/-! ### all, any, sum -/
def boolsOf : List PyData → Option (List Bool)
  | [] => some []
  | .bool b :: r => (boolsOf r).map (b :: ·)
  | _ :: _ => none
theorem boolsOf_is {K : PySem.W.Frag} {H : Hp} {M : Mem} : ∀ {vs : List V} {ds : List PyData} {bs : List Bool}, FzA K H M vs ds → boolsOf ds = some bs → vs = bs.map V.bl
  | _, _, _, .nil, h => by cases h; rfl
  | _, .bool b :: r, bs, .cons h t, e => by
    simp only [boolsOf, Option.map_eq_some_iff] at e
    obtain ⟨cs, e1, rfl⟩ := e
    cases h
    rw [boolsOf_is t e1]; rfl
  | _, .none :: _, _, .cons _ _, e => by cases e
  | _, .int _ :: _, _, .cons _ _, e => by cases e
  | _, .str _ :: _, _, .cons _ _, e => by cases e
  | _, .list _ :: _, _, .cons _ _, e => by cases e
  | _, .tuple _ :: _, _, .cons _ _, e => by cases e
  | _, .dict _ :: _, _, .cons _ _, e => by cases e
def gBools (op : List Bool → Bool) : DF := fun xs M Q => match xs with
  | [x] => match vw M x with
    | some (.list ds) => match boolsOf ds with
      | some bs => Q (.d (.bool (op bs))) M
      | none => False
    | _ => False
  | _ => False
theorem gBools.mono {op : List Bool → Bool} : ∀ x M (Q Q' : DK), (∀ z M', Q z M' → Q' z M') → gBools op x M Q → gBools op x M Q' := fun x M Q Q' hq h => by
  unfold gBools at h ⊢
  split at h
  · split at h
    · split at h
      · exact hq _ _ h
      · exact h.elim
    · exact h.elim
  · exact h.elim
theorem bools_core {op : List Bool → Bool} {K : PySem.W.Frag} {vs : List V} {H : Hp} {Q : VK} (h : ∃ M xs, MemOk K H M ∧ RVs K H M vs xs ∧ gBools op xs M (fin K H M Q)) : ∃ a bs, vs = [.ref a] ∧ SqL K H a (bs.map V.bl) ∧ Q (.bl (op bs)) H := by
  obtain ⟨M, xs, o, rx, h⟩ := h
  unfold gBools at h
  split at h
  · obtain ⟨v, rfl, rv⟩ := rx.one
    split at h
    · rename_i ds e
      split at h
      · rename_i bs eb
        obtain ⟨p, ws, rfl, h1, f1⟩ := vw_lst o rv e
        exact ⟨p, bs, rfl, by rw [← boolsOf_is f1 eb]; exact .of h1, fin_d h o (.bl _)⟩
      · exact h.elim
    · exact h.elim
  · exact h.elim
section
variable {X : Cx}
theorem cd_all (hc : X.calm = true) : CallD X (.builtin "all") (gBools fun bs => bs.all id) where
  op := CallR.weak (cr_all hc) fun vs H Q h => bools_core h
  mono := gBools.mono
theorem cd_any (hc : X.calm = true) : CallD X (.builtin "any") (gBools fun bs => bs.any id) where
  op := CallR.weak (cr_any hc) fun vs H Q h => bools_core h
  mono := gBools.mono
end
end HD

namespace HD
open PySem PySem.Spec PyProof.Rows L2
theorem hu64 {X : Cx} {W : WX} {k : Nat} (cx : Cxe X W k) : X.A.units + 64 < cLine := cx.room.units
theorem Cxe.blk {X : Cx} {W : WX} {k : Nat} (cx : Cxe X W k) {s : Shared} {H : Hp} {scope : Scope} {cenv : Env} {fp : List Addr} : Cxe (X.blk s H scope cenv fp) W0 k :=
  ⟨takes0, cx.calm, cx.gd, cx.room, cx.nd, cx.sys⟩
/-! ### == and !=, with the empty ones apart -/
def gEqE : D2 := fun x y M Q => match vw M x, vw M y with
  | some (.tuple ds), some (.tuple []) => Q (.d (.bool ds.isEmpty)) M
  | some (.list ds), some (.list []) => Q (.d (.bool ds.isEmpty)) M
  | some d, some e => (SeqAt.shaped d = true ∧ SeqAt.shaped e = true) ∧ Q (.d (.bool (PyData.eqv d e))) M
  | _, _ => False
def gNeE : D2 := fun x y M Q => match vw M x, vw M y with
  | some (.tuple ds), some (.tuple []) => Q (.d (.bool (!ds.isEmpty))) M
  | some (.list ds), some (.list []) => Q (.d (.bool (!ds.isEmpty))) M
  | some d, some e => (SeqAt.shaped d = true ∧ SeqAt.shaped e = true) ∧ Q (.d (.bool (!PyData.eqv d e))) M
  | _, _ => False
section
variable {X : Cx} {pins : List (Addr × Obj)} {σ : L2.St} {H : Hp} {M : Mem} {s : Shared} {v u : Value} {x y : V} {dx dy : DV} {ds : List PyData}
theorem at_tup (I : Inv X pins σ H s) (r : RV X.K H M x dx) (h : vw M dx = some (.tuple ds)) (rx : RelV x v) : ∃ (a : Addr) (its : List Value), v = .ref a ∧ s.heap.IsTuple a its.toArray ∧ its.length = ds.length := by
  obtain ⟨a, xs, rfl, h1, f⟩ := vw_tup r h
  obtain ⟨its, rv, p, _⟩ := I.tuple h1.sq
  exact ⟨a, its, rx, p, by rw [← rv.length]; exact f.length⟩
theorem at_lst (I : Inv X pins σ H s) (o : MemOk X.K H M) (r : RV X.K H M x dx) (h : vw M dx = some (.list ds)) (rx : RelV x v) : ∃ (a : Addr) (its : List Value), v = .ref a ∧ s.heap.IsList a its.toArray ∧ its.length = ds.length := by
  obtain ⟨a, xs, rfl, h1, f⟩ := vw_lst o r h
  obtain ⟨its, rv, p, _⟩ := I.list (.of h1)
  exact ⟨a, its, rx, p.isList, by rw [← rv.length]; exact f.length⟩
end
theorem isEmpty_len {α : Type} (l : List α) : l.isEmpty = (l.length == 0) := by cases l <;> rfl
section
variable {X : Cx}
theorem opd_eqE (hu : X.A.units + 64 < cLine) : OpD X (compareOp .Eq) gEqE where
  op := fun pins s σ H x y v u Q I rx ry ⟨M, dx, dy, o, qx, qy, h⟩ => by
    have hu' : X.A.units < cLine := by omega
    unfold gEqE at h
    split at h
    · rename_i ds e1 e2
      obtain ⟨a, i1, rfl, p1, l1⟩ := at_tup I qx e1 rx
      obtain ⟨b, i2, rfl, p2, l2⟩ := at_tup I qy e2 ry
      refine SeqAt.eq_tupleAt (e := fun _ => true) p1 p2 hu' (fun j _ h2 => absurd h2 (by simp at l2; simp [l2])) ⟨.bl ds.isEmpty, H, I, ?_, fin_d h o (.bl _)⟩
      rw [isEmpty_len, ← l1]
      simp at l2
      simp [l2, L2.RelV]
    · rename_i ds e1 e2
      obtain ⟨a, i1, rfl, p1, l1⟩ := at_lst I o qx e1 rx
      obtain ⟨b, i2, rfl, p2, l2⟩ := at_lst I o qy e2 ry
      have l2' : i2.length = 0 := l2
      by_cases e : ds = []
      · subst e
        have l1' : i1.length = 0 := l1
        refine SeqAt.eq_listAt (e := fun _ => true) p1 p2 (by simp [l1', l2']) hu' (fun j _ h2 => absurd h2 (by simp [l2'])) ⟨.bl true, H, I, ?_, fin_d h o (.bl _)⟩
        simp [l1', L2.RelV]
      · have l1' : i1.length ≠ 0 := by rw [l1]; simp [e]
        refine SeqAt.eq_list_lengthsAt p1 p2 (by simp [l2', l1']) hu' ⟨.bl false, H, I, rfl, ?_⟩
        have : ds.isEmpty = false := by simp [e]
        rw [this] at h
        exact fin_d h o (.bl _)
    · rename_i d e _ _ e1 e2
      obtain ⟨as, r1, _⟩ := vw.reads I o qx e1 rx
      obtain ⟨bs, r2, _⟩ := vw.reads I o qy e2 ry
      exact SeqAt.compareEq_shaped r1 r2 h.1.1 h.1.2 hu ⟨.bl _, H, I, rfl, fin_d h.2 o (.bl _)⟩
    · exact h.elim
  mono := fun x y M Q Q' hq h => by
    unfold gEqE at h ⊢
    split at h
    · exact hq _ _ h
    · exact hq _ _ h
    · exact ⟨h.1, hq _ _ h.2⟩
    · exact h.elim
theorem opd_neE (hu : X.A.units + 64 < cLine) : OpD X (compareOp .NotEq) gNeE where
  op := fun pins s σ H x y v u Q I rx ry ⟨M, dx, dy, o, qx, qy, h⟩ => by
    have hu' : X.A.units < cLine := by omega
    unfold gNeE at h
    split at h
    · rename_i ds e1 e2
      obtain ⟨a, i1, rfl, p1, l1⟩ := at_tup I qx e1 rx
      obtain ⟨b, i2, rfl, p2, l2⟩ := at_tup I qy e2 ry
      refine SeqAt.RcNeAt.tuples (e := fun _ => true) p1 p2 hu' (fun j _ h2 => absurd h2 (by simp at l2; simp [l2])) X.prog X.w _ _ ⟨.bl (!ds.isEmpty), H, I, ?_, fin_d h o (.bl _)⟩
      rw [isEmpty_len, ← l1]
      simp at l2
      simp [l2, L2.RelV]
    · rename_i ds e1 e2
      obtain ⟨a, i1, rfl, p1, l1⟩ := at_lst I o qx e1 rx
      obtain ⟨b, i2, rfl, p2, l2⟩ := at_lst I o qy e2 ry
      have l2' : i2.length = 0 := l2
      by_cases e : ds = []
      · subst e
        have l1' : i1.length = 0 := l1
        refine SeqAt.RcNeAt.lists (e := fun _ => true) p1 p2 (by simp [l1', l2']) hu' (fun j _ h2 => absurd h2 (by simp [l2'])) X.prog X.w _ _ ⟨.bl false, H, I, ?_, fin_d h o (.bl _)⟩
        simp [l1', L2.RelV]
      · have l1' : i1.length ≠ 0 := by rw [l1]; simp [e]
        refine SeqAt.RcNeAt.lists_lengths p1 p2 (by simp [l2', l1']) hu' X.prog X.w _ _ ⟨.bl true, H, I, rfl, ?_⟩
        have : (!ds.isEmpty) = true := by simp [e]
        rw [this] at h
        exact fin_d h o (.bl _)
    · rename_i d e _ _ e1 e2
      obtain ⟨as, r1, _⟩ := vw.reads I o qx e1 rx
      obtain ⟨bs, r2, _⟩ := vw.reads I o qy e2 ry
      exact SeqAt.compareNe_shaped r1 r2 h.1.1 h.1.2 hu ⟨.bl _, H, I, rfl, fin_d h.2 o (.bl _)⟩
    · exact h.elim
  mono := fun x y M Q Q' hq h => by
    unfold gNeE at h ⊢
    split at h
    · exact hq _ _ h
    · exact hq _ _ h
    · exact ⟨h.1, hq _ _ h.2⟩
    · exact h.elim
variable {W : WX} {pos : Pos}
def dDict0 : DE := fun _ _ M Q => Q (.d (.dict [])) M
theorem ce_dict0 {p : Pos} : CE X W (.Dict [] [] p) dDict0 where
  pe := PE.weak pe_dnewK fun σ H Q ⟨ρ, M, Xd, r, _, h⟩ => fun d hd => h _ _ (Ext.new hd) (r.mem.new hd) (.dic upd_same (r.mem.out hd))
  mono := fun _ _ _ _ _ hq h => hq _ _ h
end
end HD

namespace HD
open PySem PySem.Spec PyProof.Rows L2 HT

section
variable {prog : Program} {w : World} {A : Around} {E : Value → Shared → Prop} {s : Shared}
theorem adjust_back (n : Nat) : Builtin.Slice.sliceAdjust none none (-1) (n : Int) = ((n : Int) - 1, -1) := by
  unfold Builtin.Slice.sliceAdjust
  have h : ((-1 : Int) < 0) := by omega
  simp [h]
theorem places_back (n : Nat) : Builtin.Slice.slicePlaces ((n : Int) - 1) (-1) (-1) = n := by
  unfold Builtin.Slice.slicePlaces
  have h : ¬ ((-1 : Int) > 0) := by omega
  rw [if_neg h]
  by_cases e : (n : Int) - 1 > -1
  · rw [if_pos e]
    have : ((n : Int) - 1 - -1 - 1) / (- -1) = (n : Int) - 1 := by
      rw [show (- -1 : Int) = 1 by decide, Int.ediv_one]; omega
    rw [this]; omega
  · rw [if_neg e]; omega
theorem applied_back {sl : Addr} {vl vu vs : Value} {n : Nat} {Q : Int × Int × Nat → Shared → Prop} (hs : s.heap.IsSliceOf sl vl vu vs) (pl : IsPart vl none) (pu : IsPart vu none) (ps : IsPart vs (some (-1)))
    (h : Q ((n : Int) - 1, -1, n) s) : wpAny (model prog w) A (Builtin.Slice.sliceApplied (.ref sl) (pure (n : Int))) Q E s := by
  obtain ⟨os, hos, hcs, hds⟩ := id hs
  unfold Builtin.Slice.sliceApplied Builtin.Slice.sliceFields
  refine wpAny_bind (wpAny_bind (wpAny_field hos hds (x := vl) rfl (wpAny_bind (wpAny_field hos hds (x := vu) rfl (wpAny_bind (wpAny_field hos hds (x := vs) rfl (wpAny_pure ?_)))))))
  refine wpAny_bind (slicePart_ ps ?_)
  show wpAny _ _ (if ((-1 : Int) == 0) = true then _ else _) _ _ s
  rw [if_neg (by decide)]
  refine wpAny_bind (slicePart_ pl (wpAny_bind (slicePart_ pu (wpAny_bind (wpAny_pure ?_)))))
  show wpAny _ _ (match Builtin.Slice.sliceAdjust none none (-1) (n : Int) with | (lo, hi) => pure (lo, (-1 : Int), Builtin.Slice.slicePlaces lo hi (-1))) _ _ s
  rw [adjust_back]
  show wpAny _ _ (pure ((n : Int) - 1, (-1 : Int), Builtin.Slice.slicePlaces ((n : Int) - 1) (-1) (-1))) _ _ s
  rw [places_back]
  exact wpAny_pure h
theorem pick_back (xs : Array Value) : ((List.range xs.size).filterMap fun (k : Nat) => xs[(((xs.size : Int) - 1) + (k : Int) * (-1)).toNat]?).toArray = xs.toList.reverse.toArray := by
  have e : ∀ k ∈ List.range xs.size, xs[(((xs.size : Int) - 1) + (k : Int) * (-1)).toNat]? = some (xs.toList.reverse.getD k .none) := by
    intro k hk
    have hk' := List.mem_range.mp hk
    have h1 : (((xs.size : Int) - 1) + (k : Int) * (-1)).toNat = xs.size - 1 - k := by omega
    rw [h1]
    have h2 : xs.size - 1 - k < xs.size := by omega
    rw [Array.getElem?_eq_getElem h2]
    congr 1
    rw [List.getD_eq_getElem?_getD, List.getElem?_reverse (by simpa using hk')]
    simp [h2]
  congr 1
  have step : ∀ l : List Nat, (∀ k ∈ l, xs[(((xs.size : Int) - 1) + (k : Int) * (-1)).toNat]? = some (xs.toList.reverse.getD k .none)) →
      l.filterMap (fun (k : Nat) => xs[(((xs.size : Int) - 1) + (k : Int) * (-1)).toNat]?) = l.map fun k => xs.toList.reverse.getD k .none := by
    intro l
    induction l with
    | nil => intro _; rfl
    | cons a l ih =>
      intro h
      rw [List.filterMap_cons, h a (List.mem_cons_self ..)]
      simp only [List.map_cons]
      rw [ih fun k hk => h k (List.mem_cons_of_mem _ hk)]
  rw [step _ e]
  apply List.ext_getElem
  · simp
  · intro i h1 h2
    simp only [List.getElem_map, List.getElem_range]
    rw [List.getD_eq_getElem?_getD, List.getElem?_eq_getElem h2]
    rfl
theorem item_back {t sl : Addr} {items : Array Value} {vl vu vs : Value} {Q : Value → Shared → Prop} (ht : IsTup s.heap t items) (hs : s.heap.IsSliceOf sl vl vu vs) (pl : IsPart vl none) (pu : IsPart vu none) (ps : IsPart vs (some (-1)))
    (h : Q (.ref s.heap.objs.size) { s with heap := s.heap.push { cls := .type "tuple", data := .seq items.toList.reverse.toArray } }) (hsz : items.size ≤ sizeLine) : wpAny (model prog w) A (getItem (.ref t) (.ref sl)) Q E s := by
  have fits : sizeOk (.seq items.toList.reverse.toArray) := by
    show items.toList.reverse.toArray.size ≤ sizeLine
    rw [List.size_toArray, List.length_reverse, Array.length_toList]; exact hsz
  obtain ⟨os, hos, hcs, hds⟩ := id hs
  have hTs : s.TypeIs (.ref sl) "slice" := ⟨os, hos, hcs⟩
  unfold getItem
  try with_reducible refine wpAny_holding ?_
  first | refine wpAny_bind (wpAny_pure ?_) | skip
  refine wpAny_bind (wpAny_sequenceKey ht.typeIs (by decide) ?_)
  refine wpAny_bind (wpAny_callSpecial?_slot (name := Str.ofString "__getitem__") ht.typeIs PyProof.Rows.slot_tuple_getitem
    (wpAny_call_entry PyProof.Rows.slot_tuple_getitem ht.typeIs entry_tuple_getitem ?_ (args_tuple_getitem _ _)))
  show wpAny _ _ (Builtin.Tuple.tupleItemsOf (.ref t) >>= _) _ _ s
  refine wpAny_bind (tupleItemsOf_ ht (wpAny_bind (wpAny_typeOf hTs ?_)))
  rw [if_pos (by decide)]
  refine wpAny_bind (applied_back hs pl pu ps ?_)
  have hno : ¬ (((items.size : Int) - 1 == 0 && (-1 : Int) == 1 && items.size == items.size) = true) := by simp
  show wpAny _ _ (if ((items.size : Int) - 1 == 0 && (-1 : Int) == 1 && items.size == items.size) = true then _ else _) _ _ s
  rw [if_neg hno, pick_back]
  first
    | exact wpAny_bind (m := Builtin.Tuple.tupleExact _) (wpAny_newObj_type (wpAny_pure ⟨_, rfl, wpAny_pure h⟩) fits)
    | exact wpAny_bind (m := Builtin.Tuple.tupleExact _) (wpAny_newObj_type (wpAny_bind (wpAny_pure (wpAny_pure ⟨_, rfl, wpAny_pure h⟩))) fits)
    | exact wpAny_bind (wpAny_bind (m := Builtin.Tuple.tupleExact _) (wpAny_newObj_type (wpAny_pure (wpAny_pure ⟨_, rfl, wpAny_pure h⟩)) fits))
    | exact wpAny_bind (wpAny_bind (m := Builtin.Tuple.tupleExact _) (wpAny_newObj_type (wpAny_pure ⟨_, rfl, wpAny_pure h⟩) fits))
end
section
variable {X : Cx} {W : WX} {a : Expr} {fa : DE} {te : TE} {k : Nat} {p1 p2 p3 pos : Pos}
def tRevT (K : PySem.W.Frag) (te : TE) : TE := fun σ H Q => te σ H fun x H1 => ∃ a xs, x = .ref a ∧ SqT K H1 a xs ∧ ∀ p, H1 p = none → Q (.ref p) (upd H1 p (.tup xs.reverse))
theorem pe_revT (he : PE X a te) : PE X (.Subscript a (.Slice none none (some (.UnaryOp .USub (.Constant (.int 1) k p1) p2)) p3) pos) (tRevT X.K te) := by
  constructor
  intro pins s σ H Q I h
  refine Subscript_ (thn (he.run pins s σ H _ I h) ?_)
  rintro v s1 ⟨x, H1, I1, r1, q1⟩
  obtain ⟨b, xs, ex, hx, q⟩ := q1
  subst ex
  cases r1
  have hst : PO X (some (.UnaryOp .USub (.Constant (.int 1) k p1) p2)) (tPart (tUn (rU fun i => .int (-i)) (tC (.int 1)))) := po_some (pe_un un_neg pe_int)
  refine wpAny_Slice (thn (po_none.run pins s1 σ H1 (fun o H2 => o = none ∧ H2 = H1) I1 ⟨rfl, rfl⟩) ?_)
  rintro vl s2 ⟨l, H2, I2, pl, el, e2⟩
  subst el e2
  refine thn (po_none.run pins s2 σ H2 (fun o H3 => o = none ∧ H3 = H2) I2 ⟨rfl, rfl⟩) ?_
  rintro vu s3 ⟨u, H3, I3, pu, eu, e3⟩
  subst eu e3
  refine thn (hst.run pins s3 σ H3 (fun o H4 => o = some (-1) ∧ H4 = H3) I3 ⟨1, rfl, -1, rfl, rfl, rfl⟩) ?_
  rintro vs s4 ⟨o, H4, I4, ps, eo, e4⟩
  subst eo e4
  have I5 : Inv X pins σ H4 { s4 with heap := s4.heap.push { cls := .type "slice", data := .fields #[vl, vu, vs] } } := I4.kept (t' := s4.toks) fun b ob q => Heap.get?_push_of_some _ q
  obtain ⟨its, r, ht, hz⟩ := I5.tuple hx
  have hlen := r.length
  show wpAny (model X.prog X.w) X.A (subscriptTail a (.Slice none none (some (.UnaryOp .USub (.Constant (.int 1) k p1) p2)) p3) (.ref b) (.ref s4.heap.objs.size)) (EP X pins σ Q) X.xe { s4 with heap := s4.heap.push { cls := .type "slice", data := .fields #[vl, vu, vs] } }
  refine tail_any (ops := [.ref b, .ref s4.heap.objs.size]) ht.typeIs (PyProof.Rows.slot_tuple_getitem.lookup) ?_ (by with_unfolding_all rfl)
  refine item_back ht (Heap.IsSliceOf.new _ vl vu vs) pl pu ps ?_ (by rw [List.size_toArray]; omega)
  refine ⟨.ref _, _, I5.laid (t' := s4.toks) (o := .tup xs.reverse) (fun b ob q => Heap.get?_push_of_some _ q) (Nat.le_refl _) ?_, rfl, q _ (I5.hok.fresh (Nat.le_refl _))⟩
  exact ⟨by rw [List.length_reverse]; exact hz, its.reverse, r.reverse, ⟨_, Heap.get?_push_size _ rfl, rfl, 0, by simp⟩⟩
def dRev (fa : DE) : DE := fun Xd ρ M Q => fa Xd ρ M fun x M1 => match vw M1 x with
  | some (.tuple ds) => Q (.d (.tuple ds.reverse)) M1
  | _ => False
theorem ce_rev (ha : CE X W a fa) : CE X W (.Subscript a (.Slice none none (some (.UnaryOp .USub (.Constant (.int 1) k p1) p2)) p3) pos) (dRev fa) where
  pe := PE.weak (pe_revT ha.pe) fun σ H Q ⟨ρ, M, Xd, r, x, h⟩ => by
    refine emb.next r x ha.mono h fun y M1 v H1 e1 r1 x1 rv h1 => ?_
    split at h1
    · rename_i ds e
      obtain ⟨a, xs, rfl, q, f⟩ := vw_tup rv e
      exact ⟨a, xs, rfl, q.sq, fun p hp => h1 _ _ (e1.trans (Ext.new hp)) (r1.mem.new hp) (.tup (.inl ⟨Rd.of upd_same, r1.mem.out hp⟩) (f.reverse.ext (Ext.new hp)))⟩
    · exact h1.elim
  mono := fun Xd ρ M Q Q' hq h => ha.mono _ _ _ _ _ (fun x M1 h1 => by
    split at h1
    · exact hq _ _ h1
    · exact h1.elim) h
end
end HD

namespace HD
open PySem PySem.Spec PyProof.Rows L2

/-! ### a def of the text -/
structure Def (K : PySem.W.Frag) (mg : Str → Option Value) (x : Str) (st : Stmt) (ps : List Str) (f : Addr) (fd : FuncData) : Prop where
  fn : Fun K x x st f fd
  g : mg x = some (.ref f)
  b : Binds K fd ps []
theorem Def.mk' {K : PySem.W.Frag} {h : Heap} {mg : Str → Option Value} {x : Str} {st : Stmt} {ps : List Str} {f : Addr} {oc : Value} {od an : Option Addr} {osl : Array (Option Value)} {kV doc pm cdv ct : Value} (X : K.In h) (G : h.Ns mainGlobals mg)
    (a : PySem.W.nsIn K mainGlobals x = some (some (.ref f))) (l : K.lookup f = some ⟨oc, od, .func (PySem.W.fnOf x x (defArgs st) (defBody st) (defScope st) .none kV doc pm an cdv ct), osl⟩)
    (c : PySem.W.codeIn K cdv x = true) (k : PySem.W.keepIn K (.ref f) = true)
    (hb : ∀ us : List Value, us.length = ps.length → bindArgs (PySem.W.fnOf x x (defArgs st) (defBody st) (defScope st) .none kV doc pm an cdv ct) ⟨us, []⟩ = pure (ps.zip us)) :
    Def K mg x st ps f (PySem.W.fnOf x x (defArgs st) (defBody st) (defScope st) .none kV doc pm an cdv ct) :=
  ⟨fun_mk l c k, PySem.W.mg_of X G a, .all hb⟩

/-! ### promises of pure defs -/
/-- what stood in the memory stands -/
def Sub (M M' : Mem) : Prop := ∀ a ds, M a = some ds → M' a = some ds
theorem Sub.refl {M : Mem} : Sub M M := fun _ _ h => h
theorem Sub.trans {M M1 M2 : Mem} (a : Sub M M1) (b : Sub M1 M2) : Sub M M2 := fun x ds h => b x ds (a x ds h)
theorem Sub.upd {M M1 : Mem} {p : Addr} {ds : List PyData} (a : Sub M M1) (h : M p = none) : Sub M (updM M1 p ds) := fun x es q => by
  rw [updM_ne (fun e => by subst e; rw [h] at q; cases q)]
  exact a x es q
theorem Sub.erase {M M1 : Mem} {p : Addr} (a : Sub M M1) (h : M p = none) : Sub M (eraseM M1 p) := fun x es q => by
  unfold eraseM
  rw [if_neg (fun e => by subst e; rw [h] at q; cases q)]
  exact a x es q
theorem Sub.none {M M' : Mem} (a : Sub M M') {p : Addr} (h : M' p = .none) : M p = .none := by
  cases q : M p with
  | none => rfl
  | some ds => rw [a p ds q] at h; cases h
/-- a def that only reckons: of data that meet ok it gives f -/
def pureC (n : Nat) (ok : List PyData → Prop) (f : List PyData → PyData) : DSp where
  pre := fun xs _ => ∃ ds, xs = ds.map .d ∧ ds.length = n ∧ ok ds
  post := fun xs M x M' => Sub M M' ∧ ∀ ds, xs = ds.map .d → x = .d (f ds)
theorem pureC.len {n : Nat} {ok : List PyData → Prop} {f : List PyData → PyData} : ∀ xs M, (pureC n ok f).pre xs M → xs.length = n := by
  rintro xs M ⟨ds, rfl, h, _⟩
  rw [List.length_map]; exact h
theorem map_d_inj : ∀ {as bs : List PyData}, as.map DV.d = bs.map DV.d → as = bs
  | [], [], _ => rfl
  | [], _ :: _, h => by simp at h
  | _ :: _, [], h => by simp at h
  | a :: as, b :: bs, h => by
    simp only [List.map_cons, List.cons.injEq, DV.d.injEq] at h
    rw [h.1, map_d_inj h.2]
/-- the call of such a def, read -/
theorem pure_call {n : Nat} {ok : List PyData → Prop} {f : List PyData → PyData} {E : Value → List (Str × PyData) → Mem → Prop} {M : Mem} {Q : DK} {ds : List PyData} (hn : ds.length = n) (ho : ok ds) (hq : ∀ M2, Sub M M2 → Q (.d (f ds)) M2) :
    (pureC n ok f).pre (ds.map .d) M ∧ (∀ x M2, (pureC n ok f).post (ds.map .d) M x M2 → Q x M2) ∧ (∀ cls fs M2, (pureC n ok f).err (ds.map .d) M cls fs M2 → E cls fs M2) :=
  ⟨⟨ds, rfl, hn, ho⟩, fun x M2 h => by rw [h.2 ds rfl]; exact hq M2 h.1, fun _ _ _ h => h.elim⟩
/-- what such a def must end with -/
theorem pure_end {n : Nat} {ok : List PyData → Prop} {f : List PyData → PyData} {ds : List PyData} {M M' : Mem} {x : PyData} (s : Sub M M') (e : x = f ds) : (pureC n ok f).post (ds.map .d) M (.d x) M' :=
  ⟨s, fun es q => by rw [← map_d_inj q, e]⟩

/-! ### the end of a law row -/
theorem walk_G {l : PySem.W.OpenLaw} {n k : Nat} {q : Program} {loose : List Str} {XP : (Str → Option Value) → Heap → Prop} {YP : World → Heap → Prop} {d : DefRec} {K : Params → PySem.W.Frag} {x : Str} {c : World → DSp}
    (hn : l.most = some n) (hn2 : n ≤ sizeLine) (hdf : d.params.defaults = []) (hr : Room k callerA) (himp : PyProof.Rows.importsNone q = true) (hY : ∀ (w : World) (h : Heap), YP w h → (K w.params).In h)
    (F : ∀ (w : World) (mg : Str → Option Value) (fa : Addr) (h : Heap), (K w.params).In h → h.Ns mainGlobals mg → mg d.name = some (.ref fa) →
      ∃ fd : FuncData, (∀ (s : Shared) (u : Value), BindsTo s fd ⟨[u], []⟩ [(x, u)]) ∧
        ∀ base : Heap, (K w.params).In base → base.Ns mainGlobals mg → (∃ o, base.get? sysModules = some o) → FnG l.prog w (K w.params) mg base k fa fd [x] ((c w).sp (K w.params)))
    (hpre : ∀ w a ns, ns.length ≤ n → (∀ z ∈ ns, Builtin.Int.intBits z ≤ 1048576) → (c w).pre [.s a ns] fun _ => none)
    (hpost : ∀ w a ns y M', (c w).post [.s a ns] (fun _ => none) y M' → y = .d (.bool true)) (herr : ∀ w a ns cls fs M', (c w).err [.s a ns] (fun _ => none) cls fs M' → False) :
    PySem.W.WalkO q loose XP YP l.row.toRowW d [] (fun f vs => PySem.call f vs) := by
  intro w t₀ t mg mb Gr hYw fa ob pm cd doc dV kV hob hdat hcode hD hmg hgens as vs ads hp hlay hrd hwell hlow
  obtain rfl : dV = .none := PySem.W.Dflts.none hD hdf
  obtain rfl : kV = .none := PySem.W.Dflts.noKw hD
  obtain ⟨a, us, ns, e1, e2, hobj, hints, hlen⟩ := Att.script_of hn hp hwell
  subst e1; subst e2
  have hna : a ≠ sysModules := by
    cases hrd with
    | cons r1 r2 =>
      cases r1 with
      | list _ _ _ _ => exact fun z => by have := hlow a (by simp); rw [z] at this; simp at this
  have inK := hY w _ hYw
  obtain ⟨fd, hb, hF⟩ := F w mg fa _ inK Gr.T.g hmg
  have run := law_callG (a := a) (ns := ns) inK Gr.T.g Gr.T.b Gr.T.builtins Gr.T.nolimit hgens (let ⟨_, ⟨o, _, _, e, _⟩, _⟩ := (Gr.T.seer himp).mods; ⟨o, e⟩) hna hobj hints (Nat.le_trans hlen hn2) hr hF hb (hpre w a ns hlen (Att.script_bits hlay)) (hpost w a ns) (herr w a ns)
  refine PySem.W.enter_call (codeAny_mono run fun r t' hq => ?_)
  rcases hq with ⟨q1, q2, q3, q4⟩
  subst q1
  exact ⟨.inl ⟨.bool true, .bool true, [], rfl, fun _ => rfl, .bool true, Att.post_true l _, fun _ => ⟨List.Pairwise.nil, fun _ hm => nomatch hm⟩⟩, q2, q3, q4⟩
end HD

namespace HD
open PySem PySem.Spec PyProof.Rows PySem.SeqAt

/-! ### == of data without dicts -/
mutual
def noDict : PyData → Bool
  | .none | .bool _ | .int _ | .str _ => true
  | .list xs | .tuple xs => noDictAll xs
  | .dict _ => false
def noDictAll : List PyData → Bool
  | [] => true
  | x :: xs => noDict x && noDictAll xs
end
mutual
theorem reads_one {h : Heap} : ∀ {d d' : PyData} {v : Value} {as bs : List Addr}, noDict d = true → Reads h v d as → Reads h v d' bs → d = d'
  | _, _, _, _, _, _, .none, r => by cases r; rfl
  | _, _, _, _, _, _, .bool b, r => by cases r; rfl
  | _, _, _, _, _, _, .int i t, r => by cases r; rfl
  | _, _, _, _, _, _, .str x t, r => by cases r; rfl
  | _, _, _, _, _, n, .list h1 h2 h3 h4, r => by
    cases r with
    | list k1 k2 k3 k4 =>
      rw [h1] at k1; cases k1
      rw [h3] at k3; cases k3
      rw [reads_all (by simpa [noDict] using n) h4 k4]
    | tuple k1 k2 k3 k4 => rw [h1] at k1; cases k1; exact absurd (h2.symm.trans k2) (by decide)
    | dict k1 k2 k3 k4 => rw [h1] at k1; cases k1; exact absurd (h2.symm.trans k2) (by decide)
  | _, _, _, _, _, n, .tuple h1 h2 h3 h4, r => by
    cases r with
    | tuple k1 k2 k3 k4 =>
      rw [h1] at k1; cases k1
      rw [h3] at k3; cases k3
      rw [reads_all (by simpa [noDict] using n) h4 k4]
    | list k1 k2 k3 k4 => rw [h1] at k1; cases k1; exact absurd (h2.symm.trans k2) (by decide)
    | dict k1 k2 k3 k4 => rw [h1] at k1; cases k1; exact absurd (h2.symm.trans k2) (by decide)
  | _, _, _, _, _, n, .dict .., r => by simp [noDict] at n
theorem reads_all {h : Heap} : ∀ {ds ds' : List PyData} {vs : List Value} {as bs : List Addr}, noDictAll ds = true → ReadsAll h vs ds as → ReadsAll h vs ds' bs → ds = ds'
  | _, _, _, _, _, _, .nil, r => by cases r; rfl
  | _, _, _, _, _, n, .cons h1 h2, r => by
    cases r with
    | cons k1 k2 =>
      simp only [noDictAll, Bool.and_eq_true] at n
      rw [reads_one n.1 h1 k1, reads_all n.2 h2 k2]
end
mutual
theorem eqv_same : ∀ d : PyData, noDict d = true → PyData.eqv d d = true
  | .none, _ => by simp [PyData.eqv]
  | .bool _, _ => by simp [PyData.eqv]
  | .int _, _ => by simp [PyData.eqv]
  | .str _, _ => by simp [PyData.eqv]
  | .list xs, h => by rw [PyData.eqv]; exact eqvAll_same xs (by simpa [noDict] using h)
  | .tuple xs, h => by rw [PyData.eqv]; exact eqvAll_same xs (by simpa [noDict] using h)
  | .dict _, h => by simp [noDict] at h
theorem eqvAll_same : ∀ ds : List PyData, noDictAll ds = true → PyData.eqvAll ds ds = true
  | [], _ => by simp [PyData.eqvAll]
  | x :: xs, h => by
    simp only [noDictAll, Bool.and_eq_true] at h
    rw [PyData.eqvAll, eqv_same x h.1, eqvAll_same xs h.2]; rfl
end
theorem units_in {A : Around} {n m : Nat} (h : A.units + (n + 1) < cLine) (hm : m ≤ n) : A.in1.units + m < cLine := by
  show A.units + 1 + m < cLine
  omega
section
variable {s : Shared}
theorem depthAll_mem : ∀ {xs : List PyData} {j : Nat} {d : PyData}, xs[j]? = some d → d.depth ≤ PyData.depthAll xs
  | [], j, d, h => by simp at h
  | x :: xs, 0, d, h => by simp at h; subst h; simp only [PyData.depthAll]; omega
  | x :: xs, j + 1, d, h => by
    have := depthAll_mem (xs := xs) (j := j) (by simpa using h)
    simp only [PyData.depthAll]; omega
theorem noDict_mem : ∀ {xs : List PyData} {j : Nat} {d : PyData}, noDictAll xs = true → xs[j]? = some d → noDict d = true
  | [], j, d, _, h => by simp at h
  | x :: xs, 0, d, n, h => by simp at h; subst h; simp only [noDictAll, Bool.and_eq_true] at n; exact n.1
  | x :: xs, j + 1, d, n, h => by simp only [noDictAll, Bool.and_eq_true] at n; exact noDict_mem n.2 (by simpa using h)
theorem readsAll_get {h : Heap} : ∀ {vs : List Value} {ds : List PyData} {as : List Addr} {j : Nat} {v : Value}, ReadsAll h vs ds as → vs[j]? = some v → ∃ d bs, ds[j]? = some d ∧ Reads h v d bs
  | _, _, _, j, _, .nil, e => by simp at e
  | _, _, _, 0, _, .cons h _, e => by simp at e; subst e; exact ⟨_, _, rfl, h⟩
  | _, _, _, j + 1, _, .cons _ t, e => by
    obtain ⟨d, bs, h1, h2⟩ := readsAll_get (j := j) t (by simpa using e)
    exact ⟨d, bs, by simpa using h1, h2⟩
theorem pair_at {xs ys : List PyData} {j : Nat} {d e : PyData} (h : xs[j]? = some d) (k : ys[j]? = some e) : pairEq xs ys j = PyData.eqv d e := by
  simp [pairEq, h, k]
/-- the items at j -/
theorem items_at {A : Around} {xs ys : List PyData} {vs us : Array Value} {as bs : List Addr} {n : Nat} (ih : ∀ d ∈ xs, ∀ (d' : PyData) (A : Around) (a b : Value) (as bs : List Addr), Reads s.heap a d as → Reads s.heap b d' bs → noDict d = true → noDict d' = true → A.units + d.depth + 1 < cLine → EqAt A s a b (PyData.eqv d d'))
    (r : ReadsAll s.heap vs.toList xs as) (r' : ReadsAll s.heap us.toList ys bs) (nx : noDictAll xs = true) (ny : noDictAll ys = true) (hu : A.units + (PyData.depthAll xs + 1) + 1 < cLine) :
    ∀ j (h1 : j < vs.size) (h2 : j < us.size), EqAt A.in1 s vs[j] us[j] (pairEq xs ys j) := by
  intro j h1 h2
  obtain ⟨d, ds, e1, q1⟩ := readsAll_get (j := j) (v := vs[j]) r (by simp [h1])
  obtain ⟨d', ds', e2, q2⟩ := readsAll_get (j := j) (v := us[j]) r' (by simp [h2])
  rw [pair_at e1 e2]
  refine ih d (List.mem_of_getElem? e1) d' _ _ _ _ _ q1 q2 (noDict_mem nx e1) (noDict_mem ny e2) ?_
  have := depthAll_mem e1
  show A.units + 1 + d.depth + 1 < cLine
  omega
theorem eq_data : ∀ (da db : PyData) (A : Around) (a b : Value) (as bs : List Addr), Reads s.heap a da as → Reads s.heap b db bs → noDict da = true → noDict db = true → A.units + da.depth + 1 < cLine → EqAt A s a b (PyData.eqv da db) := by
  intro da
  have room : ∀ {A : Around}, A.units + da.depth + 1 < cLine → A.units < cLine := fun h => by omega
  match da with
  | .none =>
    intro db A a b as bs ra rb na nb hu
    have h0 := room hu
    cases ra
    cases rb with
    | none => exact EqAt.same _
    | bool y => exact EqAt.none_bool y
    | int y u => exact EqAt.none_int y u
    | str y u => exact EqAt.none_str y u
    | list k1 k2 k3 k4 => exact EqAt.none_list ⟨_, k1, k2, _, k3⟩ h0
    | tuple k1 k2 k3 k4 => exact EqAt.none_tuple ⟨_, k1, k2, _, k3⟩ h0
    | dict => simp [noDict] at nb
  | .bool x =>
    intro db A a b as bs ra rb na nb hu
    have h0 := room hu
    cases ra
    cases rb with
    | none => exact EqAt.bool_none x
    | bool y => exact EqAt.bool_bool x y
    | int y u => exact EqAt.bool_int x y u
    | str y u => exact EqAt.bool_str x y u
    | list k1 k2 k3 k4 => exact EqAt.bool_list x ⟨_, k1, k2, _, k3⟩ h0
    | tuple k1 k2 k3 k4 => exact EqAt.bool_tuple x ⟨_, k1, k2, _, k3⟩ h0
    | dict => simp [noDict] at nb
  | .int x =>
    intro db A a b as bs ra rb na nb hu
    have h0 := room hu
    cases ra with
    | int _ t =>
      cases rb with
      | none => exact EqAt.int_none x t
      | bool y => exact EqAt.int_bool x t y
      | int y u => exact EqAt.int_int x t y u
      | str y u => exact EqAt.int_str x t y u
      | list k1 k2 k3 k4 => exact EqAt.int_list x t ⟨_, k1, k2, _, k3⟩ h0
      | tuple k1 k2 k3 k4 => exact EqAt.int_tuple x t ⟨_, k1, k2, _, k3⟩ h0
      | dict => simp [noDict] at nb
  | .str x =>
    intro db A a b as bs ra rb na nb hu
    have h0 := room hu
    cases ra with
    | str _ t =>
      cases rb with
      | none => exact EqAt.str_none x t
      | bool y => exact EqAt.str_bool x t y
      | int y u => exact EqAt.str_int x t y u
      | str y u => exact EqAt.str_str x t y u
      | list k1 k2 k3 k4 => exact EqAt.str_list x t ⟨_, k1, k2, _, k3⟩ h0
      | tuple k1 k2 k3 k4 => exact EqAt.str_tuple x t ⟨_, k1, k2, _, k3⟩ h0
      | dict => simp [noDict] at nb
  | .list xs =>
    intro db A a b as bs ra rb na nb hu
    have h0 := room hu
    have ih : ∀ d ∈ xs, ∀ (d' : PyData) (A : Around) (a b : Value) (as bs : List Addr), Reads s.heap a d as → Reads s.heap b d' bs → noDict d = true → noDict d' = true → A.units + d.depth + 1 < cLine → EqAt A s a b (PyData.eqv d d') := fun d hd => eq_data d
    have nx : noDictAll xs = true := by simpa [noDict] using na
    simp only [PyData.depth] at hu
    cases ra with
    | @list l o vs n _ as₁ h1 h2 h3 h4 =>
      have hl : s.heap.IsList l vs := ⟨_, h1, h2, _, h3⟩
      cases rb with
      | none => exact EqAt.list_none hl h0
      | bool y => exact EqAt.list_bool y hl h0
      | int y u => exact EqAt.list_int y u hl h0
      | str y u => exact EqAt.list_str y u hl h0
      | tuple k1 k2 k3 k4 => exact EqAt.list_tuple hl ⟨_, k1, k2, _, k3⟩ h0
      | dict => simp [noDict] at nb
      | @list l' o' vs' n' ys bs₁ k1 k2 k3 k4 =>
        have ny : noDictAll ys = true := by simpa [noDict] using nb
        have hl' : s.heap.IsList l' vs' := ⟨_, k1, k2, _, k3⟩
        have n1 : vs.size = xs.length := by simpa using ReadsAll.length _ _ _ h4
        have n2 : vs'.size = ys.length := by simpa using ReadsAll.length _ _ _ k4
        show EqAt A s (.ref l) (.ref l') (PyData.eqvAll xs ys)
        by_cases hll : l = l'
        · subst hll
          have e : PyData.list xs = PyData.list ys := reads_one na (.list h1 h2 h3 h4) (.list k1 k2 k3 k4)
          injection e with e
          subst e
          rw [eqvAll_same xs nx]
          exact EqAt.same _
        · by_cases hsz : vs.size = vs'.size
          · rw [← eqvAll_same_length (by omega : xs.length = ys.length), ← n1]
            exact EqAt.of_refs hll (RcAt.lists hl hl' hsz h0 (items_at (n := 0) ih h4 k4 nx ny (by omega)))
          · rw [eqvAll_other_length (by omega : xs.length ≠ ys.length)]
            exact EqAt.of_refs hll (RcAt.lists_lengths hl hl' (by simpa using hsz) h0)
  | .tuple xs =>
    intro db A a b as bs ra rb na nb hu
    have h0 := room hu
    have ih : ∀ d ∈ xs, ∀ (d' : PyData) (A : Around) (a b : Value) (as bs : List Addr), Reads s.heap a d as → Reads s.heap b d' bs → noDict d = true → noDict d' = true → A.units + d.depth + 1 < cLine → EqAt A s a b (PyData.eqv d d') := fun d hd => eq_data d
    have nx : noDictAll xs = true := by simpa [noDict] using na
    simp only [PyData.depth] at hu
    cases ra with
    | @tuple l o vs n _ as₁ h1 h2 h3 h4 =>
      have hl : s.heap.IsTuple l vs := ⟨_, h1, h2, _, h3⟩
      cases rb with
      | none => exact EqAt.tuple_none hl h0
      | bool y => exact EqAt.tuple_bool y hl h0
      | int y u => exact EqAt.tuple_int y u hl h0
      | str y u => exact EqAt.tuple_str y u hl h0
      | list k1 k2 k3 k4 => exact EqAt.tuple_list hl ⟨_, k1, k2, _, k3⟩ h0
      | dict => simp [noDict] at nb
      | @tuple l' o' vs' n' ys bs₁ k1 k2 k3 k4 =>
        have ny : noDictAll ys = true := by simpa [noDict] using nb
        have hl' : s.heap.IsTuple l' vs' := ⟨_, k1, k2, _, k3⟩
        have n1 : vs.size = xs.length := by simpa using ReadsAll.length _ _ _ h4
        have n2 : vs'.size = ys.length := by simpa using ReadsAll.length _ _ _ k4
        show EqAt A s (.ref l) (.ref l') (PyData.eqvAll xs ys)
        by_cases hll : l = l'
        · subst hll
          have e : PyData.tuple xs = PyData.tuple ys := reads_one na (.tuple h1 h2 h3 h4) (.tuple k1 k2 k3 k4)
          injection e with e
          subst e
          rw [eqvAll_same xs nx]
          exact EqAt.same _
        · rw [← eqvAll_eq xs ys, ← n1, ← n2]
          exact EqAt.of_refs hll (RcAt.tuples hl hl' h0 (items_at (n := 0) ih h4 k4 nx ny (by omega)))
  | .dict _ =>
    intro db A a b as bs ra rb na nb hu
    simp [noDict] at na
termination_by da => da
end
end HD
namespace HD
open PySem PySem.Spec PyProof.Rows PySem.SeqAt L2
section
variable {s : Shared}
theorem ne_data : ∀ (da db : PyData) (A : Around) (a b : Value) (as bs : List Addr), Reads s.heap a da as → Reads s.heap b db bs → noDict da = true → noDict db = true → A.units + da.depth + 1 < cLine → RcNeAt A s a b (!PyData.eqv da db) := by
  intro da db A a b as bs ra rb na nb hu
  have h0 : A.units < cLine := by omega
  cases ra with
  | none =>
    cases rb with
    | none => exact RcNeAt.none_none
    | bool y => exact RcNeAt.none_bool y
    | int y u => exact RcNeAt.none_int y u
    | str y u => exact RcNeAt.none_str y u
    | list k1 k2 k3 k4 => exact RcNeAt.none_list ⟨_, k1, k2, _, k3⟩ h0
    | tuple k1 k2 k3 k4 => exact RcNeAt.none_tuple ⟨_, k1, k2, _, k3⟩ h0
    | dict => simp [noDict] at nb
  | bool x =>
    cases rb with
    | none => exact RcNeAt.bool_none x
    | bool y => exact RcNeAt.bool_bool x y
    | int y u => exact RcNeAt.bool_int x y u
    | str y u => exact RcNeAt.bool_str x y u
    | list k1 k2 k3 k4 => exact RcNeAt.bool_list x ⟨_, k1, k2, _, k3⟩ h0
    | tuple k1 k2 k3 k4 => exact RcNeAt.bool_tuple x ⟨_, k1, k2, _, k3⟩ h0
    | dict => simp [noDict] at nb
  | int x t =>
    cases rb with
    | none => exact RcNeAt.int_none x t
    | bool y => exact RcNeAt.int_bool x t y
    | int y u => exact RcNeAt.int_int x t y u
    | str y u => exact RcNeAt.int_str x t y u
    | list k1 k2 k3 k4 => exact RcNeAt.int_list x t ⟨_, k1, k2, _, k3⟩ h0
    | tuple k1 k2 k3 k4 => exact RcNeAt.int_tuple x t ⟨_, k1, k2, _, k3⟩ h0
    | dict => simp [noDict] at nb
  | str x t =>
    cases rb with
    | none => exact RcNeAt.str_none x t
    | bool y => exact RcNeAt.str_bool x t y
    | int y u => exact RcNeAt.str_int x t y u
    | str y u => exact RcNeAt.str_str x t y u
    | list k1 k2 k3 k4 => exact RcNeAt.str_list x t ⟨_, k1, k2, _, k3⟩ h0
    | tuple k1 k2 k3 k4 => exact RcNeAt.str_tuple x t ⟨_, k1, k2, _, k3⟩ h0
    | dict => simp [noDict] at nb
  | @list l o vs n xs as₁ h1 h2 h3 h4 =>
    have hl : s.heap.IsList l vs := ⟨_, h1, h2, _, h3⟩
    have nx : noDictAll xs = true := by simpa [noDict] using na
    simp only [PyData.depth] at hu
    cases rb with
    | none => exact RcNeAt.list_none hl h0
    | bool y => exact RcNeAt.list_bool y hl h0
    | int y u => exact RcNeAt.list_int y u hl h0
    | str y u => exact RcNeAt.list_str y u hl h0
    | tuple k1 k2 k3 k4 => exact RcNeAt.list_tuple hl ⟨_, k1, k2, _, k3⟩ h0
    | dict => simp [noDict] at nb
    | @list l' o' vs' n' ys bs₁ k1 k2 k3 k4 =>
      have ny : noDictAll ys = true := by simpa [noDict] using nb
      have hl' : s.heap.IsList l' vs' := ⟨_, k1, k2, _, k3⟩
      have n1 : vs.size = xs.length := by simpa using ReadsAll.length _ _ _ h4
      have n2 : vs'.size = ys.length := by simpa using ReadsAll.length _ _ _ k4
      show RcNeAt A s (.ref l) (.ref l') (!PyData.eqvAll xs ys)
      by_cases hsz : vs.size = vs'.size
      · rw [← eqvAll_same_length (by omega : xs.length = ys.length), ← n1]
        exact RcNeAt.lists hl hl' hsz h0 (items_at (n := 0) (fun d _ => eq_data d) h4 k4 nx ny (by omega))
      · rw [eqvAll_other_length (by omega : xs.length ≠ ys.length)]
        exact RcNeAt.lists_lengths hl hl' (by simpa using hsz) h0
  | @tuple l o vs n xs as₁ h1 h2 h3 h4 =>
    have hl : s.heap.IsTuple l vs := ⟨_, h1, h2, _, h3⟩
    have nx : noDictAll xs = true := by simpa [noDict] using na
    simp only [PyData.depth] at hu
    cases rb with
    | none => exact RcNeAt.tuple_none hl h0
    | bool y => exact RcNeAt.tuple_bool y hl h0
    | int y u => exact RcNeAt.tuple_int y u hl h0
    | str y u => exact RcNeAt.tuple_str y u hl h0
    | list k1 k2 k3 k4 => exact RcNeAt.tuple_list hl ⟨_, k1, k2, _, k3⟩ h0
    | dict => simp [noDict] at nb
    | @tuple l' o' vs' n' ys bs₁ k1 k2 k3 k4 =>
      have ny : noDictAll ys = true := by simpa [noDict] using nb
      have hl' : s.heap.IsTuple l' vs' := ⟨_, k1, k2, _, k3⟩
      have n1 : vs.size = xs.length := by simpa using ReadsAll.length _ _ _ h4
      have n2 : vs'.size = ys.length := by simpa using ReadsAll.length _ _ _ k4
      show RcNeAt A s (.ref l) (.ref l') (!PyData.eqvAll xs ys)
      rw [← eqvAll_eq xs ys, ← n1, ← n2]
      exact RcNeAt.tuples hl hl' h0 (items_at (n := 0) (fun d _ => eq_data d) h4 k4 nx ny (by omega))
  | dict => simp [noDict] at na
theorem rc_data : ∀ (da db : PyData) (A : Around) (a b : Value) (as bs : List Addr), Reads s.heap a da as → Reads s.heap b db bs → noDict da = true → noDict db = true → A.units + da.depth + 1 < cLine → RcAt A s a b (PyData.eqv da db) := by
  intro da db A a b as bs ra rb na nb hu
  have h0 : A.units < cLine := by omega
  cases ra with
  | none =>
    cases rb with
    | none => exact RcAt.none_none
    | bool y => exact RcAt.none_bool y
    | int y u => exact RcAt.none_int y u
    | str y u => exact RcAt.none_str y u
    | list k1 k2 k3 k4 => exact RcAt.none_list ⟨_, k1, k2, _, k3⟩ h0
    | tuple k1 k2 k3 k4 => exact RcAt.none_tuple ⟨_, k1, k2, _, k3⟩ h0
    | dict => simp [noDict] at nb
  | bool x =>
    cases rb with
    | none => exact RcAt.bool_none x
    | bool y => exact RcAt.bool_bool x y
    | int y u => exact RcAt.bool_int x y u
    | str y u => exact RcAt.bool_str x y u
    | list k1 k2 k3 k4 => exact RcAt.bool_list x ⟨_, k1, k2, _, k3⟩ h0
    | tuple k1 k2 k3 k4 => exact RcAt.bool_tuple x ⟨_, k1, k2, _, k3⟩ h0
    | dict => simp [noDict] at nb
  | int x t =>
    cases rb with
    | none => exact RcAt.int_none x t
    | bool y => exact RcAt.int_bool x t y
    | int y u => exact RcAt.int_int x t y u
    | str y u => exact RcAt.int_str x t y u
    | list k1 k2 k3 k4 => exact RcAt.int_list x t ⟨_, k1, k2, _, k3⟩ h0
    | tuple k1 k2 k3 k4 => exact RcAt.int_tuple x t ⟨_, k1, k2, _, k3⟩ h0
    | dict => simp [noDict] at nb
  | str x t =>
    cases rb with
    | none => exact RcAt.str_none x t
    | bool y => exact RcAt.str_bool x t y
    | int y u => exact RcAt.str_int x t y u
    | str y u => exact RcAt.str_str x t y u
    | list k1 k2 k3 k4 => exact RcAt.str_list x t ⟨_, k1, k2, _, k3⟩ h0
    | tuple k1 k2 k3 k4 => exact RcAt.str_tuple x t ⟨_, k1, k2, _, k3⟩ h0
    | dict => simp [noDict] at nb
  | @list l o vs n xs as₁ h1 h2 h3 h4 =>
    have hl : s.heap.IsList l vs := ⟨_, h1, h2, _, h3⟩
    have nx : noDictAll xs = true := by simpa [noDict] using na
    simp only [PyData.depth] at hu
    cases rb with
    | none => exact RcAt.list_none hl h0
    | bool y => exact RcAt.list_bool y hl h0
    | int y u => exact RcAt.list_int y u hl h0
    | str y u => exact RcAt.list_str y u hl h0
    | tuple k1 k2 k3 k4 => exact RcAt.list_tuple hl ⟨_, k1, k2, _, k3⟩ h0
    | dict => simp [noDict] at nb
    | @list l' o' vs' n' ys bs₁ k1 k2 k3 k4 =>
      have ny : noDictAll ys = true := by simpa [noDict] using nb
      have hl' : s.heap.IsList l' vs' := ⟨_, k1, k2, _, k3⟩
      have n1 : vs.size = xs.length := by simpa using ReadsAll.length _ _ _ h4
      have n2 : vs'.size = ys.length := by simpa using ReadsAll.length _ _ _ k4
      show RcAt A s (.ref l) (.ref l') (PyData.eqvAll xs ys)
      by_cases hsz : vs.size = vs'.size
      · rw [← eqvAll_same_length (by omega : xs.length = ys.length), ← n1]
        exact RcAt.lists hl hl' hsz h0 (items_at (n := 0) (fun d _ => eq_data d) h4 k4 nx ny (by omega))
      · rw [eqvAll_other_length (by omega : xs.length ≠ ys.length)]
        exact RcAt.lists_lengths hl hl' (by simpa using hsz) h0
  | @tuple l o vs n xs as₁ h1 h2 h3 h4 =>
    have hl : s.heap.IsTuple l vs := ⟨_, h1, h2, _, h3⟩
    have nx : noDictAll xs = true := by simpa [noDict] using na
    simp only [PyData.depth] at hu
    cases rb with
    | none => exact RcAt.tuple_none hl h0
    | bool y => exact RcAt.tuple_bool y hl h0
    | int y u => exact RcAt.tuple_int y u hl h0
    | str y u => exact RcAt.tuple_str y u hl h0
    | list k1 k2 k3 k4 => exact RcAt.tuple_list hl ⟨_, k1, k2, _, k3⟩ h0
    | dict => simp [noDict] at nb
    | @tuple l' o' vs' n' ys bs₁ k1 k2 k3 k4 =>
      have ny : noDictAll ys = true := by simpa [noDict] using nb
      have hl' : s.heap.IsTuple l' vs' := ⟨_, k1, k2, _, k3⟩
      have n1 : vs.size = xs.length := by simpa using ReadsAll.length _ _ _ h4
      have n2 : vs'.size = ys.length := by simpa using ReadsAll.length _ _ _ k4
      show RcAt A s (.ref l) (.ref l') (PyData.eqvAll xs ys)
      rw [← eqvAll_eq xs ys, ← n1, ← n2]
      exact RcAt.tuples hl hl' h0 (items_at (n := 0) (fun d _ => eq_data d) h4 k4 nx ny (by omega))
  | dict => simp [noDict] at na
end
/-- what == can be asked of -/
def Cmp (d : PyData) : Prop := noDict d = true ∧ d.depth ≤ 60
def gEqC : D2 := fun x y M Q => match vw M x, vw M y with
  | some (.tuple ds), some (.tuple []) => Q (.d (.bool ds.isEmpty)) M
  | some (.list ds), some (.list []) => Q (.d (.bool ds.isEmpty)) M
  | some d, some e => (Cmp d ∧ noDict e = true) ∧ Q (.d (.bool (PyData.eqv d e))) M
  | _, _ => False
def gNeC : D2 := fun x y M Q => match vw M x, vw M y with
  | some (.tuple ds), some (.tuple []) => Q (.d (.bool (!ds.isEmpty))) M
  | some (.list ds), some (.list []) => Q (.d (.bool (!ds.isEmpty))) M
  | some d, some e => (Cmp d ∧ noDict e = true) ∧ Q (.d (.bool (!PyData.eqv d e))) M
  | _, _ => False
section
variable {X : Cx}
theorem opd_eqC (hu : X.A.units + 64 < cLine) : OpD X (compareOp .Eq) gEqC where
  op := fun pins s σ H x y v u Q I rx ry ⟨M, dx, dy, o, qx, qy, h⟩ => by
    have hE := (opd_eqE (X := X) hu).op
    unfold gEqC at h
    split at h
    · rename_i ds e1 e2
      exact hE pins s σ H x y v u Q I rx ry ⟨M, dx, dy, o, qx, qy, by unfold gEqE; rw [e1, e2]; exact h⟩
    · rename_i ds e1 e2
      exact hE pins s σ H x y v u Q I rx ry ⟨M, dx, dy, o, qx, qy, by unfold gEqE; rw [e1, e2]; exact h⟩
    · rename_i d e _ _ e1 e2
      obtain ⟨as, r1, _⟩ := vw.reads I o qx e1 rx
      obtain ⟨bs, r2, _⟩ := vw.reads I o qy e2 ry
      have hd := h.1.1.2
      exact rc_data d e X.A _ _ _ _ r1 r2 h.1.1.1 h.1.2 (by omega) X.prog X.w _ _ ⟨.bl _, H, I, rfl, fin_d h.2 o (.bl _)⟩
    · exact h.elim
  mono := fun x y M Q Q' hq h => by
    unfold gEqC at h ⊢
    split at h
    · exact hq _ _ h
    · exact hq _ _ h
    · exact ⟨h.1, hq _ _ h.2⟩
    · exact h.elim
theorem opd_neC (hu : X.A.units + 64 < cLine) : OpD X (compareOp .NotEq) gNeC where
  op := fun pins s σ H x y v u Q I rx ry ⟨M, dx, dy, o, qx, qy, h⟩ => by
    have hE := (opd_neE (X := X) hu).op
    unfold gNeC at h
    split at h
    · rename_i ds e1 e2
      exact hE pins s σ H x y v u Q I rx ry ⟨M, dx, dy, o, qx, qy, by unfold gNeE; rw [e1, e2]; exact h⟩
    · rename_i ds e1 e2
      exact hE pins s σ H x y v u Q I rx ry ⟨M, dx, dy, o, qx, qy, by unfold gNeE; rw [e1, e2]; exact h⟩
    · rename_i d e _ _ e1 e2
      obtain ⟨as, r1, _⟩ := vw.reads I o qx e1 rx
      obtain ⟨bs, r2, _⟩ := vw.reads I o qy e2 ry
      have hd := h.1.1.2
      exact ne_data d e X.A _ _ _ _ r1 r2 h.1.1.1 h.1.2 (by omega) X.prog X.w _ _ ⟨.bl _, H, I, rfl, fin_d h.2 o (.bl _)⟩
    · exact h.elim
  mono := fun x y M Q Q' hq h => by
    unfold gNeC at h ⊢
    split at h
    · exact hq _ _ h
    · exact hq _ _ h
    · exact ⟨h.1, hq _ _ h.2⟩
    · exact h.elim
end
end HD

namespace HD
open PySem PySem.Spec PyProof.Rows L2
/-! ### the pen: the script's cells, the next one's place, what is left of a great number -/
def PenOk (M : Mem) (p : Addr) : Prop := ∃ (gs : List Int) (seat rest : Int), M p = some [.list (gs.map .int), .int seat, .int rest] ∧ gs.length ≤ 63 ∧ 0 ≤ seat
/-- only the pen was written -/
def Keeps (p : Addr) (M M' : Mem) : Prop := ∀ a ds, a ≠ p → M a = some ds → M' a = some ds
def PenStep (p : Addr) (M M' : Mem) : Prop := PenOk M' p ∧ Keeps p M M'
theorem PenStep.trans {p : Addr} {M M1 M2 : Mem} (a : PenStep p M M1) (b : PenStep p M1 M2) : PenStep p M M2 := ⟨b.1, fun x ds n h => b.2 x ds n (a.2 x ds n h)⟩
theorem PenStep.refl {p : Addr} {M : Mem} (h : PenOk M p) : PenStep p M M := ⟨h, fun _ _ _ h => h⟩
theorem PenOk.upd {p q : Addr} {M : Mem} {ds : List PyData} (h : PenOk M p) (n : p ≠ q) : PenOk (updM M q ds) p := by
  obtain ⟨gs, a, b, e, r⟩ := h
  exact ⟨gs, a, b, by rw [updM_ne n]; exact e, r⟩
theorem PenOk.ne {p q : Addr} {M : Mem} (h : PenOk M p) (n : M q = none) : p ≠ q := by
  obtain ⟨gs, a, b, e, r⟩ := h
  intro z; subst z; rw [e] at n; cases n
theorem PenOk.sub {p : Addr} {M M' : Mem} (h : PenOk M p) (s : Sub M M') : PenOk M' p := by
  obtain ⟨gs, a, b, e, r⟩ := h
  exact ⟨gs, a, b, s _ _ e, r⟩
theorem PenStep.sub {p : Addr} {M M' : Mem} (h : PenOk M p) (s : Sub M M') : PenStep p M M' := ⟨h.sub s, fun a ds _ q => s a ds q⟩
theorem PenOk.erase {p q : Addr} {M : Mem} (h : PenOk M p) (n : p ≠ q) : PenOk (eraseM M q) p := by
  obtain ⟨gs, a, b, e, r⟩ := h
  exact ⟨gs, a, b, by unfold eraseM; rw [if_neg n]; exact e, r⟩
/-- a fresh list beside the pen -/
theorem PenStep.new {p q : Addr} {M : Mem} {ds : List PyData} (h : PenOk M p) (n : M q = none) : PenStep p M (updM M q ds) :=
  ⟨h.upd (h.ne n), fun a es _ k => by rw [updM_ne (fun e => by subst e; rw [n] at k; cases k)]; exact k⟩
/-- a list that came about since is written -/
theorem PenStep.write {p q : Addr} {M M1 : Mem} {ds : List PyData} (s : PenStep p M M1) (n : M q = none) (hq : p ≠ q) : PenStep p M (updM M1 q ds) :=
  ⟨s.1.upd hq, fun a es z k => by rw [updM_ne (fun e => by subst e; rw [n] at k; cases k)]; exact s.2 a es z k⟩
theorem PenStep.erase {p q : Addr} {M M1 : Mem} (s : PenStep p M M1) (n : M q = none) (hq : p ≠ q) : PenStep p M (eraseM M1 q) :=
  ⟨s.1.erase hq, fun a es z k => by
    unfold eraseM
    rw [if_neg (fun e => by subst e; rw [n] at k; cases k)]
    exact s.2 a es z k⟩

def c_pen : DSp where
  pre := fun xs _ => ∃ a ns, xs = [.s a ns]
  post := fun _ M x M' => ∃ p, x = .m p ∧ M p = none ∧ PenOk M' p ∧ Sub M M'
def c_fresh : DSp where
  pre := fun xs M => ∃ p, xs = [.m p] ∧ PenOk M p
  post := fun xs M x M' => ∀ p, xs = [.m p] → ∃ i, x = .d (.int i) ∧ PenStep p M M'
def c_draw : DSp where
  pre := fun xs M => ∃ p b, xs = [.m p, .d (.int b)] ∧ PenOk M p ∧ 0 < b ∧ b.natAbs.log2 < 9000
  post := fun xs M x M' => ∀ p b, xs = [.m p, .d (.int b)] → ∃ i, x = .d (.int i) ∧ 0 ≤ i ∧ i < b ∧ PenStep p M M'
def c_one_of : DSp where
  pre := fun xs M => ∃ p y ds, xs = [.m p, y] ∧ PenOk M p ∧ vw M y = some (.list ds) ∧ ds ≠ [] ∧ ds.length ≤ 1000 ∧ y ≠ .m p
  post := fun xs M x M' => ∀ p y ds, xs = [.m p, y] → vw M y = some (.list ds) → ∃ d, d ∈ ds ∧ x = .d d ∧ PenStep p M M'
theorem call_draw {p : Addr} {b : Int} {M : Mem} {E : Value → List (Str × PyData) → Mem → Prop} {Q : DK} (h : PenOk M p) (hb : 0 < b) (hl : b.natAbs.log2 < 9000) (hq : ∀ i M', 0 ≤ i → i < b → PenStep p M M' → Q (.d (.int i)) M') :
    c_draw.pre [.m p, .d (.int b)] M ∧ (∀ x M2, c_draw.post [.m p, .d (.int b)] M x M2 → Q x M2) ∧ (∀ cls fs M2, c_draw.err [.m p, .d (.int b)] M cls fs M2 → E cls fs M2) :=
  ⟨⟨p, b, rfl, h, hb, hl⟩, fun x M2 k => by obtain ⟨i, rfl, h0, h1, s⟩ := k p b rfl; exact hq i M2 h0 h1 s, fun _ _ _ k => k.elim⟩
theorem call_fresh {p : Addr} {M : Mem} {E : Value → List (Str × PyData) → Mem → Prop} {Q : DK} (h : PenOk M p) (hq : ∀ i M', PenStep p M M' → Q (.d (.int i)) M') :
    c_fresh.pre [.m p] M ∧ (∀ x M2, c_fresh.post [.m p] M x M2 → Q x M2) ∧ (∀ cls fs M2, c_fresh.err [.m p] M cls fs M2 → E cls fs M2) :=
  ⟨⟨p, rfl, h⟩, fun x M2 k => by obtain ⟨i, rfl, s⟩ := k p rfl; exact hq i M2 s, fun _ _ _ k => k.elim⟩
theorem call_one_of {p : Addr} {ds : List PyData} {M : Mem} {E : Value → List (Str × PyData) → Mem → Prop} {Q : DK} (h : PenOk M p) (hn : ds ≠ []) (hl : ds.length ≤ 1000) (hq : ∀ d M', d ∈ ds → PenStep p M M' → Q (.d d) M') :
    c_one_of.pre [.m p, .d (.list ds)] M ∧ (∀ x M2, c_one_of.post [.m p, .d (.list ds)] M x M2 → Q x M2) ∧ (∀ cls fs M2, c_one_of.err [.m p, .d (.list ds)] M cls fs M2 → E cls fs M2) :=
  ⟨⟨p, .d (.list ds), ds, rfl, h, rfl, hn, hl, by intro z; cases z⟩, fun x M2 k => by obtain ⟨d, hd, rfl, s⟩ := k p (.d (.list ds)) ds rfl rfl; exact hq d M2 hd s, fun _ _ _ k => k.elim⟩
end HD

namespace HD
open PySem PySem.Spec PyProof.Rows
open L2 (kitB atI)

/-! ### readings, told by one Bool -/
theorem and_eq (fa fb : DE) : dAnd fa fb = fun Xd ρ M Q => fa Xd ρ M fun x M1 => match x with | .d (.bool k) => (match k with | true => fb Xd ρ M1 Q | false => Q (.d (.bool false)) M1) | _ => False := by
  funext Xd ρ M Q; unfold dAnd; congr; funext x M1; rcases x with (_ | (_ | _) | _ | _ | _ | _ | _) | _ | _ | _ <;> rfl
theorem or_eq (fa fb : DE) : dOr fa fb = fun Xd ρ M Q => fa Xd ρ M fun x M1 => match x with | .d (.bool k) => (match k with | true => Q (.d (.bool true)) M1 | false => fb Xd ρ M1 Q) | _ => False := by
  funext Xd ρ M Q; unfold dOr; congr; funext x M1; rcases x with (_ | (_ | _) | _ | _ | _ | _ | _) | _ | _ | _ <;> rfl
theorem chain_eq (g g' : D2) (fa fb fc : DE) : dChain g g' fa fb fc = fun Xd ρ M Q => fa Xd ρ M fun x M1 => fb Xd ρ M1 fun y M2 => g x y M2 fun z M3 => match z with
  | .d (.bool k) => (match k with | true => fc Xd ρ M3 fun w M4 => g' y w M4 Q | false => Q (.d (.bool false)) M3) | _ => False := by
  funext Xd ρ M Q; unfold dChain; congr; funext x M1; congr; funext y M2; congr; funext z M3; rcases z with (_ | (_ | _) | _ | _ | _ | _ | _) | _ | _ | _ <;> rfl
theorem kit_int (d : PyData) : kitB (kindD d) "int" = some (match d with | .int _ => true | .bool _ => true | _ => false) := by cases d <;> (simp only [kindD]; decide +kernel)
theorem kit_bool (d : PyData) : kitB (kindD d) "bool" = some (match d with | .bool _ => true | _ => false) := by cases d <;> (simp only [kindD]; decide +kernel)
theorem kit_tuple (d : PyData) : kitB (kindD d) "tuple" = some (match d with | .tuple _ => true | _ => false) := by cases d <;> (simp only [kindD]; decide +kernel)
theorem kit_str (d : PyData) : kitB (kindD d) "str" = some (match d with | .str _ => true | _ => false) := by cases d <;> (simp only [kindD]; decide +kernel)
theorem kit_list (d : PyData) : kitB (kindD d) "list" = some (match d with | .list _ => true | _ => false) := by cases d <;> (simp only [kindD]; decide +kernel)
theorem ty_tuple (d : PyData) : decide (kindD d = "tuple") = (match d with | .tuple _ => true | _ => false) := by cases d <;> (simp only [kindD]; first | rfl | simp)
theorem ty_str (d : PyData) : decide (kindD d = "str") = (match d with | .str _ => true | _ => false) := by cases d <;> (simp only [kindD]; first | rfl | simp)
abbrev ends (c : DSp) (xs : List DV) (M : Mem) : DEnds := ⟨fun _ M' => c.post xs M (.d .none) M', fun x M' => c.post xs M x M', fun _ _ => False, fun _ _ => False, fun cls fs _ M' => c.err xs M cls fs M'⟩

/-! ### walks -/
theorem forD_run {keep : Mem → Prop} {tg : Tg} {body : DS} {D : DEnds} (I : List DV → DEnv → Mem → Prop) (hk : ∀ r ρ M, I r ρ M → keep M)
    (hx : ∀ x r ρ M nx, I (x :: r) ρ M → (∀ ρ' M', I r ρ' M' → nx ρ' M') → match setT M ρ tg x with | some ρ' => body { D with nx := nx, ct := nx, bk := D.nx } ρ' M | none => False)
    (hn : ∀ ρ M, I [] ρ M → D.nx ρ M) : ∀ its ρ M, I its ρ M → forD keep tg body its D ρ M
  | [], ρ, M, h => ⟨hk _ _ _ h, hn ρ M h⟩
  | x :: r, ρ, M, h => ⟨hk _ _ _ h, hx x r ρ M (fun ρ2 M2 => forD keep tg body r D ρ2 M2) h fun ρ' M' h' => forD_run I hk hx hn r ρ' M' h'⟩
/-- one turn of a comprehension, told by what it puts in -/
def lcTurn (tg : Tg) (tt : DT) (te : DE) (ρ : DEnv) (x : DV) (M : Mem) (R : Option PyData → Mem → Prop) : Prop :=
  match setT M ρ tg x with
  | some ρ' => tt noX ρ' M fun k M1 => match k with
    | true => te noX ρ' M1 fun y M2 => match y with | .d d => R (some d) M2 | _ => False
    | false => R none M1
  | none => False
theorem lcD_cons {keep : Mem → Prop} {tg : Tg} {tt : DT} {te : DE} {p : Addr} {ρ : DEnv} {x : DV} {r : List DV} {M : Mem} {Q : Mem → Prop} (hk : keep M)
    (h : lcTurn tg tt te ρ x M fun o M2 => match o with
      | some d => (match M2 p with | some acc => acc.length < sizeLine ∧ lcD keep tg tt te p ρ r (updM M2 p (acc ++ [d])) Q | none => False)
      | none => lcD keep tg tt te p ρ r M2 Q) : lcD keep tg tt te p ρ (x :: r) M Q := by
  refine ⟨hk, ?_⟩
  unfold lcTurn at h
  have e : (fun (y : DV) (M2 : Mem) => match y, M2 p with
        | .d d, some acc => acc.length < sizeLine ∧ lcD keep tg tt te p ρ r (updM M2 p (acc ++ [d])) Q
        | _, _ => False) = fun y M2 => match y with
        | .d d => (match M2 p with | some acc => acc.length < sizeLine ∧ lcD keep tg tt te p ρ r (updM M2 p (acc ++ [d])) Q | none => False)
        | _ => False := by
    funext y M2
    cases y <;> (try rfl)
    cases M2 p <;> rfl
  cases q : setT M ρ tg x with
  | none => rw [q] at h; exact h
  | some ρ' =>
    rw [q] at h
    refine Eq.mp (congrArg (fun f => tt noX ρ' M f) ?_) h
    funext k M1
    cases k with
    | false => rfl
    | true => exact (congrArg (te noX ρ' M1) e).symm
theorem lcD_run {keep : Mem → Prop} {tg : Tg} {tt : DT} {te : DE} {p : Addr} {ρ : DEnv} {Q : Mem → Prop} (I : List DV → List PyData → Mem → Prop) (hk : ∀ r acc M, I r acc M → keep M)
    (hx : ∀ x r acc M R, I (x :: r) acc M → (∀ M', I r acc M' → R none M') → (∀ d M', M' p = some acc → acc.length < sizeLine → I r (acc ++ [d]) (updM M' p (acc ++ [d])) → R (some d) M') → lcTurn tg tt te ρ x M R)
    (hn : ∀ acc M, I [] acc M → Q M) : ∀ its acc M, I its acc M → lcD keep tg tt te p ρ its M Q
  | [], acc, M, h => ⟨hk _ _ _ h, hn acc M h⟩
  | x :: r, acc, M, h => lcD_cons (hk _ _ _ h) (hx x r acc M _ h (fun M' h' => lcD_run I hk hx hn r acc M' h') fun d M' h1 h2 h3 => by
      show (match M' p with | some acc => acc.length < sizeLine ∧ lcD keep tg tt te p ρ r (updM M' p (acc ++ [d])) Q | none => False)
      rw [h1]
      exact ⟨h2, lcD_run I hk hx hn r _ _ h3⟩)
/-- a comprehension that only reckons -/
theorem lc_pure {tg : Tg} {tt : DT} {te : DE} {ρ : DEnv} {its : List DV} {step : DV → Option PyData} {M : Mem} {Q : Addr → Mem → Prop} (hl : its.length ≤ sizeLine)
    (hx : ∀ x ∈ its, ∀ M1 R, (∀ M2, Sub M1 M2 → R (step x) M2) → lcTurn tg tt te ρ x M1 R) (hq : ∀ p M', M' p = some (its.filterMap step) → Sub M (eraseM M' p) → Q p M') :
    ∀ p, M p = none → lcD (fun _ => True) tg tt te p ρ its (updM M p []) (Q p) := by
  intro p hp
  refine lcD_run (fun r acc M' => ∃ l, its = l ++ r ∧ acc = l.filterMap step ∧ M' p = some acc ∧ ∀ a ds, a ≠ p → M a = some ds → M' a = some ds) (fun _ _ _ _ => trivial) ?_ ?_ its [] (updM M p []) ⟨[], rfl, rfl, updM_same, fun a ds n h => by rw [updM_ne n]; exact h⟩
  · rintro x r acc M1 R ⟨l, e, rfl, h1, h2⟩ hn hs
    refine hx x (by rw [e]; simp) M1 R fun M2 s => ?_
    have e2 : its = (l ++ [x]) ++ r := by rw [e]; simp
    cases q : step x with
    | none => exact hn M2 ⟨l ++ [x], e2, by simp [q], s _ _ h1, fun a ds n h => s _ _ (h2 a ds n h)⟩
    | some d =>
      refine hs d M2 (s _ _ h1) ?_ ⟨l ++ [x], e2, by simp [q], updM_same, fun a ds n h => by rw [updM_ne n]; exact s _ _ (h2 a ds n h)⟩
      have := List.length_filterMap_le step l
      rw [e] at hl
      simp at hl
      omega
  · rintro acc M1 ⟨l, e, rfl, h1, h2⟩
    have el : its = l := by rw [e]; simp
    subst el
    refine hq p _ h1 fun a ds h => ?_
    have n : a ≠ p := fun z => by subst z; rw [hp] at h; cases h
    unfold eraseM
    rw [if_neg n]
    exact h2 a ds n h
end HD

namespace HD
open PySem PySem.Spec PyProof.Rows
open L2 (kitB atI)

theorem FnG.union {P : Program} {w : World} {K : PySem.W.Frag} {mg : Str → Option Value} {base : Heap} {k : Nat} {f : Addr} {fd : FuncData} {ps : List Str} {sp' : L2.Sp} (h : ∀ vs H Q E, sp' vs H Q E → ∃ sp : L2.Sp, FnG P w K mg base k f fd ps sp ∧ sp vs H Q E) : FnG P w K mg base k f fd ps sp' :=
  ⟨fun vs H Q E q => let ⟨_, F, q'⟩ := h vs H Q E q; F.size vs H Q E q', fun A o s H a us vs Q E g r e b v q => let ⟨_, F, q'⟩ := h vs H Q E q; F.goes A o s H a us vs Q E g r e b v q'⟩

/-! ### data of bounded size -/
mutual
def lf (k : Nat) : PyData → Bool
  | .none | .bool _ => true
  | .int i => decide (i.natAbs ≤ 10 ^ 61 + k)
  | .str x => x.cps.toList.all fun c => decide (c < 16 ^ 8)
  | .list xs | .tuple xs => lfAll k xs
  | .dict kvs => kvs.isEmpty
def lfAll (k : Nat) : List PyData → Bool
  | [] => true
  | x :: xs => lf k x && lfAll k xs
end
theorem lfAll_iff {k : Nat} : ∀ {xs : List PyData}, lfAll k xs = true ↔ ∀ d ∈ xs, lf k d = true
  | [] => by simp [lfAll]
  | x :: xs => by simp [lfAll, lfAll_iff (xs := xs)]
theorem depthAll_iff {t : Nat} : ∀ {xs : List PyData}, PyData.depthAll xs ≤ t ↔ ∀ d ∈ xs, d.depth ≤ t
  | [] => by simp [PyData.depthAll]
  | x :: xs => by simp [PyData.depthAll, Nat.max_le, depthAll_iff (xs := xs)]
theorem bulkAll_append : ∀ (xs ys : List PyData), PyData.bulkAll (xs ++ ys) = PyData.bulkAll xs + PyData.bulkAll ys
  | [], ys => by simp [PyData.bulkAll]
  | x :: xs, ys => by simp only [List.cons_append, PyData.bulkAll, bulkAll_append xs ys]; omega
theorem bulkAll_cut (xs : List PyData) (k : Nat) : PyData.bulkAll (xs.take k) + PyData.bulkAll (xs.drop k) = PyData.bulkAll xs := by
  rw [← bulkAll_append, List.take_append_drop]
theorem bulkAll_reverse : ∀ xs : List PyData, PyData.bulkAll xs.reverse = PyData.bulkAll xs
  | [] => rfl
  | x :: xs => by simp only [List.reverse_cons, bulkAll_append, bulkAll_reverse xs, PyData.bulkAll]; omega
theorem bulkAll_length : ∀ xs : List PyData, xs.length ≤ PyData.bulkAll xs
  | [] => Nat.le_refl _
  | x :: xs => by have := bulkAll_length xs; simp only [List.length_cons, PyData.bulkAll]; omega
theorem bulkAll_at {xs : List PyData} {j : Nat} {d : PyData} (h : xs[j]? = some d) : PyData.bulkAll (xs.take j) + (d.bulk + 1) + PyData.bulkAll (xs.drop (j + 1)) = PyData.bulkAll xs := by
  have e : xs = xs.take j ++ ([d] ++ xs.drop (j + 1)) := by
    have hj : j < xs.length := by
      rcases Nat.lt_or_ge j xs.length with h1 | h1
      · exact h1
      · rw [List.getElem?_eq_none h1] at h; cases h
    rw [List.getElem?_eq_getElem hj] at h
    cases h
    simp
  conv => rhs; rw [e]
  simp only [bulkAll_append, PyData.bulkAll]
  omega
structure Fit (n k t : Nat) (d : PyData) : Prop where
  lf : lf k d = true
  bulk : d.bulk ≤ n
  depth : d.depth ≤ t
structure FitA (n k t : Nat) (xs : List PyData) : Prop where
  lf : ∀ d ∈ xs, HD.lf k d = true
  bulk : PyData.bulkAll xs ≤ n
  depth : ∀ d ∈ xs, d.depth ≤ t
theorem Fit.mono {n k t n' k' t' : Nat} {d : PyData} (h : Fit n k t d) (hn : n ≤ n') (hk : k = k') (ht : t ≤ t') : Fit n' k' t' d := ⟨hk ▸ h.lf, Nat.le_trans h.bulk hn, Nat.le_trans h.depth ht⟩
theorem lf_mono {k k' : Nat} (hk : k ≤ k') : ∀ {d : PyData}, lf k d = true → lf k' d = true
  | .none, _ => rfl
  | .bool _, _ => rfl
  | .int i, h => by simp only [lf, decide_eq_true_eq] at h ⊢; omega
  | .str x, h => h
  | .list xs, h => by
    simp only [lf] at h ⊢
    exact lfAll_iff.mpr fun d hd => lf_mono hk (lfAll_iff.mp h d hd)
  | .tuple xs, h => by
    simp only [lf] at h ⊢
    exact lfAll_iff.mpr fun d hd => lf_mono hk (lfAll_iff.mp h d hd)
  | .dict kvs, h => h
theorem Fit.up {n k t n' k' t' : Nat} {d : PyData} (h : Fit n k t d) (hn : n ≤ n') (hk : k ≤ k') (ht : t ≤ t') : Fit n' k' t' d := ⟨lf_mono hk h.lf, Nat.le_trans h.bulk hn, Nat.le_trans h.depth ht⟩
theorem Fit.all {n k t : Nat} {xs : List PyData} (h : Fit n k (t + 1) (.tuple xs)) : FitA n k t xs :=
  ⟨lfAll_iff.mp (by simpa [HD.lf] using h.lf), by simpa [PyData.bulk] using h.bulk, depthAll_iff.mp (by have := h.depth; simp only [PyData.depth] at this; omega)⟩
theorem FitA.tup {n k t : Nat} {xs : List PyData} (h : FitA n k t xs) : Fit n k (t + 1) (.tuple xs) :=
  ⟨by simp only [HD.lf]; exact lfAll_iff.mpr h.lf, by simpa [PyData.bulk] using h.bulk, by simp only [PyData.depth]; have := depthAll_iff.mpr h.depth; omega⟩
theorem FitA.lst {n k t : Nat} {xs : List PyData} (h : FitA n k t xs) : Fit n k (t + 1) (.list xs) :=
  ⟨by simp only [HD.lf]; exact lfAll_iff.mpr h.lf, by simpa [PyData.bulk] using h.bulk, by simp only [PyData.depth]; have := depthAll_iff.mpr h.depth; omega⟩
theorem FitA.up {n k t n' k' t' : Nat} {xs : List PyData} (h : FitA n k t xs) (hn : n ≤ n') (hk : k ≤ k') (ht : t ≤ t') : FitA n' k' t' xs := ⟨fun d m => lf_mono hk (h.lf d m), Nat.le_trans h.bulk hn, fun d m => Nat.le_trans (h.depth d m) ht⟩
theorem FitA.nil {n k t : Nat} : FitA n k t [] := ⟨by simp, by simp [PyData.bulkAll], by simp⟩
theorem FitA.one {n k t : Nat} {d : PyData} (h : Fit n k t d) : FitA (n + 1) k t [d] := ⟨by simpa using h.lf, by have := h.bulk; simp only [PyData.bulkAll]; omega, by simpa using h.depth⟩
theorem FitA.app {n m k t : Nat} {xs ys : List PyData} (h : FitA n k t xs) (g : FitA m k t ys) : FitA (n + m) k t (xs ++ ys) :=
  ⟨fun d hd => (List.mem_append.mp hd).elim (h.lf d) (g.lf d), by rw [bulkAll_append]; exact Nat.add_le_add h.bulk g.bulk, fun d hd => (List.mem_append.mp hd).elim (h.depth d) (g.depth d)⟩
theorem FitA.take {n k t : Nat} {xs : List PyData} (h : FitA n k t xs) (j : Nat) : FitA n k t (xs.take j) :=
  ⟨fun d hd => h.lf d (List.mem_of_mem_take hd), by have := bulkAll_cut xs j; have := h.bulk; omega, fun d hd => h.depth d (List.mem_of_mem_take hd)⟩
theorem FitA.drop {n k t : Nat} {xs : List PyData} (h : FitA n k t xs) (j : Nat) : FitA n k t (xs.drop j) :=
  ⟨fun d hd => h.lf d (List.mem_of_mem_drop hd), by have := bulkAll_cut xs j; have := h.bulk; omega, fun d hd => h.depth d (List.mem_of_mem_drop hd)⟩
theorem FitA.rev {n k t : Nat} {xs : List PyData} (h : FitA n k t xs) : FitA n k t xs.reverse :=
  ⟨fun d hd => h.lf d (by simpa using hd), by rw [bulkAll_reverse]; exact h.bulk, fun d hd => h.depth d (by simpa using hd)⟩
/-- one item exchanged -/
theorem FitA.put {n b m k k' t t' : Nat} {xs : List PyData} {j : Nat} {d e : PyData} (h : FitA n k t xs) (hj : xs[j]? = some d) (hd : d.bulk = b) (he : Fit (b + m) k' t' e) (hk : k ≤ k') (ht : t ≤ t') : FitA (n + m) k' t' (xs.take j ++ [e] ++ xs.drop (j + 1)) := by
  refine ⟨fun x hx => ?_, ?_, fun x hx => ?_⟩
  · rcases List.mem_append.mp hx with q | q
    · rcases List.mem_append.mp q with q | q
      · exact lf_mono hk (h.lf x (List.mem_of_mem_take q))
      · simp at q; subst q; exact he.lf
    · exact lf_mono hk (h.lf x (List.mem_of_mem_drop q))
  · have := bulkAll_at hj
    have := h.bulk
    have := he.bulk
    simp only [bulkAll_append, PyData.bulkAll]
    omega
  · rcases List.mem_append.mp hx with q | q
    · rcases List.mem_append.mp q with q | q
      · exact Nat.le_trans (h.depth x (List.mem_of_mem_take q)) ht
      · simp at q; subst q; exact he.depth
    · exact Nat.le_trans (h.depth x (List.mem_of_mem_drop q)) ht
theorem FitA.rep {n k t : Nat} {xs : List PyData} (h : FitA n k t xs) : ∀ j : Nat, FitA (j * n) k t (List.replicate j xs).flatten
  | 0 => FitA.nil
  | j + 1 => by
    rw [List.replicate_succ, List.flatten_cons, Nat.succ_mul, Nat.add_comm]
    exact h.app (FitA.rep h j)
theorem Fit.at {n k t : Nat} {xs : List PyData} {d : PyData} (h : FitA n k t xs) (hd : d ∈ xs) : Fit n k t d := by
  obtain ⟨j, hj⟩ := List.getElem?_of_mem hd
  have := bulkAll_at hj
  exact ⟨h.lf d hd, by have := h.bulk; omega, h.depth d hd⟩
theorem int_len {i : Int} {k : Nat} (hk : k ≤ 1000) (h : i.natAbs ≤ 10 ^ 61 + k) : (PyData.shown (.int i)).length ≤ 70 := by
  have h2 : i.natAbs < 10 ^ 65 := by have e : (10 : Nat) ^ 65 = 10 ^ 61 * 10000 := by decide
                                     omega
  have e : (PyData.shown (.int i)).length = (toString i).length := PySem.ofString_length _
  rw [e]
  exact Nat.le_trans (int_text_length_le10 (k := 65) (by decide) h2) (by decide)
theorem int_log {i : Int} {k : Nat} (hk : k ≤ 1000) (h : i.natAbs ≤ 10 ^ 61 + k) : i.natAbs.log2 < 1920 := by
  by_cases z : i.natAbs = 0
  · rw [z]; decide
  · have h3 : i.natAbs.log2 < 256 := (Nat.log2_lt z).mpr (by have e : (10 : Nat) ^ 61 + 1000 < 2 ^ 256 := by decide
                                                             omega)
    omega
mutual
theorem lf_short {k : Nat} (hk : k ≤ 1000) : ∀ d : PyData, lf k d = true → d.leavesShort 70 = true ∧ d.showable = true
  | .none, _ => ⟨rfl, rfl⟩
  | .bool _, _ => ⟨rfl, rfl⟩
  | .int i, h => by
    simp only [lf, decide_eq_true_eq] at h
    exact ⟨by simp only [PyData.leavesShort, decide_eq_true_eq]; exact int_len hk h, by simp only [PyData.showable, decide_eq_true_eq]; exact int_log hk h⟩
  | .str x, h => ⟨by simpa only [PyData.leavesShort, lf] using h, rfl⟩
  | .list xs, h => by
    simp only [PyData.leavesShort, PyData.showable]
    exact lfAll_short hk xs (by simpa only [lf] using h)
  | .tuple xs, h => by
    simp only [PyData.leavesShort, PyData.showable]
    exact lfAll_short hk xs (by simpa only [lf] using h)
  | .dict [], _ => ⟨rfl, rfl⟩
  | .dict (_ :: _), h => by simp [lf] at h
theorem lfAll_short {k : Nat} (hk : k ≤ 1000) : ∀ xs : List PyData, lfAll k xs = true → PyData.leavesShortAll 70 xs = true ∧ PyData.showableAll xs = true
  | [], _ => ⟨rfl, rfl⟩
  | x :: xs, h => by
    simp only [lfAll, Bool.and_eq_true] at h
    have h1 := lf_short hk x h.1
    have h2 := lfAll_short hk xs h.2
    simp only [PyData.leavesShortAll, PyData.showableAll, h1.1, h1.2, h2.1, h2.2, Bool.and_self, and_self]
end
theorem Fit.shows {n k t : Nat} {d : PyData} (h : Fit n k t d) (hn : n ≤ 10000) (hk : k ≤ 1000) (ht : t ≤ 60) : Shows d := by
  have h1 := lf_short hk d h.lf
  refine ⟨h1.2, Nat.le_trans h.depth ht, ?_⟩
  have h2 := PyData.shown_le_bulk 70 (by decide) d h1.1
  have h3 := h.bulk
  exact line1' (Nat.le_trans h2 (by omega : (70 + 2) * d.bulk + 70 ≤ 720070))
where
  line1' {m : Nat} (h : m ≤ 720070) : m ≤ sizeLine := Nat.le_trans h (by decide)
theorem FitA.of {k t : Nat} {xs : List PyData} (h : ∀ d ∈ xs, Fit 0 k t d) : FitA xs.length k t xs :=
  ⟨fun d hd => (h d hd).lf, by
    induction xs with
    | nil => simp [PyData.bulkAll]
    | cons x xs ih =>
      have := (h x (by simp)).bulk
      have := ih fun d hd => h d (by simp [hd])
      simp only [PyData.bulkAll, List.length_cons]; omega, fun d hd => (h d hd).depth⟩
theorem Fit.int {k : Nat} {i : Int} (h : i.natAbs ≤ 10 ^ 61 + k) : Fit 0 k 0 (.int i) := ⟨by simpa only [HD.lf, decide_eq_true_eq] using h, Nat.le_refl _, Nat.le_refl _⟩

/-! ### a comprehension that draws -/
theorem lc_pen {tg : Tg} {tt : DT} {te : DE} {ρ : DEnv} {its : List DV} {P : PyData → Prop} {pn : Addr} {M : Mem} {Q : Addr → Mem → Prop} (hl : its.length ≤ sizeLine) (hp : PenOk M pn)
    (hx : ∀ x ∈ its, ∀ M1 (R : Option PyData → Mem → Prop), PenOk M1 pn → (∀ d M2, P d → PenStep pn M1 M2 → R (some d) M2) → lcTurn tg tt te ρ x M1 R)
    (hq : ∀ p M' acc, M' p = some acc → acc.length = its.length → (∀ d ∈ acc, P d) → PenStep pn M (eraseM M' p) → Q p M') :
    ∀ p, M p = none → lcD (fun _ => True) tg tt te p ρ its (updM M p []) (Q p) := by
  intro p hpn
  have hne : pn ≠ p := hp.ne hpn
  refine lcD_run (fun r acc M' => ∃ l, its = l ++ r ∧ acc.length = l.length ∧ (∀ d ∈ acc, P d) ∧ M' p = some acc ∧ PenOk M' pn ∧ ∀ a ds, a ≠ p → a ≠ pn → M a = some ds → M' a = some ds) (fun _ _ _ _ => trivial) ?_ ?_ its [] (updM M p []) ⟨[], rfl, rfl, by simp, updM_same, hp.upd hne, fun a ds n _ h => by rw [updM_ne n]; exact h⟩
  · rintro x r acc M1 R ⟨l, e, e1, e2, h1, ho, h2⟩ hn hs
    have hxm : x ∈ its := by rw [e]; simp
    refine hx x hxm M1 R ho fun d M2 hd s => ?_
    refine hs d M2 (s.2 p acc (Ne.symm hne) h1) ?_ ⟨l ++ [x], by rw [e]; simp, by simp [e1], ?_, updM_same, s.1.upd hne, fun a ds n n2 h => by rw [updM_ne n]; exact s.2 a ds n2 (h2 a ds n n2 h)⟩
    · have := congrArg List.length e
      simp at this
      omega
    · intro d' hd'
      rcases List.mem_append.mp hd' with q | q
      · exact e2 d' q
      · simp at q; subst q; exact hd
  · rintro acc M1 ⟨l, e, e1, e2, h1, ho, h2⟩
    have el : its = l := by rw [e]; simp
    subst el
    refine hq p M1 acc h1 e1 e2 ⟨ho.erase hne, fun a ds n h => ?_⟩
    have n2 : a ≠ p := fun z => by subst z; rw [hpn] at h; cases h
    unfold eraseM
    rw [if_neg n2]
    exact h2 a ds n2 n h
/-! ### a def that draws -/
def penC (R : PyData → Prop) : DSp where
  pre := fun xs M => ∃ p, xs = [.m p] ∧ PenOk M p
  post := fun xs M x M' => ∀ p, xs = [.m p] → ∃ d, x = .d d ∧ R d ∧ PenStep p M M'
theorem call_pen {R : PyData → Prop} {p : Addr} {M : Mem} {E : Value → List (Str × PyData) → Mem → Prop} {Q : DK} (h : PenOk M p) (hq : ∀ d M', R d → PenStep p M M' → Q (.d d) M') :
    (penC R).pre [.m p] M ∧ (∀ x M2, (penC R).post [.m p] M x M2 → Q x M2) ∧ (∀ cls fs M2, (penC R).err [.m p] M cls fs M2 → E cls fs M2) :=
  ⟨⟨p, rfl, h⟩, fun x M2 k => by obtain ⟨d, rfl, hr, s⟩ := k p rfl; exact hq d M2 hr s, fun _ _ _ k => k.elim⟩
theorem penC.len {R : PyData → Prop} : ∀ xs M, (penC R).pre xs M → xs.length = 1 := by
  rintro _ M ⟨p, rfl, _⟩; rfl
end HD

namespace HD
open PySem PySem.Spec PyProof.Rows L2

/-! ### zip of two tuples -/
section
variable {K : PySem.W.Frag} {H : Hp} {M : Mem} {a b : Addr} {vs us : List V} {ds es : List PyData}
theorem walkZT {n : Nat} (hn : n = min vs.length us.length) : Walk (RZ.ItzT K a b) n (fun H => SqT K H a vs ∧ SqT K H b us) (YPair (fun i => vs[i]?) (fun i => us[i]?)) where
  goes := fun i G hi q => ⟨vs, us, vs[i]'(by omega), us[i]'(by omega), q.1, q.2, by simp, by simp⟩
  stops := fun G q => ⟨vs, us, q.1, q.2, by omega⟩
  yields := fun i G v G' hi q ⟨T, x, z, h1, h2, h3, h4, h5⟩ => ⟨T, x, z, h1, h2, h3, h4 vs q.1, h5 us q.2⟩
theorem dwalk_zipT (h : StT K H M a vs) (h' : StT K H M b us) (f : FzA K H M vs ds) (f' : FzA K H M us es) : DWalk K (RZ.ItzT K a b) (pairsD ds es) (fun _ => True) H M := by
  have hl : (pairsD ds es).length = min vs.length us.length := by rw [pairsD, List.length_map, List.length_zip, f.length, f'.length]
  refine ⟨fun G => SqT K G a vs ∧ SqT K G b us, YPair (fun i => vs[i]?) (fun i => us[i]?), by rw [hl]; exact walkZT rfl, fun G N e _ _ => ⟨(h.ext e).sq, (h'.ext e).sq⟩, fun i v G G' N hi e o _ ⟨T, x, y, h1, h2, h3, h4, h5⟩ => ?_⟩
  subst h1; subst h3
  obtain ⟨d1, q1, r1⟩ := (f.ext e).getV h4
  obtain ⟨d2, q2, r2⟩ := (f'.ext e).getV h5
  refine ⟨.d (.tuple [d1, d2]), ?_, Ext.new h2, o.new h2, .tup (.inl ⟨Rd.of upd_same, o.out h2⟩) (.cons (r1.ext (Ext.new h2)) (.cons (r2.ext (Ext.new h2)) .nil))⟩
  have z : (ds.zip es)[i]? = some (d1, d2) := by rw [List.getElem?_zip_eq_some]; exact ⟨q1, q2⟩
  rw [pairsD, List.getElem?_map, z]; rfl
end
section
variable {X : Cx} {W : WX} {a b : Expr} {t : DA} {p pos tpos : Pos} {elts : List Expr} {kk : Nat}
def iZipD (t : DA) : DI := fun Xd ρ M R => t Xd ρ M fun xs M1 => match xs with
  | [.d (.tuple ds), .d (.tuple es)] => R (pairsD ds es) (fun _ => True) M1
  | _ => False
theorem ci_zip (hg : Gl X "zip") (hm : X.mg "zip" = none) (ha : CA X W [a, b] t) (hs : starEach [a, b] X.env = (false, eval a X.env) :: starEach [b] X.env := by rfl) (hpl : (backTo pos (starEach [b] X.env)).any (·.1) = false := by rfl) :
    CI X W (.Tuple elts kk tpos) (.Call (.Name "zip" p) [a, b] [] pos) (iZipD t) where
  pi := PI.weak (RZ.pi_zipA hg hm ha.pa hs hpl) fun σ H R ⟨ρ, M, Xd, r, x, h⟩ => embA.next r x ha.mono h fun ys M1 vs H1 e1 r1 x1 rv h1 => by
    split at h1
    · obtain ⟨v, u, rfl, rv1, rv2⟩ := rv.two
      cases rv1 with | tup h2 f => cases rv2 with | tup h3 g => exact ⟨_, _, _, _, rfl, .inr ⟨h2.sq, h3.sq, h1 _ _ e1 r1.mem (dwalk_zipT h2 h3 f g)⟩⟩
    · exact h1.elim
  mono := fun Xd ρ M Q Q' hq h => ha.mono _ _ _ _ _ (fun x M1 h1 => by
    split at h1
    · exact hq _ _ _ h1
    · exact h1.elim) h
end

/-! ### x in a tuple or a list -/
/-- what in can be asked of -/
def InOk (d : PyData) (ds : List PyData) : Prop := d.canLay0 = true ∧ PyData.canLayAll0 ds = true ∧ d.depth ≤ 60
def gIn (f : Bool → Bool) : D2 := fun x y M Q => match vw M x, vw M y with
  | some d, some (.tuple ds) => InOk d ds ∧ Q (.d (.bool (f (ds.any fun z => PyData.eqv z d)))) M
  | some d, some (.list ds) => InOk d ds ∧ Q (.d (.bool (f (ds.any fun z => PyData.eqv z d)))) M
  | _, _ => False
section
variable {X : Cx}
theorem gIn.mono {f : Bool → Bool} : ∀ x y M Q Q', (∀ z M', Q z M' → Q' z M') → gIn f x y M Q → gIn f x y M Q' := fun x y M Q Q' hq h => by
  unfold gIn at h ⊢
  split at h
  · exact ⟨h.1, hq _ _ h.2⟩
  · exact ⟨h.1, hq _ _ h.2⟩
  · exact h.elim
theorem in_room {A : Around} {a b : Nat} (hu : A.units + 64 < cLine) (h : b ≤ 60) : A.units + 1 + min a b < cLine := by
  have := Nat.min_le_right a b
  omega
theorem opd_in (hu : X.A.units + 64 < cLine) : OpD X (compareOp .In) (gIn id) where
  op := fun pins s σ H x y v u Q I rx ry ⟨M, dx, dy, o, qx, qy, h⟩ => by
    unfold gIn at h
    split at h
    · rename_i d ds e1 e2
      obtain ⟨as, r1, _⟩ := vw.reads I o qx e1 rx
      obtain ⟨bs, r2, _⟩ := vw.reads I o qy e2 ry
      exact SeqAt.in_tuple_reads r2 r1 h.1.2.1 h.1.1 (in_room hu h.1.2.2) ⟨.bl _, H, I, rfl, fin_d h.2 o (.bl _)⟩
    · rename_i d ds e1 e2
      obtain ⟨as, r1, _⟩ := vw.reads I o qx e1 rx
      obtain ⟨bs, r2, _⟩ := vw.reads I o qy e2 ry
      exact SeqAt.in_list_reads r2 r1 h.1.2.1 h.1.1 (in_room hu h.1.2.2) ⟨.bl _, H, I, rfl, fin_d h.2 o (.bl _)⟩
    · exact h.elim
  mono := gIn.mono
theorem opd_notIn (hu : X.A.units + 64 < cLine) : OpD X (compareOp .NotIn) (gIn not) where
  op := fun pins s σ H x y v u Q I rx ry ⟨M, dx, dy, o, qx, qy, h⟩ => by
    unfold gIn at h
    split at h
    · rename_i d ds e1 e2
      obtain ⟨as, r1, _⟩ := vw.reads I o qx e1 rx
      obtain ⟨bs, r2, _⟩ := vw.reads I o qy e2 ry
      exact SeqAt.notIn_tuple_reads r2 r1 h.1.2.1 h.1.1 (in_room hu h.1.2.2) ⟨.bl _, H, I, rfl, fin_d h.2 o (.bl _)⟩
    · rename_i d ds e1 e2
      obtain ⟨as, r1, _⟩ := vw.reads I o qx e1 rx
      obtain ⟨bs, r2, _⟩ := vw.reads I o qy e2 ry
      exact SeqAt.notIn_list_reads r2 r1 h.1.2.1 h.1.1 (in_room hu h.1.2.2) ⟨.bl _, H, I, rfl, fin_d h.2 o (.bl _)⟩
    · exact h.elim
  mono := gIn.mono
end
end HD

namespace HD
open PySem PySem.Spec PyProof.Rows PySem.SeqAt

/-! ### t < u of tuples whose items may be tuples -/
/-- v < w answers k -/
def LtIs (A : Around) (s : Shared) (v w : Value) (k : Bool) : Prop :=
  ∀ (prog : Program) (wd : World) (E : Value → Shared → Prop) (Q : Value → Shared → Prop), Q (.bool k) s → wpAny (model prog wd) A (richCompare .Lt v w) Q E s
/-- item by item, up to the first pair that differs -/
inductive Lex (A : Around) (s : Shared) : List Value → List Value → Bool → Prop
  | done : Lex A s [] [] false
  | short {w : Value} {ws : List Value} : Lex A s [] (w :: ws) true
  | long {v : Value} {vs : List Value} : Lex A s (v :: vs) [] false
  | same {v w : Value} {vs ws : List Value} {k : Bool} : EqAt A s v w true → Lex A s vs ws k → Lex A s (v :: vs) (w :: ws) k
  | here {v w : Value} {vs ws : List Value} {k : Bool} : EqAt A s v w false → LtIs A s v w k → Lex A s (v :: vs) (w :: ws) k
section
open PySem.AutoSeq1 (wpAny_loadPart')
open PySem.MeetsSeq PySem.MeetsSeq2 PySem.MeetsSeq3
theorem tuple_lex (a b : Addr) (xs ys : Array Value) (m n : Nat) (da db : Option Addr) (sa sb : Array (Option Value)) (k : Bool) :
    Meets (Builtin.«tuple.__lt__» ⟨[.ref a, .ref b], []⟩)
      (fun A R s => s.heap.get? a = some { cls := .type "tuple", dict := da, data := .seq xs m, slots := sa } ∧ s.heap.get? b = some { cls := .type "tuple", dict := db, data := .seq ys n, slots := sb } ∧
        Lex A.in1 s xs.toList ys.toList k ∧ R (.ok (.ret (.bool k))) s) :=
  .of_wp fun prog wd A R s h => by
    obtain ⟨hp, g, d, tk, os⟩ := s
    obtain ⟨h1, h2, hx, hR⟩ := h
    have two := AutoSeq1.sub_tuple_tuple
    wp_walk using wpAny_loadPart' h1, wpAny_loadPart' h2, wpAny_forIn_list _ (fun rest c t => c.1 = none ∧ t = ⟨hp, g, d, tk, os⟩ ∧ ∃ vs ws : List Value, rest = vs.zip ws ∧ Lex A.in1 ⟨hp, g, d, tk, os⟩ vs ws k ∧ vs.length + ys.size = ws.length + xs.size) _
    case turn =>
      rintro ⟨y, x⟩ rest c t ⟨hc, rfl, vs, ws, hz, hl, hlen⟩
      cases hl with
      | done => cases hz
      | short => rw [List.zip_nil_left] at hz; cases hz
      | long => rw [List.zip_nil_right] at hz; cases hz
      | same e hl =>
        rw [List.zip_cons_cons] at hz
        injection hz with hyx hrest
        injection hyx with hy hx
        subst hy hx
        simp only [List.length_cons] at hlen
        refine wpAny_bind (e prog wd _ _ ?_)
        wp_walk
        exact ⟨rfl, rfl, _, _, hrest, hl, by omega⟩
      | here e lt =>
        rw [List.zip_cons_cons] at hz
        injection hz with hyx hrest
        injection hyx with hy hx
        subst hy hx
        refine wpAny_bind (e prog wd _ _ ?_)
        have ask := lt prog wd
        wp_walk using ask
        exact ⟨_, rfl, by simpa using hR⟩
    case fin =>
      rintro ⟨c1, c2⟩ t ⟨hc, rfl, vs, ws, hz, hl, hlen⟩
      simp only at hc
      subst hc
      have hv : k = decide (xs.size < ys.size) := by
        cases hl with
        | done => simp only [List.length_nil] at hlen; exact (decide_eq_false (by omega)).symm
        | short => simp only [List.length_nil, List.length_cons] at hlen; exact (decide_eq_true (by omega)).symm
        | long => simp only [List.length_nil, List.length_cons] at hlen; exact (decide_eq_false (by omega)).symm
        | same e hl => rw [List.zip_cons_cons] at hz; cases hz
        | here e lt => rw [List.zip_cons_cons] at hz; cases hz
      rw [hv] at hR
      wp_walk
      exact ⟨_, rfl, by simpa [Builtin.Tuple.tupleCompareSizes] using hR⟩
    case h =>
      exact ⟨rfl, rfl, xs.toList, ys.toList, rfl, hx, by simp; omega⟩
end
theorem LtIs.tup {A : Around} {s : Shared} {a b : Addr} {xs ys : Array Value} {k : Bool} (ha : s.heap.IsTuple a xs) (hb : s.heap.IsTuple b ys) (hx : Lex A.in1 s xs.toList ys.toList k) (hu : A.units < cLine) : LtIs A s (.ref a) (.ref b) k := by
  intro prog wd E Q h
  obtain ⟨⟨cls, dd, data, sl⟩, ho, hc, n, hd⟩ := id ha
  obtain ⟨⟨cls2, dd2, data2, sl2⟩, ho2, hc2, n2, hd2⟩ := id hb
  simp only at hc hd hc2 hd2
  subst hc hd hc2 hd2
  have run : wpAny (model prog wd) A (compareOp .Lt (.ref a) (.ref b)) Q E s := PySem.richCompare_meets_room (op := .Lt) ⟨_, ho, rfl⟩ ⟨_, ho2, rfl⟩ PySem.F.slot_tuple_lt PySem.F.entry_tuple_lt (PySem.F.args_tuple_lt_2 _ _) (tuple_lex a b xs ys n n2 dd dd2 sl sl2 k)
    ⟨ho, ho2, hx, show Value.bool k ≠ Value.notImplemented ∧ Q (.bool k) s from ⟨(fun x => nomatch x), h⟩⟩ hu
  exact run

/-! ### the order of data -/
mutual
def ltD : PyData → PyData → Bool
  | .int a, .int b => decide (a < b)
  | .tuple xs, .tuple ys => ltAll xs ys
  | _, _ => false
def ltAll : List PyData → List PyData → Bool
  | [], [] => false
  | [], _ :: _ => true
  | _ :: _, [] => false
  | x :: xs, y :: ys => if PyData.eqv x y then ltAll xs ys else ltD x y
end
mutual
/-- d < e is asked of ints and of tuples alone, where it is asked -/
def ordD : PyData → PyData → Bool
  | .int _, .int _ => true
  | .tuple xs, .tuple ys => ordAll xs ys
  | _, _ => false
def ordAll : List PyData → List PyData → Bool
  | [], _ => true
  | _ :: _, [] => true
  | x :: xs, y :: ys => if PyData.eqv x y then ordAll xs ys else ordD x y
end
section
variable {s : Shared}
mutual
theorem lt_data : ∀ (d e : PyData) (A : Around) (a b : Value) (as bs : List Addr), Reads s.heap a d as → Reads s.heap b e bs → noDict d = true → noDict e = true → ordD d e = true → A.units + d.depth + 1 < cLine → LtIs A s a b (ltD d e)
  | .int x, e, A, a, b, as, bs, ra, rb, _, _, ho, _ => by
    cases ra with
    | int _ t =>
      cases rb with
      | int y u => exact fun prog wd E Q h => (PyProof.Rows.lt_int h : wpAny (model prog wd) A (compareOp .Lt (.int x t) (.int y u)) Q E s)
      | _ => simp [ordD] at ho
  | .tuple xs, e, A, a, b, as, bs, ra, rb, nd, ne, ho, hu => by
    cases ra with
    | @tuple l o vs n _ as₁ h1 h2 h3 h4 =>
      cases rb with
      | @tuple l' o' vs' n' ys bs₁ k1 k2 k3 k4 =>
        simp only [PyData.depth] at hu
        refine LtIs.tup ⟨_, h1, h2, _, h3⟩ ⟨_, k1, k2, _, k3⟩ (lex_data xs ys A.in1 _ _ _ _ h4 k4 (by simpa [noDict] using nd) (by simpa [noDict] using ne) (by simpa [ordD] using ho) ?_) (by omega)
        show A.units + 1 + PyData.depthAll xs + 1 < cLine
        omega
      | _ => simp [ordD] at ho
  | .none, e, A, a, b, as, bs, ra, rb, _, _, ho, _ => by cases e <;> simp [ordD] at ho
  | .bool _, e, A, a, b, as, bs, ra, rb, _, _, ho, _ => by cases e <;> simp [ordD] at ho
  | .str _, e, A, a, b, as, bs, ra, rb, _, _, ho, _ => by cases e <;> simp [ordD] at ho
  | .list _, e, A, a, b, as, bs, ra, rb, _, _, ho, _ => by cases e <;> simp [ordD] at ho
  | .dict _, e, A, a, b, as, bs, ra, rb, nd, _, ho, _ => by simp [noDict] at nd
theorem lex_data : ∀ (xs ys : List PyData) (A : Around) (vs ws : List Value) (as bs : List Addr), ReadsAll s.heap vs xs as → ReadsAll s.heap ws ys bs → noDictAll xs = true → noDictAll ys = true → ordAll xs ys = true → A.units + PyData.depthAll xs + 1 < cLine → Lex A s vs ws (ltAll xs ys)
  | [], [], A, vs, ws, as, bs, ra, rb, _, _, _, _ => by cases ra; cases rb; exact .done
  | [], y :: ys, A, vs, ws, as, bs, ra, rb, _, _, _, _ => by cases ra; cases rb; exact .short
  | x :: xs, [], A, vs, ws, as, bs, ra, rb, _, _, _, _ => by cases ra; cases rb; exact .long
  | x :: xs, y :: ys, A, vs, ws, as, bs, ra, rb, nx, ny, ho, hu => by
    cases ra with
    | cons r1 r2 =>
      cases rb with
      | cons q1 q2 =>
        simp only [noDictAll, Bool.and_eq_true] at nx ny
        simp only [PyData.depthAll] at hu
        have e := eq_data x y A _ _ _ _ r1 q1 nx.1 ny.1 (by omega)
        cases he : PyData.eqv x y with
        | true =>
          rw [he] at e
          simp only [ordAll, he, if_true] at ho
          simp only [ltAll, he, if_true]
          exact .same e (lex_data xs ys A _ _ _ _ r2 q2 nx.2 ny.2 ho (by omega))
        | false =>
          rw [he] at e
          simp only [ordAll, he] at ho
          simp only [ltAll, he]
          exact .here e (lt_data x y A _ _ _ _ r1 q1 nx.1 ny.1 ho (by omega))
end
end
end HD
namespace HD
open PySem PySem.Spec PyProof.Rows PySem.SeqAt L2
/-- < of ints, and of tuples whose order is that of their ints -/
def gLtD : D2 := fun x y M Q => match vw M x, vw M y with
  | some d, some e => (noDict d = true ∧ noDict e = true ∧ ordD d e = true ∧ d.depth ≤ 60) ∧ Q (.d (.bool (ltD d e))) M
  | _, _ => False
theorem opd_ltD {X : Cx} (hu : X.A.units + 64 < cLine) : OpD X (compareOp .Lt) gLtD where
  op := fun pins s σ H x y v u Q I rx ry ⟨M, dx, dy, o, qx, qy, h⟩ => by
    unfold gLtD at h
    split at h
    · rename_i d e e1 e2
      obtain ⟨as, r1, _⟩ := vw.reads I o qx e1 rx
      obtain ⟨bs, r2, _⟩ := vw.reads I o qy e2 ry
      have run := lt_data d e X.A _ _ _ _ r1 r2 h.1.1 h.1.2.1 h.1.2.2.1 (by have := h.1.2.2.2; omega) X.prog X.w X.xe (EP X pins σ Q) ⟨.bl _, H, I, rfl, fin_d h.2 o (.bl _)⟩
      exact run
    · exact h.elim
  mono := fun x y M Q Q' hq h => by
    unfold gLtD at h ⊢
    split at h
    · exact ⟨h.1, hq _ _ h.2⟩
    · exact h.elim
end HD

namespace HD
open PySem PySem.Spec PyProof.Rows PySem.SeqAt

/-! ### what a set asks of an element that is a nested tuple of ints -/
mutual
def numK : NestedKey → Bool
  | .none => true
  | .num _ => true
  | .text _ => false
  | .tup ks => numKs ks
def numKs : List NestedKey → Bool
  | [] => true
  | k :: ks => numK k && numKs ks
end
section
variable {P : Program} {w : World}
/-- v is of no class statement -/
def ClsNo (P : Program) (w : World) (n : Nat) (s : Shared) (v : Value) : Prop := ∀ (A : Around) (E : Value → Shared → Prop) (Q : Bool → Shared → Prop), Q false s → wpAny (model P w) A (ofAClassStatement n v) Q E s
/-- v's hash is by its value -/
def ByVal (P : Program) (w : World) (n : Nat) (s : Shared) (v : Value) : Prop := ∀ (A : Around) (E : Value → Shared → Prop) (Q : Bool → Shared → Prop), Q true s → wpAny (model P w) A (hashByValue n v) Q E s
theorem ClsNo.plain {n : Nat} {s : Shared} {v : Value} (h : ofAClassStatement n v = pure false) : ClsNo P w n s v := fun A E Q q => by rw [h]; exact wpAny_pure q
theorem ByVal.plain {n : Nat} {s : Shared} {v : Value} (h : hashByValue n v = pure true) : ByVal P w n s v := fun A E Q q => by rw [h]; exact wpAny_pure q
theorem ClsNo.tup {n : Nat} {s : Shared} {a : Addr} {o : Obj} {vs : Array Value} {m : Nat} (ho : s.heap.get? a = some o) (hc : o.cls = .type "tuple") (hd : o.data = .seq vs m) (hv : ∀ v ∈ vs.toList, ClsNo P w n s v) : ClsNo P w (n + 1) s (.ref a) := by
  intro A E Q q
  have ty : s.TypeIs (.ref a) "tuple" := ⟨o, ho, hc⟩
  unfold ofAClassStatement
  refine wpAny_bind (wpAny_typeOf ty ?_)
  dsimp only
  have same : (("tuple" : String) == "tuple") = true := by decide
  simp only [same, if_true, Bool.not_true, Bool.false_eq_true, if_false]
  try refine wpAny_bind (wpAny_pure ?_)
  try simp only [Bool.not_true, Bool.false_eq_true, if_false]
  refine wpAny_bind (wpAny_seqItems ho hd ?_)
  dsimp only
  refine wpAny_bind ?_
  rw [← Array.forIn_toList]
  refine wpAny_forIn_list _ (fun rest r t => r.1 = none ∧ t = s ∧ ∀ v ∈ rest, ClsNo P w n s v) _ ?_ ?_ _ _ ⟨rfl, rfl, hv⟩
  · intro v rest r t ⟨_, et, all⟩
    subst et
    refine wpAny_bind (all v List.mem_cons_self _ _ _ ?_)
    simp only [Bool.false_eq_true, if_false]
    exact wpAny_pure ⟨rfl, rfl, fun u hu => all u (List.mem_cons_of_mem _ hu)⟩
  · intro r t ⟨er, et, _⟩
    subst et
    obtain ⟨r1, r2⟩ := r
    cases er
    exact wpAny_pure q
theorem ByVal.tup {n : Nat} {s : Shared} {a : Addr} {o : Obj} {vs : Array Value} {m : Nat} (ho : s.heap.get? a = some o) (hc : o.cls = .type "tuple") (hd : o.data = .seq vs m) (hv : ∀ v ∈ vs.toList, ByVal P w n s v) : ByVal P w (n + 1) s (.ref a) := by
  intro A E Q q
  have ty : s.TypeIs (.ref a) "tuple" := ⟨o, ho, hc⟩
  unfold hashByValue
  refine wpAny_bind (wpAny_specialOf ty PySem.F.slot_tuple_hash.lookup ?_)
  refine wpAny_bind (wpAny_seqItems ho hd ?_)
  refine wpAny_bind ?_
  show wpAny _ _ (forIn vs _ _) _ _ s
  rw [← Array.forIn_toList]
  refine wpAny_forIn_list _ (fun rest r t => r.1 = none ∧ t = s ∧ ∀ v ∈ rest, ByVal P w n s v) _ ?_ ?_ _ _ ⟨rfl, rfl, hv⟩
  · intro v rest r t ⟨_, et, all⟩
    subst et
    refine wpAny_bind (all v List.mem_cons_self _ _ _ ?_)
    simp only [Bool.not_true, Bool.false_eq_true, if_false]
    exact wpAny_pure ⟨rfl, rfl, fun u hu => all u (List.mem_cons_of_mem _ hu)⟩
  · intro r t ⟨er, et, _⟩
    subst et
    obtain ⟨r1, r2⟩ := r
    cases er
    exact wpAny_pure q
mutual
theorem cls_no : ∀ (k : NestedKey) (v : Value) (n : Nat) (s : Shared), NestedIs s.heap k v → k.depth ≤ n → ClsNo P w n s v
  | .none, _, n, s, x, _ => by cases x; exact .plain (by cases n <;> rfl)
  | .num i, _, n, s, x, _ => by cases x <;> exact .plain (by cases n <;> rfl)
  | .text y, _, n, s, x, _ => by cases x; exact .plain (by cases n <;> rfl)
  | .tup ks, _, n, s, x, hn => by
    cases x with
    | tup hg hc hd hk =>
      simp only [NestedKey.depth] at hn
      cases n with
      | zero => omega
      | succ n => exact .tup hg hc hd (cls_nos ks _ n s hk (by omega))
theorem cls_nos : ∀ (ks : List NestedKey) (vs : List Value) (n : Nat) (s : Shared), NestedAll s.heap ks vs → NestedKey.depthAll ks ≤ n → ∀ v ∈ vs, ClsNo P w n s v
  | [], _, n, s, x, _, v, hv => by cases x; cases hv
  | k :: ks, _, n, s, x, hn, v, hv => by
    cases x with
    | cons x1 x2 =>
      simp only [NestedKey.depthAll] at hn
      rcases List.mem_cons.mp hv with e | hv
      · subst e; exact cls_no k _ n s x1 (by omega)
      · exact cls_nos ks _ n s x2 (by omega) v hv
end
mutual
theorem by_val : ∀ (k : NestedKey) (v : Value) (n : Nat) (s : Shared), NestedIs s.heap k v → numK k = true → k.depth ≤ n → ByVal P w n s v
  | .none, _, n, s, x, _, _ => by cases x; exact .plain (by cases n <;> rfl)
  | .num i, _, n, s, x, _, _ => by cases x <;> exact .plain (by cases n <;> rfl)
  | .text y, _, n, s, x, h, _ => by simp [numK] at h
  | .tup ks, _, n, s, x, h, hn => by
    cases x with
    | tup hg hc hd hk =>
      simp only [NestedKey.depth] at hn
      cases n with
      | zero => omega
      | succ n => exact .tup hg hc hd (by_vals ks _ n s hk (by simpa [numK] using h) (by omega))
theorem by_vals : ∀ (ks : List NestedKey) (vs : List Value) (n : Nat) (s : Shared), NestedAll s.heap ks vs → numKs ks = true → NestedKey.depthAll ks ≤ n → ∀ v ∈ vs, ByVal P w n s v
  | [], _, n, s, x, _, _, v, hv => by cases x; cases hv
  | k :: ks, _, n, s, x, h, hn, v, hv => by
    cases x with
    | cons x1 x2 =>
      simp only [NestedKey.depthAll] at hn
      simp only [numKs, Bool.and_eq_true] at h
      rcases List.mem_cons.mp hv with e | hv
      · subst e; exact by_val k _ n s x1 h.1 (by omega)
      · exact by_vals ks _ n s x2 h.2 (by omega) v hv
end
/-- an element: a nested tuple of ints, not too deep -/
structure El (h : Heap) (v : Addr) (k : NestedKey) : Prop where
  is : NestedIs h k (.ref v)
  num : numK k = true
  deep : k.depth ≤ 6
theorem El.keep {h h' : Heap} {v : Addr} {k : NestedKey} (e : El h v k) (hk : ∀ b o vs n, h.get? b = some o → o.data = .seq vs n → h'.get? b = some o) : El h' v k := ⟨NestedIs.at hk _ _ e.is, e.num, e.deep⟩
/-- a search among such elements shows nothing -/
theorem unseen {A : Around} {E : Value → Shared → Prop} {s : Shared} {x : Addr} {k : NestedKey} {Q : Bool → Shared → Prop} (hx : El s.heap x k) {ys : List Value} (hy : ∀ y ∈ ys, ∃ k' c, y = Value.ref c ∧ El s.heap c k') (h : Q false s) :
    wpAny (model P w) A (searchCouldBeSeen (.ref x) ys) Q E s := by
  unfold searchCouldBeSeen
  refine wpAny_bind ?_
  refine wpAny_forIn_list _ (fun rest r t => r.1 = none ∧ t = s ∧ ∀ y ∈ rest, ∃ k' c, y = Value.ref c ∧ El s.heap c k') _ ?_ ?_ _ _ ⟨rfl, rfl, hy⟩
  · intro v rest r t ⟨_, et, all⟩
    subst et
    obtain ⟨k', c, rfl, hc⟩ := all v List.mem_cons_self
    have more : ∀ y ∈ rest, ∃ k' c, y = Value.ref c ∧ El t.heap c k' := fun u hu => all u (List.mem_cons_of_mem _ hu)
    dsimp only
    by_cases very : (x == c || (carriedByValue (.ref x) && carriedByValue (.ref c))) = true
    · exact L2.wp_if_pos very (wpAny_pure ⟨rfl, rfl, more⟩)
    · refine L2.wp_if_neg very ?_
      refine wpAny_bind (quiet_key k _ 8 t hx.is (Nat.le_trans hx.deep (by decide)) _ _ _ ?_)
      simp only [Bool.not_true, Bool.false_eq_true, if_false]
      refine wpAny_bind (quiet_key k' _ 8 t hc.is (Nat.le_trans hc.deep (by decide)) _ _ _ ?_)
      simp only [Bool.not_true, Bool.false_eq_true, if_false]
      refine wpAny_bind (cls_no k _ 8 t hx.is (Nat.le_trans hx.deep (by decide)) _ _ _ ?_)
      simp only [Bool.false_eq_true, if_false]
      refine wpAny_bind (cls_no k' _ 8 t hc.is (Nat.le_trans hc.deep (by decide)) _ _ _ ?_)
      simp only [Bool.false_eq_true, if_false]
      exact wpAny_pure ⟨rfl, rfl, more⟩
  · intro r t ⟨er, et, _⟩
    subst et
    obtain ⟨r1, r2⟩ := r
    cases er
    exact wpAny_pure h
end
end HD

namespace HD
open PySem PySem.Spec PyProof.Rows PySem.SeqAt L2

/-! ### a set of nested tuples of ints -/
def rowE (w : World) (p : Addr × NestedKey) : Int × Value := (p.2.hash w, .ref p.1)
structure SetEl (P : Program) (w : World) (h : Heap) (a : Addr) (L : List (Addr × NestedKey)) (es : Array (Int × Value)) (ep : Nat) (t : SetTable) : Prop where
  ob : ∃ o, h.get? a = some o ∧ o.ExactSet ∧ o.data = .set es ep t
  rows : es.toList = L.map (rowE w)
  tab : TabOk t (L.map fun p => p.2.hash w)
  nd : (L.map (·.2)).Nodup
  el : ∀ p ∈ L, El h p.1 p.2
  plain : t.plain = true
  led : w.params.followText "set-order" = true ∨ t.led = true
  room : L.length * 5 < t.mask * 3
  few : L.length < 64
section
variable {P : Program} {w : World} {A : Around} {E : Value → Shared → Prop} {s : Shared} {a : Addr} {L : List (Addr × NestedKey)} {es : Array (Int × Value)} {ep : Nat} {t : SetTable}
theorem rows_size (h : es.toList = L.map (rowE w)) : es.size = L.length := by
  have := congrArg List.length h
  simpa using this
theorem rows_at (h : es.toList = L.map (rowE w)) {i : Nat} {p : Addr × NestedKey} (hp : L[i]? = some p) : es[i]? = some (rowE w p) := by
  rw [← Array.getElem?_toList, h, List.getElem?_map, hp]; rfl
theorem tab_fits (h : es.toList = L.map (rowE w)) (T : TabOk t (L.map fun p => p.2.hash w)) (hl : L.length ≤ t.mask) : t.fits es.size = true := by
  have z := T.sz
  rw [List.length_map] at z
  have := rows_size h
  unfold SetTable.fits SetTable.fill
  rw [T.dm, Bool.and_eq_true, beq_iff_eq, decide_eq_true_eq]
  exact ⟨by omega, by show t.place.size + 0 ≤ t.mask; omega⟩
theorem SetEl.fits (R : SetEl P w s.heap a L es ep t) : t.fits es.size = true := tab_fits R.rows R.tab (by have := R.room; omega)
theorem place_lt (T : TabOk t (L.map fun p => p.2.hash w)) {i j : Nat} (h : t.place.toList[i]? = some j) : i < L.length := by
  have h1 := (List.getElem?_eq_some_iff.mp h).1
  have z := T.sz
  rw [List.length_map] at z
  rw [Array.length_toList] at h1
  omega
/-- the c-th step of the way of the hash g -/
abbrev stp (m : Nat) (g : Int) (c : Nat) : SetTable.Probe := nth m (runAt m (SetTable.bits g % (m + 1)) (SetTable.bits g)) c
theorem stp_add (m : Nat) (g : Int) (c q : Nat) : nth m (stp m g c) q = stp m g (c + q) := (nth_add m c _ q).symm
theorem stp_j (m : Nat) (g : Int) (c : Nat) : (stp m g c).j = way m g c := rfl
theorem no_dummy (m : Nat) : ∀ (n : Nat) (p : SetTable.Probe), p.dummy = none → (nth m p n).dummy = none
  | 0, p, h => h
  | n + 1, p, h => no_dummy m n (adv m p) (by unfold adv; split <;> exact h)
/-- the search of k, from step c on: k's own row, if there is one, is not passed yet -/
theorem find_from (R : SetEl P w s.heap a L es ep t) {x : Addr} {k : NestedKey} (hx : El s.heap x k) (hu : A.units + 8 < cLine) {K : Nat} (hKf : K < 10 * SetTable.turns t.mask) (hK : way t.mask (k.hash w) K ∉ t.place.toList)
    (hKb : ∀ c, c < K → way t.mask (k.hash w) c ∈ t.place.toList) {Q : SetFound → Shared → Prop} (hin : k ∈ L.map (·.2) → Q (.there none) s) (hout : k ∉ L.map (·.2) → Q (.free (way t.mask (k.hash w) K) false) s) :
    ∀ (f c : Nat) (from_ : Option SetTable.Probe), from_.getD (t.probeStart (k.hash w)) = stp t.mask (k.hash w) c → c ≤ K → K - c < f →
      (∀ (i : Nat) p, L[i]? = some p → p.2 = k → ∃ c', c ≤ c' ∧ c' < K ∧ t.place.toList[i]? = some (way t.mask (k.hash w) c')) →
      wpAny (model P w) A (setSearchFrom a (.ref x) (k.hash w) true f from_) Q E s := by
  intro f
  induction f with
  | zero => intro c from_ _ _ hf; exact absurd hf (Nat.not_lt_zero _)
  | succ f ih =>
    intro c from_ hst hc hf own
    obtain ⟨o, ho, hex, hd⟩ := R.ob
    have odd : ¬ t.gaveWay = true := by
      unfold SetTable.gaveWay
      rw [mask_odd R.tab.mok]; decide
    rw [setSearchFrom_succ]
    refine wpAny_bind (wpAny_setState_of ho hd R.fits ?_)
    dsimp only
    refine wp_if_neg odd ?_
    try refine wpAny_bind (wpAny_pure ?_)
    have hashAt : ∀ (i : Nat) p, L[i]? = some p → (es[i]?.map (·.1)).getD 0 = p.2.hash w := fun i p hp => by rw [rows_at R.rows hp]; rfl
    have go := go_spec t R.tab.ris R.tab.dm (fun i => (es[i]?.map (·.1)).getD 0) (k.hash w) (10 * SetTable.turns t.mask) (K - c) (stp t.mask (k.hash w) c) (no_dummy _ _ _ rfl) (by omega)
      (fun q hq => by rw [stp_add]; exact hKb (c + q) (by omega)) (by rw [stp_add, show c + (K - c) = K by omega]; exact hK)
    rcases go with ⟨q, i, hq, hi, hh, before, found⟩ | ⟨none_, found⟩
    · have met : t.probe (fun i => (es[i]?.map (·.1)).getD 0) (k.hash w) (from_.getD (t.probeStart (k.hash w))) = some (.candidate (way t.mask (k.hash w) (c + q)) i (stp t.mask (k.hash w) (c + (q + 1)))) := by
        rw [hst, ← stp_add, ← stp_j, ← stp_add]; exact found
      rw [met]
      dsimp only
      rw [stp_add, stp_j] at hi
      obtain ⟨p, hp⟩ : ∃ p, L[i]? = some p := ⟨_, List.getElem?_eq_getElem (place_lt R.tab hi)⟩
      have pin := List.mem_of_getElem? hp
      have pel := R.el p pin
      have behind : wpAny (model P w) A (searchRest a (.ref x) (k.hash w) true f es t (way t.mask (k.hash w) (c + q)) i (stp t.mask (k.hash w) (c + (q + 1)))) Q E s := by
        unfold searchRest
        rw [rows_at R.rows hp]
        dsimp only [rowE]
        have eq := eqAt_key p.2 k A s _ _ pel.is hx.is (by have := pel.deep; have := Nat.min_le_left p.2.depth k.depth; omega)
        rw [← NestedKey.decide_eq] at eq
        refine wpAny_bind (wpAny_holding (eq P w _ _ ?_))
        refine wpAny_bind (wpAny_setState_of ho hd R.fits ?_)
        dsimp only
        by_cases same : p.2 = k
        · refine wp_if_pos (by simp [same]) (wpAny_pure (hin (List.mem_map.mpr ⟨p, pin, same⟩)))
        · refine wp_if_neg (by simp [same]) ?_
          try refine wpAny_bind (wpAny_pure ?_)
          rw [sameMem]
          dsimp only
          have live := slot_live R.tab.ris hi
          simp only [if_true, live, rows_at R.rows hp, rowE]
          refine wpAny_bind (wpAny_isSame_ref_self (wpAny_bind (wpAny_pure ?_)))
          simp only [if_true]
          refine wp_if_neg (by simp [same]) ?_
          refine ih (c + (q + 1)) _ rfl (by omega) (by omega) fun i0 p0 h0 e0 => ?_
          obtain ⟨c', a1, a2, a3⟩ := own i0 p0 h0 e0
          refine ⟨c', ?_, a2, a3⟩
          rcases Nat.lt_trichotomy c' (c + q) with z | z | z
          · exact absurd ((hashAt i0 p0 h0).trans (by rw [e0])) (before (c' - c) i0 (by omega) (by rw [stp_add, stp_j, show c + (c' - c) = c' by omega]; exact a3))
          · rw [z] at a3
            have l2 := slot_live R.tab.ris a3
            rw [live] at l2
            injection l2 with l2
            subst l2
            rw [hp] at h0
            cases h0
            exact absurd e0 same
          · omega
      by_cases hl : t.led = true
      · refine wp_if_neg (by simp [hl]) ?_
        try refine wpAny_bind (wpAny_pure ?_)
        exact behind
      · refine wp_if_pos (by simp [hl]) ?_
        refine wpAny_bind (unseen hx (fun y hy => ?_) ?_)
        · obtain ⟨e, he, rfl⟩ := List.mem_map.mp hy
          have he1 : e ∈ es ∧ e.1 = k.hash w := by simpa using he
          have he2 : e ∈ es.toList := by simpa using he1.1
          rw [R.rows] at he2
          obtain ⟨p2, hp2, rfl⟩ := List.mem_map.mp he2
          exact ⟨p2.2, p2.1, rfl, R.el p2 hp2⟩
        · refine wp_if_neg (by decide) ?_
          try refine wpAny_bind (wpAny_pure ?_)
          exact behind
    · have met : t.probe (fun i => (es[i]?.map (·.1)).getD 0) (k.hash w) (from_.getD (t.probeStart (k.hash w))) = some (.empty (way t.mask (k.hash w) K) none) := by
        have e2 : way t.mask (k.hash w) K = (nth t.mask (stp t.mask (k.hash w) c) (K - c)).j := by rw [stp_add, stp_j, show c + (K - c) = K by omega]
        rw [hst, e2]; exact found
      rw [met]
      dsimp only
      refine wpAny_pure (hout fun hm => ?_)
      obtain ⟨p0, h0, e0⟩ := List.mem_map.mp hm
      obtain ⟨i0, hi0⟩ := List.getElem?_of_mem h0
      obtain ⟨c', a1, a2, a3⟩ := own i0 p0 hi0 e0
      exact none_ (c' - c) i0 (by omega) (by rw [stp_add, stp_j, show c + (c' - c) = c' by omega]; exact a3) ((hashAt i0 p0 hi0).trans (by rw [e0]))
/-- the search as adding wants it -/
theorem find (R : SetEl P w s.heap a L es ep t) {x : Addr} {k : NestedKey} (hx : El s.heap x k) (hu : A.units + 8 < cLine) {Q : SetFound → Shared → Prop} (hin : k ∈ L.map (·.2) → Q (.there none) s)
    (hout : ∀ K, k ∉ L.map (·.2) → way t.mask (k.hash w) K ∉ t.place.toList → (∀ c, c < K → way t.mask (k.hash w) c ∈ t.place.toList) → Q (.free (way t.mask (k.hash w) K) false) s) :
    wpAny (model P w) A (setSearch a (.ref x) (k.hash w) true) Q E s := by
  have room := R.room
  obtain ⟨K, h1, h2, h3⟩ := R.tab.first (by rw [List.length_map]; omega) (k.hash w)
  have small : 10 * SetTable.turns t.mask < 100000 := by
    unfold SetTable.turns
    rcases R.tab.mok with e | e | e <;> omega
  unfold setSearch
  refine find_from R hx hu h1 h2 h3 hin (fun z => hout K z h2 h3) 100000 0 none rfl (Nat.zero_le _) (by omega) fun i p hp e => ?_
  have hl : i < t.place.toList.length := by
    have z := R.tab.sz
    rw [List.length_map] at z
    have := (List.getElem?_eq_some_iff.mp hp).1
    rw [Array.length_toList]; omega
  obtain ⟨c, hc, ec⟩ := R.tab.before h2 (i := i) (h := k.hash w) (by rw [List.getElem?_map, hp, ← e]; rfl) (List.getElem?_eq_getElem hl)
  exact ⟨c, Nat.zero_le _, hc, by rw [ec]; exact List.getElem?_eq_getElem hl⟩
theorem El.besides {h h' : Heap} {k : NestedKey} {v : Addr} {o : Obj} (e : El h v k) (ho : h.get? a = some o) (hd : o.data = .set es ep t) (hs : Heap.SameBut a h h') : El h' v k := e.keep fun b ob vs n hb hv => by
  have ne : b ≠ a := fun z => by subst z; rw [ho] at hb; cases hb; rw [hd] at hv; cases hv
  exact (hs.2 b ne).trans hb
theorem pick_all {α : Type} (L : List α) : (List.range L.length).filterMap (fun i => L[i]?) = L := by
  have : ∀ n, n ≤ L.length → (List.range n).filterMap (fun i => L[i]?) = L.take n := by
    intro n
    induction n with
    | zero => intro _; rfl
    | succ n ih =>
      intro h
      rw [List.range_succ, List.filterMap_append, ih (by omega), List.take_succ, List.getElem?_eq_getElem (by omega : n < L.length)]
      simp [List.getElem?_eq_getElem (by omega : n < L.length)]
  rw [this _ (Nat.le_refl _), List.take_length]
/-- the rows in another order -/
theorem reorder (hr : es.toList = L.map (rowE w)) (order : Array Nat) (hp : order.toList.Perm (List.range L.length)) :
    ∃ Lo : List (Addr × NestedKey), (order.filterMap (es[·]?)).toList = Lo.map (rowE w) ∧ Lo.Perm L ∧ (Lo.map fun p => p.2.hash w) = order.toList.map fun i => (es.map (·.1)).getD i 0 := by
  have at_ : ∀ i, i < L.length → es[i]? = (L[i]?).map (rowE w) := fun i h => by rw [List.getElem?_eq_getElem h, rows_at hr (List.getElem?_eq_getElem h)]; rfl
  have inn : ∀ i ∈ order.toList, i < L.length := fun i h => List.mem_range.mp (hp.mem_iff.mp h)
  refine ⟨order.toList.filterMap fun i => L[i]?, ?_, ?_, ?_⟩
  · rw [Array.toList_filterMap, List.map_filterMap]
    have same : ∀ l : List Nat, (∀ i ∈ l, i < L.length) → l.filterMap (fun i => es[i]?) = l.filterMap fun i => (L[i]?).map (rowE w) := by
      intro l
      induction l with
      | nil => intro _; rfl
      | cons i l ih => intro h; rw [List.filterMap_cons, List.filterMap_cons, at_ i (h i (by simp)), ih fun j hj => h j (by simp [hj])]
    exact same _ inn
  · have := hp.filterMap fun i => L[i]?
    rwa [pick_all] at this
  · rw [List.map_filterMap]
    have : ∀ l : List Nat, (∀ i ∈ l, i < L.length) → l.filterMap (fun i => (L[i]?).map fun p => p.2.hash w) = l.map fun i => (es.map (·.1)).getD i 0 := by
      intro l
      induction l with
      | nil => intro _; rfl
      | cons i l ih =>
        intro h
        have hi := h i (by simp)
        have e5 : (es.map (·.1))[i]? = some (L[i].2.hash w) := by rw [Array.getElem?_map, at_ i hi, List.getElem?_eq_getElem hi]; rfl
        rw [List.filterMap_cons, List.getElem?_eq_getElem hi]
        simp only [Option.map_some, List.map_cons, ih fun j hj => h j (by simp [hj])]
        congr 1
        simp [Array.getD_eq_getD_getElem?, e5]
    exact this _ inn
theorem put_rows (L : List (Addr × NestedKey)) (p : Nat) (x : Addr × NestedKey) : (L.take p ++ x :: L.drop p).Perm (x :: L) := by
  have h : (L.take p ++ x :: L.drop p).Perm (x :: (L.take p ++ L.drop p)) := List.perm_middle
  rwa [List.take_append_drop] at h
/-- the table laid out anew -/
theorem relay {o : Obj} (ho : s.heap.get? a = some o) (hex : o.ExactSet) (hd : o.data = .set es ep t) (hr : es.toList = L.map (rowE w)) (T : TabOk t (L.map fun p => p.2.hash w)) (hl : L.length ≤ t.mask) (nd : (L.map (·.2)).Nodup)
    (el : ∀ p ∈ L, El s.heap p.1 p.2) (pl : t.plain = true) (ld : w.params.followText "set-order" = true ∨ t.led = true) (few : L.length < 64) {wanted M : Nat} (hw : SetTable.sizeAbove wanted - 1 = M) (hM : MaskOk M) (hsz : SetTable.sizeAbove wanted ≤ 128)
    (hn : L.length * 5 < M * 3) {Q : Unit → Shared → Prop} (hQ : ∀ h' Lo es' ep' t', Heap.SameBut a s.heap h' → SetEl P w h' a Lo es' ep' t' → Lo.Perm L → Q () { s with heap := h' }) : wpAny (model P w) A (setRelay a wanted) Q E s := by
  have sz := rows_size hr
  obtain ⟨t', order, laid, pm, T', em, eled, epl, edm⟩ := relaid_ok t (hs := es.map (·.1)) (wanted := wanted) hw hM (by rw [Array.size_map]; omega)
  rw [Array.size_map, sz] at pm
  obtain ⟨Lo, r1, r2, r3⟩ := reorder hr order pm
  rw [← r3] at T'
  have sz2 : (order.filterMap (es[·]?)).size = es.size := by rw [rows_size r1, r2.length_eq, sz]
  rw [setRelay_eq]
  refine wpAny_bind (wpAny_setState_of ho hd (tab_fits hr T hl) ?_)
  dsimp only
  refine wp_if_neg (by rw [sizeLine_eq]; omega) ?_
  try refine wpAny_bind (wpAny_pure ?_)
  rw [laid]
  dsimp only
  refine wpAny_bind (wp_if_neg (by rw [sz2]; simp) ?_)
  try refine wpAny_bind (wpAny_pure ?_)
  refine wpAny_pure ?_
  dsimp only
  have beside : Heap.SameBut a s.heap (s.heap.update a (Obj.putSet (order.filterMap (es[·]?)) t')) := Heap.SameBut.update ..
  refine wpAny_storeSet_of ho hd (hQ _ Lo _ (ep + 1) t' beside ⟨⟨_, store_at ho hd, ⟨hex.1, hex.2.1, hex.2.2⟩, rfl⟩, r1, T', (r2.map (·.2)).nodup_iff.mpr nd, fun p hp => (el p (r2.mem_iff.mp hp)).besides ho hd beside, by rw [epl]; exact pl, by rw [eled]; exact ld, ?_, by rw [r2.length_eq]; exact few⟩ r2) (by rw [sz2, sz, sizeLine_eq]; omega)
  rw [r2.length_eq, em]; exact hn
/-- an element is added, or is there -/
theorem add (R : SetEl P w s.heap a L es ep t) {x : Addr} {k : NestedKey} (hx : El s.heap x k) (hu : A.units + 8 < cLine) (few : L.length + 1 < 64) {Q : Bool → Shared → Prop}
    (hQ : ∀ b h' Lo es' ep' t', Heap.SameBut a s.heap h' → SetEl P w h' a Lo es' ep' t' → (k ∈ L.map (·.2) → Lo = L) → (k ∉ L.map (·.2) → Lo.Perm ((x, k) :: L)) → Q b { s with heap := h' }) :
    wpAny (model P w) A (setAddHashed a (.ref x) (k.hash w)) Q E s := by
  obtain ⟨o, ho, hex, hd⟩ := R.ob
  have sz := rows_size R.rows
  have room := R.room
  unfold setAddHashed
  refine wpAny_holding ?_
  rw [show (100000 : Nat) = 99999 + 1 from rfl, setAddHashedIn_succ]
  refine wpAny_bind (wpAny_setState_of ho hd R.fits ?_)
  dsimp only
  refine wp_if_neg (by simp [byScan, Value.scannable]) ?_
  try refine wpAny_bind (wpAny_pure ?_)
  refine wpAny_bind (find R hx hu (fun hm => ?_) fun K hm hK hb => ?_)
  · dsimp only
    exact wpAny_pure (hQ false s.heap L es ep t (Heap.SameBut.refl a s.heap) R (fun _ => rfl) fun z => absurd hm z)
  dsimp only
  refine wpAny_bind (wpAny_setState_of ho hd R.fits ?_)
  dsimp only
  obtain ⟨q1, q2, q3, q4, q5, q6, q7, q8, q9⟩ := R.tab.put hK hb
  have pl1 : (t.put (way t.mask (k.hash w) K)).1.plain = true := by rw [q6]; exact R.plain
  generalize t.put (way t.mask (k.hash w) K) = pt at q1 q3 q4 q5 q6 q7 q8 q9 pl1 ⊢
  obtain ⟨t1, p⟩ := pt
  dsimp only at q1 q3 q4 q5 q6 q7 q8 q9 pl1 ⊢
  subst q1
  have byv := by_val (P := P) (w := w) k _ 8 s hx.is hx.num (Nat.le_trans hx.deep (by decide))
  first
    | (refine wpAny_bind ?_; refine wp_if_pos pl1 ?_; refine byv _ _ _ ?_)
    | refine wp_if_pos pl1 (wpAny_bind (byv _ _ _ ?_))
  simp only [if_true]
  have ins : (SetTable.insertAt es (SetTable.below t.place (way t.mask (k.hash w) K)) (k.hash w, Value.ref x)).toList = (L.take (SetTable.below t.place (way t.mask (k.hash w) K)) ++ (x, k) :: L.drop (SetTable.below t.place (way t.mask (k.hash w) K))).map (rowE w) := by
    rw [SetTable.toList_insertAt, R.rows, List.map_append, List.map_cons, List.map_take, List.map_drop]; rfl
  generalize SetTable.below t.place (way t.mask (k.hash w) K) = p at q2 q3 ins ⊢
  have pm := put_rows L p (x, k)
  have len1 : (L.take p ++ (x, k) :: L.drop p).length = L.length + 1 := pm.length_eq
  have hs1 : (L.take p ++ (x, k) :: L.drop p).map (fun p => p.2.hash w) = (L.map fun p => p.2.hash w).take p ++ k.hash w :: (L.map fun p => p.2.hash w).drop p := by rw [List.map_append, List.map_cons, List.map_take, List.map_drop]
  rw [← hs1] at q3
  have nd1 : ((L.take p ++ (x, k) :: L.drop p).map (·.2)).Nodup := (pm.map (·.2)).nodup_iff.mpr (by rw [List.map_cons]; exact List.nodup_cons.mpr ⟨hm, R.nd⟩)
  generalize SetTable.insertAt es p (k.hash w, Value.ref x) = es1 at ins ⊢
  generalize L.take p ++ (x, k) :: L.drop p = L1 at pm len1 q3 nd1 ins
  have sz1 : es1.size = L.length + 1 := by rw [rows_size ins, len1]
  refine wpAny_bind (wpAny_storeSet_of ho hd ?_ (by rw [sz1, sizeLine_eq]; omega))
  have beside : Heap.SameBut a s.heap (s.heap.update a (Obj.putSet es1 t1)) := Heap.SameBut.update ..
  have ho1 := store_at (es' := es1) (t' := t1) ho hd
  generalize s.heap.update a (Obj.putSet es1 t1) = h1 at beside ho1 ⊢
  have el1 : ∀ p ∈ L1, El h1 p.1 p.2 := fun p hp => by
    rcases List.mem_cons.mp (pm.mem_iff.mp hp) with e | hp
    · subst e; exact hx.besides ho hd beside
    · exact (R.el p hp).besides ho hd beside
  have ld1 : w.params.followText "set-order" = true ∨ t1.led = true := by rw [q5]; exact R.led
  by_cases full : t1.tooFull = true
  · first
      | (refine wpAny_bind ?_; refine wp_if_pos (by simp [full]) ?_)
      | (refine wp_if_pos (by simp [full]) ?_; refine wpAny_bind ?_)
    have lots : (L.length + 1) * 5 ≥ t1.mask * 3 := by
      unfold SetTable.tooFull at full
      rwa [decide_eq_true_eq, q9, List.length_map] at full
    rw [sz]
    have two : (t.mask = 7 ∧ L.length = 4) ∨ (t.mask = 31 ∧ L.length = 18) := by
      rcases R.tab.mok with e | e | e
      · left; rw [q4, e] at lots; rw [e] at room; exact ⟨e, by omega⟩
      · right; rw [q4, e] at lots; rw [e] at room; exact ⟨e, by omega⟩
      · exfalso; rw [q4, e] at lots; omega
    have again : ∀ M, SetTable.sizeAbove (SetTable.grown (L.length + 1)) - 1 = M → MaskOk M → SetTable.sizeAbove (SetTable.grown (L.length + 1)) ≤ 128 → (L.length + 1) * 5 < M * 3 →
        wpAny (model P w) A (setRelay a (SetTable.grown (L.length + 1))) (fun _ s' => wpAny (model P w) A (pure true) Q E s') E { s with heap := h1 } := fun M m1 m2 m3 m4 =>
      relay (s := { s with heap := h1 }) ho1 ⟨hex.1, hex.2.1, hex.2.2⟩ rfl ins q3 (by rw [len1, q4]; rcases two with ⟨e, e2⟩ | ⟨e, e2⟩ <;> omega) nd1 el1 pl1 ld1 (by rw [len1]; exact few) m1 m2 m3 (by rw [len1]; exact m4)
        fun h2 Lo es2 ep2 t2 b2 R2 pm2 => wpAny_pure (hQ true h2 Lo es2 ep2 t2 (beside.trans b2) R2 (fun z => absurd z hm) fun _ => pm2.trans pm)
    rcases two with ⟨_, e2⟩ | ⟨_, e2⟩
    · exact again 31 (by rw [e2, size_20]) (.inr (.inl rfl)) (by rw [e2, size_20]; decide) (by omega)
    · exact again 127 (by rw [e2, size_76]) (.inr (.inr rfl)) (by rw [e2, size_76]; decide) (by omega)
  · first
      | refine wp_if_neg (by simp [full]) ?_
      | (refine wpAny_bind ?_; refine wp_if_neg (by simp [full]) ?_; refine wpAny_pure ?_)
    refine wpAny_pure (hQ true h1 L1 es1 (ep + 1) t1 beside ⟨⟨_, ho1, ⟨hex.1, hex.2.1, hex.2.2⟩, rfl⟩, ins, q3, nd1, el1, pl1, ld1, ?_, by rw [len1]; exact few⟩ (fun z => absurd z hm) fun _ => pm)
    unfold SetTable.tooFull at full
    rw [decide_eq_true_eq, q9, List.length_map] at full
    rw [len1]
    omega
end
end HD

namespace HD
open PySem PySem.Spec PyProof.Rows PySem.SeqAt L2

/-! ### set(xs), xs a list of nested tuples of ints -/
theorem El.stands {h h' : Heap} {v : Addr} {k : NestedKey} (e : El h v k) (hk : ∀ b o, h.get? b = some o → h'.get? b = some o) : El h' v k := e.keep fun b o vs n hb _ => hk b o hb
/-- what the set has of the first i elements -/
structure Has (ks : List (Addr × NestedKey)) (i : Nat) (L : List (Addr × NestedKey)) : Prop where
  sub : ∀ p ∈ L, p ∈ ks.take i
  all : ∀ p ∈ ks.take i, p.2 ∈ L.map (·.2)
  len : L.length ≤ i
theorem take_more {α : Type} {l : List α} {i : Nat} {x : α} (h : l[i]? = some x) : l.take (i + 1) = l.take i ++ [x] := by
  rw [List.take_succ, h]; rfl
theorem Has.old {ks L : List (Addr × NestedKey)} {i : Nat} {x : Addr × NestedKey} (g : Has ks i L) (h : ks[i]? = some x) (hm : x.2 ∈ L.map (·.2)) : Has ks (i + 1) L := by
  refine ⟨fun p hp => ?_, fun p hp => ?_, by have := g.len; omega⟩
  · rw [take_more h]; exact List.mem_append.mpr (.inl (g.sub p hp))
  · rw [take_more h] at hp
    rcases List.mem_append.mp hp with q | q
    · exact g.all p q
    · simp at q; subst q; exact hm
theorem Has.new {ks L Lo : List (Addr × NestedKey)} {i : Nat} {x : Addr × NestedKey} (g : Has ks i L) (h : ks[i]? = some x) (pm : Lo.Perm (x :: L)) : Has ks (i + 1) Lo := by
  refine ⟨fun p hp => ?_, fun p hp => ?_, by rw [pm.length_eq, List.length_cons]; have := g.len; omega⟩
  · rw [take_more h]
    rcases List.mem_cons.mp (pm.mem_iff.mp hp) with q | q
    · subst q; simp
    · exact List.mem_append.mpr (.inl (g.sub p q))
  · rw [take_more h] at hp
    refine (pm.map (·.2)).mem_iff.mpr ?_
    rw [List.map_cons]
    rcases List.mem_append.mp hp with q | q
    · exact List.mem_cons_of_mem _ (g.all p q)
    · simp at q; subst q; exact List.mem_cons_self
section
variable {P : Program} {w : World} {A : Around} {E : Value → Shared → Prop} {s : Shared}
theorem SetEl.stands {h h' : Heap} {a : Addr} {L : List (Addr × NestedKey)} {es : Array (Int × Value)} {ep : Nat} {t : SetTable} (R : SetEl P w h a L es ep t) (ha : ∀ o, h.get? a = some o → h'.get? a = some o) (he : ∀ p ∈ L, El h' p.1 p.2) : SetEl P w h' a L es ep t :=
  let ⟨o, ho, r⟩ := R.ob
  ⟨⟨o, ha o ho, r⟩, R.rows, R.tab, R.nd, he, R.plain, R.led, R.room, R.few⟩
/-- the object of a new set -/
abbrev set0 (w : World) : Obj := { cls := .type "set", dict := none, data := .set #[] 0 (.fresh 0 0 (!w.params.followText "set-order")) }
theorem set_new {h : Heap} {a : Addr} (ho : h.get? a = some (set0 w)) : SetEl P w h a [] #[] 0 (.fresh 0 0 (!w.params.followText "set-order")) where
  ob := ⟨_, ho, ⟨rfl, rfl, rfl⟩, rfl⟩
  rows := rfl
  tab := ⟨List.Pairwise.nil, rfl, rfl, .inl rfl, fun x hx => (by cases hx), fun i h j hi => (by simp at hi)⟩
  nd := List.nodup_nil
  el := fun p hp => (by cases hp)
  plain := rfl
  led := by
    show _ ∨ (!w.params.followText "set-order") = true
    cases w.params.followText "set-order" <;> simp
  room := by
    show 0 * 5 < 7 * 3
    decide
  few := by
    show 0 < 64
    decide
/-- the loop of set.update -/
theorem fill {I : Addr} {fp wr : List Addr} {G : Array GenState → Array GenState → Prop} {n : Nat} {Pv : Nat → Value → Prop} {St : Nat → Shared → Prop} {R : Result → Shared → Prop} (W : WalksS P w A.in1 I fp wr G n Pv St) (S : Addr) (hS : S ∉ fp)
    (ks : List (Addr × NestedKey)) (hn : n = ks.length) (few : ks.length < 64) (hv : ∀ i v, Pv i v → ∃ p, ks[i]? = some p ∧ v = .ref p.1) (h0 : Heap) (hk : ∀ p ∈ ks, El h0 p.1 p.2) (hS0 : h0.get? S = none) (hw0 : ∀ b ∈ wr, h0.get? b = none) (hu : A.in1.units + 8 < cLine) :
    ∀ (m i : Nat) (s : Shared), n - i = m → i ≤ n → St i s → (∀ b o, h0.get? b = some o → s.heap.get? b = some o) → (∃ L es ep t, SetEl P w s.heap S L es ep t ∧ Has ks i L) →
      (∀ s' L es ep t, Moved (S :: wr) G s s' → SetEl P w s'.heap S L es ep t → Has ks n L → (∀ b o, h0.get? b = some o → s'.heap.get? b = some o) → R (.ok (.ret .none)) s') →
      codeAny (model P w) A (.builtin "set.update.loop" ⟨[.ref S, .ref I], []⟩) R s := by
  have apart : S ∉ wr := fun z => hS (W.sub _ z)
  have wider : ∀ b ∈ wr, b ∈ S :: wr := fun b hb => List.mem_cons_of_mem _ hb
  have old : ∀ {s s' : Shared}, Moved wr G s s' → (∀ b o, h0.get? b = some o → s.heap.get? b = some o) → ∀ b o, h0.get? b = some o → s'.heap.get? b = some o := fun hm kp b o e =>
    hm.heap b o (fun z => by rw [hw0 b z] at e; cases e) (kp b o e)
  intro m
  induction m with
  | zero =>
    intro i s hm hi st kp ⟨L, es, ep, t, R1, g⟩ hR
    obtain rfl : i = n := by omega
    refine codeAny_builtin F.entry_set_update_loop ?_
    rw [Around.under_plainId F.plain_set_update_loop _]
    show wpAny _ A.in1 (pyNext (.ref I) >>= _) _ _ s
    refine wpAny_bind (W.done s _ _ st fun s' mv => ?_)
    show wpAny _ A.in1 (ret Value.none) _ _ s'
    have kp' := old mv kp
    exact wpAny_pure (hR s' L es ep t (mv.mono wider) (R1.stands (fun o e => mv.heap S o apart e) fun p hp => (hk p (List.mem_of_mem_take (g.sub p hp))).stands kp') g kp')
  | succ m ih =>
    intro i s hm hi st kp ⟨L, es, ep, t, R1, g⟩ hR
    have hlt : i < n := by omega
    refine codeAny_builtin F.entry_set_update_loop ?_
    rw [Around.under_plainId F.plain_set_update_loop _]
    show wpAny _ A.in1 (pyNext (.ref I) >>= _) _ _ s
    refine wpAny_bind (W.item i s _ _ hlt st fun v s' hP st' mv => ?_)
    obtain ⟨p, hp, rfl⟩ := hv i v hP
    have kp' := old mv kp
    have R2 : SetEl P w s'.heap S L es ep t := R1.stands (fun o e => mv.heap S o apart e) fun q hq => (hk q (List.mem_of_mem_take (g.sub q hq))).stands kp'
    have hx : El s'.heap p.1 p.2 := (hk p (List.mem_of_getElem? hp)).stands kp'
    show wpAny _ A.in1 (holding [Value.ref p.1] (setAdd S (.ref p.1)) >>= _) _ _ s'
    refine wpAny_bind (wpAny_holding ?_)
    unfold setAdd
    refine wpAny_holding ?_
    refine wpAny_bind (pyHash_key p.2 _ _ _ _ hx.is (by have := hx.deep; omega) ?_)
    refine add (s := { s' with toks := s'.toks + p.2.draws }) R2 hx hu (by have := g.len; omega) fun b h' Lo es' ep' t' sb R3 c1 c2 => ?_
    have g' : Has ks (i + 1) Lo := by
      rcases Classical.em (p.2 ∈ L.map (·.2)) with c | c
      · rw [c1 c]; exact g.old hp c
      · exact g.new hp (c2 c)
    have notS : ∀ {b o}, h0.get? b = some o → b ≠ S := fun {b o} e z => by rw [z, hS0] at e; cases e
    refine wpAny_pure ⟨plainId_quiet F.plain_set_update_loop _, ih (i + 1) _ (by omega) hlt (W.frame _ s' _ _ st' (Nat.le_add_right _ _) fun b hb o e => ?_) (fun b o e => (sb.2 b (notS e)).trans (kp' b o e)) ⟨Lo, es', ep', t', R3, g'⟩ fun s'' L2' es2 ep2 t2 mv2 R4 g2 kp2 => ?_⟩
    · rw [sb.2 b fun z => hS (by rw [← z]; exact hb)]; exact e
    · refine hR s'' L2' es2 ep2 t2 (Moved.trans W.gtrans ((mv.mono wider).then_heap (Nat.le_add_right _ _) fun b o hb e => ?_) mv2) R4 g2 kp2
      rw [sb.2 b fun z => hb (by rw [z]; exact List.mem_cons_self)]; exact e
end
end HD

namespace HD
open PySem PySem.Spec PyProof.Rows PySem.SeqAt L2
section
variable {P : Program} {w : World} {A : Around} {E : Value → Shared → Prop} {s : Shared}
/-- what set(xs) leaves: the set at S, the rest of the heap as it was -/
def Filled (P : Program) (w : World) (s : Shared) (S : Addr) (ks : List (Addr × NestedKey)) (s' : Shared) : Prop :=
  ∃ h' tk L es ep t, s' = { s with heap := h', toks := tk } ∧ SetEl P w h' S L es ep t ∧ Has ks ks.length L ∧ ∀ b o, s.heap.get? b = some o → h'.get? b = some o
/-- set.__init__ of a new set with a list -/
theorem set_init {l : Addr} {items : Array Value} {ks : List (Addr × NestedKey)} (hh : A.handled = none) (hl : s.heap.IsList l items) (hit : items.toList = ks.map fun p => Value.ref p.1) (hk : ∀ p ∈ ks, El s.heap p.1 p.2) (few : ks.length < 64) (hu : A.units + 16 < cLine) :
    codeAny (model P w) A (.call (.builtin "set.__init__") ⟨[.ref s.heap.objs.size, .ref l], []⟩) (wants (fun r s' => r = .none ∧ Filled P w s s.heap.objs.size ks s') E) { s with heap := s.heap.push (set0 w) } := by
  have size : items.size = ks.length := by
    have q := congrArg List.length hit
    rwa [Array.length_toList, List.length_map] at q
  have hS : (s.heap.push (set0 w)).get? s.heap.objs.size = some (set0 w) := Heap.get?_push_size _ rfl
  have ty : Shared.TypeIs { s with heap := s.heap.push (set0 w) } (.ref s.heap.objs.size) "set" := ⟨_, hS, rfl⟩
  refine codeAny_call_builtin F.called_set.init.plain F.entry_set_init (check_set_init_1 ty ?_)
  obtain ⟨⟨lc, ld, lo, lsl⟩, hol, hcl, nl, hdl⟩ := id hl
  simp only at hcl hdl
  subst hcl; subst hdl
  have hol' : (s.heap.push (set0 w)).get? l = some { cls := .type "list", dict := ld, data := .seq items nl, slots := lsl } := Heap.get?_push_of_some _ hol
  have noSet := F.sub_list_set
  have noFroz := F.sub_list_frozenset
  have noDict : (Value.type "list" == Value.type "dict") = false := by decide
  have hl1 : (s.heap.push (set0 w)).IsList l items := ⟨_, hol', rfl, nl, rfl⟩
  unfold Builtin.«set.__init__» noKeywords Builtin.Frozenset.updateFrom
  generalize hP : pyIter = PI
  wp_walk
  subst hP
  refine wpAny_pyIter_list hl1 (wpAny_bind (wpAny_runValue ?_))
  have below : l < s.heap.objs.size := Heap.lt_size hol
  have calm : A.in1.in1.handled = none := by simp [hh]
  have one : (s.heap.push (set0 w)).objs.size = s.heap.objs.size + 1 := Heap.size_push ..
  have neI : l ≠ (s.heap.push (set0 w)).objs.size := by rw [one]; exact Nat.ne_of_lt (Nat.lt_succ_of_lt below)
  have notIn : s.heap.objs.size ∉ [(s.heap.push (set0 w)).objs.size, l] := by
    rw [one]
    simp only [List.mem_cons, List.not_mem_nil, or_false, not_or]
    exact ⟨Nat.ne_of_lt (Nat.lt_succ_self _), Nat.ne_of_gt below⟩
  have vals : ∀ (i : Nat) (v : Value), items[i]? = some v → ∃ p, ks[i]? = some p ∧ v = .ref p.1 := fun i v hv => by
    have q : items.toList[i]? = some v := by rw [Array.getElem?_toList]; exact hv
    rw [hit, List.getElem?_map] at q
    cases z : ks[i]? with
    | none => rw [z] at q; cases q
    | some p => rw [z] at q; exact ⟨p, rfl, (Option.some.inj q).symm⟩
  have absent : ∀ b, s.heap.objs.size ≤ b → s.heap.get? b = none := fun b hb => by
    cases q : s.heap.get? b with
    | none => rfl
    | some o => exact absurd (Nat.lt_of_lt_of_le (Heap.lt_size q) hb) (Nat.lt_irrefl _)
  refine fill ((Walks.list calm _ l neI items).toS) s.heap.objs.size notIn ks size few vals s.heap hk (absent _ (Nat.le_refl _)) (fun b hb => absent b (by rw [List.mem_singleton.mp hb, one]; exact Nat.le_succ _)) (by show A.units + 1 + 1 + 8 < cLine; omega) (items.size - 0) 0 _ (by omega) (Nat.zero_le _)
    ?walk ?old ?st ?_
  case walk => exact ⟨⟨_, Heap.get?_push_size _ rfl, rfl, rfl⟩, (hl1.push _)⟩
  case old => exact fun b o e => Heap.get?_push_of_some _ (Heap.get?_push_of_some _ e)
  case st =>
    refine ⟨[], #[], 0, _, set_new (w := w) ?_, ⟨fun p h => (by cases h), fun p h => (by simp at h), Nat.le_refl _⟩⟩
    exact Heap.get?_push_of_some _ hS
  intro s' L es ep t mv R g kp
  obtain ⟨h', g2, d', tk', os'⟩ := s'
  have eg : g2 = s.gens := mv.gens
  have ed : d' = s.drawn := mv.drawn
  have eo : os' = s.os := mv.os
  subst eg; subst ed; subst eo
  refine wpAny_pure ?_
  show wpAny _ _ (ret Value.none) _ _ _
  rw [size] at g
  exact wpAny_pure ⟨rfl, h', tk', L, es, ep, t, rfl, R, g, kp⟩
/-- set(xs) -/
theorem call_set {l : Addr} {items : Array Value} {ks : List (Addr × NestedKey)} {Q : Value → Shared → Prop} (hh : A.handled = none) (hl : s.heap.IsList l items) (hit : items.toList = ks.map fun p => Value.ref p.1) (hk : ∀ p ∈ ks, El s.heap p.1 p.2) (few : ks.length < 64)
    (hu : A.units + 32 < cLine) (h : ∀ s', Filled P w s s.heap.objs.size ks s' → Q (.ref s.heap.objs.size) s') : wpAny (model P w) A (call (.type "set") [.ref l]) Q E s := by
  obtain ⟨c, tl, mro⟩ := F.called_set.mro
  have made := F.called_set.made
  have subs := F.called_set.sub
  refine wpAny_call (codeAny_of_tree ?_)
  show wpAny _ _ (callAny (.type "set") _) _ _ _
  refine wpAny_pure ⟨Code.quiet_builtin _ (by decide +kernel), codeAny_builtin F.entry_type_call ?_⟩
  rw [Around.under_plain (weight_type_call_type "set" [.ref l] []) rfl]
  have notT := F.called_set.notType
  have can := F.called_set.canCreate
  have tcall := F.typeCall_set_1 (.ref l)
  repeat (any_goals (first | assumption | wp_step))
  refine codeAny_mono (code_set_led1 (.ref l) (E := E) (Q₁ := fun obj s₁ => obj = .ref s.heap.objs.size ∧ s₁ = { s with heap := s.heap.push (set0 w) }) ⟨rfl, rfl⟩) fun r s₁ hr => ?_
  cases r with
  | error e => exact hr
  | ok fl =>
    cases fl with
    | ret obj =>
      obtain ⟨rfl, rfl⟩ := hr
      have ty : Shared.TypeIs { s with heap := s.heap.push (set0 w) } (.ref s.heap.objs.size) "set" := ⟨_, Heap.get?_push_size _ rfl, rfl⟩
      have look := F.called_set.init.lookup
      have bind := F.called_set.init.bind (.ref s.heap.objs.size)
      repeat (any_goals (first | assumption | wp_step))
      refine codeAny_mono (set_init (E := E) (by simp [hh]) hl hit hk few (by show A.units + 1 + 16 < cLine; omega)) fun r₂ s₂ hr₂ => ?_
      cases r₂ with
      | error e => exact hr₂
      | ok fl₂ =>
        cases fl₂ with
        | ret r =>
          obtain ⟨rfl, fld⟩ := hr₂
          have keep := fld
          obtain ⟨h', tk, L, es, ep, t, rfl, R, g, kp⟩ := fld
          repeat (any_goals (first | assumption | wp_step))
          exact h _ keep
        | _ => exact hr₂.elim
    | _ => exact hr.elim
end
end HD

namespace HD
open PySem PySem.Spec PyProof.Rows PySem.SeqAt

/-! ### ints and tuples of such: one order -/
mutual
def pureI : PyData → Bool
  | .int _ => true
  | .tuple xs => pureIs xs
  | _ => false
def pureIs : List PyData → Bool
  | [] => true
  | x :: xs => pureI x && pureIs xs
end
mutual
theorem pure_noDict : ∀ d : PyData, pureI d = true → noDict d = true
  | .int _, _ => rfl
  | .tuple xs, h => by simp only [noDict]; exact pures_noDict xs (by simpa [pureI] using h)
  | .none, h | .bool _, h | .str _, h | .list _, h | .dict _, h => by simp [pureI] at h
theorem pures_noDict : ∀ xs : List PyData, pureIs xs = true → noDictAll xs = true
  | [], _ => rfl
  | x :: xs, h => by
    simp only [pureIs, Bool.and_eq_true] at h
    simp only [noDictAll, pure_noDict x h.1, pures_noDict xs h.2, Bool.and_self]
end
mutual
theorem pure_eqv : ∀ d e : PyData, pureI d = true → pureI e = true → (PyData.eqv d e = true ↔ d = e)
  | .int a, .int b, _, _ => by simp [PyData.eqv]
  | .int a, .tuple ys, _, _ => by simp [PyData.eqv]
  | .tuple xs, .int b, _, _ => by simp [PyData.eqv]
  | .tuple xs, .tuple ys, h, k => by
    rw [PyData.eqv]
    rw [pures_eqv xs ys (by simpa [pureI] using h) (by simpa [pureI] using k)]
    simp
  | .none, _, h, _ | .bool _, _, h, _ | .str _, _, h, _ | .list _, _, h, _ | .dict _, _, h, _ => by simp [pureI] at h
  | .int _, .none, _, h | .int _, .bool _, _, h | .int _, .str _, _, h | .int _, .list _, _, h | .int _, .dict _, _, h => by simp [pureI] at h
  | .tuple _, .none, _, h | .tuple _, .bool _, _, h | .tuple _, .str _, _, h | .tuple _, .list _, _, h | .tuple _, .dict _, _, h => by simp [pureI] at h
theorem pures_eqv : ∀ xs ys : List PyData, pureIs xs = true → pureIs ys = true → (PyData.eqvAll xs ys = true ↔ xs = ys)
  | [], [], _, _ => by simp [PyData.eqvAll]
  | [], y :: ys, _, _ => by simp [PyData.eqvAll]
  | x :: xs, [], _, _ => by simp [PyData.eqvAll]
  | x :: xs, y :: ys, h, k => by
    simp only [pureIs, Bool.and_eq_true] at h k
    rw [PyData.eqvAll, Bool.and_eq_true, pure_eqv x y h.1 k.1, pures_eqv xs ys h.2 k.2]
    simp
end
mutual
theorem lt_irr : ∀ d : PyData, pureI d = true → ltD d d = false
  | .int a, _ => by simp [ltD]
  | .tuple xs, h => by rw [ltD]; exact lts_irr xs (by simpa [pureI] using h)
  | .none, h | .bool _, h | .str _, h | .list _, h | .dict _, h => by simp [pureI] at h
theorem lts_irr : ∀ xs : List PyData, pureIs xs = true → ltAll xs xs = false
  | [], _ => rfl
  | x :: xs, h => by
    simp only [pureIs, Bool.and_eq_true] at h
    rw [ltAll, if_pos ((pure_eqv x x h.1 h.1).mpr rfl)]
    exact lts_irr xs h.2
end
mutual
theorem lt_tot : ∀ d e : PyData, pureI d = true → pureI e = true → ordD d e = true → d ≠ e → ltD d e = true ∨ ltD e d = true
  | .int a, .int b, _, _, _, n => by simp only [ltD, decide_eq_true_eq]; have : a ≠ b := fun z => n (by rw [z]); omega
  | .int a, .tuple ys, _, _, o, _ => by simp [ordD] at o
  | .tuple xs, .int b, _, _, o, _ => by simp [ordD] at o
  | .tuple xs, .tuple ys, h, k, o, n => by
    simp only [ltD]
    exact lts_tot xs ys (by simpa [pureI] using h) (by simpa [pureI] using k) (by simpa [ordD] using o) fun z => n (by rw [z])
  | .none, _, h, _, _, _ | .bool _, _, h, _, _, _ | .str _, _, h, _, _, _ | .list _, _, h, _, _, _ | .dict _, _, h, _, _, _ => by simp [pureI] at h
  | .int _, .none, _, h, _, _ | .int _, .bool _, _, h, _, _ | .int _, .str _, _, h, _, _ | .int _, .list _, _, h, _, _ | .int _, .dict _, _, h, _, _ => by simp [pureI] at h
  | .tuple _, .none, _, h, _, _ | .tuple _, .bool _, _, h, _, _ | .tuple _, .str _, _, h, _, _ | .tuple _, .list _, _, h, _, _ | .tuple _, .dict _, _, h, _, _ => by simp [pureI] at h
theorem lts_tot : ∀ xs ys : List PyData, pureIs xs = true → pureIs ys = true → ordAll xs ys = true → xs ≠ ys → ltAll xs ys = true ∨ ltAll ys xs = true
  | [], [], _, _, _, n => absurd rfl n
  | [], y :: ys, _, _, _, _ => .inl rfl
  | x :: xs, [], _, _, _, _ => .inr rfl
  | x :: xs, y :: ys, h, k, o, n => by
    simp only [pureIs, Bool.and_eq_true] at h k
    by_cases e : x = y
    · subst e
      have ee := (pure_eqv x x h.1 h.1).mpr rfl
      simp only [ordAll, ltAll, ee, if_true] at o ⊢
      exact lts_tot xs ys h.2 k.2 o fun z => n (by rw [z])
    · have e1 : PyData.eqv x y = false := by rw [Bool.eq_false_iff]; exact fun z => e ((pure_eqv x y h.1 k.1).mp z)
      have e2 : PyData.eqv y x = false := by rw [Bool.eq_false_iff]; exact fun z => e ((pure_eqv y x k.1 h.1).mp z).symm
      simp only [ordAll, ltAll, e1, e2, Bool.false_eq_true, if_false] at o ⊢
      exact lt_tot x y h.1 k.1 o e
end
mutual
theorem lt_trans : ∀ d e f : PyData, pureI d = true → pureI e = true → pureI f = true → ltD d e = true → ltD e f = true → ltD d f = true
  | .int a, .int b, .int c, _, _, _, x, y => by simp only [ltD, decide_eq_true_eq] at x y ⊢; omega
  | .tuple xs, .tuple ys, .tuple zs, h, k, l, x, y => by
    rw [ltD] at x y ⊢
    exact lts_trans xs ys zs (by simpa [pureI] using h) (by simpa [pureI] using k) (by simpa [pureI] using l) x y
  | .int a, .int b, .tuple _, _, _, _, _, y => by simp [ltD] at y
  | .int a, .tuple _, _, _, _, _, x, _ => by simp [ltD] at x
  | .tuple _, .int _, _, _, _, _, x, _ => by simp [ltD] at x
  | .tuple _, .tuple _, .int _, _, _, _, _, y => by simp [ltD] at y
  | .none, _, _, h, _, _, _, _ | .bool _, _, _, h, _, _, _, _ | .str _, _, _, h, _, _, _, _ | .list _, _, _, h, _, _, _, _ | .dict _, _, _, h, _, _, _, _ => by simp [pureI] at h
  | .int _, .none, _, _, h, _, _, _ | .int _, .bool _, _, _, h, _, _, _ | .int _, .str _, _, _, h, _, _, _ | .int _, .list _, _, _, h, _, _, _ | .int _, .dict _, _, _, h, _, _, _ => by simp [pureI] at h
  | .tuple _, .none, _, _, h, _, _, _ | .tuple _, .bool _, _, _, h, _, _, _ | .tuple _, .str _, _, _, h, _, _, _ | .tuple _, .list _, _, _, h, _, _, _ | .tuple _, .dict _, _, _, h, _, _, _ => by simp [pureI] at h
  | .int _, .int _, .none, _, _, h, _, _ | .int _, .int _, .bool _, _, _, h, _, _ | .int _, .int _, .str _, _, _, h, _, _ | .int _, .int _, .list _, _, _, h, _, _ | .int _, .int _, .dict _, _, _, h, _, _ => by simp [pureI] at h
  | .tuple _, .tuple _, .none, _, _, h, _, _ | .tuple _, .tuple _, .bool _, _, _, h, _, _ | .tuple _, .tuple _, .str _, _, _, h, _, _ | .tuple _, .tuple _, .list _, _, _, h, _, _ | .tuple _, .tuple _, .dict _, _, _, h, _, _ => by simp [pureI] at h
theorem lts_trans : ∀ xs ys zs : List PyData, pureIs xs = true → pureIs ys = true → pureIs zs = true → ltAll xs ys = true → ltAll ys zs = true → ltAll xs zs = true
  | [], _, z :: zs, _, _, _, _, _ => rfl
  | [], [], [], _, _, _, x, _ => x
  | [], y :: ys, [], _, _, _, _, y' => by simp [ltAll] at y'
  | x :: xs, [], _, _, _, _, x', _ => by simp [ltAll] at x'
  | x :: xs, y :: ys, [], _, _, _, _, y' => by simp [ltAll] at y'
  | x :: xs, y :: ys, z :: zs, h, k, l, p, q => by
    simp only [pureIs, Bool.and_eq_true] at h k l
    have ne : ∀ {u v : PyData}, pureI u = true → pureI v = true → u ≠ v → PyData.eqv u v = false := fun hu hv n => by rw [Bool.eq_false_iff]; exact fun e => n ((pure_eqv _ _ hu hv).mp e)
    have ee : ∀ {u : PyData}, pureI u = true → PyData.eqv u u = true := fun hu => (pure_eqv _ _ hu hu).mpr rfl
    by_cases e1 : x = y
    · subst e1
      simp only [ltAll, ee h.1, if_true] at p
      by_cases e2 : x = z
      · subst e2
        simp only [ltAll, ee h.1, if_true] at q ⊢
        exact lts_trans xs ys zs h.2 k.2 l.2 p q
      · simp only [ltAll, ne h.1 l.1 e2, Bool.false_eq_true, if_false] at q ⊢
        exact q
    · simp only [ltAll, ne h.1 k.1 e1, Bool.false_eq_true, if_false] at p
      by_cases e2 : y = z
      · subst e2
        simp only [ltAll, ne h.1 k.1 e1, Bool.false_eq_true, if_false]
        exact p
      · simp only [ltAll, ne k.1 l.1 e2, Bool.false_eq_true, if_false] at q
        have t := lt_trans x y z h.1 k.1 l.1 p q
        have e3 : x ≠ z := fun e => by subst e; rw [lt_irr x h.1] at t; cases t
        simp only [ltAll, ne h.1 l.1 e3, Bool.false_eq_true, if_false]
        exact t
end
/-- the place of d among U -/
def rankD (U : List PyData) (d : PyData) : Nat := U.countP fun u => ltD u d
theorem countP_less {α : Type} {p q : α → Bool} {x : α} : ∀ {l : List α}, (∀ u ∈ l, p u = true → q u = true) → x ∈ l → q x = true → p x = false → l.countP p < l.countP q
  | [], _, hm, _, _ => by cases hm
  | y :: l, h, hm, hq, hp => by
    have le : ∀ {l : List α}, (∀ u ∈ l, p u = true → q u = true) → l.countP p ≤ l.countP q := fun {l} h => List.countP_mono_left h
    rw [List.countP_cons, List.countP_cons]
    rcases List.mem_cons.mp hm with e | hm
    · subst e
      have := le fun u hu => h u (List.mem_cons_of_mem _ hu)
      simp only [hq, hp, if_true, Bool.false_eq_true, if_false]
      omega
    · have := countP_less (fun u hu => h u (List.mem_cons_of_mem _ hu)) hm hq hp
      have hy := h y (List.mem_cons_self)
      cases e1 : p y with
      | true => simp only [hy e1, if_true]; omega
      | false => cases q y <;> simp <;> omega
theorem rank_lt {U : List PyData} (hU : ∀ u ∈ U, pureI u = true) (ho : ∀ u ∈ U, ∀ v ∈ U, ordD u v = true) {d e : PyData} (hd : d ∈ U) (he : e ∈ U) : rankD U d < rankD U e ↔ ltD d e = true := by
  have up : ∀ {d e : PyData}, d ∈ U → e ∈ U → ltD d e = true → rankD U d < rankD U e := fun {d e} hd he h =>
    countP_less (x := d) (fun u hu k => lt_trans u d e (hU u hu) (hU d hd) (hU e he) k h) hd h (lt_irr d (hU d hd))
  refine ⟨fun h => ?_, up hd he⟩
  by_cases n : d = e
  · subst n; omega
  · rcases lt_tot d e (hU d hd) (hU e he) (ho d hd e he) n with z | z
    · exact z
    · have := up he hd z; omega
end HD

namespace HD
open PySem PySem.Spec PyProof.Rows PySem.SeqAt

/-! ### list.sort of nested tuples of ints -/
mutual
theorem reads_tups {h h' : Heap} (hk : ∀ b o, h.get? b = some o → o.cls = .type "tuple" → h'.get? b = some o) : ∀ (d : PyData) (v : Value) (as : List Addr), pureI d = true → Reads h v d as → Reads h' v d as
  | .int i, v, as, p, r => by cases r with | int _ t => exact .int i t
  | .tuple xs, v, as, p, r => by
    cases r with
    | tuple h1 h2 h3 h4 => exact .tuple (hk _ _ h1 h2) h2 h3 (readsAll_tups hk xs _ _ (by simpa [pureI] using p) h4)
  | .none, _, _, p, _ | .bool _, _, _, p, _ | .str _, _, _, p, _ | .list _, _, _, p, _ | .dict _, _, _, p, _ => by simp [pureI] at p
theorem readsAll_tups {h h' : Heap} (hk : ∀ b o, h.get? b = some o → o.cls = .type "tuple" → h'.get? b = some o) : ∀ (ds : List PyData) (vs : List Value) (as : List Addr), pureIs ds = true → ReadsAll h vs ds as → ReadsAll h' vs ds as
  | [], _, _, _, r => by cases r; exact .nil
  | d :: ds, _, _, p, r => by
    simp only [pureIs, Bool.and_eq_true] at p
    cases r with
    | cons h1 h2 => exact .cons (reads_tups hk d _ _ p.1 h1) (readsAll_tups hk ds _ _ p.2 h2)
end
/-- a tuple of ints and tuples, an int first -/
structure Row (d : PyData) : Prop where
  pure : pureI d = true
  first : ∃ i r, d = .tuple (.int i :: r)
  deep : d.depth ≤ 6
section
variable {P : Program} {w : World} {A : Around} {E : Value → Shared → Prop} {s : Shared}
theorem kat_data {b fin : Bool} {Q : Bool → Shared → Prop} : ∀ (xs ys : List PyData) (vs ws : List Value) (as bs : List Addr) (i : Nat), ReadsAll s.heap vs xs as → ReadsAll s.heap ws ys bs → pureIs xs = true → pureIs ys = true → ordAll xs ys = true →
    fin = decide (xs.length < ys.length) → (i = 0 → ∃ p r q r', xs = .int p :: r ∧ ys = .int q :: r') → A.units + PyData.depthAll xs + 1 < cLine → Q (ltAll xs ys) s → PySem.W.KatLex P w A b fin Q (vs.zip ws) i s
  | [], [], vs, ws, as, bs, i, ra, rb, _, _, _, hf, _, _, q => by cases ra; cases rb; subst hf; exact PySem.W.kat_nil q
  | [], y :: ys, vs, ws, as, bs, i, ra, rb, _, _, _, hf, _, _, q => by cases ra; subst hf; exact PySem.W.kat_nil q
  | x :: xs, [], vs, ws, as, bs, i, ra, rb, _, _, _, hf, _, _, q => by
    cases rb
    rw [List.zip_nil_right]
    subst hf
    exact PySem.W.kat_nil q
  | x :: xs, y :: ys, vs, ws, as, bs, i, ra, rb, h, k, o, hf, h0, hu, q => by
    cases ra with
    | cons r1 r2 =>
      cases rb with
      | cons q1 q2 =>
        simp only [pureIs, Bool.and_eq_true] at h k
        simp only [PyData.depthAll] at hu
        refine PySem.W.kat_cons (eq_data x y A _ _ _ _ r1 q1 (pure_noDict x h.1) (pure_noDict y k.1) (by omega) P w _ _ ?_)
        cases e : PyData.eqv x y with
        | true =>
          simp only [ordAll, ltAll, e, if_true] at o q
          exact PySem.W.kat_yes (kat_data xs ys _ _ _ _ (i + 1) r2 q2 h.2 k.2 o (by rw [hf]; simp) (fun z => absurd z (Nat.succ_ne_zero i)) (by omega) q)
        | false =>
          simp only [ordAll, ltAll, e, Bool.false_eq_true, if_false] at o q
          refine PySem.W.kat_no ?_
          cases i with
          | zero =>
            obtain ⟨p, r, p', r', e1, e2⟩ := h0 rfl
            cases e1; cases e2
            cases r1; cases q1
            exact TS.oneLt_ints _ q
          | succ i =>
            have off : (b && (i + 1 == 0)) = false := by cases b <;> rfl
            rw [off]
            exact PySem.W.kat_one _ _ (lt_data x y A _ _ _ _ r1 q1 (pure_noDict x h.1) (pure_noDict y k.1) o (by omega) P w _ _ q)
theorem firsts_rows {h : Heap} : ∀ {vs : List Value}, (∀ v ∈ vs, ∃ d as, Reads h v d as ∧ Row d) → ∃ fs, PySem.W.KatTups h vs fs ∧ fs.length = vs.length ∧ ∀ f ∈ fs, ∃ i t, f = Value.int i t
  | [], _ => ⟨[], PySem.W.KatTups.nil, rfl, fun f hf => by cases hf⟩
  | v :: vs, x => by
    obtain ⟨fs, k, hl, hi⟩ := firsts_rows (vs := vs) fun u hu => x u (List.mem_cons_of_mem _ hu)
    obtain ⟨d, as, r, row⟩ := x v List.mem_cons_self
    obtain ⟨i, rest, rfl⟩ := row.first
    cases r with
    | @tuple l o us n _ as₁ h1 h2 h3 h4 =>
      cases e : us.toList with
      | nil => rw [e] at h4; cases h4
      | cons u ur =>
        rw [e] at h4
        cases h4 with
        | cons g1 g2 =>
          cases g1 with
          | int _ t =>
            refine ⟨.int i t :: fs, PySem.W.KatTups.cons h1 h2 h3 ?_ k, by simp [hl], fun f hf => ?_⟩
            · rw [← Array.getElem?_toList, e]; rfl
            · rcases List.mem_cons.mp hf with z | z
              · exact ⟨i, t, z⟩
              · exact hi f z
theorem sort_rows {a : Addr} {vs : List Value} {n : Nat} {Q : PySem.Fin → Shared → Prop} (dat : Value → PyData) (U : List PyData) (ho : s.heap.get? a = some (seqObj "list" vs.toArray n)) (h64 : vs.length < 64)
    (hv : ∀ v ∈ vs, (∃ as, Reads s.heap v (dat v) as) ∧ Row (dat v) ∧ dat v ∈ U) (hU : ∀ u ∈ U, pureI u = true) (hO : ∀ u ∈ U, ∀ v ∈ U, ordD u v = true) (hu : A.units + 16 < cLine)
    (h : ∀ out : Array Value, out.toList.Perm vs → out.toList.Pairwise (fun u v => rankD U (dat u) ≤ rankD U (dat v)) → Q (.done (.ret .none)) { s with heap := sortedHeap s.heap a vs out }) :
    wpAny (model P w) A (Builtin.«list.sort» ⟨[.ref a], []⟩) Q E s := by
  have keep : ∀ b o, s.heap.get? b = some o → o.cls = .type "tuple" → (TS.midHeap s.heap a vs).get? b = some o := fun b o e c => by
    refine TS.midHeap_old ?_ e
    intro z
    subst z
    rw [ho] at e
    cases e
    have c2 : Value.type "list" = Value.type "tuple" := c
    injection c2 with c3
    exact absurd c3 (by decide)
  have reads : ∀ v ∈ vs, ∃ as, Reads (TS.midHeap s.heap a vs) v (dat v) as := fun v m => let ⟨⟨as, r⟩, row, _⟩ := hv v m; ⟨as, reads_tups keep _ _ _ row.pure r⟩
  refine SK.plain_sort (r := fun v => (rankD U (dat v) : Int)) ho h64 (fun h2 R hR => ?_) fun ps out e1 e2 e3 => ?_
  · obtain ⟨fs, k, hl, hi⟩ := firsts_rows (h := TS.midHeap s.heap a vs) fun v m => let ⟨as, r⟩ := reads v m; ⟨dat v, as, r, (hv v m).2.1⟩
    refine PySem.W.kat_kind (T := Value.type "int") k (by omega) (fun f hf => ?_) rfl (hR _ ?_)
    · obtain ⟨i, t, rfl⟩ := hi f hf
      exact PySem.W.Looks.of_pure rfl
    · intro p q hp hq Q' E' ans
      rw [pairsOf_toList] at hp hq
      have mp := (mem_zip_self hp).2
      have mq := (mem_zip_self hq).2
      obtain ⟨as, r1⟩ := reads _ mp
      obtain ⟨bs, r2⟩ := reads _ mq
      obtain ⟨_, row1, u1⟩ := hv _ mp
      obtain ⟨_, row2, u2⟩ := hv _ mq
      have lt := rank_lt hU hO u1 u2
      have ord := hO _ u1 _ u2
      have ans' : Q' (ltD (dat p.1) (dat q.1)) { s with heap := TS.midHeap s.heap a vs } := by
        have e : decide ((rankD U (dat p.1) : Int) < rankD U (dat q.1)) = ltD (dat p.1) (dat q.1) := by
          cases z : ltD (dat p.1) (dat q.1) with
          | true => exact decide_eq_true (by have := lt.mpr z; omega)
          | false => exact decide_eq_false (fun y => by have := lt.mp (by omega); rw [z] at this; cases this)
        rw [← e]; exact ans
      obtain ⟨p1, p2⟩ := p
      obtain ⟨q1, q2⟩ := q
      dsimp only at r1 r2 row1 row2 ans' ord ⊢
      obtain ⟨i, xr, d1⟩ := row1.first
      obtain ⟨j, yr, d2⟩ := row2.first
      have dp := row1.deep
      have pu := row1.pure
      have qu := row2.pure
      rw [d1] at r1 ans' ord dp pu
      rw [d2] at r2 ans' ord qu
      cases r1 with
      | @tuple l o us m _ _ h1 h2 h3 h4 =>
        cases r2 with
        | @tuple l' o' us' m' _ _ k1 k2 k3 k4 =>
          simp only [PyData.depth] at dp
          rw [ltD] at ans'
          rw [ordD] at ord
          have z1 : us.size = (PyData.int i :: xr).length := by simpa using ReadsAll.length _ _ _ h4
          have z2 : us'.size = (PyData.int j :: yr).length := by simpa using ReadsAll.length _ _ _ k4
          refine PySem.W.kat_lt h1 h3 k1 k3 (kat_data (s := { s with heap := TS.midHeap s.heap a vs }) _ _ _ _ _ _ 0 h4 k4 (by simpa [pureI] using pu) (by simpa [pureI] using qu) ord (by rw [z1, z2]) (fun _ => ⟨i, xr, j, yr, rfl, rfl⟩) (by omega) ans')
  · obtain ⟨pm, pw⟩ := TS.out_rank (r := fun v => (rankD U (dat v) : Int)) e1 e2 e3
    exact h out pm (pw.imp fun z => by omega)
end
end HD

namespace HD
open PySem PySem.Spec PyProof.Rows PySem.SeqAt L2

/-! ### sorted of a set of nested tuples of ints -/
section
variable {P : Program} {w : World} {A : Around} {E : Value → Shared → Prop} {s : Shared}
theorem sorted_el {a : Addr} {L : List (Addr × NestedKey)} {es : Array (Int × Value)} {ep : Nat} {t : SetTable} {Q : Value → Shared → Prop} (R : SetEl P w s.heap a L es ep t) (hh : A.handled = none) (dat : Value → PyData) (U : List PyData)
    (hv : ∀ p ∈ L, (∃ as, Reads s.heap (.ref p.1) (dat (.ref p.1)) as) ∧ Row (dat (.ref p.1)) ∧ dat (.ref p.1) ∈ U) (hU : ∀ u ∈ U, pureI u = true) (hO : ∀ u ∈ U, ∀ v ∈ U, ordD u v = true) (hu : A.units + 24 < cLine)
    (hQ : ∀ s' p (out : Array Value) (c : Nat), (∀ b o, s.heap.get? b = some o → s'.heap.get? b = some o) → s'.gens = s.gens → s'.os = s.os → s.heap.objs.size ≤ p → s'.heap.get? p = some (seqObj "list" out c) →
      out.toList.Perm (L.map fun q => Value.ref q.1) → out.toList.Pairwise (fun u v => rankD U (dat u) ≤ rankD U (dat v)) → Q (.ref p) s') : wpAny (model P w) A (call (.builtin "sorted") [.ref a]) Q E s := by
  obtain ⟨o, ho, hex, hd⟩ := R.ob
  have size := rows_size R.rows
  have few := R.few
  refine Calls.call_function_entry kind_sorted plain_sorted entry_sorted (args_sorted1 _) ?_
  unfold Builtin.«sorted»
  refine wpAny_bind (m := checkCount "sorted" 1 1 _) (wpAny_pure ?_)
  refine wpAny_bind (collect_set (A := A.in1) hh ⟨o, ho, hex.1, hd⟩ R.fits (by unfold scanBound; omega) R.tab.ris R.led fun s1 vs k1 grown g1 o1 pm => ?_)
  have elems : es.toList.map (·.2) = L.map fun q => Value.ref q.1 := by rw [R.rows, List.map_map]; rfl
  rw [elems] at pm
  have len : vs.length < 64 := by rw [pm.length_eq, List.length_map]; exact few
  refine wpAny_bind (wpAny_newList ?_ (by rw [sizeLine_eq]; omega))
  have at_ : (s1.heap.push (seqObj "list" vs.toArray 0)).get? s1.heap.objs.size = some (seqObj "list" vs.toArray 0) := Heap.get?_push_size _ rfl
  have vals : ∀ v ∈ vs, (∃ as, Reads (s1.heap.push (seqObj "list" vs.toArray 0)) v (dat v) as) ∧ Row (dat v) ∧ dat v ∈ U := fun v m => by
    obtain ⟨q, hq, e⟩ := List.mem_map.mp (pm.mem_iff.mp m)
    subst e
    obtain ⟨⟨as, r⟩, row, u⟩ := hv q hq
    exact ⟨⟨as, reads_tups (fun b o e _ => Heap.get?_push_of_some _ (k1 b o e)) _ _ _ row.pure r⟩, row, u⟩
  refine wpAny_bind (wpAny_holding (wpAny_call_entry slot_list_sort ⟨_, at_, rfl⟩ entry_list_sort (sort_rows (s := { s1 with heap := s1.heap.push (seqObj "list" vs.toArray 0) }) dat U at_ len vals hU hO (by show A.units + 1 + 1 + 16 < cLine; omega) fun out a1 a2 => ⟨_, rfl, ?_⟩) (args_list_sort _)))
  obtain ⟨c, hc⟩ := sortedHeap_at (vs := vs) (out := out) at_
  refine wpAny_pure ⟨_, rfl, hQ _ s1.heap.objs.size out c (fun b u e => ?_) g1 o1 grown hc (a1.trans pm) a2⟩
  have old := k1 b u e
  have lt := Heap.lt_size old
  show (sortedHeap (s1.heap.push (seqObj "list" vs.toArray 0)) s1.heap.objs.size vs out).get? b = some u
  rw [sortedHeap_old (Nat.ne_of_lt lt) (by rw [size_push']; exact Nat.lt_succ_of_lt lt)]
  exact Heap.get?_push_of_some _ old
/-- the set at a, without its elements -/
def SetCore (P : Program) (w : World) (a : Addr) (L : List (Addr × NestedKey)) (h : Heap) : Prop :=
  ∃ es ep t, (∃ o, h.get? a = some o ∧ o.ExactSet ∧ o.data = .set es ep t) ∧ es.toList = L.map (rowE w) ∧ TabOk t (L.map fun p => p.2.hash w) ∧ (L.map (·.2)).Nodup ∧ t.plain = true ∧ (w.params.followText "set-order" = true ∨ t.led = true) ∧ L.length * 5 < t.mask * 3 ∧ L.length < 64
def SetX (P : Program) (w : World) (a : Addr) (L : List (Addr × NestedKey)) : HO := .ext (SetCore P w a L)
theorem SetEl.core {h : Heap} {a : Addr} {L : List (Addr × NestedKey)} {es : Array (Int × Value)} {ep : Nat} {t : SetTable} (R : SetEl P w h a L es ep t) : SetCore P w a L h := ⟨es, ep, t, R.ob, R.rows, R.tab, R.nd, R.plain, R.led, R.room, R.few⟩
theorem SetCore.full {h : Heap} {a : Addr} {L : List (Addr × NestedKey)} (R : SetCore P w a L h) (he : ∀ p ∈ L, El h p.1 p.2) : ∃ es ep t, SetEl P w h a L es ep t :=
  let ⟨es, ep, t, h1, h2, h3, h4, h5, h6, h7, h8⟩ := R
  ⟨es, ep, t, h1, h2, h3, h4, he, h5, h6, h7, h8⟩
theorem setX_ok {H : Hp} {h : Heap} {a : Addr} {L : List (Addr × NestedKey)} (R : SetCore P w a L h) : ObjOk P w H h a (SetX P w a L) := by
  have ⟨_, _, _, ⟨o, ho, _⟩, _⟩ := R
  refine ⟨R, ⟨o, ho⟩, fun h1 h2 ⟨es, ep, t, ⟨o1, e1, r⟩, q⟩ k => ⟨es, ep, t, ⟨o1, k o1 e1, r⟩, q⟩⟩
end
/-! ### its key -/
mutual
def keyD : PyData → NestedKey
  | .int i => .num i
  | .tuple xs => .tup (keyDs xs)
  | _ => .none
def keyDs : List PyData → List NestedKey
  | [] => []
  | x :: xs => keyD x :: keyDs xs
end
mutual
theorem key_num : ∀ d : PyData, numK (keyD d) = true
  | .int _ => rfl
  | .tuple xs => by simp only [keyD, numK]; exact keys_num xs
  | .none | .bool _ | .str _ | .list _ | .dict _ => rfl
theorem keys_num : ∀ xs : List PyData, numKs (keyDs xs) = true
  | [] => rfl
  | x :: xs => by simp only [keyDs, numKs, key_num x, keys_num xs, Bool.and_self]
end
mutual
theorem key_depth : ∀ d : PyData, pureI d = true → (keyD d).depth = d.depth
  | .int _, _ => rfl
  | .tuple xs, h => by simp only [keyD, NestedKey.depth, PyData.depth, keys_depth xs (by simpa [pureI] using h)]
  | .none, h | .bool _, h | .str _, h | .list _, h | .dict _, h => by simp [pureI] at h
theorem keys_depth : ∀ xs : List PyData, pureIs xs = true → NestedKey.depthAll (keyDs xs) = PyData.depthAll xs
  | [], _ => rfl
  | x :: xs, h => by
    simp only [pureIs, Bool.and_eq_true] at h
    simp only [keyDs, NestedKey.depthAll, PyData.depthAll, key_depth x h.1, keys_depth xs h.2]
end
mutual
theorem key_is {h : Heap} : ∀ (d : PyData) (v : Value) (as : List Addr), pureI d = true → Reads h v d as → NestedIs h (keyD d) v
  | .int i, v, as, _, r => by cases r with | int _ t => exact .int i t
  | .tuple xs, v, as, p, r => by cases r with | tuple h1 h2 h3 h4 => exact .tup h1 h2 h3 (keys_is xs _ _ (by simpa [pureI] using p) h4)
  | .none, _, _, p, _ | .bool _, _, _, p, _ | .str _, _, _, p, _ | .list _, _, _, p, _ | .dict _, _, _, p, _ => by simp [pureI] at p
theorem keys_is {h : Heap} : ∀ (ds : List PyData) (vs : List Value) (as : List Addr), pureIs ds = true → ReadsAll h vs ds as → NestedAll h (keyDs ds) vs
  | [], _, _, _, r => by cases r; exact .nil
  | d :: ds, _, _, p, r => by
    simp only [pureIs, Bool.and_eq_true] at p
    cases r with
    | cons h1 h2 => exact .cons (key_is d _ _ p.1 h1) (keys_is ds _ _ p.2 h2)
end
mutual
theorem key_inj : ∀ d e : PyData, pureI d = true → pureI e = true → keyD d = keyD e → d = e
  | .int a, .int b, _, _, h => by simp only [keyD, NestedKey.num.injEq] at h; rw [h]
  | .int a, .tuple _, _, _, h => by simp [keyD] at h
  | .tuple _, .int b, _, _, h => by simp [keyD] at h
  | .tuple xs, .tuple ys, p, q, h => by
    simp only [keyD, NestedKey.tup.injEq] at h
    rw [keys_inj xs ys (by simpa [pureI] using p) (by simpa [pureI] using q) h]
  | .none, _, h, _, _ | .bool _, _, h, _, _ | .str _, _, h, _, _ | .list _, _, h, _, _ | .dict _, _, h, _, _ => by simp [pureI] at h
  | .int _, .none, _, h, _ | .int _, .bool _, _, h, _ | .int _, .str _, _, h, _ | .int _, .list _, _, h, _ | .int _, .dict _, _, h, _ => by simp [pureI] at h
  | .tuple _, .none, _, h, _ | .tuple _, .bool _, _, h, _ | .tuple _, .str _, _, h, _ | .tuple _, .list _, _, h, _ | .tuple _, .dict _, _, h, _ => by simp [pureI] at h
theorem keys_inj : ∀ xs ys : List PyData, pureIs xs = true → pureIs ys = true → keyDs xs = keyDs ys → xs = ys
  | [], [], _, _, _ => rfl
  | [], _ :: _, _, _, h => by simp [keyDs] at h
  | _ :: _, [], _, _, h => by simp [keyDs] at h
  | x :: xs, y :: ys, p, q, h => by
    simp only [pureIs, Bool.and_eq_true] at p q
    simp only [keyDs, List.cons.injEq] at h
    rw [key_inj x y p.1 q.1 h.1, keys_inj xs ys p.2 q.2 h.2]
end
end HD

namespace HD
open PySem PySem.Spec PyProof.Rows PySem.SeqAt L2

/-! ### sorted(set(xs)) -/
mutual
theorem pure_lay : ∀ d : PyData, pureI d = true → d.canLay0 = true
  | .int _, _ => rfl
  | .tuple xs, h => by simp only [PyData.canLay0]; exact pures_lay xs (by simpa [pureI] using h)
  | .none, h | .bool _, h | .str _, h | .list _, h | .dict _, h => by simp [pureI] at h
theorem pures_lay : ∀ xs : List PyData, pureIs xs = true → PyData.canLayAll0 xs = true
  | [], _ => rfl
  | x :: xs, h => by
    simp only [pureIs, Bool.and_eq_true] at h
    simp only [PyData.canLayAll0, pure_lay x h.1, pures_lay xs h.2, Bool.and_self]
end
/-- what a set is made of here: fewer than 64 tuples, an int first, that can be ordered among one another -/
structure SetOk (ds : List PyData) : Prop where
  few : ds.length < 64
  row : ∀ d ∈ ds, Row d ∧ d.depth ≤ 6
  ord : ∀ d ∈ ds, ∀ e ∈ ds, ordD d e = true
/-- each once, ascending -/
structure SortedOf (ds out : List PyData) : Prop where
  mem : ∀ d, d ∈ out ↔ d ∈ ds
  asc : out.Pairwise fun d e => ltD d e = true
/-- the entries of a set of the data ds -/
structure Entries (K : PySem.W.Frag) (H : Hp) (M : Mem) (ds : List PyData) (L : List (Addr × NestedKey)) : Prop where
  from_ : ∀ p ∈ L, ∃ d ∈ ds, p.2 = keyD d ∧ Fz K H M (.ref p.1) d
  all : ∀ d ∈ ds, keyD d ∈ L.map (·.2)
def rSetD (K : PySem.W.Frag) (P : Program) (w : World) (M : Mem) (ds : List PyData) : List V → Hp → VK → Prop := fun xs H Q => ∃ v x, xs = [v] ∧ MemOk K H M ∧ RV K H M v x ∧ vw M x = some (.list ds) ∧ SetOk ds ∧
  ∀ a L, H a = none → Entries K H M ds L → Q (.ref a) (upd H a (SetX P w a L))
theorem fz_refs {K : PySem.W.Frag} {H : Hp} {M : Mem} : ∀ {vs : List V} {ds : List PyData}, FzA K H M vs ds → (∀ d ∈ ds, Row d) → ∃ ks : List (Addr × NestedKey), vs = ks.map (fun p => V.ref p.1) ∧ ks.length = ds.length ∧ (∀ p ∈ ks, ∃ d ∈ ds, p.2 = keyD d ∧ Fz K H M (.ref p.1) d) ∧ ∀ d ∈ ds, keyD d ∈ ks.map (·.2)
  | _, _, .nil, _ => ⟨[], rfl, rfl, by simp, by simp⟩
  | _, _, .cons (v := v) (d := d) r t, h => by
    obtain ⟨ks, e1, e2, e3, e4⟩ := fz_refs t fun d hd => h d (List.mem_cons_of_mem _ hd)
    obtain ⟨i, rest, rfl⟩ := (h d List.mem_cons_self).first
    have ⟨b, eb⟩ : ∃ b, v = .ref b := by cases r with | tup _ _ => exact ⟨_, rfl⟩
    subst eb
    refine ⟨(b, keyD (.tuple (.int i :: rest))) :: ks, by rw [e1]; rfl, by simp [e2], fun p hp => ?_, fun d hd => ?_⟩
    · rcases List.mem_cons.mp hp with z | z
      · subst z; exact ⟨_, List.mem_cons_self, rfl, r⟩
      · obtain ⟨d, hd, q⟩ := e3 p z
        exact ⟨d, List.mem_cons_of_mem _ hd, q⟩
    · rcases List.mem_cons.mp hd with z | z
      · subst z; simp
      · simp only [List.map_cons]; exact List.mem_cons_of_mem _ (e4 d z)
section
variable {X : Cx} {pins : List (Addr × Obj)} {σ : L2.St} {H : Hp} {M : Mem} {s : Shared}
theorem fz_el (I : Inv X pins σ H s) {b : Addr} {d : PyData} (r : Fz X.K H M (.ref b) d) (row : Row d) (deep : d.depth ≤ 6) : El s.heap b (keyD d) := by
  obtain ⟨as, rd, _⟩ := Fz.reads I r (u := .ref b) rfl
  exact ⟨key_is d _ _ row.pure rd, key_num d, by rw [key_depth d row.pure]; exact deep⟩
theorem refs_vals : ∀ {ks : List (Addr × NestedKey)} {us : List Value}, Vals (ks.map fun p => V.ref p.1) us → us = ks.map fun p => Value.ref p.1
  | [], _, .nil => rfl
  | p :: ks, _, .cons r t => by
    cases r
    rw [refs_vals t]; rfl
theorem cr_setD (hc : X.calm = true) (hu : X.A.units + 64 < cLine) (M : Mem) (ds : List PyData) : CallR X (.type "set") (rSetD X.K X.prog X.w M ds) := by
  intro pins s σ H xs us Q I r h
  obtain ⟨v, x, rfl, o, rv, e, ok, q⟩ := h
  obtain ⟨l, vs, rfl, hl, fz⟩ := vw_lst o rv e
  rw [Vals.ref1 r]
  obtain ⟨its, vals, pl, _⟩ := I.list (.of hl)
  obtain ⟨ks, e1, e2, e3, e4⟩ := fz_refs fz fun d hd => (ok.row d hd).1
  subst e1
  have hn : H s.heap.objs.size = none := I.hok.fresh (Nat.le_refl _)
  refine call_set (P := X.prog) (w := X.w) (ks := ks) (I.ok.hd hc) pl.isList (by simpa using refs_vals vals) (fun p hp => ?_) (by rw [e2]; exact ok.few) (by omega) fun s' fl => ?_
  · obtain ⟨d, hd, ek, fd⟩ := e3 p hp
    rw [ek]
    exact fz_el I fd (ok.row d hd).1 (ok.row d hd).2
  · obtain ⟨h', tk, L, es, ep, t, rfl, R, g, k⟩ := fl
    refine ⟨.ref s.heap.objs.size, upd H s.heap.objs.size (SetX X.prog X.w s.heap.objs.size L), I.laid (t' := tk) k (Nat.le_refl _) (setX_ok R.core), rfl, q _ L hn ⟨fun p hp => e3 p (List.mem_of_mem_take (g.sub p hp)), fun d hd => ?_⟩⟩
    obtain ⟨p, hp, ep'⟩ := List.mem_map.mp (e4 d hd)
    rw [← ep']
    exact g.all p (by rw [List.take_length]; exact hp)
def rSortedD (K : PySem.W.Frag) (P : Program) (w : World) (M : Mem) (ds : List PyData) : List V → Hp → VK → Prop := fun xs H Q => ∃ a L, xs = [.ref a] ∧ H a = some (SetX P w a L) ∧ MemOk K H M ∧ SetOk ds ∧ Entries K H M ds L ∧
  ∀ out us p, SortedOf ds out → H p = none → FzA K H M us out → Q (.ref p) (upd H p (.lst us))
theorem fz_all {K : PySem.W.Frag} {dat : Value → PyData} : ∀ {l : List Value}, (∀ v ∈ l, Fz K H M (bkV v) (dat v)) → FzA K H M (l.map bkV) (l.map dat)
  | [], _ => .nil
  | v :: l, h => .cons (h v List.mem_cons_self) (fz_all fun u hu => h u (List.mem_cons_of_mem _ hu))
theorem cr_sortedD (hc : X.calm = true) (hu : X.A.units + 64 < cLine) (M : Mem) (ds : List PyData) : CallR X (.builtin "sorted") (rSortedD X.K X.prog X.w M ds) := by
  intro pins s σ H xs us Q I r h
  obtain ⟨a, L, rfl, ha, o, ok, en, q⟩ := h
  rw [Vals.ref1 r]
  have core : SetCore X.prog X.w a L s.heap := (I.hok a _ ha).1
  obtain ⟨es, ep, t, R⟩ := core.full fun p hp => by
    obtain ⟨d, hd, ek, fd⟩ := en.from_ p hp
    rw [ek]; exact fz_el I fd (ok.row d hd).1 (ok.row d hd).2
  have data : ∀ p ∈ L, ∃ d ∈ ds, p.2 = keyD d ∧ Fz X.K H M (.ref p.1) d ∧ readOf s.heap (.ref p.1) = d ∧ ∃ as, Reads s.heap (.ref p.1) d as := fun p hp => by
    obtain ⟨d, hd, ek, fd⟩ := en.from_ p hp
    obtain ⟨as, rd, _⟩ := Fz.reads I fd (u := .ref p.1) rfl
    exact ⟨d, hd, ek, fd, readOf_eq (pure_lay d (ok.row d hd).1.pure) rd, as, rd⟩
  refine sorted_el R (I.ok.hd hc) (readOf s.heap) ds (fun p hp => ?_) (fun u hu => (ok.row u hu).1.pure) ok.ord (by omega) fun s' p out c k g os hp hg pm pw => ?_
  · obtain ⟨d, hd, _, _, e, as, rd⟩ := data p hp
    rw [e]; exact ⟨⟨as, rd⟩, (ok.row d hd).1, hd⟩
  · have hn : H p = none := I.hok.fresh hp
    have each : ∀ v ∈ out.toList, ∃ p ∈ L, v = .ref p.1 := fun v m => by
      obtain ⟨p, hp, e⟩ := List.mem_map.mp (pm.mem_iff.mp m)
      exact ⟨p, hp, e.symm⟩
    have vals : Vals (out.toList.map bkV) out.toList := bkV_vals fun v m => let ⟨p, _, e⟩ := each v m; ⟨p.1, e⟩
    have fz : FzA X.K H M (out.toList.map bkV) (out.toList.map (readOf s.heap)) := fz_all fun v m => by
      obtain ⟨p, hp, e⟩ := each v m
      subst e
      obtain ⟨d, _, _, fd, e, _⟩ := data p hp
      rw [e]; exact fd
    have pmd : (out.toList.map (readOf s.heap)).Perm (L.map fun p => readOf s.heap (.ref p.1)) := by
      have := pm.map (readOf s.heap)
      rwa [List.map_map] at this
    have keys : (L.map fun p => readOf s.heap (.ref p.1)).map keyD = L.map (·.2) := by
      rw [List.map_map]
      refine List.map_congr_left fun p hp => ?_
      obtain ⟨d, _, ek, _, e, _⟩ := data p hp
      show keyD (readOf s.heap (.ref p.1)) = p.2
      rw [e, ek]
    have nd : (out.toList.map (readOf s.heap)).Nodup := by
      refine pmd.nodup_iff.mpr ?_
      have := R.nd
      rw [← keys] at this
      exact nodup_of_map this
    have mem : ∀ d, d ∈ out.toList.map (readOf s.heap) ↔ d ∈ ds := fun d => by
      rw [pmd.mem_iff]
      constructor
      · intro m
        obtain ⟨p, hp, e⟩ := List.mem_map.mp m
        obtain ⟨d', hd', _, _, e', _⟩ := data p hp
        rw [← e, e']; exact hd'
      · intro m
        obtain ⟨p, hp, e⟩ := List.mem_map.mp (en.all d m)
        obtain ⟨d', hd', ek, _, e', _⟩ := data p hp
        refine List.mem_map.mpr ⟨p, hp, ?_⟩
        rw [e']
        exact key_inj d' d (ok.row d' hd').1.pure (ok.row d m).1.pure (ek.symm.trans e)
    have asc : (out.toList.map (readOf s.heap)).Pairwise fun d e => ltD d e = true := by
      have pw2 : (out.toList.map (readOf s.heap)).Pairwise fun d e => rankD ds d ≤ rankD ds e := List.pairwise_map.mpr pw
      refine List.Pairwise.imp_of_mem (fun {d e} hd he z => ?_) (pw2.and nd)
      have m1 := (mem d).mp hd
      have m2 := (mem e).mp he
      rcases lt_tot d e (ok.row d m1).1.pure (ok.row e m2).1.pure (ok.ord d m1 e m2) z.2 with y | y
      · exact y
      · have := (rank_lt (fun u hu => (ok.row u hu).1.pure) ok.ord m2 m1).mpr y
        omega
    have hlen : (out.toList.map bkV).length ≤ sizeLine := by
      rw [List.length_map, pm.length_eq, List.length_map, sizeLine_eq]
      have := R.few
      omega
    have J : Inv X pins σ (upd H p (.lst (out.toList.map bkV))) { s with heap := s'.heap, gens := s'.gens, drawn := s'.drawn, toks := s'.toks } :=
      I.call (ch := []) (Un.laid k hp hn) (I.hok.laid k hp ⟨hlen, out.toList, c, vals, hg⟩) (by rw [g]; exact I.bare) fun _ z => nomatch z
    have same : s' = { s with heap := s'.heap, gens := s'.gens, drawn := s'.drawn, toks := s'.toks } := by
      cases s'; cases s; cases os; rfl
    rw [same]
    exact ⟨.ref p, _, J, rfl, q _ _ p ⟨mem, asc⟩ hn fz⟩
end
end HD

namespace HD
open PySem PySem.Spec PyProof.Rows PySem.SeqAt L2
/-- sorted(set(e)) -/
def dSortSet (fa : DE) : DE := fun Xd ρ M Q => fa Xd ρ M fun x M1 => match vw M1 x with
  | some (.list ds) => SetOk ds ∧ ∀ out, SortedOf ds out → Q (.d (.list out)) M1
  | _ => False
section
variable {X : Cx} {W : WX} {a : Expr} {fa : DE} {p p2 pos pos2 : Pos}
/-- the reading of the inner call -/
def tSetD (X : Cx) (ta : TA) : TE := fun σ H Q => ta σ H fun xs H1 => ∃ M ds, rSetD X.K X.prog X.w M ds xs H1 Q
theorem cr_setE (hc : X.calm = true) (hu : X.A.units + 64 < cLine) : CallR X (.type "set") (fun xs H Q => ∃ M ds, rSetD X.K X.prog X.w M ds xs H Q) := fun pins s σ H xs us Q I r ⟨M, ds, h⟩ => cr_setD hc hu M ds pins s σ H xs us Q I r h
theorem cr_sortedE (hc : X.calm = true) (hu : X.A.units + 64 < cLine) : CallR X (.builtin "sorted") (fun xs H Q => ∃ M ds, rSortedD X.K X.prog X.w M ds xs H Q) := fun pins s σ H xs us Q I r ⟨M, ds, h⟩ => cr_sortedD hc hu M ds pins s σ H xs us Q I r h
theorem ce_sortSet (hc : X.calm = true) (hu : X.A.units + 64 < cLine) (hg : Gl X "sorted") (hm : X.mg "sorted" = none) (hv : bootBuiltins "sorted" = some (.builtin "sorted")) (hg2 : Gl X "set") (hm2 : X.mg "set" = none) (hv2 : bootBuiltins "set" = some (.type "set")) (ha : CE X W a fa)
    (he : starEach (.Call (.Name "set" p2) [a] [] pos2 :: []) X.env = (false, eval (.Call (.Name "set" p2) [a] [] pos2) X.env) :: starEach [] X.env := by rfl) (hpl : (backTo pos (starEach [] X.env)).any (·.1) = false := by rfl)
    (he2 : starEach (a :: []) X.env = (false, eval a X.env) :: starEach [] X.env := by rfl) (hpl2 : (backTo pos2 (starEach [] X.env)).any (·.1) = false := by rfl) :
    CE X W (.Call (.Name "sorted" p) [.Call (.Name "set" p2) [a] [] pos2] [] pos) (dSortSet fa) where
  pe := PE.weak (pe_callB (cr_sortedE hc hu) hg hm hv (pa_cons (pe_callTy (cr_setE hc (by omega)) hg2 hm2 hv2 (pa_cons ha.pe pa_nil he2) (by decide) (by decide) he2 hpl2) pa_nil he) (by decide) (by decide) he hpl) fun σ H Q h => by
    obtain ⟨ρ, M, Xd, r, x, h⟩ := h
    refine emb.next r x ha.mono h fun y M1 v H1 e1 r1 x1 rv h1 => ?_
    split at h1
    · rename_i ds e
      obtain ⟨ok, h2⟩ := h1
      refine ⟨M1, ds, v, y, rfl, r1.mem, rv, e, ok, fun b L hb en => ⟨M1, ds, b, L, rfl, upd_same, r1.mem.new hb, ok, ⟨fun p hp => ?_, en.all⟩, fun out us q so hq fz => ?_⟩⟩
      · obtain ⟨d, hd, ek, fd⟩ := en.from_ p hp
        exact ⟨d, hd, ek, fd.ext (Ext.new hb)⟩
      · have ex := (e1.trans (Ext.new (o := SetX X.prog X.w b L) hb)).trans (Ext.new (o := .lst us) hq)
        have o2 := (r1.mem.new (o := SetX X.prog X.w b L) hb).new (o := .lst us) hq
        exact h2 out so _ _ ex o2 (.lst upd_same ((r1.mem.new (o := SetX X.prog X.w b L) hb).out hq) (fz.ext (Ext.new hq)))
    · exact h1.elim
  mono := fun Xd ρ M Q Q' hq h => ha.mono _ _ _ _ _ (fun x M1 h1 => by
    split at h1
    · exact ⟨h1.1, fun out so => hq _ _ (h1.2 out so)⟩
    · exact h1.elim) h
end
end HD

namespace HD
open PySem PySem.Spec PyProof.Rows L2

/-! ### a list times an int, that is going to be written -/
def gMulM : D2 := fun x y M Q => match vw M x, vw M y with
  | some (.list xs), some (.int k) => (-(2 ^ 63) ≤ k ∧ k < 2 ^ 63 ∧ xs.length * k.toNat ≤ sizeLine) ∧ ∀ p, M p = none → Q (.m p) (updM M p (List.replicate k.toNat xs).flatten)
  | _, _ => False
section
variable {X : Cx} {W : WX} {o e : Expr} {fo fe : DE} {pos apos : Pos}
theorem opd_mulM : OpD X (binaryOp .Mult) gMulM where
  op := OpR.weak op_rep fun x y H Q ⟨M, dx, dy, o, rx, ry, h⟩ => by
    unfold gMulM at h
    split at h
    · rename_i i j e1 e2
      obtain ⟨p, xs, rfl, h1, f1⟩ := vw_lst o rx e1
      cases vw_int ry e2
      obtain ⟨⟨c1, c2, c3⟩, q⟩ := h
      exact ⟨p, j, xs, rfl, rfl, h1, c1, c2, by rw [f1.length]; exact c3, fun r hr => fin_lstM q o (f1.rep _) hr⟩
    · exact h.elim
  mono := fun x y M Q Q' hq h => by
    unfold gMulM at h ⊢
    split at h
    · exact ⟨h.1, fun p hp => hq _ _ (h.2 p hp)⟩
    · exact h.elim

/-! ### xs.extend(ys), xs.pop(i) -/
def dExtend (fo fe : DE) : DE := fun Xd ρ M Q => fo Xd ρ M fun o M1 => match o with
  | .m a => fe Xd ρ M1 fun x M2 => match vw M2 x, M2 a with
    | some (.list es), some ds => ds.length + es.length ≤ sizeLine ∧ Q (.d .none) (updM M2 a (ds ++ es))
    | _, _ => False
  | _ => False
theorem ce_extend (ho : CE X W o fo) (he : CE X W e fe) (hbase : attributeBase o "extend" X.env (eval o X.env) = eval o X.env := by rfl)
    (hfew : ((backTo pos (starEach [e] X.env)).all (fun x => !x.1) && (backToKw pos (keywordEach [] X.env)).all (fun x => x.1.isSome)
      && decide ([e].length + ([] : List Keyword).length + (if ([] : List Keyword).isEmpty then 0 else 1) < 30)) = true := by rfl)
    (hline : (apos.endLine == pos.line) = true := by rfl) (hs : starEach [e] X.env = (false, eval e X.env) :: starEach [] X.env := by rfl) (hplain : (backTo pos (starEach [] X.env)).any (·.1) = false := by rfl) :
    CE X W (.Call (.Attribute o "extend" apos) [e] [] pos) (dExtend fo fe) where
  pe := PE.weak (pe_bm PySem.F.plainAttrs_list PySem.F.slot_list_extend PySem.F.type_list_extend mt_extend ho.pe (pa_cons he.pe pa_nil hs) hbase hfew hline hs hplain) fun σ H Q ⟨ρ, M, Xd, r, x, h⟩ => by
    refine emb.next r x ho.mono h fun y M1 v H1 e1 r1 x1 rv h1 => ?_
    split at h1
    · rename_i a
      obtain ⟨rfl, nm, hl⟩ := rv
      obtain ⟨ds1, em1⟩ : ∃ ds, M1 a = some ds := by cases q : M1 a with
        | none => exact absurd q nm
        | some ds => exact ⟨ds, rfl⟩
      obtain ⟨xs1, hx1, _⟩ := r1.mem.lst em1 hl
      refine ⟨.inl ⟨rfl, _, .of hx1⟩, ?_⟩
      refine emb.next r1 x1 he.mono h1 fun z M2 u H2 e2 r2 x2 ru h2 => ?_
      split at h2
      · rename_i es ds ev em
        obtain ⟨b, zs, rfl, hz, fz⟩ := vw_lst r2.mem ru ev
        obtain ⟨xs, hx, fx⟩ := r2.mem.lst em (e2.lst _ _ hx1)
        refine ⟨_, b, xs, zs, rfl, rfl, hx, hz, by rw [fx.length, fz.length]; exact h2.1, ?_⟩
        exact h2.2 _ _ ((e1.trans e2).trans (Ext.write em hx)) (r2.mem.write em hx (fx.append fz)) .non
      · exact h2.elim
    · exact h1.elim
  mono := fun Xd ρ M Q Q' hq h => ho.mono _ _ _ _ _ (fun y M1 h1 => by
    split at h1
    · exact he.mono _ _ _ _ _ (fun x M2 h2 => by
        split at h2
        · exact ⟨h2.1, hq _ _ h2.2⟩
        · exact h2.elim) h1
    · exact h1.elim) h
theorem FzA.out {K : PySem.W.Frag} {H : Hp} {M : Mem} : ∀ {vs : List V} {ds : List PyData} (n : Nat), FzA K H M vs ds → FzA K H M (vs.eraseIdx n) (ds.eraseIdx n)
  | _, _, _, .nil => .nil
  | _, _, 0, .cons _ t => t
  | _, _, n + 1, .cons h t => .cons h (FzA.out n t)
def dPopAt (fo fe : DE) : DE := fun Xd ρ M Q => fo Xd ρ M fun o M1 => match o with
  | .m a => fe Xd ρ M1 fun x M2 => match x, M2 a with
    | .d (.int k), some ds => ds.length ≤ 100000 ∧ match ixN ds.length k with
      | some j => match ds[j]? with
        | some d => Q (.d d) (updM M2 a (ds.eraseIdx j))
        | none => False
      | none => False
    | _, _ => False
  | _ => False
theorem ce_popAt (ho : CE X W o fo) (he : CE X W e fe) (hbase : attributeBase o "pop" X.env (eval o X.env) = eval o X.env := by rfl)
    (hfew : ((backTo pos (starEach [e] X.env)).all (fun x => !x.1) && (backToKw pos (keywordEach [] X.env)).all (fun x => x.1.isSome)
      && decide ([e].length + ([] : List Keyword).length + (if ([] : List Keyword).isEmpty then 0 else 1) < 30)) = true := by rfl)
    (hline : (apos.endLine == pos.line) = true := by rfl) (hs : starEach [e] X.env = (false, eval e X.env) :: starEach [] X.env := by rfl) (hplain : (backTo pos (starEach [] X.env)).any (·.1) = false := by rfl) :
    CE X W (.Call (.Attribute o "pop" apos) [e] [] pos) (dPopAt fo fe) where
  pe := PE.weak (pe_bm PySem.F.plainAttrs_list PySem.F.slot_list_pop PySem.F.type_list_pop mt_popAt ho.pe (pa_cons he.pe pa_nil hs) hbase hfew hline hs hplain) fun σ H Q ⟨ρ, M, Xd, r, x, h⟩ => by
    refine emb.next r x ho.mono h fun y M1 v H1 e1 r1 x1 rv h1 => ?_
    split at h1
    · rename_i a
      obtain ⟨rfl, nm, hl⟩ := rv
      obtain ⟨ds1, em1⟩ : ∃ ds, M1 a = some ds := by cases q : M1 a with
        | none => exact absurd q nm
        | some ds => exact ⟨ds, rfl⟩
      obtain ⟨xs1, hx1, _⟩ := r1.mem.lst em1 hl
      refine ⟨.inl ⟨rfl, _, .of hx1⟩, ?_⟩
      refine emb.next r1 x1 he.mono h1 fun z M2 u H2 e2 r2 x2 ru h2 => ?_
      split at h2
      · rename_i k ds em
        cases ru
        obtain ⟨few, h3⟩ := h2
        split at h3
        · rename_i j ej
          split at h3
          · rename_i d ed
            obtain ⟨xs, hx, fx⟩ := r2.mem.lst em (e2.lst _ _ hx1)
            obtain ⟨v, hv⟩ : ∃ v, xs[j]? = some v := by
              have := (List.getElem?_eq_some_iff.mp ed).1
              exact ⟨_, List.getElem?_eq_getElem (by rw [fx.length]; exact this)⟩
            obtain ⟨d', q1, q2⟩ := fx.getV hv
            rw [ed] at q1; cases q1
            obtain ⟨s1, _, s3, s4⟩ := ixN_seq ej
            refine ⟨_, xs, k, j, v, rfl, rfl, hx, by omega, by omega, by rw [fx.length]; exact s1, hv, ?_⟩
            refine h3 _ _ ((e1.trans e2).trans (Ext.write em hx)) (r2.mem.write em hx (fx.out j)) ?_
            exact q2.ext (Ext.write em hx)
          · exact h3.elim
        · exact h3.elim
      · exact h2.elim
    · exact h1.elim
  mono := fun Xd ρ M Q Q' hq h => ho.mono _ _ _ _ _ (fun y M1 h1 => by
    split at h1
    · exact he.mono _ _ _ _ _ (fun x M2 h2 => by
        split at h2
        · refine ⟨h2.1, ?_⟩
          have h3 := h2.2
          split at h3
          · split at h3
            · exact hq _ _ h3
            · exact h3.elim
          · exact h3.elim
        · exact h2.elim) h1
    · exact h1.elim) h

/-! ### max of a list of ints -/
def intsOf : List PyData → Option (List Int)
  | [] => some []
  | .int i :: r => (intsOf r).map (i :: ·)
  | _ :: _ => none
theorem fz_ints {K : PySem.W.Frag} {H : Hp} {M : Mem} : ∀ {vs : List V} {ds : List PyData} {ns : List Int}, FzA K H M vs ds → intsOf ds = some ns → vs = ns.map V.int
  | _, _, _, .nil, h => by cases h; rfl
  | _, .int i :: r, ns, .cons h t, e => by
    cases h
    simp only [intsOf] at e
    cases q : intsOf r with
    | none => rw [q] at e; cases e
    | some ms =>
      rw [q] at e; cases e
      rw [fz_ints t q]; rfl
  | _, .none :: _, _, .cons _ _, e => by simp [intsOf] at e
  | _, .bool _ :: _, _, .cons _ _, e => by simp [intsOf] at e
  | _, .str _ :: _, _, .cons _ _, e => by simp [intsOf] at e
  | _, .list _ :: _, _, .cons _ _, e => by simp [intsOf] at e
  | _, .tuple _ :: _, _, .cons _ _, e => by simp [intsOf] at e
  | _, .dict _ :: _, _, .cons _ _, e => by simp [intsOf] at e
def gMaxL : DF := fun xs M Q => match xs with
  | [x] => match vw M x with
    | some (.list ds) => match intsOf ds with
      | some ns => 0 < ns.length ∧ ∀ m, m ∈ ns → (∀ y ∈ ns, y ≤ m) → Q (.d (.int m)) M
      | none => False
    | _ => False
  | _ => False
theorem cd_maxL (hc : X.calm = true) : CallD X (.builtin "max") gMaxL where
  op := CallR.weak (cr_max hc) fun vs H Q ⟨M, xs, o, rx, h⟩ => by
    unfold gMaxL at h
    split at h
    · obtain ⟨v, rfl, rv⟩ := rx.one
      split at h
      · rename_i ds e
        split at h
        · rename_i ns en
          obtain ⟨a, ws, rfl, hl, fz⟩ := vw_lst o rv e
          have := fz_ints fz en
          subst this
          exact ⟨a, ns, rfl, .of hl, h.1, fun m hm hle => fin_d (h.2 m hm hle) o (.int _)⟩
        · exact h.elim
      · exact h.elim
    · exact h.elim
  mono := fun xs M Q Q' hq h => by
    unfold gMaxL at h ⊢
    split at h
    · split at h
      · split at h
        · exact ⟨h.1, fun m hm hle => hq _ _ (h.2 m hm hle)⟩
        · exact h.elim
      · exact h.elim
    · exact h.elim
end
end HD

namespace HD
open PySem PySem.Spec PyProof.Rows L2

/-! ### a dict with ints as keys, that is written -/
inductive DicL (K : PySem.W.Frag) (H : Hp) (M : Mem) : List (Key × V) → List (Int × PyData) → Prop
  | nil : DicL K H M [] []
  | cons {i : Int} {v : V} {d : PyData} {kvs : List (Key × V)} {l : List (Int × PyData)} : Fz K H M v d → DicL K H M kvs l → DicL K H M ((.inl i, v) :: kvs) ((i, d) :: l)
def encD (l : List (Int × PyData)) : List PyData := [.dict (l.map fun p => (.int p.1, p.2))]
def decI : List (PyData × PyData) → Option (List (Int × PyData))
  | [] => some []
  | (.int i, d) :: r => (decI r).map ((i, d) :: ·)
  | _ :: _ => none
def decD : List PyData → Option (List (Int × PyData))
  | [.dict kd] => decI kd
  | _ => none
theorem decI_enc : ∀ l : List (Int × PyData), decI (l.map fun p => (.int p.1, p.2)) = some l
  | [] => rfl
  | (i, d) :: l => by simp only [List.map_cons, decI, decI_enc l, Option.map_some]
theorem decD_enc (l : List (Int × PyData)) : decD (encD l) = some l := decI_enc l
def dicOf (M : Mem) (a : Addr) : Option (List (Int × PyData)) := (M a).bind decD
theorem dicOf_upd {M : Mem} {a : Addr} {l : List (Int × PyData)} : dicOf (updM M a (encD l)) a = some l := by
  unfold dicOf
  rw [updM_same]
  exact decD_enc l
def getI : List (Int × PyData) → Int → Option PyData
  | [], _ => none
  | (i, d) :: r, k => if i = k then some d else getI r k
def putI (l : List (Int × PyData)) (k : Int) (d : PyData) : List (Int × PyData) := if (l.any fun p => decide (p.1 = k)) = true then l.map (fun p => if p.1 = k then (p.1, d) else p) else l ++ [(k, d)]
section
variable {K : PySem.W.Frag} {H : Hp} {M : Mem}
theorem DicD.toL {kvs : List (Key × V)} {ds : List PyData} (h : DicD K H M kvs ds) : ∃ l, DicL K H M kvs l ∧ ds = encD l := by
  obtain ⟨ks, vs, es, rfl, hl, hf, rfl⟩ := h
  have : ∀ (ks : List Int) {vs : List V} {es : List PyData}, ks.length = vs.length → FzA K H M vs es → ∃ l, DicL K H M ((ks.map Sum.inl).zip vs) l ∧ (ks.map PyData.int).zip es = l.map fun p => (.int p.1, p.2) := by
    intro ks
    induction ks with
    | nil => intro vs es hl hf; exact ⟨[], .nil, rfl⟩
    | cons k ks ih =>
      intro vs es hl hf
      cases hf with
      | nil => simp at hl
      | cons h t =>
        obtain ⟨l, h1, h2⟩ := ih (by simpa using hl) t
        exact ⟨(k, _) :: l, .cons h h1, by simp only [List.map_cons, List.zip_cons_cons, h2]⟩
  obtain ⟨l, h1, h2⟩ := this ks hl hf
  exact ⟨l, h1, by rw [h2]; rfl⟩
theorem DicL.toD {kvs : List (Key × V)} {l : List (Int × PyData)} (h : DicL K H M kvs l) : DicD K H M kvs (encD l) := by
  refine ⟨l.map (·.1), kvs.map (·.2), l.map (·.2), ?_, ?_, ?_, ?_⟩
  · induction h with
    | nil => rfl
    | cons _ _ ih => simp only [List.map_cons, List.zip_cons_cons, ← ih]
  · induction h with
    | nil => rfl
    | cons _ _ ih => simpa using ih
  · induction h with
    | nil => exact .nil
    | cons f _ ih => exact .cons f ih
  · clear h
    induction l with
    | nil => rfl
    | cons p l ih =>
      simp only [List.map_cons, List.zip_cons_cons, List.cons.injEq, and_true, PyData.dict.injEq, encD] at ih ⊢
      rw [← ih]
      exact ⟨trivial, rfl⟩
theorem DicL.get {kvs : List (Key × V)} {l : List (Int × PyData)} {k : Int} {d : PyData} (h : DicL K H M kvs l) (e : getI l k = some d) : ∃ v, valV kvs (.inl k) = some v ∧ Fz K H M v d := by
  induction h with
  | nil => cases e
  | @cons i v d' kvs l f t ih =>
    simp only [getI] at e
    by_cases z : i = k
    · subst z
      rw [if_pos rfl] at e; cases e
      exact ⟨v, by simp [valV], f⟩
    · rw [if_neg z] at e
      obtain ⟨u, h1, h2⟩ := ih e
      refine ⟨u, ?_, h2⟩
      unfold valV at h1 ⊢
      rw [List.find?_cons]
      simp [z, h1]
theorem DicL.any {kvs : List (Key × V)} {l : List (Int × PyData)} {k : Int} (h : DicL K H M kvs l) : (kvs.any fun kv => decide (kv.1 = Sum.inl k)) = l.any fun p => decide (p.1 = k) := by
  induction h with
  | nil => rfl
  | cons f t ih => simp only [List.any_cons, ih]; congr 1; simp
theorem DicL.again {k : Int} {v : V} {d : PyData} (f : Fz K H M v d) : ∀ {kvs : List (Key × V)} {l : List (Int × PyData)}, DicL K H M kvs l → DicL K H M (kvs.map fun kv => if kv.1 = Sum.inl k then (kv.1, v) else kv) (l.map fun p => if p.1 = k then (p.1, d) else p)
  | _, _, .nil => .nil
  | _, _, .cons (i := i) g t => by
    simp only [List.map_cons]
    by_cases z : i = k
    · subst z
      simp only [if_true]
      exact .cons f (DicL.again f t)
    · rw [if_neg (by simpa using z), if_neg z]
      exact .cons g (DicL.again f t)
theorem DicL.last {k : Int} {v : V} {d : PyData} (f : Fz K H M v d) : ∀ {kvs : List (Key × V)} {l : List (Int × PyData)}, DicL K H M kvs l → DicL K H M (kvs ++ [(Sum.inl k, v)]) (l ++ [(k, d)])
  | _, _, .nil => .cons f .nil
  | _, _, .cons g t => .cons g (DicL.last f t)
theorem DicL.put {kvs : List (Key × V)} {l : List (Int × PyData)} {k : Int} {v : V} {d : PyData} (h : DicL K H M kvs l) (f : Fz K H M v d) : DicL K H M (putK kvs (.inl k) v) (putI l k d) := by
  unfold putK putI
  rw [h.any]
  split
  · exact h.again f
  · exact h.last f
theorem DicL.len {kvs : List (Key × V)} {l : List (Int × PyData)} (h : DicL K H M kvs l) : kvs.length = l.length := by
  induction h with
  | nil => rfl
  | cons _ _ ih => simp [ih]
end
section
variable {X : Cx} {W : WX} {o i e : Expr} {fo fi fe : DE} {pos : Pos}
/-- d[k], d such a dict -/
def dGetK (fo fi : DE) : DE := fun Xd ρ M Q => fo Xd ρ M fun o M1 => fi Xd ρ M1 fun y M2 => match o, y with
  | .k a, .d (.int k) => match dicOf M2 a with
    | some l => match getI l k with
      | some d => Q (.d d) M2
      | none => False
    | none => False
  | _, _ => False
theorem ce_getK (hu : X.A.units + 64 < cLine) (ho : CE X W o fo) (hi : CE X W i fi) (hs : NoSl i := by intro _ _; rfl) : CE X W (.Subscript o i pos) (dGetK fo fi) where
  pe := PE.weak (pe_dget (by omega) ho.pe hi.pe hs) fun σ H Q ⟨ρ, M, Xd, r, x, h⟩ => by
    refine emb.next r x ho.mono h fun y M1 v H1 e1 r1 x1 rv h1 => ?_
    refine emb.next r1 x1 hi.mono h1 fun z M2 u H2 e2 r2 x2 ru h2 => ?_
    split at h2
    · rename_i a k
      obtain ⟨rfl, nm, hk⟩ := RV.ext e2 rv
      cases ru
      split at h2
      · rename_i l el
        split at h2
        · rename_i d ed
          unfold dicOf at el
          cases em : M2 a with
          | none => exact absurd em nm
          | some ds =>
            rw [em] at el
            obtain ⟨kvs, hd, dd⟩ := r2.mem.dct em hk
            obtain ⟨l', dl, rfl⟩ := dd.toL
            have : l' = l := by
              have z : decD (encD l') = some l := el
              rw [decD_enc] at z
              exact Option.some.inj z
            subst this
            obtain ⟨v, hv, fz⟩ := dl.get ed
            exact ⟨a, v, rfl, by rw [← hv]; exact (DGet.k (k := .inl k) hd), h2 _ _ (e1.trans e2) r2.mem fz⟩
        · exact h2.elim
      · exact h2.elim
    · exact h2.elim
  mono := fun Xd ρ M Q Q' hq h => ho.mono _ _ _ _ _ (fun y M1 h1 => hi.mono _ _ _ _ _ (fun z M2 h2 => by
    split at h2
    · split at h2
      · split at h2
        · exact hq _ _ h2
        · exact h2.elim
      · exact h2.elim
    · exact h2.elim) h1) h
/-- d[k] = e -/
def dPutK (f fo fi : DE) : DS := fun D ρ M => f D.ex ρ M fun x M1 => fo D.ex ρ M1 fun o M2 => fi D.ex ρ M2 fun y M3 => match x, o, y with
  | .d d, .k a, .d (.int k) => match dicOf M3 a with
    | some l => l.length ≤ 100000 ∧ D.nx ρ (updM M3 a (encD (putI l k d)))
    | none => False
  | _, _, _ => False
theorem cs_putK {pt : Pos} (hu : X.A.units + 64 < cLine) (he : CE X W e fe) (ho : CE X W o fo) (hi : CE X W i fi)
    (ha : ∀ v, assign (.Subscript o i pt) X.env v = (do
      let ov ← holding [v] (eval o X.env)
      let iv ← holding [v, ov] (eval i X.env)
      standAt pt
      holding [v, ov, iv] (setItem ov iv v)
      release [v, ov, iv] []) := by intro _; rfl)
    (hs : swapsWithSole [.Subscript o i pt] e pos.line X.env = pure false := by rfl) (hw : swappedStores [.Subscript o i pt] e X.env = pure none := by rfl)
    (h1 : (assignEach [.Subscript o i pt] X.env).map (·.2) = [assign (.Subscript o i pt) X.env] := by rfl) : CS X W (.Assign [.Subscript o i pt] e pos) (dPutK fe fo fi) :=
  ⟨PS.weak (ps_asg he.pe (pg_sub ho.pe hi.pe (set_dict (by omega)) ha) hs hw h1) fun D σ H ⟨ρ, M, Dd, r, en, q⟩ => by
    refine emb.next r (en.x r) he.mono q fun x M1 v H1 e1 r1 x1 rv h1 => ?_
    refine emb.next r1 x1 ho.mono h1 fun y M2 u H2 e2 r2 x2 ru h2 => ?_
    refine emb.next r2 x2 hi.mono h2 fun z M3 z' H3 e3 r3 x3 rz h3 => ?_
    split at h3
    · rename_i d a k
      obtain ⟨rfl, nm, hk⟩ := RV.ext e3 ru
      cases rz
      have fv : Fz X.K H3 M3 v d := ((rv.ext e2).ext e3 : RV X.K H3 M3 v (.d d))
      split at h3
      · rename_i l el
        unfold dicOf at el
        cases em : M3 a with
        | none => exact absurd em nm
        | some ds =>
          rw [em] at el
          obtain ⟨kvs, hd, dd⟩ := r3.mem.dct em hk
          obtain ⟨l', dl, rfl⟩ := dd.toL
          have : l' = l := by
            have z : decD (encD l') = some l := el
            rw [decD_enc] at z
            exact Option.some.inj z
          subst this
          refine ⟨a, _, rfl, .inl ⟨kvs, .inl k, hd, rfl, Nat.lt_of_le_of_lt (by rw [dl.len]; exact h3.1) (by decide), rfl⟩, ?_⟩
          refine en.nx σ _ ρ _ (((e1.trans e2).trans e3).trans (Ext.put em (.dct hd))) ?_ h3.2
          exact r3.ext (Ext.put em (.dct hd)) (r3.mem.writeK em hd (dl.put fv).toD)
      · exact h3.elim
    · exact h3.elim⟩
end
end HD

namespace HD
open PySem PySem.Spec PyProof.Rows L2

/-! ### dict(pairs), the keys different ints -/
def pairsI : List PyData → Option (List (Int × PyData))
  | [] => some []
  | .tuple [.int i, d] :: r => (pairsI r).map ((i, d) :: ·)
  | _ :: _ => none
theorem putK_new {kvs : List (Key × V)} {k : Key} {v : V} (h : k ∉ kvs.map (·.1)) : putK kvs k v = kvs ++ [(k, v)] := by
  unfold putK
  rw [if_neg]
  intro z
  obtain ⟨kv, hm, e⟩ := List.any_eq_true.mp z
  exact h (List.mem_map.mpr ⟨kv, hm, by simpa using e⟩)
theorem merge_new : ∀ (more kvs : List (Key × V)), ((kvs ++ more).map (·.1)).Nodup → mergeK kvs more = kvs ++ more
  | [], kvs, _ => by simp [mergeK]
  | (k, v) :: more, kvs, h => by
    have e : mergeK kvs ((k, v) :: more) = mergeK (putK kvs k v) more := rfl
    have nk : k ∉ kvs.map (·.1) := by
      intro z
      rw [List.map_append, List.map_cons] at h
      exact (List.nodup_append.mp h).2.2 k z k (by simp) rfl
    rw [e, putK_new nk, merge_new more _ (by simpa using h)]
    simp
theorem fz_pairs {K : PySem.W.Frag} {H : Hp} {M : Mem} : ∀ {ws : List V} {ps : List PyData} {l : List (Int × PyData)}, FzA K H M ws ps → pairsI ps = some l →
    ∃ (bs : List Addr) (kvs : List (Key × V)), ws = bs.map V.ref ∧ Paired (fun p (kv : Key × V) => SqT K H p [kV kv.1, kv.2]) bs kvs ∧ DicL K H M kvs l
  | _, _, _, .nil, e => by cases e; exact ⟨[], [], rfl, .nil, .nil⟩
  | _, p :: ps, l, .cons f t, e => by
    unfold pairsI at e
    split at e
    · rename_i z; cases z
    · rename_i i d r z
      cases z
      cases q : pairsI ps with
      | none => rw [q] at e; cases e
      | some l' =>
        rw [q] at e; cases e
        obtain ⟨bs, kvs, e1, e2, e3⟩ := fz_pairs t q
        cases f with
        | tup h1 h2 =>
          cases h2 with
          | cons g1 h3 =>
            cases h3 with
            | cons g2 h4 =>
              cases h4
              cases g1
              exact ⟨_ :: bs, (.inl i, _) :: kvs, by rw [e1]; rfl, .cons h1.sq e2, .cons g2 e3⟩
    · cases e
theorem DicL.keys {K : PySem.W.Frag} {H : Hp} {M : Mem} {kvs : List (Key × V)} {l : List (Int × PyData)} (h : DicL K H M kvs l) : kvs.map (·.1) = (l.map (·.1)).map Sum.inl := by
  induction h with
  | nil => rfl
  | cons _ _ ih => simp only [List.map_cons, ih]
def gDictP : DF := fun xs M Q => match xs with
  | [x] => match vw M x with
    | some (.list ps) => match pairsI ps with
      | some l => (l.map (·.1)).Nodup ∧ ∀ p, M p = none → Q (.k p) (updM M p (encD l))
      | none => False
    | _ => False
  | _ => False
theorem cd_dictP {X : Cx} (hc : X.calm = true) : CallD X (.type "dict") gDictP where
  op := CallR.weak (call_dictP hc) fun vs H Q ⟨M, xs, o, rx, h⟩ => by
    unfold gDictP at h
    split at h
    · obtain ⟨v, rfl, rv⟩ := rx.one
      split at h
      · rename_i ps e
        split at h
        · rename_i l el
          obtain ⟨a, ws, rfl, hl, fz⟩ := vw_lst o rv e
          obtain ⟨bs, kvs, rfl, hp, dl⟩ := fz_pairs fz el
          refine ⟨a, bs, kvs, rfl, .of hl, hp, fun p hn => ?_⟩
          have nd : (kvs.map (·.1)).Nodup := by
            rw [dl.keys]
            exact h.1.map _ fun _ _ n e => n (by simpa using e)
          rw [merge_new kvs [] (by simpa using nd), List.nil_append]
          exact h.2 p (o.out hn) _ _ (Ext.newM hn) (o.newK hn dl.toD) ⟨rfl, by rw [updM_same]; simp, _, upd_same⟩
        · exact h.elim
      · exact h.elim
    · exact h.elim
  mono := fun xs M Q Q' hq h => by
    unfold gDictP at h ⊢
    split at h
    · split at h
      · split at h
        · exact ⟨h.1, fun p hp => hq _ _ (h.2 p hp)⟩
        · exact h.elim
      · exact h.elim
    · exact h.elim
end HD

namespace HD
open PySem PySem.Spec PyProof.Rows L2

/-! ### zip of a list or a tuple with a list or a tuple; sum of a list of ints -/
/-- t: a tuple, else a list -/
def SqX (K : PySem.W.Frag) (t : Bool) (H : Hp) (a : Addr) (xs : List V) : Prop := match t with
  | true => SqT K H a xs
  | false => SqL K H a xs
def IterX (t : Bool) (h : Heap) (i a : Addr) (n : Nat) : Prop := match t with
  | true => h.IsTupleIter i a n
  | false => h.IsListIter i a n
def RawX (t : Bool) (h : Heap) (a : Addr) (vs : Array Value) : Prop := match t with
  | true => h.IsTuple a vs
  | false => h.IsList a vs
def objX (t : Bool) (a : Addr) : Obj := match t with
  | true => { cls := .type "tuple_iterator", data := .fields #[.ref a, .int 0 0] }
  | false => { cls := .type "list_iterator", data := .fields #[.ref a, .int 0 0] }
theorem drawsX {P : Program} {w : World} {A : Around} (hh : A.handled = none) (t : Bool) (it l : Addr) (hne : l ≠ it) (vs : Array Value) :
    Draws P w A it [it, l] vs.size (fun i v => vs[i]? = some v) (fun i h => IterX t h it l i ∧ RawX t h l vs) := by
  cases t with
  | false => exact Draws.list hh it l hne vs
  | true => exact Draws.tuple hh it l hne vs
theorem beginsX (t : Bool) (a : Addr) (vs : Array Value) : Begins (.ref a) (objX t a) (fun h => RawX t h a vs) := by
  cases t with
  | false => exact begins_list a vs
  | true => exact begins_tuple a vs
theorem IterX.first {t : Bool} {h : Heap} {i a : Addr} (q : h.get? i = some (objX t a)) : IterX t h i a 0 := by
  cases t with
  | false => exact ⟨_, q, rfl, rfl⟩
  | true => exact ⟨_, q, rfl, rfl⟩
theorem IterX.obj {t : Bool} {h : Heap} {i a : Addr} {n : Nat} (q : IterX t h i a n) : ∃ o, h.get? i = some o ∧ ∀ v, o.data ≠ .cell v := by
  cases t with
  | false => obtain ⟨o, e, _, d⟩ := q; exact ⟨o, e, fun v z => by rw [d] at z; cases z⟩
  | true => obtain ⟨o, e, _, d⟩ := q; exact ⟨o, e, fun v z => by rw [d] at z; cases z⟩
theorem IterX.at {t : Bool} {h h' : Heap} {i a : Addr} {n : Nat} (q : IterX t h i a n) (k : ∀ o, h.get? i = some o → h'.get? i = some o) : IterX t h' i a n := by
  cases t with
  | false => exact Heap.IsListIter.at q k
  | true => exact Heap.IsTupleIter.at q k
theorem RawX.lt {t : Bool} {h : Heap} {a : Addr} {vs : Array Value} (q : RawX t h a vs) : a < h.objs.size := by
  cases t with
  | false => obtain ⟨o, e, _⟩ := q; exact Heap.lt_size e
  | true => obtain ⟨o, e, _⟩ := q; exact Heap.lt_size e
theorem rawX {X : Cx} {pins : List (Addr × Obj)} {σ : L2.St} {H : Hp} {s : Shared} (I : Inv X pins σ H s) {t : Bool} {a : Addr} {xs : List V} (q : SqX X.K t H a xs) :
    ∃ vs : List Value, vs.length = xs.length ∧ (∀ (i : Nat) (x : V), xs[i]? = some x → ∃ u, vs[i]? = some u ∧ RelV x u) ∧ RawX t s.heap a vs.toArray := by
  cases t with
  | false =>
    obtain ⟨vs, rv, p, _⟩ := I.list q
    exact ⟨vs, rv.length.symm, fun i x h => rv.get h, p.isList⟩
  | true =>
    obtain ⟨vs, rv, p, _⟩ := I.tuple q
    exact ⟨vs, rv.length.symm, fun i x h => rv.get h, p⟩
theorem injX {X : Cx} {pins : List (Addr × Obj)} {σ : L2.St} {H : Hp} {s : Shared} (I : Inv X pins σ H s) {t : Bool} {a : Addr} {xs ys : List V} (q : SqX X.K t H a xs) (q' : SqX X.K t H a ys) : xs = ys := by
  cases t with
  | false => exact I.list_inj q q'
  | true => exact I.tuple_inj q q'
/-- a walk over both at once, in new pairs -/
def ItzX (K : PySem.W.Frag) (t t' : Bool) (a b : Addr) : It where
  go := fun i H => ∃ xs ys, SqX K t H a xs ∧ SqX K t' H b ys ∧ i < xs.length ∧ i < ys.length
  yld := fun i H v H' => ∃ T x y, v = .ref T ∧ H T = none ∧ H' = upd H T (.tup [x, y]) ∧
    (∀ xs, SqX K t H a xs → xs[i]? = some x) ∧ (∀ ys, SqX K t' H b ys → ys[i]? = some y)
  stop := fun i H => ∃ xs ys, SqX K t H a xs ∧ SqX K t' H b ys ∧ i = min xs.length ys.length
structure StZX (t t' : Bool) (a b z TI TO i1 i2 : Addr) (i : Nat) (h : Heap) : Prop where
  z : IsZip h z TI TO .none
  inn : IsTupOf2 h TI (.ref i1) (.ref i2)
  out : ∃ x y, IsTupOf2 h TO x y
  one : IterX t h i1 a i
  two : IterX t' h i2 b i
theorem sepX {a b z TI TO i1 i2 : Addr} (D : ZipApart z TI TO i1 i2 a b) : ZipSep2 z TI TO i1 i2 [i1, a] [i2, b] where
  TIz := D.TIz
  TOz := D.TOz
  TITO := D.TITO
  TIi1 := D.TIi1
  mem1 := by simp
  zf1 := by simp only [List.mem_cons, List.not_mem_nil, or_false, not_or]; exact ⟨D.i1z.symm, D.l1z.symm⟩
  Tf1 := by simp only [List.mem_cons, List.not_mem_nil, or_false, not_or]; exact ⟨D.TOi1, D.l1TO.symm⟩
  TIi2 := D.TIi2
  mem2 := by simp
  zf2 := by simp only [List.mem_cons, List.not_mem_nil, or_false, not_or]; exact ⟨D.i2z.symm, D.l2z.symm⟩
  Tf2 := by simp only [List.mem_cons, List.not_mem_nil, or_false, not_or]; exact ⟨D.TOi2, D.l2TO.symm⟩
  sep1_2 := by simp only [List.mem_cons, List.not_mem_nil, or_false, not_or]; exact ⟨D.i12, D.l2i1.symm⟩
  sep2_1 := by simp only [List.mem_cons, List.not_mem_nil, or_false, not_or]; exact ⟨D.i12.symm, D.l1i2.symm⟩
theorem five {c z TI TO i1 i2 : Addr} (h : c ∈ [z, TI, TO, i1, i2]) : c = z ∨ c = TI ∨ c = TO ∨ c = i1 ∨ c = i2 := by simpa using h
theorem turn_zipX {P : Program} {w : World} {K : PySem.W.Frag} {elts : List Expr} {kk : Nat} {tpos : Pos} {t t' : Bool} {a b z TI TO i1 i2 : Addr} (D : ZipApart z TI TO i1 i2 a b) :
    Turn P w K (.Tuple elts kk tpos) (ItzX K t t' a b) [z, TI, TO, i1, i2] z (StZX t t' a b z TI TO i1 i2) where
  mem := by simp
  obj := fun i h S c hc => by
    obtain ⟨x, y, ho⟩ := S.out
    rcases five hc with q | q | q | q | q <;> subst q
    · exact ⟨_, S.z, fun _ e => nomatch e⟩
    · exact ⟨_, S.inn, fun _ e => nomatch e⟩
    · exact ⟨_, ho, fun _ e => nomatch e⟩
    · exact S.one.obj
    · exact S.two.obj
  keep := fun i h h' S k => by
    obtain ⟨x, y, ho⟩ := S.out
    exact ⟨k z (by simp) _ S.z, k TI (by simp) _ S.inn, ⟨x, y, k TO (by simp) _ ho⟩, S.one.at (k i1 (by simp)), S.two.at (k i2 (by simp))⟩
  item := fun X eP ew eK hc i pins s σ H E I hf S ⟨xs, ys, q1, q2, l1, l2⟩ => by
    subst eP ew eK
    obtain ⟨x0, y0, hTO⟩ := S.out
    obtain ⟨us, lu, gu, r1⟩ := rawX I q1
    obtain ⟨vs, lv, gv, r2⟩ := rawX I q2
    obtain ⟨u, hu, ru⟩ := gu i xs[i] (List.getElem?_eq_getElem l1)
    obtain ⟨v, hv, rv⟩ := gv i ys[i] (List.getElem?_eq_getElem l2)
    have hh : X.A.in1.handled = none := I.ok.hd hc
    have hzl : z < s.heap.objs.size := Heap.lt_size S.z
    refine wpAny_pyNext_zipD2_item (sepX D) (drawsX hh t i1 a D.l1i1 us.toArray) (drawsX hh t' i2 b D.l2i2 vs.toArray) S.z S.inn hTO ⟨S.one, r1⟩ ⟨S.two, r2⟩ (by simp; omega) (by simp; omega)
      fun w1 w2 h' tk y1 y2 nz nO n1 n2 nT _ hk => ?_
    have e1 : w1 = u := by simpa [hu] using y1.symm
    have e2 : w2 = v := by simpa [hv] using y2.symm
    subst e1 e2
    refine ⟨_, rfl, wpAny_letOwnedTupleGo_zip (s := { s with heap := h', toks := tk }) nz fun h'' nz' sb => ?_⟩
    have kp : ∀ c o, c ∉ [z, TI, TO, i1, i2] → s.heap.get? c = some o → h''.get? c = some o := fun c o hb e => by
      simp only [List.mem_cons, List.not_mem_nil, or_false, not_or] at hb
      exact (sb.2 c hb.1).trans (hk c o hb.1 hb.2.2.1 hb.2.2.2.1 hb.2.2.2.2 e)
    have nT' : h''.get? s.heap.objs.size = some { cls := .type "tuple", data := .seq #[w1, w2] } := (sb.2 _ (Nat.ne_of_gt hzl)).trans nT
    have fresh : ObjOk X.prog X.w (upd H s.heap.objs.size (.tup [xs[i], ys[i]])) h'' s.heap.objs.size (.tup [xs[i], ys[i]]) :=
      ⟨(by decide : 2 ≤ sizeLine), [w1, w2], .cons ru (.cons rv .nil), ⟨_, nT', rfl, _, rfl⟩⟩
    have I' := I.turnedNew (t' := tk) (ch := [z, TI, TO, i1, i2]) kp hf (Nat.le_refl _) fresh
    refine ⟨.ref s.heap.objs.size, _, I', rfl, ⟨_, xs[i], ys[i], rfl, I.hok.fresh (Nat.le_refl _), rfl, ?_, ?_⟩, ⟨nz', ?_, ⟨_, _, (sb.2 _ D.TOz).trans nO⟩, ?_, ?_⟩, fun c hcm => ?_⟩
    · intro l q; rw [injX I q q1]; exact List.getElem?_eq_getElem l1
    · intro l q; rw [injX I q q2]; exact List.getElem?_eq_getElem l2
    · exact (sb.2 _ D.TIz).trans (hk _ _ D.TIz D.TITO D.TIi1 D.TIi2 S.inn)
    · exact n1.1.at fun o e => (sb.2 _ D.i1z).trans e
    · exact n2.1.at fun o e => (sb.2 _ D.i2z).trans e
    · have hlt : c < s.heap.objs.size := by
        rcases five hcm with q | q | q | q | q <;> subst q
        · exact hzl
        · exact Heap.lt_size S.inn
        · exact Heap.lt_size hTO
        · obtain ⟨_, e, _⟩ := S.one.obj; exact Heap.lt_size e
        · obtain ⟨_, e, _⟩ := S.two.obj; exact Heap.lt_size e
      rw [upd_ne (Nat.ne_of_lt hlt)]
      exact (hf c hcm).1
  done := fun X eP ew eK hc i pins s σ H E I hf S ⟨xs, ys, q1, q2, hi⟩ => by
    subst eP ew eK
    obtain ⟨x0, y0, hTO⟩ := S.out
    obtain ⟨us, lu, _, r1⟩ := rawX I q1
    obtain ⟨vs, lv, _, r2⟩ := rawX I q2
    have hh : X.A.in1.handled = none := I.ok.hd hc
    refine wpAny_pyNext_zipD2_end (sepX D) (drawsX hh t i1 a D.l1i1 us.toArray) (drawsX hh t' i2 b D.l2i2 vs.toArray) S.z S.inn hTO ⟨S.one, r1⟩ ⟨S.two, r2⟩ (by simp; omega) (by simp; omega) (by simp; omega)
      fun h' tk hk => ⟨rfl, I.turnedL (t' := tk) (ch := [z, TI, TO, i1, i2]) (fun c o hb e => ?_) hf⟩
    simp only [List.mem_cons, List.not_mem_nil, or_false, not_or] at hb
    exact hk c o hb.1 hb.2.2.1 hb.2.2.2.1 hb.2.2.2.2 e
  self := fun A i s Q E S h => wpAny_pyIter_zip S.z h
/-- the wants of zip(e, e2) -/
def tZipX (K : PySem.W.Frag) (ta : TA) : TI := fun σ H R => ta σ H fun vs H1 => ∃ a b t t' xs ys, vs = [.ref a, .ref b] ∧ SqX K t H1 a xs ∧ SqX K t' H1 b ys ∧ R (ItzX K t t' a b) H1
theorem pi_zipX {X : Cx} {e e2 : Expr} {ta : TA} {p pos tpos : Pos} {elts : List Expr} {kk : Nat} (hg : Gl X "zip") (hm : X.mg "zip" = none) (ha : PA X [e, e2] ta)
    (hs : starEach [e, e2] X.env = (false, eval e X.env) :: starEach [e2] X.env := by rfl) (hpl : (backTo pos (starEach [e2] X.env)).any (·.1) = false := by rfl) :
    PI X (.Tuple elts kk tpos) (.Call (.Name "zip" p) [e, e2] [] pos) (tZipX X.K ta) := by
  refine ⟨fun pins s σ H R I h => Call_ (ld_blt I hg hm boot_zip (callWith_type1 (thn (ha.run pos pins s σ H _ I h) fun us s1 ⟨vs, H1, I1, r1, a, b, t, t', xs, ys, ex, q1, q2, q⟩ => ?_) hs hpl))⟩
  subst ex
  cases r1 with
  | cons r rr =>
    cases rr with
    | cons r' rr =>
      cases rr
      cases r
      cases r'
      obtain ⟨us, _, _, w1⟩ := rawX I1 q1
      obtain ⟨vs, _, _, w2⟩ := rawX I1 q2
      refine zip_begins2 (beginsX t a us.toArray) (beginsX t' b vs.toArray) w1 w2 fun h' hz hi ho o1 o2 _ hk => wpAny_pyIter_zip hz ?_
      have I2 : Inv X pins σ H1 { s1 with heap := h' } := I1.kept (t' := s1.toks) hk
      refine ⟨_, _, _, _, H1, rfl, I2, turn_zipX (PySem.W.ktu_apart s1.heap.objs.size a b w1.lt w2.lt), ⟨hz, hi, ⟨_, _, ho⟩, .first o1, .first o2⟩, fun c hcm => ?_, q⟩
      have hle : s1.heap.objs.size ≤ c := by
        rcases five hcm with z | z | z | z | z <;> subst z <;> omega
      exact I1.fpOk hle (I1.hok.fresh hle)
def StX (K : PySem.W.Frag) (t : Bool) (H : Hp) (M : Mem) (a : Addr) (xs : List V) : Prop := match t with
  | true => StT K H M a xs
  | false => StL K H M a xs
theorem StX.sq {K : PySem.W.Frag} {t : Bool} {H : Hp} {M : Mem} {a : Addr} {xs : List V} (h : StX K t H M a xs) : SqX K t H a xs := by
  cases t with
  | false => exact StL.sq h
  | true => exact StT.sq h
theorem StX.ext {K : PySem.W.Frag} {t : Bool} {H H' : Hp} {M M' : Mem} {a : Addr} {xs : List V} (e : Ext H M H' M') (h : StX K t H M a xs) : StX K t H' M' a xs := by
  cases t with
  | false => exact StL.ext e h
  | true => exact StT.ext e h
section
variable {K : PySem.W.Frag} {H : Hp} {M : Mem} {a b : Addr} {vs us : List V} {ds es : List PyData} {t t' : Bool}
theorem walkZX {n : Nat} (hn : n = min vs.length us.length) : Walk (ItzX K t t' a b) n (fun H => SqX K t H a vs ∧ SqX K t' H b us) (YPair (fun i => vs[i]?) (fun i => us[i]?)) where
  goes := fun i G hi q => ⟨vs, us, q.1, q.2, by omega, by omega⟩
  stops := fun G q => ⟨vs, us, q.1, q.2, hn⟩
  yields := fun i G v G' hi q ⟨T, x, z, h1, h2, h3, h4, h5⟩ => ⟨T, x, z, h1, h2, h3, h4 vs q.1, h5 us q.2⟩
theorem dwalk_zipX (h : StX K t H M a vs) (h' : StX K t' H M b us) (f : FzA K H M vs ds) (f' : FzA K H M us es) : DWalk K (ItzX K t t' a b) (pairsD ds es) (fun _ => True) H M := by
  have hl : (pairsD ds es).length = min vs.length us.length := by rw [pairsD, List.length_map, List.length_zip, f.length, f'.length]
  refine ⟨fun G => SqX K t G a vs ∧ SqX K t' G b us, YPair (fun i => vs[i]?) (fun i => us[i]?), by rw [hl]; exact walkZX rfl, fun G N e _ _ => ⟨(h.ext e).sq, (h'.ext e).sq⟩, fun i v G G' N hi e o _ ⟨T, x, y, h1, h2, h3, h4, h5⟩ => ?_⟩
  subst h1; subst h3
  obtain ⟨d1, q1, r1⟩ := (f.ext e).getV h4
  obtain ⟨d2, q2, r2⟩ := (f'.ext e).getV h5
  refine ⟨.d (.tuple [d1, d2]), ?_, Ext.new h2, o.new h2, .tup (.inl ⟨Rd.of upd_same, o.out h2⟩) (.cons (r1.ext (Ext.new h2)) (.cons (r2.ext (Ext.new h2)) .nil))⟩
  have z : (ds.zip es)[i]? = some (d1, d2) := by rw [List.getElem?_zip_eq_some]; exact ⟨q1, q2⟩
  rw [pairsD, List.getElem?_map, z]; rfl
/-- a list's or a tuple's items -/
def itemsD (x : DV) : Option (List PyData) := match x with
  | .d (.tuple ds) => some ds
  | .d (.list ds) => some ds
  | _ => none
theorem stX_of {v : V} {x : DV} (r : RV K H M v x) (h : itemsD x = some ds) : ∃ a t vs, v = .ref a ∧ StX K t H M a vs ∧ FzA K H M vs ds := by
  cases x with
  | d y =>
    cases y with
    | tuple es => cases h; cases r with | tup h2 f => exact ⟨_, true, _, rfl, h2, f⟩
    | list es => cases h; cases r with | lst h1 h2 f => exact ⟨_, false, _, rfl, .inl ⟨.inl h1, h2⟩, f⟩
    | _ => cases h
  | _ => cases h
end
section
variable {X : Cx} {W : WX} {a b : Expr} {t : DA} {p pos tpos : Pos} {elts : List Expr} {kk : Nat}
def iZipX (t : DA) : DI := fun Xd ρ M R => t Xd ρ M fun xs M1 => match xs with
  | [x, y] => match itemsD x, itemsD y with
    | some ds, some es => R (pairsD ds es) (fun _ => True) M1
    | _, _ => False
  | _ => False
theorem ci_zipX (hg : Gl X "zip") (hm : X.mg "zip" = none) (ha : CA X W [a, b] t) (hs : starEach [a, b] X.env = (false, eval a X.env) :: starEach [b] X.env := by rfl) (hpl : (backTo pos (starEach [b] X.env)).any (·.1) = false := by rfl) :
    CI X W (.Tuple elts kk tpos) (.Call (.Name "zip" p) [a, b] [] pos) (iZipX t) where
  pi := PI.weak (pi_zipX hg hm ha.pa hs hpl) fun σ H R ⟨ρ, M, Xd, r, x, h⟩ => embA.next r x ha.mono h fun ys M1 vs H1 e1 r1 x1 rv h1 => by
    split at h1
    · split at h1
      · rename_i ds es q1 q2
        obtain ⟨v, u, rfl, rv1, rv2⟩ := rv.two
        obtain ⟨a, t, vs, rfl, s1, f1⟩ := stX_of rv1 q1
        obtain ⟨b, t', us, rfl, s2, f2⟩ := stX_of rv2 q2
        exact ⟨_, _, _, _, _, _, rfl, s1.sq, s2.sq, h1 _ _ e1 r1.mem (dwalk_zipX s1 s2 f1 f2)⟩
      · exact h1.elim
    · exact h1.elim
  mono := fun Xd ρ M Q Q' hq h => ha.mono _ _ _ _ _ (fun x M1 h1 => by
    split at h1
    · split at h1
      · exact hq _ _ _ h1
      · exact h1.elim
    · exact h1.elim) h
end

/-! ### sum of a list of ints -/
section
variable {X : Cx}
def gSumL : DF := fun xs M Q => match xs with
  | [x] => match vw M x with
    | some (.list ds) => match intsOf ds with
      | some ns => Q (.d (.int ns.sum)) M
      | none => False
    | _ => False
  | _ => False
theorem cd_sumL (hc : X.calm = true) : CallD X (.builtin "sum") gSumL where
  op := CallR.weak (cr_sum hc) fun vs H Q ⟨M, xs, o, rx, h⟩ => by
    unfold gSumL at h
    split at h
    · obtain ⟨v, rfl, rv⟩ := rx.one
      split at h
      · rename_i ds e
        split at h
        · rename_i ns en
          obtain ⟨a, ws, rfl, hl, fz⟩ := vw_lst o rv e
          have := fz_ints fz en
          subst this
          exact ⟨a, ns, rfl, .of hl, fin_d h o (.int _)⟩
        · exact h.elim
      · exact h.elim
    · exact h.elim
  mono := fun xs M Q Q' hq h => by
    unfold gSumL at h ⊢
    split at h
    · split at h
      · split at h
        · exact hq _ _ h
        · exact h.elim
      · exact h.elim
    · exact h.elim
end
end HD

namespace HD
open PySem PySem.Spec PyProof.Rows L2

/-! ### a tuple times 1, 0 and less -/
theorem tup_mul1 (l : Addr) (its : Array Value) (n : Nat) (u : Tok) (dd : Option Addr) (sl : Array (Option Value)) :
    Meets (Builtin.«tuple.__mul__» ⟨[.ref l, .int 1 u], []⟩) (fun _ R s => s.heap.get? l = some { cls := .type "tuple", dict := dd, data := .seq its n, slots := sl } ∧ R (.ok (.ret (.ref l))) s) :=
  .of_wp fun prog w A R s h => by
    obtain ⟨hp, g, d, tk, os⟩ := s
    obtain ⟨hl, h⟩ := h
    have f1 := AutoSeq1.idx_int
    wp_walk using wpAny_loadPart' hl
    exact ⟨_, rfl, h⟩
theorem tup_mul0 (l : Addr) (its : Array Value) (n : Nat) (x : Int) (u : Tok) (dd : Option Addr) (sl : Array (Option Value)) (hx : x ≤ 0) (hx2 : -(2 ^ 63) ≤ x) (hi : its.isEmpty = false) :
    Meets (Builtin.«tuple.__mul__» ⟨[.ref l, .int x u], []⟩) (fun _ R s => s.heap.get? l = some { cls := .type "tuple", dict := dd, data := .seq its n, slots := sl } ∧
      R (.ok (.ret (.ref s.heap.objs.size))) { s with heap := s.heap.push { cls := .type "tuple", data := .seq #[] } }) :=
  .of_wp fun prog w A R s h => by
    obtain ⟨hp, g, d, tk, os⟩ := s
    obtain ⟨hl, h⟩ := h
    have f1 := AutoSeq1.idx_int
    have c0 : (decide (x < -(2 ^ 63)) || decide (x ≥ 2 ^ 63)) = false := by rw [decide_eq_false (by omega), decide_eq_false (by omega)] <;> rfl
    have c1 : (its.isEmpty || x == 1) = false := by rw [hi, Bool.false_or]; exact beq_eq_false_iff_ne.mpr (by omega)
    have c2 : (decide (x ≤ 0) || its.isEmpty) = true := by rw [decide_eq_true hx] <;> rfl
    wp_walk using wpAny_loadPart' hl
    repeat (first
      | (refine wpAny_ite_false (decide_eq_false (by rw [c0]; exact Bool.false_ne_true)) ?_; wp_walk using wpAny_loadPart' hl)
      | (refine wpAny_ite_false (decide_eq_false (by rw [c1]; exact Bool.false_ne_true)) ?_; wp_walk using wpAny_loadPart' hl)
      | (refine wpAny_ite_true (decide_eq_true (by rw [c2])) ?_; wp_walk using wpAny_loadPart' hl))
    exact ⟨_, rfl, h⟩
section
variable {X : Cx}
/-- a tuple times 1 is itself -/
def rRep1 (K : PySem.W.Frag) : R2 := fun x y H Q => ∃ l xs, x = .ref l ∧ y = .int 1 ∧ SqT K H l xs ∧ Q (.ref l) H
theorem op_rep1 : OpR X (binaryOp .Mult) (rRep1 X.K) := by
  intro pins s σ H x y v u Q I rx ry ⟨l, xs, ex, ey, hT, q⟩
  subst ex ey
  cases rx
  obtain ⟨t, rfl⟩ := ry
  obtain ⟨its, r, ⟨⟨cls, dd, data, sl⟩, ho, hc, n, hd⟩, hs⟩ := I.tuple hT
  simp only at hc hd
  subst hc hd
  have T : s.TypeIs (.ref l) "tuple" := ⟨_, ho, rfl⟩
  have e1 := tup_mul1 l its.toArray n t dd sl
  have e2 := int_rmul_tuple 1 t l its.toArray n dd sl
  refine wpAny_binaryOp_repeat_ref (T := "tuple") (U := "int") (by decide) T (fun s' => typeIs_int s' 1 t) noFill_tuple_mul F.fills_int_mul F.slot_int_rmul repeat_tuple F.slot_int_index.lookup
    (call_meets F.slot_int_rmul (typeIs_int s 1 t) F.entry_int_rmul (F.args_int_rmul_2 _ _) e2 ⟨ho, rfl, T, ?_⟩)
  exact call_meets F.slot_tuple_mul T F.entry_tuple_mul (F.args_tuple_mul_2 _ _) e1 ⟨ho, .ref l, H, I, rfl, q⟩
/-- a tuple times 0 or less is empty -/
def rRep0 (K : PySem.W.Frag) : R2 := fun x y H Q => ∃ l k xs, x = .ref l ∧ y = .int k ∧ SqT K H l xs ∧ (xs ≠ [] ∧ -(2 ^ 63) ≤ k ∧ k ≤ 0) ∧ ∀ p, H p = none → Q (.ref p) (upd H p (.tup []))
theorem op_rep0 : OpR X (binaryOp .Mult) (rRep0 X.K) := by
  intro pins s σ H x y v u Q I rx ry ⟨l, k, xs, ex, ey, hT, ⟨hne, h1, h2⟩, q⟩
  subst ex ey
  cases rx
  obtain ⟨t, rfl⟩ := ry
  obtain ⟨its, r, ⟨⟨cls, dd, data, sl⟩, ho, hc, n, hd⟩, hs⟩ := I.tuple hT
  simp only at hc hd
  subst hc hd
  have hi : its.toArray.isEmpty = false := by
    cases its with
    | nil => exact absurd (List.eq_nil_of_length_eq_zero r.length) hne
    | cons a b => rfl
  have T : s.TypeIs (.ref l) "tuple" := ⟨_, ho, rfl⟩
  have e1 := tup_mul0 l its.toArray n k t dd sl h2 h1 hi
  have e2 := int_rmul_tuple k t l its.toArray n dd sl
  refine wpAny_binaryOp_repeat_ref (T := "tuple") (U := "int") (by decide) T (fun s' => typeIs_int s' k t) noFill_tuple_mul F.fills_int_mul F.slot_int_rmul repeat_tuple F.slot_int_index.lookup
    (call_meets F.slot_int_rmul (typeIs_int s k t) F.entry_int_rmul (F.args_int_rmul_2 _ _) e2 ⟨ho, rfl, T, ?_⟩)
  refine call_meets F.slot_tuple_mul T F.entry_tuple_mul (F.args_tuple_mul_2 _ _) e1 ⟨ho, .ref s.heap.objs.size, _, I.laid (t' := s.toks) (o := .tup []) (fun b ob q => Heap.get?_push_of_some _ q) (Nat.le_refl _) ?_, rfl, q _ (I.hok.fresh (Nat.le_refl _))⟩
  exact ⟨Nat.zero_le _, [], .nil, IsTup.new _ _⟩
/-- a tuple times an int of 1000 at most -/
def gRepT : D2 := fun x y M Q => match x, y with
  | .d (.tuple xs), .d (.int k) => (xs ≠ [] ∧ -(2 ^ 63) ≤ k ∧ k ≤ 1000 ∧ xs.length ≤ 1000) ∧ Q (.d (.tuple (List.replicate k.toNat xs).flatten)) M
  | _, _ => False
theorem opd_repT : OpD X (binaryOp .Mult) gRepT where
  op := OpR.weak (OpR.orr (OpR.orr op_rep1 op_rep0) op_repT) fun x y H Q ⟨M, dx, dy, o, rx, ry, h⟩ => by
    unfold gRepT at h
    split at h
    · rename_i xs k
      cases rx with
      | tup h1 f1 =>
        cases ry
        obtain ⟨⟨c1, c2, c3, c4⟩, q⟩ := h
        have hne := fun z => c1 (f1.nil_iff.mp z)
        by_cases k1 : k = 1
        · subst k1
          refine .inl (.inl ⟨_, _, rfl, rfl, h1.sq, ?_⟩)
          have e : (List.replicate (1 : Int).toNat xs).flatten = xs := by simp
          rw [e] at q
          exact fin_d q o (.tup h1 f1)
        · by_cases k0 : k ≤ 0
          · refine .inl (.inr ⟨_, k, _, rfl, rfl, h1.sq, ⟨hne, c2, k0⟩, fun p hp => ?_⟩)
            have e : (List.replicate k.toNat xs).flatten = [] := by rw [show k.toNat = 0 by omega]; rfl
            rw [e] at q
            exact fin_tup q o .nil hp
          · exact .inr ⟨_, k, _, rfl, rfl, h1.sq, hne, by omega, c3, by rw [f1.length]; exact c4, fun r hr => fin_tup q o (f1.rep _) hr⟩
    · exact h.elim
  mono := fun x y M Q Q' hq h => by
    unfold gRepT at h ⊢
    split at h
    · exact ⟨h.1, hq _ _ h.2⟩
    · exact h.elim
end
end HD

namespace HD
open PySem PySem.Spec PyProof.Rows HD
open L2 (kitB atI)

theorem line1 {n : Nat} (h : n ≤ 100000) : n ≤ sizeLine := Nat.le_trans h (by decide)
theorem at_0 (a b c : PyData) : atI [a, b, c] 0 = some a := rfl
theorem at_1 (a b c : PyData) : atI [a, b, c] 1 = some b := rfl
theorem at_2 (a b c : PyData) : atI [a, b, c] 2 = some c := rfl
theorem cut_to (ds : List PyData) (k : Nat) (h : k ≤ ds.length) : HD.cutD ds none (some (k : Int)) = ds.take k := by
  unfold HD.cutD
  rw [HT.sIx_nat, HT.sIx_none, List.drop_zero, Nat.min_eq_left h, Nat.sub_zero]
theorem cut_from (ds : List PyData) (k : Nat) (h : k ≤ ds.length) : HD.cutD ds (some (k : Int)) none = ds.drop k := by
  unfold HD.cutD
  rw [HT.sIx_nat, HT.sIx_none, Nat.min_eq_left h, List.take_of_length_le (by rw [List.length_drop]; omega)]
theorem bools_map {α : Type} (g : α → Bool) : ∀ rs : List α, boolsOf (rs.map fun r => .bool (g r)) = some (rs.map g)
  | [] => rfl
  | r :: rs => by simp only [List.map_cons, boolsOf, bools_map g rs, Option.map_some]
theorem flt_d (g : PyData → PyData) : ∀ rs : List PyData, (rs.map DV.d).filterMap (fun x => match x with | .d r => some (g r) | _ => none) = rs.map g
  | [] => rfl
  | r :: rs => by simp only [List.map_cons, List.filterMap_cons, flt_d g rs]
def Sm (i : Int) : Prop := -100 ≤ i ∧ i ≤ 100
theorem Sm.mul {i j : Int} (h : Sm i) : L2.CMul i j ∨ L2.CMulW i j := .inl (.inl ⟨by unfold Sm at h; omega, by unfold Sm at h; omega⟩)
theorem at0 (d : PyData) (r : List PyData) : atI (d :: r) 0 = some d := by simp [atI, L2.ixN]
theorem cmp_int (i j : Int) : (Cmp (.int i)) ∧ noDict (.int j) = true := ⟨⟨rfl, by simp [PyData.depth]⟩, rfl⟩
theorem line2 {n : Nat} (h : n < 100000) : n < sizeLine := Nat.lt_of_lt_of_le h (by decide)
theorem str_cmp (x y : Str) : Cmp (.str x) ∧ noDict (.str y) = true := ⟨⟨rfl, by simp [PyData.depth]⟩, rfl⟩
theorem str_same (x : Str) : PyData.eqv (.str x) (.str x) = true := eqv_same _ rfl
theorem bool_shows (b : Bool) : Shows (.bool b) := (⟨rfl, Nat.zero_le _, Nat.zero_le _⟩ : Fit 0 0 0 (.bool b)).shows (by decide) (by decide) (by decide)
theorem p30 : L2.CPow 10 30 := by unfold L2.CPow; decide
def one1 (f : PyData → PyData) : List PyData → PyData := fun ds => match ds with | [d] => f d | _ => .none
def two2 (f : PyData → PyData → PyData) : List PyData → PyData := fun ds => match ds with | [d, e] => f d e | _ => .none
/-- an item's data, told by g -/
def onD (g : PyData → Option PyData) : DV → Option PyData := fun x => match x with
  | .d d => g d
  | _ => none
theorem flt_on (g : PyData → Option PyData) : ∀ rs : List PyData, (rs.map DV.d).filterMap (onD g) = rs.filterMap g
  | [] => rfl
  | r :: rs => by
    have e : onD g (DV.d r) = g r := rfl
    simp only [List.map_cons, List.filterMap_cons, e, flt_on g rs]
theorem flt_onS (g : PyData → PyData) (rs : List PyData) : (rs.map DV.d).filterMap (onD fun d => some (g d)) = rs.map g := by
  rw [flt_on, List.filterMap_eq_map']
/-- 1 for each that fails: none is left exactly if all pass -/
theorem ones (g : PyData → Bool) : ∀ xs : List PyData, (xs.filterMap fun d => if g d then none else some (PyData.int 1)) = [] ↔ xs.all g = true
  | [] => by simp
  | x :: xs => by
    cases h : g x with
    | true => simp only [List.filterMap_cons, h, if_true, List.all_cons, Bool.true_and]; exact ones g xs
    | false => simp [List.filterMap_cons, h]
theorem ones_eq (g : PyData → Bool) (xs : List PyData) : (xs.filterMap fun d => if g d then none else some (PyData.int 1)).isEmpty = xs.all g := by
  cases h : xs.all g with
  | true => rw [(ones g xs).mpr h]; rfl
  | false =>
    have : (xs.filterMap fun d => if g d then none else some (PyData.int 1)) ≠ [] := fun e => by rw [(ones g xs).mp e] at h; cases h
    cases q : (xs.filterMap fun d => if g d then none else some (PyData.int 1)) with
    | nil => exact absurd q this
    | cons a b => rfl

end HD

namespace HD
open PySem PySem.Spec PyProof.Rows HD
open L2 (kitB atI)


abbrev c__law_pen : DSp := c_pen
abbrev c__law_fresh : DSp := c_fresh
abbrev c__law_draw : DSp := c_draw
abbrev c__law_one_of : DSp := c_one_of
theorem PenStep.own {p : Addr} {M M1 : Mem} {gs : List Int} {seat rest : Int} (s : Keeps p M M1) (h : gs.length ≤ 63) (h0 : 0 ≤ seat) : PenStep p M (updM M1 p [.list (gs.map .int), .int seat, .int rest]) :=
  ⟨⟨gs, seat, rest, updM_same, h, h0⟩, fun a ds n q => by rw [updM_ne n]; exact s a ds n q⟩
theorem ix31 : L2.ixN 3 1 = some 1 := rfl
theorem ix32 : L2.ixN 3 2 = some 2 := rfl
theorem at_len (gs : List Int) (s : Int) (h : gs ≠ []) : ∃ g, atI (gs.map PyData.int) (s % (gs.length : Int)) = some (.int g) := by
  have hl : 0 < gs.length := by cases gs with | nil => exact absurd rfl h | cons a b => simp
  have h1 : 0 ≤ s % (gs.length : Int) := Int.emod_nonneg _ (by omega)
  have h2 : s % (gs.length : Int) < gs.length := Int.emod_lt_of_pos _ (by omega)
  have h3 : (s % (gs.length : Int)).toNat < gs.length := by omega
  refine ⟨gs[(s % (gs.length : Int)).toNat], ?_⟩
  unfold atI L2.ixN
  rw [if_pos h1, if_pos (by simpa using h2)]
  simp [h3]
theorem range_mem {i : Int} {n : Nat} {x : DV} (h : x ∈ rangeD i n) : ∃ k : Nat, k < n ∧ x = .d (.int (i + k)) := by
  unfold rangeD at h
  obtain ⟨k, hk, rfl⟩ := List.mem_map.mp h
  exact ⟨k, by simpa using hk, rfl⟩
theorem p18 : L2.CPow 10 18 := by unfold L2.CPow; decide

def g__law_pen : DS :=
  (dRet (dLstM (dCons (dFun gList (dCons (dSl (dVar 0) oNo (oSome (dC (.int 63)))) dNil)) (dCons (dC (.int 0)) (dCons (dC (.int 0)) dNil)))))
theorem len__law_pen : ∀ xs M, (c__law_pen).pre xs M → xs.length = 1 := by
  rintro _ M ⟨a, ns, rfl⟩; rfl
theorem sp__law_pen : ∀ xs M, (c__law_pen).pre xs M → g__law_pen (ends c__law_pen xs M) (startD ["script"] xs) M := by
  rintro _ M ⟨a, ns, rfl⟩
  simp only [g__law_pen, dSeq, dNext, dRet, dRetN, dIfS, dDrop, dAsg, dPar, dPut, dSet1, setT, setAll, dVar, dC, dBin, dUn, dFun, dNot, chain_eq, dTup, dLst, dLstM, and_eq, or_eq, dIf, tVal, tAnd2, tOr2, tNot1, dCall, dCons, dNil, gAdd, gAddM, gSub, gMod, gPow, gMul, gNeg, gLt, gLe, gGt, gGe, gInt, gInt0, gIx, dSl, oNo, oSome, gSl, gLen, gInt1, gList, gListM, seqOf, gTuple, gMin2, gMax2, gRepr, dIsi, dTyEq, dAppend, dRev, dDict0, dRaise, dTry, catching, inSuite, dFld, vw, allD, gSumL, itemsD, iZipX, Nat.reduceAdd, iRange1, startD, ends, wipeD, lcTurn, noX, iTupD, iLst, iEnumD, tAll, dLc, dLcM, dFor, gEqC, gNeC, gBools, boolsOf, List.map_cons, List.map_nil, List.length_cons, List.length_nil, List.replicate, List.cons_append, List.nil_append, List.getElem?_cons_zero, List.getElem?_cons_succ, List.set_cons_zero, List.set_cons_succ, Option.map_some, Option.map_none]
  refine ⟨by decide, fun p hp => ?_⟩
  refine ⟨p, rfl, hp, ?_, Sub.refl.upd hp⟩
  have e : HD.cutD (ns.map PyData.int) none (some 63) = (ns.take 63).map .int := by
    unfold HD.cutD
    rw [show (63 : Int) = ((63 : Nat) : Int) from rfl, HT.sIx_nat, HT.sIx_none, List.drop_zero, Nat.sub_zero, List.length_map, ← List.map_take]
    congr 1
    rw [List.take_eq_take_iff]; omega
  exact ⟨ns.take 63, 0, 0, by rw [updM_same, e], by simp; omega, by decide⟩

def g__law_fresh : DS :=
  (dSeq (dPar 1 2 (dCons (dBin gIx (dVar 0) (dC (.int 1))) (dCons (dBin gIx (dVar 0) (dC (.int 0))) dNil)))
    (dSeq (dPut (dBin gAdd (dVar 1) (dC (.int 1))) (dVar 0) (dC (.int 1)))
    (dSeq (dAsg (dIf (tVal (dBin gNeC (dVar 2) (dLst dNil))) (dBin gIx (dVar 2) (dBin gMod (dFun gInt1 (dCons (dVar 1) dNil)) (dFun gLen (dCons (dVar 2) dNil)))) (dC (.int 0))) (.one 3))
    (dSeq (dIfS (tAnd2 (tVal (dBin gLt (dVar 1) (dFun gLen (dCons (dVar 2) dNil)))) (tVal (dBin gGe (dVar 3) (dBin gPow (dC (.int 10)) (dC (.int 18))))))
    (dRet (dBin gSub (dVar 3) (dBin gPow (dC (.int 10)) (dC (.int 18)))))
    dNext)
    (dSeq (dAsg (dC (.int 2305843009213693951)) (.one 4))
    (dSeq (dAsg (dBin gMod (dFun gInt1 (dCons (dBin gAdd (dBin gAdd (dBin gMul (dVar 3) (dC (.int 48271))) (dBin gMul (dC (.int 60013)) (dVar 1))) (dC (.int 31))) dNil)) (dVar 4)) (.one 5))
    (dSeq (dAsg (dVar 5) (.one 6))
    (dSeq (dFor (iRange1 (dCons (dC (.int 6)) dNil)) (.one 7)
    (dSeq (dAsg (dBin gMod (dFun gInt1 (dCons (dBin gAdd (dBin gAdd (dBin gMul (dVar 5) (dVar 5)) (dBin gMul (dBin gMul (dC (.int 70139)) (dBin gAdd (dVar 7) (dC (.int 5)))) (dBin gAdd (dVar 1) (dC (.int 1))))) (dVar 3)) dNil)) (dVar 4)) (.one 5))
    (dAsg (dBin gAdd (dBin gMul (dVar 6) (dVar 4)) (dVar 5)) (.one 6))))
    (dRet (dVar 6))))))))))
theorem len__law_fresh : ∀ xs M, (c__law_fresh).pre xs M → xs.length = 1 := by
  rintro _ M ⟨p, rfl, _⟩; rfl

theorem fresh_loop {p : Addr} {M0 M1 : Mem} {x0 x2 : Option DV} {seat cell : Int} (hs : PenStep p M0 M1) (body : DS) (D : DEnds)
    (hb : ∀ (lap : Nat) (st fo : Int) (y : Option DV) (nx : DEnv → Mem → Prop), lap < 6 → 0 ≤ st → st < 2305843009213693951 → (∀ ρ' M', (∃ st' fo', 0 ≤ st' ∧ st' < 2305843009213693951 ∧ ρ' = [x0, some (.d (.int seat)), x2, some (.d (.int cell)), some (.d (.int 2305843009213693951)), some (.d (.int st')), some (.d (.int fo')), some (.d (.int lap))] ∧ M' = M1) → nx ρ' M') →
      body { D with nx := nx, ct := nx, bk := D.nx } [x0, some (.d (.int seat)), x2, some (.d (.int cell)), some (.d (.int 2305843009213693951)), some (.d (.int st)), some (.d (.int fo)), some (.d (.int lap))] M1)
    (hn : ∀ (st fo : Int) (y : Option DV), D.nx [x0, some (.d (.int seat)), x2, some (.d (.int cell)), some (.d (.int 2305843009213693951)), some (.d (.int st)), some (.d (.int fo)), y] M1) {st fo : Int} {y : Option DV} (h0 : 0 ≤ st) (h1 : st < 2305843009213693951) :
    forD (fun _ => True) (.one 7) body (rangeD 0 6) D [x0, some (.d (.int seat)), x2, some (.d (.int cell)), some (.d (.int 2305843009213693951)), some (.d (.int st)), some (.d (.int fo)), y] M1 := by
  refine forD_run (fun r ρ M' => (∀ x ∈ r, ∃ k : Nat, k < 6 ∧ x = .d (.int k)) ∧ M' = M1 ∧ ∃ st fo y, 0 ≤ st ∧ st < 2305843009213693951 ∧ ρ = [x0, some (.d (.int seat)), x2, some (.d (.int cell)), some (.d (.int 2305843009213693951)), some (.d (.int st)), some (.d (.int fo)), y]) (fun _ _ _ _ => trivial) ?_ ?_ _ _ _ ⟨?_, rfl, st, fo, y, h0, h1, rfl⟩
  · rintro x r ρ M nx ⟨hx, rfl, st, fo, y, h0, h1, rfl⟩ hn
    obtain ⟨k, hk, rfl⟩ := hx x (by simp)
    exact hb k st fo y nx hk h0 h1 fun ρ' M' ⟨st', fo', a, b, c, d⟩ => hn ρ' M' ⟨fun z hz => hx z (by simp [hz]), d, st', fo', _, a, b, c⟩
  · rintro ρ M ⟨_, rfl, st, fo, y, _, _, rfl⟩
    exact hn st fo y
  · intro x hx
    obtain ⟨k, hk, rfl⟩ := range_mem hx
    exact ⟨k, hk, by simp⟩

theorem CM_l {i j : Int} (h : -(2 ^ 64) < i) (h2 : i < 2 ^ 64) : L2.CMul i j ∨ L2.CMulW i j := .inl (.inl ⟨h, h2⟩)
theorem CM_r {i j : Int} (h : -(2 ^ 64) < j) (h2 : j < 2 ^ 64) : L2.CMul i j ∨ L2.CMulW i j := .inl (.inr ⟨h, h2⟩)

theorem sp__law_fresh : ∀ xs M, (c__law_fresh).pre xs M → g__law_fresh (ends c__law_fresh xs M) (startD ["pen", "seat", "given", "cell", "prime", "state", "found", "lap"] xs) M := by
  rintro _ M ⟨p, rfl, gs, seat, rest, hM, hl, h0⟩
  have hS : PenStep p M (updM M p [.list (gs.map .int), .int (seat + 1), .int rest]) := PenStep.own (fun _ _ _ h => h) hl (by omega)
  simp only [g__law_fresh, dSeq, dNext, dRet, dRetN, dIfS, dDrop, dAsg, dPar, dPut, dSet1, setT, setAll, dVar, dC, dBin, dUn, dFun, dNot, chain_eq, dTup, dLst, dLstM, and_eq, or_eq, dIf, tVal, tAnd2, tOr2, tNot1, dCall, dCons, dNil, gAdd, gAddM, gSub, gMod, gPow, gMul, gNeg, gLt, gLe, gGt, gGe, gInt, gInt0, gIx, dSl, oNo, oSome, gSl, gLen, gInt1, gList, gListM, seqOf, gTuple, gMin2, gMax2, gRepr, dIsi, dTyEq, dAppend, dRev, dDict0, dRaise, dTry, catching, inSuite, dFld, vw, allD, gSumL, itemsD, iZipX, Nat.reduceAdd, iRange1, startD, ends, wipeD, lcTurn, noX, iTupD, iLst, iEnumD, tAll, dLc, dLcM, dFor, gEqC, gNeC, gBools, boolsOf, List.map_cons, List.map_nil, List.length_cons, List.length_nil, List.replicate, List.cons_append, List.nil_append, List.getElem?_cons_zero, List.getElem?_cons_succ, List.set_cons_zero, List.set_cons_succ, Option.map_some, Option.map_none, hM, at_0, at_1, at_2, ix31, ix32]
  cases gs with
  | nil =>
    simp only [List.map_nil, List.isEmpty_nil, Bool.not_true, List.length_nil]
    refine ⟨Nat.zero_le _, ?_⟩
    cases hc : decide (seat < ((0 : Nat) : Int)) with
    | true => exact absurd h0 (by simp at hc; omega)
    | false =>
      simp only []
      refine ⟨CM_r (by decide) (by decide), CM_l (by decide) (by decide), by decide, ⟨by decide, by decide⟩, ?_⟩
      refine fresh_loop hS _ _ ?_ ?_ (Int.emod_nonneg _ (by decide)) (Int.emod_lt_of_pos _ (by decide))
      · intro lap st fo y nx hlap h0 h1 hn
        simp only [dSeq, dNext, dRet, dRetN, dIfS, dDrop, dAsg, dPar, dPut, dSet1, setT, setAll, dVar, dC, dBin, dUn, dFun, dNot, chain_eq, dTup, dLst, dLstM, and_eq, or_eq, dIf, tVal, tAnd2, tOr2, tNot1, dCall, dCons, dNil, gAdd, gAddM, gSub, gMod, gPow, gMul, gNeg, gLt, gLe, gGt, gGe, gInt, gInt0, gIx, dSl, oNo, oSome, gSl, gLen, gInt1, gList, gListM, seqOf, gTuple, gMin2, gMax2, gRepr, dIsi, dTyEq, dAppend, dRev, dDict0, dRaise, dTry, catching, inSuite, dFld, vw, allD, gSumL, itemsD, iZipX, Nat.reduceAdd, iRange1, startD, ends, wipeD, lcTurn, noX, iTupD, iLst, iEnumD, tAll, dLc, dLcM, dFor, gEqC, gNeC, gBools, boolsOf, List.map_cons, List.map_nil, List.length_cons, List.length_nil, List.replicate, List.cons_append, List.nil_append, List.getElem?_cons_zero, List.getElem?_cons_succ, List.set_cons_zero, List.set_cons_succ, Option.map_some, Option.map_none]
        exact ⟨CM_l (by omega) (by omega), CM_l (by decide) (by decide), CM_l (by omega) (by omega), by decide, CM_r (by decide) (by decide), hn _ _ ⟨_, _, Int.emod_nonneg _ (by decide), Int.emod_lt_of_pos _ (by decide), rfl, rfl⟩⟩
      · intro st fo y
        simp only [dSeq, dNext, dRet, dRetN, dIfS, dDrop, dAsg, dPar, dPut, dSet1, setT, setAll, dVar, dC, dBin, dUn, dFun, dNot, chain_eq, dTup, dLst, dLstM, and_eq, or_eq, dIf, tVal, tAnd2, tOr2, tNot1, dCall, dCons, dNil, gAdd, gAddM, gSub, gMod, gPow, gMul, gNeg, gLt, gLe, gGt, gGe, gInt, gInt0, gIx, dSl, oNo, oSome, gSl, gLen, gInt1, gList, gListM, seqOf, gTuple, gMin2, gMax2, gRepr, dIsi, dTyEq, dAppend, dRev, dDict0, dRaise, dTry, catching, inSuite, dFld, vw, allD, gSumL, itemsD, iZipX, Nat.reduceAdd, iRange1, startD, ends, wipeD, lcTurn, noX, iTupD, iLst, iEnumD, tAll, dLc, dLcM, dFor, gEqC, gNeC, gBools, boolsOf, List.map_cons, List.map_nil, List.length_cons, List.length_nil, List.replicate, List.cons_append, List.nil_append, List.getElem?_cons_zero, List.getElem?_cons_succ, List.set_cons_zero, List.set_cons_succ, Option.map_some, Option.map_none]
        exact fun q hq => by cases hq; exact ⟨_, rfl, hS⟩
  | cons g0 gr =>
    obtain ⟨g, hg⟩ := at_len (g0 :: gr) seat (by simp)
    simp only [List.map_cons, List.length_cons, List.length_map] at hg
    simp only [List.map_cons, List.isEmpty_cons, Bool.not_false, List.length_cons, List.length_map, hg]
    refine ⟨Nat.zero_le _, by omega, ?_⟩
    cases hc : decide (seat < ((gr.length + 1 : Nat) : Int)) with
    | true =>
      simp only []
      refine ⟨p18, ?_⟩
      split
      · exact ⟨p18, fun q hq => by cases hq; exact ⟨_, rfl, hS⟩⟩
      · skip
        refine ⟨CM_r (by decide) (by decide), CM_l (by decide) (by decide), by decide, ⟨by decide, by decide⟩, ?_⟩
        refine fresh_loop hS _ _ ?_ ?_ (Int.emod_nonneg _ (by decide)) (Int.emod_lt_of_pos _ (by decide))
        · intro lap st fo y nx hlap h0 h1 hn
          simp only [dSeq, dNext, dRet, dRetN, dIfS, dDrop, dAsg, dPar, dPut, dSet1, setT, setAll, dVar, dC, dBin, dUn, dFun, dNot, chain_eq, dTup, dLst, dLstM, and_eq, or_eq, dIf, tVal, tAnd2, tOr2, tNot1, dCall, dCons, dNil, gAdd, gAddM, gSub, gMod, gPow, gMul, gNeg, gLt, gLe, gGt, gGe, gInt, gInt0, gIx, dSl, oNo, oSome, gSl, gLen, gInt1, gList, gListM, seqOf, gTuple, gMin2, gMax2, gRepr, dIsi, dTyEq, dAppend, dRev, dDict0, dRaise, dTry, catching, inSuite, dFld, vw, allD, gSumL, itemsD, iZipX, Nat.reduceAdd, iRange1, startD, ends, wipeD, lcTurn, noX, iTupD, iLst, iEnumD, tAll, dLc, dLcM, dFor, gEqC, gNeC, gBools, boolsOf, List.map_cons, List.map_nil, List.length_cons, List.length_nil, List.replicate, List.cons_append, List.nil_append, List.getElem?_cons_zero, List.getElem?_cons_succ, List.set_cons_zero, List.set_cons_succ, Option.map_some, Option.map_none]
          exact ⟨CM_l (by omega) (by omega), CM_l (by decide) (by decide), CM_l (by omega) (by omega), by decide, CM_r (by decide) (by decide), hn _ _ ⟨_, _, Int.emod_nonneg _ (by decide), Int.emod_lt_of_pos _ (by decide), rfl, rfl⟩⟩
        · intro st fo y
          simp only [dSeq, dNext, dRet, dRetN, dIfS, dDrop, dAsg, dPar, dPut, dSet1, setT, setAll, dVar, dC, dBin, dUn, dFun, dNot, chain_eq, dTup, dLst, dLstM, and_eq, or_eq, dIf, tVal, tAnd2, tOr2, tNot1, dCall, dCons, dNil, gAdd, gAddM, gSub, gMod, gPow, gMul, gNeg, gLt, gLe, gGt, gGe, gInt, gInt0, gIx, dSl, oNo, oSome, gSl, gLen, gInt1, gList, gListM, seqOf, gTuple, gMin2, gMax2, gRepr, dIsi, dTyEq, dAppend, dRev, dDict0, dRaise, dTry, catching, inSuite, dFld, vw, allD, gSumL, itemsD, iZipX, Nat.reduceAdd, iRange1, startD, ends, wipeD, lcTurn, noX, iTupD, iLst, iEnumD, tAll, dLc, dLcM, dFor, gEqC, gNeC, gBools, boolsOf, List.map_cons, List.map_nil, List.length_cons, List.length_nil, List.replicate, List.cons_append, List.nil_append, List.getElem?_cons_zero, List.getElem?_cons_succ, List.set_cons_zero, List.set_cons_succ, Option.map_some, Option.map_none]
          exact fun q hq => by cases hq; exact ⟨_, rfl, hS⟩
    | false =>
      simp only []
      refine ⟨CM_r (by decide) (by decide), CM_l (by decide) (by decide), by decide, ⟨by decide, by decide⟩, ?_⟩
      refine fresh_loop hS _ _ ?_ ?_ (Int.emod_nonneg _ (by decide)) (Int.emod_lt_of_pos _ (by decide))
      · intro lap st fo y nx hlap h0 h1 hn
        simp only [dSeq, dNext, dRet, dRetN, dIfS, dDrop, dAsg, dPar, dPut, dSet1, setT, setAll, dVar, dC, dBin, dUn, dFun, dNot, chain_eq, dTup, dLst, dLstM, and_eq, or_eq, dIf, tVal, tAnd2, tOr2, tNot1, dCall, dCons, dNil, gAdd, gAddM, gSub, gMod, gPow, gMul, gNeg, gLt, gLe, gGt, gGe, gInt, gInt0, gIx, dSl, oNo, oSome, gSl, gLen, gInt1, gList, gListM, seqOf, gTuple, gMin2, gMax2, gRepr, dIsi, dTyEq, dAppend, dRev, dDict0, dRaise, dTry, catching, inSuite, dFld, vw, allD, gSumL, itemsD, iZipX, Nat.reduceAdd, iRange1, startD, ends, wipeD, lcTurn, noX, iTupD, iLst, iEnumD, tAll, dLc, dLcM, dFor, gEqC, gNeC, gBools, boolsOf, List.map_cons, List.map_nil, List.length_cons, List.length_nil, List.replicate, List.cons_append, List.nil_append, List.getElem?_cons_zero, List.getElem?_cons_succ, List.set_cons_zero, List.set_cons_succ, Option.map_some, Option.map_none]
        exact ⟨CM_l (by omega) (by omega), CM_l (by decide) (by decide), CM_l (by omega) (by omega), by decide, CM_r (by decide) (by decide), hn _ _ ⟨_, _, Int.emod_nonneg _ (by decide), Int.emod_lt_of_pos _ (by decide), rfl, rfl⟩⟩
      · intro st fo y
        simp only [dSeq, dNext, dRet, dRetN, dIfS, dDrop, dAsg, dPar, dPut, dSet1, setT, setAll, dVar, dC, dBin, dUn, dFun, dNot, chain_eq, dTup, dLst, dLstM, and_eq, or_eq, dIf, tVal, tAnd2, tOr2, tNot1, dCall, dCons, dNil, gAdd, gAddM, gSub, gMod, gPow, gMul, gNeg, gLt, gLe, gGt, gGe, gInt, gInt0, gIx, dSl, oNo, oSome, gSl, gLen, gInt1, gList, gListM, seqOf, gTuple, gMin2, gMax2, gRepr, dIsi, dTyEq, dAppend, dRev, dDict0, dRaise, dTry, catching, inSuite, dFld, vw, allD, gSumL, itemsD, iZipX, Nat.reduceAdd, iRange1, startD, ends, wipeD, lcTurn, noX, iTupD, iLst, iEnumD, tAll, dLc, dLcM, dFor, gEqC, gNeC, gBools, boolsOf, List.map_cons, List.map_nil, List.length_cons, List.length_nil, List.replicate, List.cons_append, List.nil_append, List.getElem?_cons_zero, List.getElem?_cons_succ, List.set_cons_zero, List.set_cons_succ, Option.map_some, Option.map_none]
        exact fun q hq => by cases hq; exact ⟨_, rfl, hS⟩

end HD

namespace HD
open PySem PySem.Spec PyProof.Rows HD
open L2 (kitB atI)

def g__law_draw : DS :=
  (dSeq (dIfS (tVal (dBin gLt (dBin gIx (dVar 0) (dC (.int 2))) (dVar 1)))
    (dPut (dCall c__law_fresh (dCons (dVar 0) dNil)) (dVar 0) (dC (.int 2)))
    dNext)
    (dSeq (dAsg (dBin gMod (dFun gInt1 (dCons (dBin gIx (dVar 0) (dC (.int 2))) dNil)) (dVar 1)) (.one 2))
    (dSeq (dPut (dBin gFdiv (dFun gInt1 (dCons (dBin gIx (dVar 0) (dC (.int 2))) dNil)) (dVar 1)) (dVar 0) (dC (.int 2)))
    (dRet (dVar 2)))))
theorem len__law_draw : ∀ xs M, (c__law_draw).pre xs M → xs.length = 2 := by
  rintro _ M ⟨p, b, rfl, _⟩; rfl
theorem sp__law_draw : ∀ xs M, (c__law_draw).pre xs M → g__law_draw (ends c__law_draw xs M) (startD ["pen", "bound", "digit"] xs) M := by
  rintro _ M ⟨p, b, rfl, ⟨gs, seat, rest, hM, hl63, h0⟩, hb, hl⟩
  simp only [g__law_draw, gFdiv, dSeq, dNext, dRet, dRetN, dIfS, dDrop, dAsg, dPar, dPut, dSet1, setT, setAll, dVar, dC, dBin, dUn, dFun, dNot, chain_eq, dTup, dLst, dLstM, and_eq, or_eq, dIf, tVal, tAnd2, tOr2, tNot1, dCall, dCons, dNil, gAdd, gAddM, gSub, gMod, gPow, gMul, gNeg, gLt, gLe, gGt, gGe, gInt, gInt0, gIx, dSl, oNo, oSome, gSl, gLen, gInt1, gList, gListM, seqOf, gTuple, gMin2, gMax2, gRepr, dIsi, dTyEq, dAppend, dRev, dDict0, dRaise, dTry, catching, inSuite, dFld, vw, allD, gSumL, itemsD, iZipX, Nat.reduceAdd, iRange1, startD, ends, wipeD, lcTurn, noX, iTupD, iLst, iEnumD, tAll, dLc, dLcM, dFor, gEqC, gNeC, gBools, boolsOf, List.map_cons, List.map_nil, List.length_cons, List.length_nil, List.replicate, List.cons_append, List.nil_append, List.getElem?_cons_zero, List.getElem?_cons_succ, List.set_cons_zero, List.set_cons_succ, Option.map_some, Option.map_none, hM, at_0, at_1, at_2, ix31, ix32]
  split
  · refine call_fresh ⟨gs, seat, rest, hM, hl63, h0⟩ fun i M2 ⟨⟨gs2, seat2, rest2, hM2, hl2, h02⟩, hK⟩ => ?_
    simp only [hM2, ix32, updM_same, at_2, List.length_cons, List.length_nil, Nat.reduceAdd, List.set_cons_succ, List.set_cons_zero]
    refine ⟨hb, ⟨hb, hl⟩, ?_⟩
    intro q b' hq
    cases hq
    exact ⟨_, rfl, Int.emod_nonneg _ (by omega), Int.emod_lt_of_pos _ hb, PenStep.own (fun a ds n z => by rw [updM_ne n]; exact hK a ds n z) hl2 h02⟩
  · try simp only [hM, ix32, updM_same, at_2, List.length_cons, List.length_nil, Nat.reduceAdd, List.set_cons_succ, List.set_cons_zero]
    refine ⟨hb, ⟨hb, hl⟩, ?_⟩
    intro q b' hq
    cases hq
    exact ⟨_, rfl, Int.emod_nonneg _ (by omega), Int.emod_lt_of_pos _ hb, PenStep.own (fun _ _ _ z => z) hl63 h0⟩


theorem at_in {ds : List PyData} {i : Int} (h0 : 0 ≤ i) (h1 : i < ds.length) : ∃ d, d ∈ ds ∧ atI ds i = some d := by
  have h3 : i.toNat < ds.length := by omega
  refine ⟨ds[i.toNat], List.getElem_mem h3, ?_⟩
  unfold atI L2.ixN
  rw [if_pos h0, if_pos h1]
  simp [h3]
theorem log_small {n : Nat} (h : n ≤ 100000) : n.log2 < 9000 := Nat.lt_of_le_of_lt (Nat.log2_le_self n |> fun _ => by
  by_cases z : n = 0
  · subst z; decide
  · have := (Nat.log2_lt z (k := 17)).mpr (by omega)
    exact Nat.le_of_lt this) (by decide : 17 < 9000)

def g__law_one_of : DS :=
  (dRet (dBin gIx (dVar 1) (dCall c__law_draw (dCons (dVar 0) (dCons (dFun gLen (dCons (dVar 1) dNil)) dNil)))))
theorem len__law_one_of : ∀ xs M, (c__law_one_of).pre xs M → xs.length = 2 := by
  rintro _ M ⟨p, y, ds, rfl, _⟩; rfl
theorem sp__law_one_of : ∀ xs M, (c__law_one_of).pre xs M → g__law_one_of (ends c__law_one_of xs M) (startD ["pen", "some"] xs) M := by
  rintro _ M ⟨p, y, ds, rfl, hp, hv, hn, hl, hy⟩
  have hlen : (0 : Int) < ds.length := by have := List.length_pos_iff.mpr hn; omega
  cases y with
  | d x =>
    simp only [vw, Option.some.injEq] at hv
    subst hv
    simp only [g__law_one_of, dSeq, dNext, dRet, dRetN, dIfS, dDrop, dAsg, dPar, dPut, dSet1, setT, setAll, dVar, dC, dBin, dUn, dFun, dNot, chain_eq, dTup, dLst, dLstM, and_eq, or_eq, dIf, tVal, tAnd2, tOr2, tNot1, dCall, dCons, dNil, gAdd, gAddM, gSub, gMod, gPow, gMul, gNeg, gLt, gLe, gGt, gGe, gInt, gInt0, gIx, dSl, oNo, oSome, gSl, gLen, gInt1, gList, gListM, seqOf, gTuple, gMin2, gMax2, gRepr, dIsi, dTyEq, dAppend, dRev, dDict0, dRaise, dTry, catching, inSuite, dFld, vw, allD, gSumL, itemsD, iZipX, Nat.reduceAdd, iRange1, startD, ends, wipeD, lcTurn, noX, iTupD, iLst, iEnumD, tAll, dLc, dLcM, dFor, gEqC, gNeC, gBools, boolsOf, List.map_cons, List.map_nil, List.length_cons, List.length_nil, List.replicate, List.cons_append, List.nil_append, List.getElem?_cons_zero, List.getElem?_cons_succ, List.set_cons_zero, List.set_cons_succ, Option.map_some, Option.map_none]
    refine call_draw hp hlen (log_small (by omega)) fun i M2 h0 h1 s => ?_
    obtain ⟨d, hd, e⟩ := at_in h0 h1
    simp only [e]
    intro p' y' ds' q1 q2
    cases q1; cases q2
    exact ⟨d, hd, rfl, s⟩
  | m a =>
    have hma : M a = some ds := by
      simp only [vw] at hv
      cases q : M a with
      | none => rw [q] at hv; cases hv
      | some z => rw [q] at hv; cases hv; rfl
    simp only [g__law_one_of, dSeq, dNext, dRet, dRetN, dIfS, dDrop, dAsg, dPar, dPut, dSet1, setT, setAll, dVar, dC, dBin, dUn, dFun, dNot, chain_eq, dTup, dLst, dLstM, and_eq, or_eq, dIf, tVal, tAnd2, tOr2, tNot1, dCall, dCons, dNil, gAdd, gAddM, gSub, gMod, gPow, gMul, gNeg, gLt, gLe, gGt, gGe, gInt, gInt0, gIx, dSl, oNo, oSome, gSl, gLen, gInt1, gList, gListM, seqOf, gTuple, gMin2, gMax2, gRepr, dIsi, dTyEq, dAppend, dRev, dDict0, dRaise, dTry, catching, inSuite, dFld, vw, allD, gSumL, itemsD, iZipX, Nat.reduceAdd, iRange1, startD, ends, wipeD, lcTurn, noX, iTupD, iLst, iEnumD, tAll, dLc, dLcM, dFor, gEqC, gNeC, gBools, boolsOf, List.map_cons, List.map_nil, List.length_cons, List.length_nil, List.replicate, List.cons_append, List.nil_append, List.getElem?_cons_zero, List.getElem?_cons_succ, List.set_cons_zero, List.set_cons_succ, Option.map_some, Option.map_none, hma]
    refine call_draw hp hlen (log_small (by omega)) fun i M2 h0 h1 s => ?_
    obtain ⟨d, hd, e⟩ := at_in h0 h1
    simp only [s.2 a ds (fun z => hy (by rw [z])) hma, Option.map_some, e]
    intro p' y' ds' q1 q2
    cases q1
    simp only [vw, hma, Option.map_some] at q2
    cases q2
    exact ⟨d, hd, rfl, s⟩
  | k a => cases hv
  | e a b c d => cases hv
  | s a b => cases hv
  | f a => cases hv
  | n a b => cases hv
  | p a b c d e => cases hv
  | u a b c => cases hv
  | x => cases hv
  | xl => cases hv

end HD

namespace HD
open PySem PySem.Spec PyProof.Rows HD
open L2 (kitB atI)

theorem log_sm {b : Int} (h0 : 0 < b) (h : b ≤ 100000) : b.natAbs.log2 < 9000 := log_small (by omega)
abbrev c__law_odd : DSp := penC (Fit 40 0 5)
def g__law_odd : DS :=
  (dSeq (dAsg (dLst (dCons (dC .none) (dCons (dC (.bool true)) (dCons (dC (.bool false)) (dCons (dUn gNeg (dC (.int 1))) (dCons (dC (.int 0)) (dCons (dC (.int 1)) (dCons (dC (.int 2)) (dCons (dC (.int 3)) (dCons (dC (.int 5)) (dCons (dC (.int 6)) (dCons (dC (.int 10)) (dCons (dC (.str "")) (dCons (dC (.str "0")) (dCons (dC (.str "avoids")) (dCons (dTup dNil) (dCons (dLst dNil) (dCons dDict0 (dCons (dTup (dCons (dC (.int 0)) dNil)) (dCons (dTup (dCons (dC (.int 0)) (dCons (dC (.int 1)) dNil))) (dCons (dTup (dCons (dC (.int 0)) (dCons (dC (.int 1)) (dCons (dC (.int 1)) dNil)))) dNil))))))))))))))))))))) (.one 1))
    (dSeq (dAsg (dBin gAdd (dVar 1) (dLst (dCons (dBin gPow (dC (.int 10)) (dC (.int 61))) (dCons (dTup (dCons (dTup dNil) dNil)) (dCons (dLst (dCons (dC (.int 1)) dNil)) (dCons (dTup (dCons (dC (.int 0)) (dCons (dTup (dCons (dC (.int 0)) (dCons (dC (.int 1)) (dCons (dC (.int 1)) dNil)))) dNil))) (dCons (dTup (dCons (dC (.int 0)) (dCons (dC (.int 1)) (dCons (dTup dNil) (dCons (dTup dNil) dNil))))) (dCons (dTup (dCons (dC (.int 1)) (dCons (dUn gNeg (dC (.int 3))) (dCons (dC (.int 0)) (dCons (dC (.int 1)) dNil))))) (dCons (dTup (dCons (dC (.int 0)) (dCons (dC (.int 0)) (dCons (dC (.int 0)) dNil)))) dNil))))))))) (.one 1))
    (dRet (dCall c__law_one_of (dCons (dVar 0) (dCons (dVar 1) dNil))))))
theorem len__law_odd : ∀ xs M, (c__law_odd).pre xs M → xs.length = 1 := penC.len

theorem fit_str {k : Nat} {x : Str} (h : (x.cps.toList.all fun c => decide (c < 16 ^ 8)) = true) (hl : x.cps.size ≤ 10) : Fit 10 k 0 (.str x) := ⟨by simpa only [HD.lf] using h, by simpa only [PyData.bulk] using hl, Nat.le_refl _⟩
theorem p61 : L2.CPow 10 61 := by unfold L2.CPow; decide
theorem fit_of (d : PyData) (h : (lf 0 d && decide (d.bulk ≤ 40) && decide (d.depth ≤ 5)) = true) : Fit 40 0 5 d := by
  simp only [Bool.and_eq_true, decide_eq_true_eq] at h
  exact ⟨h.1.1, h.1.2, h.2⟩

theorem sp__law_odd : ∀ xs M, (c__law_odd).pre xs M → g__law_odd (ends c__law_odd xs M) (startD ["pen", "some"] xs) M := by
  rintro _ M ⟨p, rfl, hp⟩
  simp only [g__law_odd, dSeq, dNext, dRet, dRetN, dIfS, dDrop, dAsg, dPar, dPut, dSet1, setT, setAll, dVar, dC, dBin, dUn, dFun, dNot, chain_eq, dTup, dLst, dLstM, and_eq, or_eq, dIf, tVal, tAnd2, tOr2, tNot1, dCall, dCons, dNil, gAdd, gAddM, gSub, gMod, gPow, gMul, gNeg, gLt, gLe, gGt, gGe, gInt, gInt0, gIx, dSl, oNo, oSome, gSl, gLen, gInt1, gList, gListM, seqOf, gTuple, gMin2, gMax2, gRepr, dIsi, dTyEq, dAppend, dRev, dDict0, dRaise, dTry, catching, inSuite, dFld, vw, allD, gSumL, itemsD, iZipX, gRepT, Nat.reduceAdd, iRange1, startD, ends, wipeD, lcTurn, noX, iTupD, iLst, iEnumD, tAll, dLc, dLcM, dFor, gEqC, gNeC, gBools, boolsOf, List.map_cons, List.map_nil, List.length_cons, List.length_nil, List.replicate, List.cons_append, List.nil_append, List.getElem?_cons_zero, List.getElem?_cons_succ, List.set_cons_zero, List.set_cons_succ, Option.map_some, Option.map_none]
  refine ⟨by decide, by decide, by decide, by decide, by decide, by decide, p61, by decide, by decide, by decide, by decide, by decide, by decide, by decide, by decide, by decide, by decide, by decide, by decide, ?_⟩
  refine call_one_of hp (by simp) (by decide) fun d M2 hd s2 => ?_
  intro q hq
  cases hq
  exact ⟨d, rfl, fit_of d (List.all_eq_true.mp (by decide +kernel : List.all _ (fun d => lf 0 d && decide (d.bulk ≤ 40) && decide (d.depth ≤ 5)) = true) d hd), s2⟩

theorem cut0 {M M' : Mem} {p q : Addr} {ds : List PyData} (s : PenStep p M M') (h : M q = some ds) (n : q ≠ p) : M' q = some ds := s.2 q ds n h
end HD

namespace HD
open PySem PySem.Spec PyProof.Rows HD
open L2 (kitB atI)


def cB (k : Nat) : Nat → DSp
  | 0 => { pre := fun _ _ => False, post := fun _ _ _ _ => True }
  | t + 1 => { pre := fun xs M => ∃ p v, xs = [.m p, .d v, .d (.int (t : Nat))] ∧ PenOk M p ∧ lf k v = true ∧ v.bulk ≤ 1000, post := fun xs M x M' => ∀ p v, xs = [.m p, .d v, .d (.int (t : Nat))] → ∃ d, x = .d d ∧ Fit (2 * v.bulk + 40) (k + 1) (v.depth + 5) d ∧ PenStep p M M' }
theorem call_B {t : Nat} {p : Addr} {v : PyData} {k : Nat} {M : Mem} {E : Value → List (Str × PyData) → Mem → Prop} {Q : DK} (h : PenOk M p) (hf : lf k v = true) (hn : v.bulk ≤ 1000) (hq : ∀ d M', Fit (2 * v.bulk + 40) (k + 1) (v.depth + 5) d → PenStep p M M' → Q (.d d) M') :
    (cB k (t + 1)).pre [.m p, .d v, .d (.int (t : Nat))] M ∧ (∀ x M2, (cB k (t + 1)).post [.m p, .d v, .d (.int (t : Nat))] M x M2 → Q x M2) ∧ (∀ cls fs M2, (cB k (t + 1)).err [.m p, .d v, .d (.int (t : Nat))] M cls fs M2 → E cls fs M2) :=
  ⟨⟨p, v, rfl, h, hf, hn⟩, fun x M2 q => by obtain ⟨d, rfl, a, s⟩ := q p v rfl; exact hq d M2 a s, fun _ _ _ q => q.elim⟩
theorem at_get {ds : List PyData} {i : Int} (h0 : 0 ≤ i) (h1 : i < ds.length) : ∃ (j : Nat) (d : PyData), i = j ∧ j < ds.length ∧ ds[j]? = some d ∧ atI ds (j : Int) = some d := by
  obtain ⟨j, rfl⟩ : ∃ j : Nat, i = j := ⟨i.toNat, by omega⟩
  have hj : j < ds.length := by omega
  refine ⟨j, ds[j], rfl, hj, by simp, ?_⟩
  unfold atI L2.ixN
  rw [if_pos (by omega), if_pos (by omega)]
  simp
theorem Fit.d0 {n k t : Nat} {d : PyData} (h : Fit n k t d) (m k' t' : Nat) (hm : n ≤ m) (hk : k ≤ k') (ht : t ≤ t') : Fit m k' t' d := h.up hm hk ht

def g_leaf : DS :=
  (dSeq (dAsg (dCall c__law_draw (dCons (dVar 0) (dCons (dC (.int 8)) dNil))) (.one 3))
    (dSeq (dIfS (tAnd2 (tVal (dIsi "int" (dVar 1))) (tAnd2 (tNot1 (tVal (dIsi "bool" (dVar 1)))) (tVal (dBin gLt (dVar 3) (dC (.int 6))))))
    (dRet (dBin gIx (dLst (dCons (dBin gAdd (dVar 1) (dC (.int 1))) (dCons (dBin gSub (dVar 1) (dC (.int 1))) (dCons (dBin gEqC (dVar 1) (dC (.int 1))) (dCons (dC (.int 0)) (dCons (dUn gNeg (dVar 1)) (dCons (dBin gAdd (dVar 1) (dC (.int 1))) dNil))))))) (dVar 3)))
    dNext)
    (dSeq (dIfS (tAnd2 (tVal (dIsi "tuple" (dVar 1))) (tVal (dBin gLt (dVar 3) (dC (.int 6)))))
    (dRet (dBin gIx (dLst (dCons (dSl (dVar 1) (oSome (dC (.int 1))) oNo) (dCons (dSl (dVar 1) oNo (oSome (dUn gNeg (dC (.int 1))))) (dCons (dBin gAdd (dVar 1) (dSl (dVar 1) oNo (oSome (dC (.int 1))))) (dCons (dRev (dVar 1)) (dCons (dFun gList (dCons (dVar 1) dNil)) (dCons (dBin gAdd (dVar 1) (dTup (dCons (dC (.int 0)) dNil))) dNil))))))) (dVar 3)))
    dNext)
    (dRet (dCall c__law_odd (dCons (dVar 0) dNil))))))
def g_rest (cr : DSp) : DS :=
  (dSeq (dAsg (dCall c__law_draw (dCons (dVar 0) (dCons (dFun gLen (dCons (dVar 1) dNil)) dNil))) (.one 4))
    (dSeq (dAsg (dCall cr (dCons (dVar 0) (dCons (dBin gIx (dVar 1) (dVar 4)) (dCons (dBin gSub (dVar 2) (dC (.int 1))) dNil)))) (.one 5))
    (dRet (dBin gAdd (dBin gAdd (dSl (dVar 1) oNo (oSome (dVar 4))) (dTup (dCons (dVar 5) dNil))) (dSl (dVar 1) (oSome (dBin gAdd (dVar 4) (dC (.int 1)))) oNo)))))
def g__law_bent (cr : DSp) : DS :=
  (dSeq (dIfS (tOr2 (tNot1 (tVal (dIsi "tuple" (dVar 1)))) (tOr2 (tVal (dBin gEqC (dVar 1) (dTup dNil))) (tOr2 (tVal (dBin gEqC (dVar 2) (dC (.int 0)))) (tVal (dBin gEqC (dCall c__law_draw (dCons (dVar 0) (dCons (dC (.int 6)) dNil))) (dC (.int 0)))))))
    g_leaf
    dNext)
    (g_rest cr))

theorem leaf_ok {D : DEnds} {p : Addr} {M M1 : Mem} {v : PyData} {x2 : Option DV} {n k e : Nat} (hf : Fit n k e v) (hn : n ≤ 1000) (hD : ∀ d M', Fit (2 * n + 40) (k + 1) (e + 5) d → PenStep p M M' → D.rt (.d d) M') (s : PenStep p M M1) :
    g_leaf D [some (.m p), some (.d v), x2, none, none, none] M1 := by
  simp only [g_leaf, dSeq, dNext, dRet, dRetN, dIfS, dDrop, dAsg, dPar, dPut, dSet1, setT, setAll, dVar, dC, dBin, dUn, dFun, dNot, chain_eq, dTup, dLst, dLstM, and_eq, or_eq, dIf, tVal, tAnd2, tOr2, tNot1, dCall, dCons, dNil, gAdd, gAddM, gSub, gMod, gPow, gMul, gNeg, gLt, gLe, gGt, gGe, gInt, gInt0, gIx, dSl, oNo, oSome, gSl, gLen, gInt1, gList, gListM, seqOf, gTuple, gMin2, gMax2, gRepr, dIsi, dTyEq, dAppend, dRev, dDict0, dRaise, dTry, catching, inSuite, dFld, vw, allD, gSumL, itemsD, iZipX, Nat.reduceAdd, iRange1, startD, ends, wipeD, lcTurn, noX, iTupD, iLst, iEnumD, tAll, dLc, dLcM, dFor, gEqC, gNeC, gBools, boolsOf, List.map_cons, List.map_nil, List.length_cons, List.length_nil, List.replicate, List.cons_append, List.nil_append, List.getElem?_cons_zero, List.getElem?_cons_succ, List.set_cons_zero, List.set_cons_succ, Option.map_some, Option.map_none, kit_int, kit_bool, kit_tuple, PyData.eqv]
  refine call_draw s.1 (by decide) (by decide) fun i M2 h0 h1 s2 => ?_
  have odd : c__law_odd.pre [.m p] M2 ∧ (∀ x M3, c__law_odd.post [.m p] M2 x M3 → D.rt x M3) ∧ (∀ cls fs M3, c__law_odd.err [.m p] M2 cls fs M3 → D.ex cls fs [some (.m p), some (.d v), x2, some (.d (.int i)), none, none] M3) :=
    call_pen s2.1 fun d M3 hd s3 => hD d M3 (hd.up (by omega) (by omega) (by omega)) (s.trans (s2.trans s3))
  cases v with
  | int z =>
    try simp only [Bool.not_false, Bool.not_true]
    split
    · refine ⟨cmp_int _ _, by decide, ?_⟩
      have hi : i < 6 := by rename_i h; simpa using h
      obtain ⟨d, hd, ed⟩ := at_in (ds := [.int (z + 1), .int (z - 1), .bool (PyData.eqv (.int z) (.int 1)), .int 0, .int (-z), .int (z + 1)]) h0 (by simpa using hi)
      simp only [ed]
      refine hD d M2 ?_ (s.trans s2)
      have hz : z.natAbs ≤ 10 ^ 61 + k := by simpa only [HD.lf, decide_eq_true_eq] using hf.lf
      have fi : ∀ y : Int, y.natAbs ≤ z.natAbs + 1 → Fit (2 * n + 40) (k + 1) (e + 5) (.int y) := fun y hy => (Fit.int (k := k + 1) (by omega)).up (by omega) (by omega) (by omega)
      simp only [List.mem_cons, List.not_mem_nil, or_false] at hd
      rcases hd with rfl | rfl | rfl | rfl | rfl | rfl
      · exact fi _ (by omega)
      · exact fi _ (by omega)
      · exact ⟨rfl, by simp [PyData.bulk], by simp [PyData.depth]⟩
      · exact fi _ (by omega)
      · exact fi _ (by omega)
      · exact fi _ (by omega)
    · exact odd
  | tuple xs =>
    try simp only [Bool.not_false, Bool.not_true]
    split
    · have hi : i < 6 := by rename_i h; simpa using h
      obtain ⟨e', rfl⟩ : ∃ e', e = e' + 1 := ⟨e - 1, by have := hf.depth; simp only [PyData.depth] at this; omega⟩
      have fa : FitA n k e' xs := hf.all
      have hlen : xs.length ≤ 1000 := Nat.le_trans (bulkAll_length xs) (Nat.le_trans fa.bulk hn)
      have c1 : ((-1 : Int)) = -((1 : Nat) : Int) := rfl
      have t1 : HD.cutD xs (some 1) none = xs.drop (min 1 xs.length) := by
        unfold HD.cutD
        rw [show (1 : Int) = ((1 : Nat) : Int) from rfl, HT.sIx_nat, HT.sIx_none, List.take_of_length_le (by rw [List.length_drop]; omega)]
      obtain ⟨j2, t2⟩ : ∃ j, HD.cutD xs none (some (-1)) = xs.take j := by
        unfold HD.cutD
        rw [HT.sIx_none, List.drop_zero]
        exact ⟨_, rfl⟩
      have t3 : HD.cutD xs none (some 1) = xs.take (min 1 xs.length) := by
        unfold HD.cutD
        rw [show (1 : Int) = ((1 : Nat) : Int) from rfl, HT.sIx_nat, HT.sIx_none, List.drop_zero, Nat.sub_zero]
      try simp only [t1, t2, t3]
      refine ⟨line1 (by rw [List.length_take]; omega), by decide, line1 (by simp; omega), by decide, ?_⟩
      obtain ⟨d, hd, ed⟩ := at_in (ds := [.tuple (xs.drop (min 1 xs.length)), .tuple (xs.take j2), .tuple (xs ++ xs.take (min 1 xs.length)), .tuple xs.reverse, .list xs, .tuple (xs ++ [.int 0])]) h0 (by simpa using hi)
      simp only [ed]
      refine hD d M2 ?_ (s.trans s2)
      simp only [List.mem_cons, List.not_mem_nil, or_false] at hd
      rcases hd with rfl | rfl | rfl | rfl | rfl | rfl
      · exact ((fa.drop _).tup).up (by omega) (by omega) (by omega)
      · exact ((fa.take _).tup).up (by omega) (by omega) (by omega)
      · exact ((fa.app (fa.take _)).tup).up (by omega) (by omega) (by omega)
      · exact (fa.rev.tup).up (by omega) (by omega) (by omega)
      · exact (fa.lst).up (by omega) (by omega) (by omega)
      · exact ((fa.app ((FitA.one (Fit.int (i := 0) (by omega))).up (by omega : 0 + 1 ≤ 1) (Nat.le_refl k) (Nat.zero_le e'))).tup).up (by omega) (by omega) (by omega)
    · exact odd
  | _ =>
    try simp only [Bool.not_false, Bool.not_true]
    exact odd
theorem rest_ok {D : DEnds} {p : Addr} {t : Nat} {M M1 : Mem} {xs : List PyData} {n k e : Nat} (hf : Fit n k e (.tuple xs)) (hn : n ≤ 1000) (hx : xs ≠ []) (hD : ∀ d M', Fit (2 * n + 40) (k + 1) (e + 5) d → PenStep p M M' → D.rt (.d d) M') (s : PenStep p M M1) :
    g_rest (cB k (t + 1)) D [some (.m p), some (.d (.tuple xs)), some (.d (.int ((t + 1 : Nat) : Int))), none, none, none] M1 := by
  have et : (((t + 1 : Nat) : Int) - 1) = (t : Nat) := by omega
  obtain ⟨e', rfl⟩ : ∃ e', e = e' + 1 := ⟨e - 1, by have := hf.depth; simp only [PyData.depth] at this; omega⟩
  have fa : FitA n k e' xs := hf.all
  have hlen : xs.length ≤ 1000 := Nat.le_trans (bulkAll_length xs) (Nat.le_trans fa.bulk hn)
  have hpos : (0 : Int) < xs.length := by have := List.length_pos_iff.mpr hx; omega
  simp only [g_rest, dSeq, dNext, dRet, dRetN, dIfS, dDrop, dAsg, dPar, dPut, dSet1, setT, setAll, dVar, dC, dBin, dUn, dFun, dNot, chain_eq, dTup, dLst, dLstM, and_eq, or_eq, dIf, tVal, tAnd2, tOr2, tNot1, dCall, dCons, dNil, gAdd, gAddM, gSub, gMod, gPow, gMul, gNeg, gLt, gLe, gGt, gGe, gInt, gInt0, gIx, dSl, oNo, oSome, gSl, gLen, gInt1, gList, gListM, seqOf, gTuple, gMin2, gMax2, gRepr, dIsi, dTyEq, dAppend, dRev, dDict0, dRaise, dTry, catching, inSuite, dFld, vw, allD, gSumL, itemsD, iZipX, Nat.reduceAdd, iRange1, startD, ends, wipeD, lcTurn, noX, iTupD, iLst, iEnumD, tAll, dLc, dLcM, dFor, gEqC, gNeC, gBools, boolsOf, List.map_cons, List.map_nil, List.length_cons, List.length_nil, List.replicate, List.cons_append, List.nil_append, List.getElem?_cons_zero, List.getElem?_cons_succ, List.set_cons_zero, List.set_cons_succ, Option.map_some, Option.map_none, et]
  refine call_draw s.1 hpos (log_sm (by omega) (by omega)) fun i M2 h0 h1 s2 => ?_
  obtain ⟨j, y, rfl, hj, ey, ea⟩ := at_get h0 h1
  simp only [ea]
  have hye := fa.depth y (List.mem_of_getElem? ey)
  have hb := bulkAll_at ey
  have hbn := fa.bulk
  refine call_B s2.1 (fa.lf y (List.mem_of_getElem? ey)) (by omega) fun d M3 hd s3 => ?_
  have e1 : ((j : Int) + 1) = ((j + 1 : Nat) : Int) := rfl
  simp only [dSeq, dNext, dRet, dRetN, dIfS, dDrop, dAsg, dPar, dPut, dSet1, setT, setAll, dVar, dC, dBin, dUn, dFun, dNot, chain_eq, dTup, dLst, dLstM, and_eq, or_eq, dIf, tVal, tAnd2, tOr2, tNot1, dCall, dCons, dNil, gAdd, gAddM, gSub, gMod, gPow, gMul, gNeg, gLt, gLe, gGt, gGe, gInt, gInt0, gIx, dSl, oNo, oSome, gSl, gLen, gInt1, gList, gListM, seqOf, gTuple, gMin2, gMax2, gRepr, dIsi, dTyEq, dAppend, dRev, dDict0, dRaise, dTry, catching, inSuite, dFld, vw, allD, gSumL, itemsD, iZipX, Nat.reduceAdd, iRange1, startD, ends, wipeD, lcTurn, noX, iTupD, iLst, iEnumD, tAll, dLc, dLcM, dFor, gEqC, gNeC, gBools, boolsOf, List.map_cons, List.map_nil, List.length_cons, List.length_nil, List.replicate, List.cons_append, List.nil_append, List.getElem?_cons_zero, List.getElem?_cons_succ, List.set_cons_zero, List.set_cons_succ, Option.map_some, Option.map_none, e1, cut_to xs j (by omega), cut_from xs (j + 1) (by omega), List.length_take, List.length_drop, List.length_append]
  refine ⟨by decide, line1 (by omega), line1 (by omega), ?_⟩
  refine hD _ _ ?_ (s.trans (s2.trans s3))
  have hput := FitA.put (m := y.bulk + 40) fa ey rfl (hd.up (by omega : 2 * y.bulk + 40 ≤ y.bulk + (y.bulk + 40)) (Nat.le_refl _) (by omega : y.depth + 5 ≤ e' + 5)) (Nat.le_succ k) (by omega)
  exact hput.tup.up (by omega) (by omega) (by omega)
theorem sp_bent (k t : Nat) : ∀ xs M, (cB k (t + 1)).pre xs M → g__law_bent (cB k t) (ends (cB k (t + 1)) xs M) (startD ["pen", "value", "depth", "option", "at", "part"] xs) M := by
  rintro _ M ⟨p, v, rfl, hp, hl, hn⟩
  have hf : Fit v.bulk k v.depth v := ⟨hl, Nat.le_refl _, Nat.le_refl _⟩
  have hR : ∀ d M', Fit (2 * v.bulk + 40) (k + 1) (v.depth + 5) d → PenStep p M M' → (cB k (t + 1)).post [.m p, .d v, .d (.int (t : Nat))] M (.d d) M' := by
    intro d M' hd s q w hq
    cases hq
    exact ⟨d, rfl, hd, s⟩
  simp only [g__law_bent, dSeq, dNext, dRet, dRetN, dIfS, dDrop, dAsg, dPar, dPut, dSet1, setT, setAll, dVar, dC, dBin, dUn, dFun, dNot, chain_eq, dTup, dLst, dLstM, and_eq, or_eq, dIf, tVal, tAnd2, tOr2, tNot1, dCall, dCons, dNil, gAdd, gAddM, gSub, gMod, gPow, gMul, gNeg, gLt, gLe, gGt, gGe, gInt, gInt0, gIx, dSl, oNo, oSome, gSl, gLen, gInt1, gList, gListM, seqOf, gTuple, gMin2, gMax2, gRepr, dIsi, dTyEq, dAppend, dRev, dDict0, dRaise, dTry, catching, inSuite, dFld, vw, allD, gSumL, itemsD, iZipX, Nat.reduceAdd, iRange1, startD, ends, wipeD, lcTurn, noX, iTupD, iLst, iEnumD, tAll, dLc, dLcM, dFor, gEqC, gNeC, gBools, boolsOf, List.map_cons, List.map_nil, List.length_cons, List.length_nil, List.replicate, List.cons_append, List.nil_append, List.getElem?_cons_zero, List.getElem?_cons_succ, List.set_cons_zero, List.set_cons_succ, Option.map_some, Option.map_none, kit_tuple, PyData.eqv]
  cases v with
  | tuple xs =>
    simp only [Bool.not_true]
    cases xs with
    | nil => 
      simp only [List.isEmpty_nil]
      exact ⟨by decide, leaf_ok hf hn hR (PenStep.refl hp)⟩
    | cons x xs =>
      simp only [List.isEmpty_cons]
      refine ⟨by decide, cmp_int _ _, ?_⟩
      cases t with
      | zero => exact leaf_ok hf hn hR (PenStep.refl hp)
      | succ t =>
        have h0 : decide (((t + 1 : Nat) : Int) = 0) = false := by simp; omega
        try simp only [h0]
        refine call_draw hp (by decide) (by decide) fun i M2 h0 h1 s2 => ?_
        refine ⟨cmp_int _ _, ?_⟩
        split
        · exact leaf_ok hf hn hR s2
        · exact rest_ok hf hn (by simp) hR s2
  | _ =>
    simp only [Bool.not_false]
    exact leaf_ok hf hn hR (PenStep.refl hp)

end HD

namespace HD
open PySem PySem.Spec PyProof.Rows PySem.SeqAt L2
/-- sorted(set(e)), a list that is going to be written -/
def dSortSetM (fa : DE) : DE := fun Xd ρ M Q => fa Xd ρ M fun x M1 => match vw M1 x with
  | some (.list ds) => SetOk ds ∧ ∀ out, SortedOf ds out → ∀ p, M1 p = none → Q (.m p) (updM M1 p out)
  | _ => False
section
variable {X : Cx} {W : WX} {a : Expr} {fa : DE} {p p2 pos pos2 : Pos}
theorem ce_sortSetM (hc : X.calm = true) (hu : X.A.units + 64 < cLine) (hg : Gl X "sorted") (hm : X.mg "sorted" = none) (hv : bootBuiltins "sorted" = some (.builtin "sorted")) (hg2 : Gl X "set") (hm2 : X.mg "set" = none) (hv2 : bootBuiltins "set" = some (.type "set")) (ha : CE X W a fa)
    (he : starEach (.Call (.Name "set" p2) [a] [] pos2 :: []) X.env = (false, eval (.Call (.Name "set" p2) [a] [] pos2) X.env) :: starEach [] X.env := by rfl) (hpl : (backTo pos (starEach [] X.env)).any (·.1) = false := by rfl)
    (he2 : starEach (a :: []) X.env = (false, eval a X.env) :: starEach [] X.env := by rfl) (hpl2 : (backTo pos2 (starEach [] X.env)).any (·.1) = false := by rfl) :
    CE X W (.Call (.Name "sorted" p) [.Call (.Name "set" p2) [a] [] pos2] [] pos) (dSortSetM fa) where
  pe := PE.weak (pe_callB (cr_sortedE hc hu) hg hm hv (pa_cons (pe_callTy (cr_setE hc (by omega)) hg2 hm2 hv2 (pa_cons ha.pe pa_nil he2) (by decide) (by decide) he2 hpl2) pa_nil he) (by decide) (by decide) he hpl) fun σ H Q h => by
    obtain ⟨ρ, M, Xd, r, x, h⟩ := h
    refine emb.next r x ha.mono h fun y M1 v H1 e1 r1 x1 rv h1 => ?_
    split at h1
    · rename_i ds e
      obtain ⟨ok, h2⟩ := h1
      refine ⟨M1, ds, v, y, rfl, r1.mem, rv, e, ok, fun b L hb en => ⟨M1, ds, b, L, rfl, upd_same, r1.mem.new hb, ok, ⟨fun p hp => ?_, en.all⟩, fun out us q so hq fz => ?_⟩⟩
      · obtain ⟨d, hd, ek, fd⟩ := en.from_ p hp
        exact ⟨d, hd, ek, fd.ext (Ext.new hb)⟩
      · have o1 := r1.mem.new (o := SetX X.prog X.w b L) hb
        have ex := (e1.trans (Ext.new (o := SetX X.prog X.w b L) hb)).trans (Ext.newM (o := .lst us) (ds := out) hq)
        exact h2 out so q (o1.out hq) _ _ ex (o1.newM hq fz) ⟨rfl, by rw [updM_same]; simp, _, upd_same⟩
    · exact h1.elim
  mono := fun Xd ρ M Q Q' hq h => ha.mono _ _ _ _ _ (fun x M1 h1 => by
    split at h1
    · exact ⟨h1.1, fun out so p hp => hq _ _ (h1.2 out so p hp)⟩
    · exact h1.elim) h
end
/-- a comprehension that draws, and may leave some out -/
theorem lc_penF {tg : Tg} {tt : DT} {te : DE} {ρ : DEnv} {its : List DV} {P : PyData → Prop} {pn : Addr} {M : Mem} {Q : Addr → Mem → Prop} (hl : its.length ≤ sizeLine) (hp : PenOk M pn)
    (hx : ∀ x ∈ its, ∀ M1 (R : Option PyData → Mem → Prop), PenOk M1 pn → (∀ o M2, (∀ d, o = some d → P d) → PenStep pn M1 M2 → R o M2) → lcTurn tg tt te ρ x M1 R)
    (hq : ∀ p M' acc, M' p = some acc → acc.length ≤ its.length → (∀ d ∈ acc, P d) → PenStep pn M (eraseM M' p) → Q p M') :
    ∀ p, M p = none → lcD (fun _ => True) tg tt te p ρ its (updM M p []) (Q p) := by
  intro p hpn
  have hne : pn ≠ p := hp.ne hpn
  refine lcD_run (fun r acc M' => ∃ l, its = l ++ r ∧ acc.length ≤ l.length ∧ (∀ d ∈ acc, P d) ∧ M' p = some acc ∧ PenOk M' pn ∧ ∀ a ds, a ≠ p → a ≠ pn → M a = some ds → M' a = some ds) (fun _ _ _ _ => trivial) ?_ ?_ its [] (updM M p []) ⟨[], rfl, Nat.le_refl _, by simp, updM_same, hp.upd hne, fun a ds n _ h => by rw [updM_ne n]; exact h⟩
  · rintro x r acc M1 R ⟨l, e, e1, e2, h1, ho, h2⟩ hn hs
    have hxm : x ∈ its := by rw [e]; simp
    have e' : its = (l ++ [x]) ++ r := by rw [e]; simp
    refine hx x hxm M1 R ho fun o M2 hd s => ?_
    have h1' := s.2 p acc (Ne.symm hne) h1
    cases o with
    | none => exact hn M2 ⟨l ++ [x], e', by simp; omega, e2, h1', s.1, fun a ds n n2 h => s.2 a ds n2 (h2 a ds n n2 h)⟩
    | some d =>
      refine hs d M2 h1' ?_ ⟨l ++ [x], e', by simp; omega, ?_, updM_same, s.1.upd hne, fun a ds n n2 h => by rw [updM_ne n]; exact s.2 a ds n2 (h2 a ds n n2 h)⟩
      · have := congrArg List.length e
        simp at this
        omega
      · intro d' hd'
        rcases List.mem_append.mp hd' with q | q
        · exact e2 d' q
        · simp at q; subst q; exact hd d' rfl
  · rintro acc M1 ⟨l, e, e1, e2, h1, ho, h2⟩
    have el : its = l := by rw [e]; simp
    subst el
    refine hq p M1 acc h1 e1 e2 ⟨ho.erase hne, fun a ds n h => ?_⟩
    have n2 : a ≠ p := fun z => by subst z; rw [hpn] at h; cases h
    unfold eraseM
    rw [if_neg n2]
    exact h2 a ds n2 n h
/-- a for over range(n), by the turn's number -/
theorem for_range {tg : Tg} {body : DS} {D : DEnds} {n : Nat} (I : Nat → DEnv → Mem → Prop)
    (hx : ∀ k ρ M nx, k < n → I k ρ M → (∀ ρ' M', I (k + 1) ρ' M' → nx ρ' M') → match setT M ρ tg (.d (.int (k : Nat))) with | some ρ' => body { D with nx := nx, ct := nx, bk := D.nx } ρ' M | none => False)
    (hn : ∀ ρ M, I n ρ M → D.nx ρ M) {ρ : DEnv} {M : Mem} (h : I 0 ρ M) : forD (fun _ => True) tg body (rangeD 0 n) D ρ M := by
  have e0 : rangeD 0 n = (List.range' 0 n).map fun i : Nat => DV.d (.int (i : Nat)) := by
    rw [rangeD, List.range_eq_range']
    congr 1
    funext i
    simp
  refine forD_run (fun r ρ M => ∃ k, k + r.length = n ∧ r = (List.range' k r.length).map (fun i : Nat => DV.d (.int (i : Nat))) ∧ I k ρ M) (fun _ _ _ _ => trivial) ?_ ?_ _ _ _ ⟨0, by rw [e0]; simp, by rw [e0]; simp, h⟩
  · rintro x r ρ M nx ⟨k, e1, e2, h1⟩ hn'
    simp only [List.length_cons, List.range'_succ, List.map_cons, List.cons.injEq] at e1 e2
    obtain ⟨rfl, e3⟩ := e2
    exact hx k ρ M nx (by omega) h1 fun ρ' M' h' => hn' ρ' M' ⟨k + 1, by omega, e3, h'⟩
  · rintro ρ M ⟨k, e1, _, h1⟩
    simp only [List.length_nil, Nat.add_zero] at e1
    subst e1
    exact hn ρ M h1
/-- a for over a tuple or list, by how many are behind -/
theorem for_list {α : Type} {t : α → DV} {tg : Tg} {body : DS} {D : DEnds} (I : List α → DEnv → Mem → Prop)
    (hx : ∀ a r ρ M nx, I (a :: r) ρ M → (∀ ρ' M', I r ρ' M' → nx ρ' M') → match setT M ρ tg (t a) with | some ρ' => body { D with nx := nx, ct := nx, bk := D.nx } ρ' M | none => False)
    (hn : ∀ ρ M, I [] ρ M → D.nx ρ M) {xs : List α} {ρ : DEnv} {M : Mem} (h : I xs ρ M) : forD (fun _ => True) tg body (xs.map t) D ρ M := by
  refine forD_run (fun r ρ M => ∃ as, r = as.map t ∧ I as ρ M) (fun _ _ _ _ => trivial) ?_ ?_ _ _ _ ⟨xs, rfl, h⟩
  · rintro x r ρ M nx ⟨as, e, h1⟩ hn'
    cases as with
    | nil => cases e
    | cons a as =>
      cases e
      exact hx a as ρ M nx h1 fun ρ' M' h' => hn' ρ' M' ⟨as, rfl, h'⟩
  · rintro ρ M ⟨as, e, h1⟩
    cases as with
    | nil => exact hn ρ M h1
    | cons a as => cases e
theorem all_ints {Pz : Int → Prop} : ∀ {acc : List PyData}, (∀ d ∈ acc, ∃ z, d = .int z ∧ Pz z) → ∃ zs : List Int, acc = zs.map .int ∧ ∀ z ∈ zs, Pz z
  | [], _ => ⟨[], rfl, by simp⟩
  | x :: xs, h => by
    obtain ⟨z, rfl, hz⟩ := h x (by simp)
    obtain ⟨zs, rfl, hzs⟩ := all_ints (acc := xs) fun d hd => h d (by simp [hd])
    exact ⟨z :: zs, rfl, fun y hy => (List.mem_cons.mp hy).elim (fun e => e ▸ hz) (hzs y)⟩
theorem all_of {α : Type} {t : α → PyData} {Pz : α → Prop} : ∀ {acc : List PyData}, (∀ d ∈ acc, ∃ z, d = t z ∧ Pz z) → ∃ zs : List α, acc = zs.map t ∧ ∀ z ∈ zs, Pz z
  | [], _ => ⟨[], rfl, by simp⟩
  | x :: xs, h => by
    obtain ⟨z, rfl, hz⟩ := h x (by simp)
    obtain ⟨zs, rfl, hzs⟩ := all_of (acc := xs) fun d hd => h d (by simp [hd])
    exact ⟨z :: zs, rfl, fun y hy => (List.mem_cons.mp hy).elim (fun e => e ▸ hz) (hzs y)⟩
theorem keep_at {p : Addr} {M M1 : Mem} {q : Addr} (s : PenStep p M M1) (hq : M1 q = none) (hqp : p ≠ q) : M q = none := by
  cases e : M q with
  | none => rfl
  | some ds => rw [s.2 q ds hqp.symm e] at hq; cases hq
theorem len_range (i : Int) (n : Nat) : (rangeD i n).length = n := by unfold rangeD; rw [List.length_map, List.length_range]
theorem at20 (a b : PyData) : atI [a, b] 0 = some a := rfl
theorem at21 (a b : PyData) : atI [a, b] 1 = some b := rfl
theorem at40 (a b c d : PyData) : atI [a, b, c, d] 0 = some a := rfl
theorem at41 (a b c d : PyData) : atI [a, b, c, d] 1 = some b := rfl
theorem at42 (a b c d : PyData) : atI [a, b, c, d] 2 = some c := rfl
theorem at43 (a b c d : PyData) : atI [a, b, c, d] 3 = some d := rfl
end HD

namespace HD
open PySem PySem.Spec PyProof.Rows PySem.SeqAt L2

/-! ### set(xs), sorted(set(xs)), xs a list of ints -/
/-- what the set of ints has of the first i -/
def HasI (w : World) (h : Heap) (S : Addr) (ks : List Int) (i : Nat) : Prop := ∃ F n, SetR w h S F n ∧ n ≤ i ∧ ∀ k, F k = true ↔ k ∈ ks.take i
section
variable {P : Program} {w : World} {A : Around} {E : Value → Shared → Prop} {s : Shared}
theorem fillI {I : Addr} {fp wr : List Addr} {G : Array GenState → Array GenState → Prop} {n : Nat} {Pv : Nat → Value → Prop} {St : Nat → Shared → Prop} {R : Result → Shared → Prop} (W : WalksS P w A.in1 I fp wr G n Pv St) (S : Addr) (hS : S ∉ fp)
    (ks : List Int) (hn : n = ks.length) (few : ks.length < 64) (hv : ∀ i v, Pv i v → ∃ k tk, ks[i]? = some k ∧ v = .int k tk) (h0 : Heap) (hS0 : h0.get? S = none) (hw0 : ∀ b ∈ wr, h0.get? b = none) :
    ∀ (m i : Nat) (s : Shared), n - i = m → i ≤ n → St i s → (∀ b o, h0.get? b = some o → s.heap.get? b = some o) → HasI w s.heap S ks i →
      (∀ s', Moved (S :: wr) G s s' → HasI w s'.heap S ks n → (∀ b o, h0.get? b = some o → s'.heap.get? b = some o) → R (.ok (.ret .none)) s') →
      codeAny (model P w) A (.builtin "set.update.loop" ⟨[.ref S, .ref I], []⟩) R s := by
  have apart : S ∉ wr := fun z => hS (W.sub _ z)
  have wider : ∀ b ∈ wr, b ∈ S :: wr := fun b hb => List.mem_cons_of_mem _ hb
  have old : ∀ {s s' : Shared}, Moved wr G s s' → (∀ b o, h0.get? b = some o → s.heap.get? b = some o) → ∀ b o, h0.get? b = some o → s'.heap.get? b = some o := fun hm kp b o e =>
    hm.heap b o (fun z => by rw [hw0 b z] at e; cases e) (kp b o e)
  have keep : ∀ {s s' : Shared} {i : Nat}, Moved wr G s s' → HasI w s.heap S ks i → HasI w s'.heap S ks i := fun hm ⟨F, c, r, a, b⟩ => ⟨F, c, r.at fun o e => hm.heap S o apart e, a, b⟩
  intro m
  induction m with
  | zero =>
    intro i s hm hi st kp g hR
    obtain rfl : i = n := by omega
    refine codeAny_builtin F.entry_set_update_loop ?_
    rw [Around.under_plainId F.plain_set_update_loop _]
    show wpAny _ A.in1 (pyNext (.ref I) >>= _) _ _ s
    refine wpAny_bind (W.done s _ _ st fun s' mv => ?_)
    show wpAny _ A.in1 (ret Value.none) _ _ s'
    exact wpAny_pure (hR s' (mv.mono wider) (keep mv g) (old mv kp))
  | succ m ih =>
    intro i s hm hi st kp g hR
    have hlt : i < n := by omega
    refine codeAny_builtin F.entry_set_update_loop ?_
    rw [Around.under_plainId F.plain_set_update_loop _]
    show wpAny _ A.in1 (pyNext (.ref I) >>= _) _ _ s
    refine wpAny_bind (W.item i s _ _ hlt st fun v s' hP st' mv => ?_)
    obtain ⟨k, tk, hk, rfl⟩ := hv i v hP
    have kp' := old mv kp
    obtain ⟨Fm, c, r, hc, hF⟩ := keep mv g
    show wpAny _ A.in1 (holding [Value.int k tk] (setAdd S (.int k tk)) >>= _) _ _ s'
    refine wpAny_bind (wpAny_holding ?_)
    unfold setAdd
    refine wpAny_holding ?_
    refine wpAny_bind ((intKind P w).pyHash (intKind_is P w k tk) ?_)
    refine setR_add_hashed (s := { s' with toks := s'.toks + 1 }) r (by have : (64 : Nat) < scanBound := by decide
                                                                        omega) fun h' sb r' => ?_
    have g' : HasI w h' S ks (i + 1) := by
      refine ⟨_, _, r', by split <;> omega, fun j => ?_⟩
      rw [take_more hk]
      simp only [Bool.or_eq_true, decide_eq_true_eq, List.mem_append, List.mem_singleton, hF j]
    have notS : ∀ {b o}, h0.get? b = some o → b ≠ S := fun {b o} e z => by rw [z, hS0] at e; cases e
    refine wpAny_pure ⟨plainId_quiet F.plain_set_update_loop _, ih (i + 1) _ (by omega) hlt (W.frame _ s' _ _ st' (Nat.le_succ _) fun b hb o e => ?_) (fun b o e => (sb.2 b (notS e)).trans (kp' b o e)) g' fun s'' mv2 g2 kp2 => ?_⟩
    · rw [sb.2 b fun z => hS (by rw [← z]; exact hb)]; exact e
    · refine hR s'' (Moved.trans W.gtrans ((mv.mono wider).then_heap (Nat.le_succ _) fun b o hb e => ?_) mv2) g2 kp2
      rw [sb.2 b fun z => hb (by rw [z]; exact List.mem_cons_self)]; exact e
theorem ints_at : ∀ {its : List Value} {ks : List Int} {i : Nat} {v : Value}, IntsAre its ks → its[i]? = some v → ∃ k tk, ks[i]? = some k ∧ v = .int k tk
  | _, _, _, _, .nil, q => by simp at q
  | _, _, 0, _, .cons n t h, q => by
    simp only [List.getElem?_cons_zero, Option.some.injEq] at q
    exact ⟨n, t, rfl, q.symm⟩
  | _, _, i + 1, _, .cons n t h, q => ints_at (i := i) h (by simpa using q)
/-- what set(xs) leaves -/
def FilledI (w : World) (s : Shared) (S : Addr) (ks : List Int) (s' : Shared) : Prop :=
  ∃ h' tk, s' = { s with heap := h', toks := tk } ∧ HasI w h' S ks ks.length ∧ ∀ b o, s.heap.get? b = some o → h'.get? b = some o
theorem set_initI {l : Addr} {items : Array Value} {ks : List Int} (hh : A.handled = none) (hl : s.heap.IsList l items) (hit : IntsAre items.toList ks) (few : ks.length < 64) :
    codeAny (model P w) A (.call (.builtin "set.__init__") ⟨[.ref s.heap.objs.size, .ref l], []⟩) (wants (fun r s' => r = .none ∧ FilledI w s s.heap.objs.size ks s') E) { s with heap := s.heap.push (set0 w) } := by
  have size : items.size = ks.length := by
    have q := IntsAre.length hit
    rwa [Array.length_toList] at q
  have hS : (s.heap.push (set0 w)).get? s.heap.objs.size = some (set0 w) := Heap.get?_push_size _ rfl
  have ty : Shared.TypeIs { s with heap := s.heap.push (set0 w) } (.ref s.heap.objs.size) "set" := ⟨_, hS, rfl⟩
  refine codeAny_call_builtin F.called_set.init.plain F.entry_set_init (check_set_init_1 ty ?_)
  obtain ⟨⟨lc, ld, lo, lsl⟩, hol, hcl, nl, hdl⟩ := id hl
  simp only at hcl hdl
  subst hcl; subst hdl
  have hol' : (s.heap.push (set0 w)).get? l = some { cls := .type "list", dict := ld, data := .seq items nl, slots := lsl } := Heap.get?_push_of_some _ hol
  have noSet := F.sub_list_set
  have noFroz := F.sub_list_frozenset
  have noDict : (Value.type "list" == Value.type "dict") = false := by decide
  have hl1 : (s.heap.push (set0 w)).IsList l items := ⟨_, hol', rfl, nl, rfl⟩
  unfold Builtin.«set.__init__» noKeywords Builtin.Frozenset.updateFrom
  generalize hP : pyIter = PI
  wp_walk
  subst hP
  refine wpAny_pyIter_list hl1 (wpAny_bind (wpAny_runValue ?_))
  have below : l < s.heap.objs.size := Heap.lt_size hol
  have calm : A.in1.in1.handled = none := by simp [hh]
  have one : (s.heap.push (set0 w)).objs.size = s.heap.objs.size + 1 := Heap.size_push ..
  have neI : l ≠ (s.heap.push (set0 w)).objs.size := by rw [one]; exact Nat.ne_of_lt (Nat.lt_succ_of_lt below)
  have notIn : s.heap.objs.size ∉ [(s.heap.push (set0 w)).objs.size, l] := by
    rw [one]
    simp only [List.mem_cons, List.not_mem_nil, or_false, not_or]
    exact ⟨Nat.ne_of_lt (Nat.lt_succ_self _), Nat.ne_of_gt below⟩
  have vals : ∀ (i : Nat) (v : Value), items[i]? = some v → ∃ k tk, ks[i]? = some k ∧ v = .int k tk := fun i v hv => by
    have q : items.toList[i]? = some v := by rw [Array.getElem?_toList]; exact hv
    exact ints_at hit q
  have absent : ∀ b, s.heap.objs.size ≤ b → s.heap.get? b = none := fun b hb => by
    cases q : s.heap.get? b with
    | none => rfl
    | some o => exact absurd (Nat.lt_of_lt_of_le (Heap.lt_size q) hb) (Nat.lt_irrefl _)
  refine fillI ((Walks.list calm _ l neI items).toS) s.heap.objs.size notIn ks size few vals s.heap (absent _ (Nat.le_refl _)) (fun b hb => absent b (by rw [List.mem_singleton.mp hb, one]; exact Nat.le_succ _)) (items.size - 0) 0 _ (by omega) (Nat.zero_le _)
    ?walk ?old ?st ?_
  case walk => exact ⟨⟨_, Heap.get?_push_size _ rfl, rfl, rfl⟩, (hl1.push _)⟩
  case old => exact fun b o e => Heap.get?_push_of_some _ (Heap.get?_push_of_some _ e)
  case st =>
    refine ⟨_, 0, (setR_fresh w).at fun o e => Heap.get?_push_of_some _ e, Nat.le_refl _, fun k => by simp⟩
  intro s' mv g kp
  obtain ⟨h', g2, d', tk', os'⟩ := s'
  have eg : g2 = s.gens := mv.gens
  have ed : d' = s.drawn := mv.drawn
  have eo : os' = s.os := mv.os
  subst eg; subst ed; subst eo
  refine wpAny_pure ?_
  show wpAny _ _ (ret Value.none) _ _ _
  rw [size] at g
  exact wpAny_pure ⟨rfl, h', tk', rfl, g, kp⟩
theorem call_setI {l : Addr} {items : Array Value} {ks : List Int} {Q : Value → Shared → Prop} (hh : A.handled = none) (hl : s.heap.IsList l items) (hit : IntsAre items.toList ks) (few : ks.length < 64)
    (h : ∀ s', FilledI w s s.heap.objs.size ks s' → Q (.ref s.heap.objs.size) s') : wpAny (model P w) A (call (.type "set") [.ref l]) Q E s := by
  obtain ⟨c, tl, mro⟩ := F.called_set.mro
  have made := F.called_set.made
  have subs := F.called_set.sub
  refine wpAny_call (codeAny_of_tree ?_)
  show wpAny _ _ (callAny (.type "set") _) _ _ _
  refine wpAny_pure ⟨Code.quiet_builtin _ (by decide +kernel), codeAny_builtin F.entry_type_call ?_⟩
  rw [Around.under_plain (weight_type_call_type "set" [.ref l] []) rfl]
  have notT := F.called_set.notType
  have can := F.called_set.canCreate
  have tcall := F.typeCall_set_1 (.ref l)
  repeat (any_goals (first | assumption | wp_step))
  refine codeAny_mono (code_set_led1 (.ref l) (E := E) (Q₁ := fun obj s₁ => obj = .ref s.heap.objs.size ∧ s₁ = { s with heap := s.heap.push (set0 w) }) ⟨rfl, rfl⟩) fun r s₁ hr => ?_
  cases r with
  | error e => exact hr
  | ok fl =>
    cases fl with
    | ret obj =>
      obtain ⟨rfl, rfl⟩ := hr
      have ty : Shared.TypeIs { s with heap := s.heap.push (set0 w) } (.ref s.heap.objs.size) "set" := ⟨_, Heap.get?_push_size _ rfl, rfl⟩
      have look := F.called_set.init.lookup
      have bind := F.called_set.init.bind (.ref s.heap.objs.size)
      repeat (any_goals (first | assumption | wp_step))
      refine codeAny_mono (set_initI (E := E) (by simp [hh]) hl hit few) fun r₂ s₂ hr₂ => ?_
      cases r₂ with
      | error e => exact hr₂
      | ok fl₂ =>
        cases fl₂ with
        | ret r =>
          obtain ⟨rfl, fld⟩ := hr₂
          have keep := fld
          obtain ⟨h', tk, rfl, g, kp⟩ := fld
          repeat (any_goals (first | assumption | wp_step))
          exact h _ keep
        | _ => exact hr₂.elim
    | _ => exact hr.elim
end
/-! the rules over data -/
def rSetI (w : World) : List V → Hp → VK → Prop := fun xs H Q => ∃ (l : Addr) (ns : List Int), xs = [.ref l] ∧ H l = some (.lst (ns.map V.int)) ∧ ns.length < 64 ∧ ∀ (a : Addr) (F : Int → Bool) (n : Nat), H a = none → n ≤ ns.length → (∀ k : Int, F k = true ↔ k ∈ ns) → Q (.ref a) (upd H a (SetO w a F n))
section
variable {X : Cx}
theorem cr_setI (hc : X.calm = true) : CallR X (.type "set") (rSetI X.w) := by
  intro pins s σ H xs us Q I r ⟨l, ns, ex, hl, few, q⟩
  subst ex
  rw [Vals.ref1 r]
  obtain ⟨its, vals, pl, _⟩ := I.list (.of hl)
  refine call_setI (I.ok.hd hc) pl.isList (by simpa using ints_of_vals vals) few fun s' fl => ?_
  obtain ⟨h', tk, rfl, ⟨F, n, R, hn, hF⟩, k⟩ := fl
  have hno : H s.heap.objs.size = none := I.hok.fresh (Nat.le_refl _)
  refine ⟨.ref s.heap.objs.size, upd H s.heap.objs.size (SetO X.w s.heap.objs.size F n), I.laid (t' := tk) k (Nat.le_refl _) (setO_new R), rfl, q _ F n hno hn fun j => ?_⟩
  rw [hF j, List.take_length]
end
/-- sorted(set(e)) of ints; M: a list that is going to be written -/
def dSortI (fa : DE) : DE := fun Xd ρ M Q => fa Xd ρ M fun x M1 => match vw M1 x with
  | some (.list ds) => match intsOf ds with
    | some ns => ns.length < 64 ∧ ∀ out : List Int, out.Pairwise (· < ·) → (∀ k, k ∈ out ↔ k ∈ ns) → out.length ≤ ns.length → Q (.d (.list (out.map .int))) M1
    | none => False
  | _ => False
theorem fz_mapI {K : PySem.W.Frag} {H : Hp} {M : Mem} : ∀ ns : List Int, FzA K H M (ns.map V.int) (ns.map PyData.int)
  | [] => .nil
  | n :: r => .cons (.int n) (fz_mapI r)
section
variable {X : Cx} {W : WX} {a : Expr} {fa : DE} {p p2 pos pos2 : Pos}
theorem ce_sortI (hc : X.calm = true) (hg : Gl X "sorted") (hm : X.mg "sorted" = none) (hv : bootBuiltins "sorted" = some (.builtin "sorted")) (hg2 : Gl X "set") (hm2 : X.mg "set" = none) (hv2 : bootBuiltins "set" = some (.type "set")) (ha : CE X W a fa)
    (he : starEach (.Call (.Name "set" p2) [a] [] pos2 :: []) X.env = (false, eval (.Call (.Name "set" p2) [a] [] pos2) X.env) :: starEach [] X.env := by rfl) (hpl : (backTo pos (starEach [] X.env)).any (·.1) = false := by rfl)
    (he2 : starEach (a :: []) X.env = (false, eval a X.env) :: starEach [] X.env := by rfl) (hpl2 : (backTo pos2 (starEach [] X.env)).any (·.1) = false := by rfl) :
    CE X W (.Call (.Name "sorted" p) [.Call (.Name "set" p2) [a] [] pos2] [] pos) (dSortI fa) where
  pe := PE.weak (pe_callB (cr_sortedSet hc) hg hm hv (pa_cons (pe_callTy (cr_setI hc) hg2 hm2 hv2 (pa_cons ha.pe pa_nil he2) (by decide) (by decide) he2 hpl2) pa_nil he) (by decide) (by decide) he hpl) fun σ H Q h => by
    obtain ⟨ρ, M, Xd, r, x, h⟩ := h
    refine emb.next r x ha.mono h fun y M1 v H1 e1 r1 x1 rv h1 => ?_
    split at h1
    · rename_i ds e
      split at h1
      · rename_i ns en
        obtain ⟨few, h2⟩ := h1
        obtain ⟨l, ws, rfl, hl, fz⟩ := vw_lst r1.mem rv e
        have := fz_ints fz en
        subst this
        refine ⟨l, ns, rfl, hl, few, fun b F n hb hn hF => ⟨b, F, n, rfl, upd_same, by omega, fun out q asc hmem hlen hq => ?_⟩⟩
        have o1 := r1.mem.new (o := SetO X.w b F n) hb
        have ex := (e1.trans (Ext.new (o := SetO X.w b F n) hb)).trans (Ext.new (o := .lst (out.map V.int)) hq)
        exact h2 out asc (fun k => (hmem k).trans (hF k)) (by omega) _ _ ex (o1.new hq) (.lst upd_same (o1.out hq) (fz_mapI out))
      · exact h1.elim
    · exact h1.elim
  mono := fun Xd ρ M Q Q' hq h => ha.mono _ _ _ _ _ (fun x M1 h1 => by
    split at h1
    · split at h1
      · exact ⟨h1.1, fun out a b c => hq _ _ (h1.2 out a b c)⟩
      · exact h1.elim
    · exact h1.elim) h
end
end HD

namespace HD
open PySem PySem.Spec PyProof.Rows L2

/-! ### a function handed over, and called by the name that holds it -/
def dGlob (f : Addr) : DE := fun _ _ M Q => Q (.f f) M
section
variable {X : Cx} {W : WX} {j k i : Nat} {f : Addr} {fd : FuncData} {ps : List Str} {c : DSp} {sp : Sp} {x : Str} {p pos : Pos} {e : Expr} {es : List Expr} {t : DA} {ta : TA}
theorem pe_glob (hg : Gl X x) (hm : X.mg x = some (.ref f)) (hd : (x == ("__debug__" : Str)) = false := by decide) : PE X (.Name x pos) (fun σ H Q => Q (.ref f) H) :=
  ⟨fun pins s σ H Q I h => ld_glob I hg hm ⟨V.ref f, H, I, rfl, h⟩ hd⟩
theorem ce_glob (hg : Gl X x) (hm : X.mg x = some (.ref f)) (hd : (x == ("__debug__" : Str)) = false := by decide) : CE X W (.Name x pos) (dGlob f) where
  pe := PE.weak (pe_glob hg hm hd) fun σ H Q ⟨ρ, M, Xd, r, xr, h⟩ => h (V.ref f) H Ext.refl r.mem rfl
  mono := fun Xd ρ M Q Q' hq h => hq _ _ h
theorem peG_callV (F : FnG X.prog X.w X.K X.mg X.base k f fd ps sp) (g : Gd X.A) (room : Room k X.A) (hN : X.N[i]? = some x) (hv : Vis X.env.scope x) (hk : PySem.W.keepIn X.K (.ref f) = true) (hb : Binds X.K fd ps []) (tk : Takes X W)
    (ha : PA X (e :: es) ta) (hdb : (x == ("__debug__" : Str)) = false := by decide) (hcd : (x == ("__classdict__" : Str)) = false := by decide) (he : starEach (e :: es) X.env = (false, eval e X.env) :: starEach es X.env := by rfl) (hpl : (backTo pos (starEach es X.env)).any (·.1) = false := by rfl) :
    PE X (.Call (.Name x p) (e :: es) [] pos) (fun σ H Q => σ[i]? = some (some (V.ref f)) ∧ tCallS sp (WE W) ta σ H Q) := by
  constructor
  intro pins s σ H Q I ⟨hi, h⟩
  refine wpAny_Call_Name_kw (thn ((pe_var hN hv hdb hcd).run pins s σ H (fun v H' => v = V.ref f ∧ H' = H) I ⟨V.ref f, hi, rfl, rfl⟩) ?_)
  rintro u s1 ⟨v, H1, I1, r1, ev, eH⟩
  subst ev eH
  obtain rfl : u = Value.ref f := r1
  refine PySem.W.callWith_K (h₀ := X.base) I1.ok.mod.kin hk (thn (ha.run pos pins s1 σ H1 _ I1 h) ?_) he hpl
  rintro us s2 ⟨vs, H2, I2, r, q⟩
  exact ⟨I2.kIn, F.runs g room hb tk I2 r q⟩
def dCallF (i : Nat) (f : Addr) (c : DSp) (t : DA) : DE := fun Xd ρ M Q => (match ρ[i]? with | some (some (.f a)) => a = f | _ => False) ∧ dCall c t Xd ρ M Q
theorem ce_callF (F : FnG X.prog X.w X.K X.mg X.base k f fd ps (c.sp X.K)) (cx : Cxe X W j) (hkj : k ≤ j) (hN : X.N[i]? = some x) (hv : Vis X.env.scope x) (hk : PySem.W.keepIn X.K (.ref f) = true) (hb : Binds X.K fd ps [])
    (ha : CA X W (e :: es) t) (hdb : (x == ("__debug__" : Str)) = false := by decide) (hcd : (x == ("__classdict__" : Str)) = false := by decide) (he : starEach (e :: es) X.env = (false, eval e X.env) :: starEach es X.env := by rfl) (hpl : (backTo pos (starEach es X.env)).any (·.1) = false := by rfl) :
    CE X W (.Call (.Name x p) (e :: es) [] pos) (dCallF i f c t) where
  pe := PE.weak (peG_callV F cx.gd (cx.room.mono hkj) hN hv hk hb cx.tk ha.pa hdb hcd he hpl) fun σ H Q ⟨ρ, M, Xd, r, xr, h0, h⟩ => by
    refine ⟨?_, ?_⟩
    · split at h0
      · rename_i a e
        subst h0
        obtain ⟨v, h1, h2⟩ := r.env i _ e
        cases h2
        exact h1
      · exact h0.elim
    · refine embA.next r xr ha.mono h fun ys M1 vs H1 e1 r1 x1 rv h1 => ?_
      obtain ⟨hp, hq, hx⟩ := h1
      exact ⟨ys, M1, rv, r1.mem, hp, fun z M2 v H2 e2 o2 rz q => hq z M2 q v H2 (e1.trans e2) o2 rz, fun cls fs d H2 M2 e2 o2 a q => x1 cls fs d H2 M2 e2 o2 a (hx cls fs M2 q)⟩
  mono := fun Xd ρ M Q Q' hq h => ⟨h.1, ha.mono _ _ _ _ _ (fun _ _ h1 => ⟨h1.1, fun x M2 q => hq _ _ (h1.2.1 x M2 q), h1.2.2⟩) h.2⟩
end

/-! ### sum of a tuple of ints -/
section
variable {P : Program} {w : World} {A : Around} {E : Value → Shared → Prop} {s : Shared}
theorem sum_tup {l : Addr} {its : List Value} {ns : List Int} {Q : Value → Shared → Prop} (hh : A.handled = none) (hl : s.heap.IsTuple l its.toArray) (hi : IntsAre its ns)
    (h : ∀ h' tk t', (∀ b o, s.heap.get? b = some o → h'.get? b = some o) → Q (.int ns.sum t') { s with heap := h', toks := tk }) : wpAny (model P w) A (call (.builtin "sum") [.ref l]) Q E s := by
  obtain ⟨xs, e⟩ := hi.allInts.items
  have hn : numsOf (intItems xs).toList = ns := by rw [← e]; exact hi.numsOf
  rw [nums_intItems] at hn
  rw [e] at hl
  have hlt : l < s.heap.objs.size := by obtain ⟨_, e1, _⟩ := hl; exact Heap.lt_size e1
  refine call_sum_walkG (wpAny_pyIter_tuple hl ?_)
  refine ⟨_, _, _, _, _, _, numAt xs, rfl, Walks.tuple (A := A.in1) hh _ l (Nat.ne_of_lt hlt) (intItems xs), ⟨⟨_, Heap.get?_push_size _ rfl, rfl, rfl⟩, hl.push _⟩, fun b hb => ?_, fun _ _ => intItems_at, fun h' tk t' hk => ?_⟩
  · show b < (s.heap.push _).objs.size
    rw [Heap.size_push]
    simp only [List.mem_cons, List.not_mem_nil, or_false] at hb
    rcases hb with rfl | rfl
    · exact Nat.lt_succ_self _
    · exact Nat.lt_succ_of_lt hlt
  · have k : ∀ b o, s.heap.get? b = some o → h'.get? b = some o := fun b o e1 => hk b o (fun z => by
      simp only [List.mem_cons, List.not_mem_nil, or_false] at z
      subst z
      exact absurd (Heap.lt_size e1) (Nat.lt_irrefl _)) (Heap.get?_push_of_some _ e1)
    have := h h' tk t' k
    rw [← hn] at this
    rw [preSum_eq, List.take_of_length_le (by simp [intItems])]
    exact this
end
section
variable {X : Cx}
def gSumT : DF := fun xs M Q => match xs with
  | [.d (.tuple ds)] => match intsOf ds with
    | some ns => Q (.d (.int ns.sum)) M
    | none => False
  | _ => False
def rSumT (K : PySem.W.Frag) : List V → Hp → VK → Prop := fun vs H Q => ∃ (a : Addr) (ns : List Int), vs = [V.ref a] ∧ SqT K H a (ns.map V.int) ∧ Q (.int ns.sum) H
theorem cr_sumT (hc : X.calm = true) : CallR X (.builtin "sum") (rSumT X.K) := by
  intro pins s σ H vs us Q I r ⟨a, ns, ex, hT, q⟩
  subst ex
  rw [Vals.ref1 r]
  obtain ⟨its, rv, p, _⟩ := I.tuple hT
  refine sum_tup (I.ok.hd hc) p (ints_of_vals rv) fun h' tk t' hk => ?_
  exact ⟨.int ns.sum, H, I.kept (t' := tk) hk, ⟨t', rfl⟩, q⟩
theorem cd_sumT (hc : X.calm = true) : CallD X (.builtin "sum") gSumT where
  op := CallR.weak (cr_sumT hc) fun vs H Q ⟨M, xs, o, rx, h⟩ => by
    unfold gSumT at h
    split at h
    · split at h
      · rename_i ds ns en
        obtain ⟨v, rfl, rv⟩ := rx.one
        cases rv with
        | tup h1 f1 =>
          have := fz_ints f1 en
          subst this
          exact ⟨_, ns, rfl, h1.sq, fin_d h o (.int _)⟩
      · exact h.elim
    · exact h.elim
  mono := fun xs M Q Q' hq h => by
    unfold gSumT at h ⊢
    split at h
    · split at h
      · exact hq _ _ h
      · exact h.elim
    · exact h.elim
end
end HD

namespace HD
open PySem PySem.Spec PyProof.Rows L2

/-! ### sets written out by two clauses: the turns -/
section
variable {pr : Program} {w : World} {A : Around} {R : Result → Shared → Prop} {s : Shared} {en : Env} {e t0 i0 t1 i1 : Expr} {f0 f1 : List Expr} {sc : Scope} {ps : Pos} {it D : Value}
abbrev cx2 (e t0 i0 : Expr) (f0 : List Expr) (t1 i1 : Expr) (f1 : List Expr) (sc : Scope) (ps : Pos) : Expr := .SetComp e [⟨t0, i0, f0, 0⟩, ⟨t1, i1, f1, 0⟩] sc ps
abbrev bad (pr : Program) (w : World) (A : Around) (en : Env) (R : Result → Shared → Prop) : Value → Shared → Prop := notedBy (model pr w) A en (fun x z => R (.error x) z)
abbrev passed (fs : List Expr) (en : Env) : Sem Bool := forIn fs true fun c r => if r = true then (do let y ← isTrue c en (eval c en); pure (ForInStep.yield y)) else pure (ForInStep.yield r)
theorem turn_out : compTurn (cx2 e t0 i0 f0 t1 i1 f1 sc ps) 0 it D en = (do
      standAt i0.pos; match ← pyNext it with
      | none => pure (.done .next)
      | some u => do letOwnedTupleGo t0 it u; assign t0 en u; let mut yes := true
                     for c in f0 do if yes then yes ← isTrue c en (eval c en)
                     if yes then let x ← eval i1 en
                                 standAt i1.pos; let x ← foldedSetIterable i1 en x; let _ ← runOwn (.compStart (cx2 e t0 i0 f0 t1 i1 f1 sc ps) 1 (← holding [x] (pyIter x)) D en) en
                     again (.compLoop (cx2 e t0 i0 f0 t1 i1 f1 sc ps) 0 it D en)) := by rfl
theorem turn_in : compTurn (cx2 e t0 i0 f0 t1 i1 f1 sc ps) 1 it D en = (do
      standAt i1.pos; match ← pyNext it with
      | none => pure (.done .next)
      | some u => do letOwnedTupleGo t1 it u; assign t1 en u; let mut yes := true
                     for c in f1 do if yes then yes ← isTrue c en (eval c en)
                     if yes then (do let x ← eval e en; standAt e.pos; let _ ← call (.builtin "set.add") [D, x])
                     again (.compLoop (cx2 e t0 i0 f0 t1 i1 f1 sc ps) 1 it D en)) := by rfl
theorem loop_out (hs : ∀ x, foldedSetIterable i1 en x = pure x) (J : Nat → Shared → Prop)
    (turn : ∀ n s, J n s → wpAny (model pr w) A (pyNext it) (fun r s1 => match r with
      | none => R (.ok .next) s1
      | some u => wpAny (model pr w) A (letOwnedTupleGo t0 it u) (fun _ s2 => wpAny (model pr w) A (assign t0 en u) (fun _ s3 => wpAny (model pr w) A (passed f0 en) (fun y s4 =>
          if y = true then wpAny (model pr w) A (eval i1 en) (fun x s5 => wpAny (model pr w) A (pyIter x) (fun it1 s6 =>
              codeAny (model pr w) A (.compStart (cx2 e t0 i0 f0 t1 i1 f1 sc ps) 1 it1 D en) (fun r z => match r with | .ok _ => ∃ m, m < n ∧ J m z | .error _ => False) s6) (bad pr w A en R) s5) (bad pr w A en R) s4
          else ∃ m, m < n ∧ J m s4) (bad pr w A en R) s3) (bad pr w A en R) s2) (bad pr w A en R) s1) (bad pr w A en R) s)
    (n : Nat) (h : J n s) : codeAny (model pr w) A (.compLoop (cx2 e t0 i0 f0 t1 i1 f1 sc ps) 0 it D en) R s := by
  refine codeAny_loop rfl J (fun n s hJ => ?_) n h
  show wpAny _ A ((compTurn (cx2 e t0 i0 f0 t1 i1 f1 sc ps) 0 it D en).onRaise (fun x => do noteFrame x en; theTreesLotGoes x)) _ _ s
  refine wpAny_noted ?_
  rw [turn_out]
  refine wpAny_bind (wpAny_standAt (wpAny_bind (wpAny_mono (turn n s hJ) (fun r s1 k1 => ?_) fun _ _ z => z)))
  match r, k1 with
  | none, k1 => exact wpAny_pure k1
  | some u, k1 =>
    refine wpAny_bind (wpAny_mono k1 (fun _ s2 k2 => wpAny_bind (wpAny_mono k2 (fun _ s3 k3 => wpAny_bind (wpAny_mono k3 (fun y s4 k4 => ?_) fun _ _ z => z)) fun _ _ z => z)) fun _ _ z => z)
    cases y with
    | false => exact wpAny_pure ⟨rfl, k4⟩
    | true =>
      refine wpAny_bind (wpAny_mono k4 (fun x s5 k5 => wpAny_bind (wpAny_standAt (wpAny_bind (wpAny_of_eq (hs x) (wpAny_bind (wpAny_holding (wpAny_mono k5 (fun it1 s6 k6 => ?_) fun _ _ z => z))))))) fun _ _ z => z)
      refine wpAny_bind (wpAny_runOwn ?_)
      rw [Around.mark_none]
      refine codeAny_mono k6 fun r z hr => ?_
      match r, hr with
      | .ok f, hr => first | exact wpAny_pure ⟨rfl, hr⟩ | exact wpAny_bind (wpAny_pure (wpAny_pure ⟨rfl, hr⟩))
      | .error x, hr => exact hr.elim
theorem loop_in (J : Nat → Shared → Prop)
    (turn : ∀ n s, J n s → wpAny (model pr w) A (pyNext it) (fun r s1 => match r with
      | none => R (.ok .next) s1
      | some u => wpAny (model pr w) A (letOwnedTupleGo t1 it u) (fun _ s2 => wpAny (model pr w) A (assign t1 en u) (fun _ s3 => wpAny (model pr w) A (passed f1 en) (fun y s4 =>
          if y = true then wpAny (model pr w) A (eval e en) (fun x s5 => wpAny (model pr w) A (call (.builtin "set.add") [D, x]) (fun _ s6 => ∃ m, m < n ∧ J m s6) (bad pr w A en R) s5) (bad pr w A en R) s4
          else ∃ m, m < n ∧ J m s4) (bad pr w A en R) s3) (bad pr w A en R) s2) (bad pr w A en R) s1) (bad pr w A en R) s)
    (n : Nat) (h : J n s) : codeAny (model pr w) A (.compLoop (cx2 e t0 i0 f0 t1 i1 f1 sc ps) 1 it D en) R s := by
  refine codeAny_loop rfl J (fun n s hJ => ?_) n h
  show wpAny _ A ((compTurn (cx2 e t0 i0 f0 t1 i1 f1 sc ps) 1 it D en).onRaise (fun x => do noteFrame x en; theTreesLotGoes x)) _ _ s
  refine wpAny_noted ?_
  rw [turn_in]
  refine wpAny_bind (wpAny_standAt (wpAny_bind (wpAny_mono (turn n s hJ) (fun r s1 k1 => ?_) fun _ _ z => z)))
  match r, k1 with
  | none, k1 => exact wpAny_pure k1
  | some u, k1 =>
    refine wpAny_bind (wpAny_mono k1 (fun _ s2 k2 => wpAny_bind (wpAny_mono k2 (fun _ s3 k3 => wpAny_bind (wpAny_mono k3 (fun y s4 k4 => ?_) fun _ _ z => z)) fun _ _ z => z)) fun _ _ z => z)
    cases y with
    | false => exact wpAny_pure ⟨rfl, k4⟩
    | true => exact wpAny_bind (wpAny_bind (wpAny_mono k4 (fun x s5 k5 => wpAny_bind (wpAny_standAt (wpAny_bind (wpAny_mono k5 (fun _ s6 k6 => wpAny_pure (wpAny_pure ⟨rfl, k6⟩)) fun _ _ z => z)))) fun _ _ z => z))
theorem start_in (h0 : codeAny (model pr w) A (.compLoop (cx2 e t0 i0 f0 t1 i1 f1 sc ps) 1 it D en) R s)
    (h : wpAny (model pr w) A (pyIter it) (fun j z => codeAny (model pr w) A (.compLoop (cx2 e t0 i0 f0 t1 i1 f1 sc ps) 1 j D en) R z) (bad pr w A en R) s) :
    codeAny (model pr w) A (.compStart (cx2 e t0 i0 f0 t1 i1 f1 sc ps) 1 it D en) R s := by
  refine codeAny_of_tree ?_
  show wpAny _ A ((compStart (cx2 e t0 i0 f0 t1 i1 f1 sc ps) 1 it D en).onRaise (fun x => do noteFrame x en; standAt theWindowsPlace)) _ _ s
  refine wpAny_notedAt ?_
  unfold compStart
  show wpAny _ A (ask >>= _) _ _ s
  refine wpAny_bind (wpAny_askSetting (wpAny_ite ?_))
  split
  · first | exact wpAny_pure (And.intro rfl h0) | exact wpAny_bind (wpAny_pure (wpAny_pure (And.intro rfl h0)))
  · refine wpAny_bind ?_
    first
      | exact wpAny_rule (wpAny_bind (wpAny_standAt (wpAny_bind (wpAny_mono h (fun j z k => wpAny_pure (And.intro rfl k)) fun _ _ x => x))))
      | (refine wpAny_rule ?_; show wpAny _ A (standAt i1.pos >>= _) _ _ s; exact wpAny_bind (wpAny_standAt (wpAny_bind (wpAny_mono h (fun j z k => wpAny_pure (And.intro rfl k)) fun _ _ x => x))))
end
end HD

namespace HD
open PySem PySem.Spec PyProof.Rows L2

/-! ### an object that is no list, tuple, dict may be another: what is data stays so -/
section
variable {K : PySem.W.Frag} {H : Hp} {M : Mem} {D : Addr} {o : HO}
def IsExt (H : Hp) (D : Addr) : Prop := ∃ p, H D = some (.ext p)
theorem IsExt.rd {a : Addr} {u : HO} (x : IsExt H D) (hu : ∀ p, u ≠ .ext p) (h : Rd H a u) : Rd (upd H D o) a u := by
  obtain ⟨p, hp⟩ := x
  have ne : a ≠ D := fun z => by
    subst z
    rcases h with h | ⟨q, h⟩
    · rw [hp] at h; cases h; exact hu p rfl
    · rw [hp] at h; cases h
  rcases h with h | ⟨q, h⟩
  · exact .inl (by rw [upd_ne ne]; exact h)
  · exact .inr ⟨q, by rw [upd_ne ne]; exact h⟩
theorem IsExt.at {a : Addr} {u : HO} (x : IsExt H D) (hu : ∀ p, u ≠ .ext p) (h : H a = some u) : upd H D o a = some u := by
  obtain ⟨p, hp⟩ := x
  rw [upd_ne fun z => by subst z; rw [hp] at h; cases h; exact hu p rfl]
  exact h
mutual
theorem Fz.over (x : IsExt H D) : ∀ {v : V} {d : PyData}, Fz K H M v d → Fz K (upd H D o) M v d
  | _, _, .non => .non
  | _, _, .bl b => .bl b
  | _, _, .int i => .int i
  | _, _, .str y => .str y
  | _, _, .lst h m r => .lst (x.at (by intro p z; cases z) h) m (FzA.over x r)
  | _, _, .tup (.inl ⟨h, m⟩) r => .tup (.inl ⟨x.rd (by intro p z; cases z) h, m⟩) (FzA.over x r)
  | _, _, .tup (.inr h) r => .tup (.inr h) (FzA.over x r)
  | _, _, .dic h m => .dic (x.at (by intro p z; cases z) h) m
theorem FzA.over (x : IsExt H D) : ∀ {vs : List V} {ds : List PyData}, FzA K H M vs ds → FzA K (upd H D o) M vs ds
  | _, _, .nil => .nil
  | _, _, .cons h r => .cons (Fz.over x h) (FzA.over x r)
end
theorem MemOk.over (x : IsExt H D) (k : MemOk K H M) : MemOk K (upd H D o) M := fun a ds h => by
  rcases k a ds h with ⟨xs, h1, h2⟩ | ⟨kvs, h1, ks, vs, es, h2, h3, h4, h5⟩
  · exact .inl ⟨xs, x.at (by intro p z; cases z) h1, h2.over x⟩
  · exact .inr ⟨kvs, x.at (by intro p z; cases z) h1, ks, vs, es, h2, h3, h4.over x, h5⟩
theorem Ext.over {H1 : Hp} {M1 : Mem} (e : Ext H1 M1 H M) (hD : H1 D = none) : Ext H1 M1 (upd H D o) M :=
  have ne : ∀ {a u}, H1 a = some u → a ≠ D := fun h z => by subst z; rw [hD] at h; cases h
  ⟨fun a u h m => by rw [upd_ne (ne h)]; exact e.keep a u h m, e.good, e.dom, fun a xs h => by rw [upd_ne (ne h)]; exact e.lst a xs h, fun a xs h => by rw [upd_ne (ne h)]; exact e.dct a xs h⟩
theorem Entries.over {ds : List PyData} {L : List (Addr × NestedKey)} (x : IsExt H D) (en : Entries K H M ds L) : Entries K (upd H D o) M ds L :=
  ⟨fun p hp => let ⟨d, h1, h2, h3⟩ := en.from_ p hp; ⟨d, h1, h2, h3.over x⟩, en.all⟩
theorem Entries.ext {H' : Hp} {M' : Mem} {ds : List PyData} {L : List (Addr × NestedKey)} (e : Ext H M H' M') (en : Entries K H M ds L) : Entries K H' M' ds L :=
  ⟨fun p hp => let ⟨d, h1, h2, h3⟩ := en.from_ p hp; ⟨d, h1, h2, h3.ext e⟩, en.all⟩
theorem Entries.more {ds : List PyData} {L Lo : List (Addr × NestedKey)} {b : Addr} {d : PyData} (en : Entries K H M ds L) (r : Fz K H M (.ref b) d) (h1 : keyD d ∈ L.map (·.2) → Lo = L) (h2 : keyD d ∉ L.map (·.2) → Lo.Perm ((b, keyD d) :: L)) : Entries K H M (ds ++ [d]) Lo := by
  by_cases z : keyD d ∈ L.map (·.2)
  · rw [h1 z]
    refine ⟨fun p hp => let ⟨e, k1, k2, k3⟩ := en.from_ p hp; ⟨e, List.mem_append_left _ k1, k2, k3⟩, fun e he => ?_⟩
    rcases List.mem_append.mp he with q | q
    · exact en.all e q
    · rw [List.mem_singleton] at q; rw [q]; exact z
  · have pm := h2 z
    refine ⟨fun p hp => ?_, fun e he => ?_⟩
    · rcases List.mem_cons.mp (pm.mem_iff.mp hp) with q | q
      · subst q; exact ⟨d, by simp, rfl, r⟩
      · obtain ⟨e, k1, k2, k3⟩ := en.from_ p q
        exact ⟨e, List.mem_append_left _ k1, k2, k3⟩
    · refine (pm.map (·.2)).mem_iff.mpr ?_
      rcases List.mem_append.mp he with q | q
      · exact List.mem_cons_of_mem _ (en.all e q)
      · rw [List.mem_singleton] at q; rw [q]; exact List.mem_cons_self
end
/-! ### add -/
section
variable {X : Cx}
/-- what add owes: the thing, the set as it stands, what follows -/
def AddX (K : PySem.W.Frag) (P : Program) (w : World) (D : Addr) (Nx : Hp → Prop) : VK := fun y H => ∃ (b : Addr) (M : Mem) (d : PyData) (ds : List PyData) (L : List (Addr × NestedKey)), y = .ref b ∧ H D = some (SetX P w D L) ∧ Fz K H M (.ref b) d ∧
  (∀ z ∈ d :: ds, Row z ∧ z.depth ≤ 6) ∧ Entries K H M ds L ∧ L.length + 1 < 64 ∧ ∀ Lo, (keyD d ∈ L.map (·.2) → Lo = L) → (keyD d ∉ L.map (·.2) → Lo.Perm ((b, keyD d) :: L)) → Nx (upd H D (SetX P w D Lo))
theorem addX_ok {pins : List (Addr × Obj)} {σ : L2.St} {H : Hp} {s : Shared} {E : Value → Shared → Prop} {D : Addr} {y : V} {u : Value} {Nx : Hp → Prop} {Q : Value → Shared → Prop} (I : Inv X pins σ H s) (hu : X.A.units + 64 < cLine) (r : RelV y u) (a : AddX X.K X.prog X.w D Nx y H)
    (h : ∀ s' H', Inv X pins σ H' s' → Nx H' → Q .none s') : wpAny (model X.prog X.w) X.A (call (.builtin "set.add") [.ref D, u]) Q E s := by
  obtain ⟨b, M, d, ds, L, rfl, hD, rd, row, en, few, nx⟩ := a
  cases r
  have core : SetCore X.prog X.w D L s.heap := (I.hok D _ hD).1
  have el := fz_el I rd (row d (by simp)).1 (row d (by simp)).2
  obtain ⟨es, ep, t, R⟩ := core.full fun p hp => by
    obtain ⟨e, he, ek, fe⟩ := en.from_ p hp
    rw [ek]; exact fz_el I fe (row e (by simp [he])).1 (row e (by simp [he])).2
  obtain ⟨ob, hob, hex, _⟩ := R.ob
  have ty : s.TypeIs (.ref D) "set" := ⟨ob, hob, hex.1⟩
  refine wpAny_call_entry F.slot_set_add ty F.entry_set_add ?_ (F.args_set_add_2 _ _)
  unfold Builtin.«set.add» Builtin.Frozenset.oneOther
  simp only [List.isEmpty_nil, bind_assoc]
  unfold Builtin.Frozenset.addrOf setAdd
  refine wpAny_bind (wpAny_pure ?_)
  try dsimp only
  refine wpAny_bind (wpAny_pure ?_)
  try dsimp only
  refine wpAny_bind ?_
  refine wpAny_holding ?_
  refine wpAny_bind (pyHash_key (keyD d) _ _ _ _ el.is (by have h1 := el.deep; have h2 : X.A.in1.units = X.A.units + 1 := rfl; omega) ?_)
  refine add (s := { s with toks := s.toks + (keyD d).draws }) R el (by have h2 : X.A.in1.units = X.A.units + 1 := rfl; omega) few fun c h' Lo es' ep' t' sb R2 c1 c2 => ?_
  show wpAny _ _ (ret Value.none) _ _ _
  have he : ∃ v, h'.get? D = some v := by
    obtain ⟨v, e, _⟩ := R2.ob
    exact ⟨v, e⟩
  refine wpAny_pure ⟨_, rfl, h _ _ (I.write (e := D) (t' := s.toks + (keyD d).draws) (o := SetX X.prog X.w D Lo) (by rw [hD]; trivial) (.inl rfl) (fun a v hb e => (sb.2 a hb).trans e) he (setX_ok R2.core)) (nx Lo c1 c2)⟩
end
end HD

namespace HD
open PySem PySem.Spec PyProof.Rows L2

/-! ### {e for t0 in i0 if .. for t1 in i1 if ..} of rows -/
section
variable {X : Cx}
def tSc2 (K : PySem.W.Frag) (P : Program) (w : World) (a0 : TI) (g0 : TG) (q0 : TT) (a1 : TI) (g1 : TG) (q1 : TT) (te : TE) (vs vs1 : List Nat) : TE := fun σ H Q => a0 σ H fun J B => ∀ D, B D = none → ∃ Z : Nat → Nat → Hp → Prop, (∃ m, Z 0 m (upd B D (SetX P w D []))) ∧ ∀ i m H, Z i m H →
  (J.stop i H ∧ Q (.ref D) H) ∨ (J.go i H ∧ ∃ N0 : Hp → Prop, (∀ H', N0 H' → ∃ m', m' < m ∧ Z (i + 1) m' H') ∧ ∀ x H', J.yld i H x H' → g0 x (wipe σ vs) H' fun τ U => wipe τ vs = wipe σ vs ∧ q0 τ U fun b U1 => (b = false → N0 U1) ∧ (b = true → a1 τ U1 fun J1 U2 =>
    ∃ Z1 : Nat → Nat → Hp → Prop, (∃ m, Z1 0 m U2) ∧ ∀ j k H, Z1 j k H → (J1.stop j H ∧ N0 H) ∨ (J1.go j H ∧ ∃ N1 : Hp → Prop, (∀ H', N1 H' → ∃ k', k' < k ∧ Z1 (j + 1) k' H') ∧
      ∀ x H', J1.yld j H x H' → g1 x (wipe τ vs1) H' fun υ U3 => wipe υ vs1 = wipe τ vs1 ∧ q1 υ U3 fun b U4 => (b = false → N1 U4) ∧ (b = true → te υ U4 (AddX K P w D N1)))))
theorem pe_sc2 {e t0 i0 t1 i1 : Expr} {f0 f1 : List Expr} {sc : Scope} {own : List (PySem.Str × Nat)} {vs1 : List Nat} {ps : Pos} {a0 a1 : TI} {g0 g1 : TG} {q0 q1 : TT} {te : TE} (hc : X.calm = true) (hN : X.N.Nodup) (hu : X.A.units + 64 < cLine) (p0 : PI X t0 i0 a0) (ok : BlkOk X.N X.env.scope sc own) (hv : ∀ i ∈ vs1, i ∈ own.map (·.2))
    (pg0 : ∀ s H C cl fp, PG (X.blk s H sc (compEnvC sc cl C X.env) fp) t0 g0) (pt0 : ∀ s H C cl fp, PTs (X.blk s H sc (compEnvC sc cl C X.env) fp) f0 q0)
    (p1 : ∀ s H C cl fp, PI (X.blk s H sc (compEnvC sc cl C X.env) fp) t1 i1 a1) (pg1 : ∀ s H C cl fp, PG (X.blk s H sc (compEnvC sc cl C X.env) fp) t1 g1) (pt1 : ∀ s H C cl fp, PTs (X.blk s H sc (compEnvC sc cl C X.env) fp) f1 q1)
    (pe : ∀ s H C cl fp, PE (X.blk s H sc (compEnvC sc cl C X.env) fp) e te) (hs : ∀ x, foldedSetIterable i0 X.env x = pure x := by intro _; rfl) (hs1 : ∀ en x, foldedSetIterable i1 en x = pure x := by intro _ _; rfl) :
    PE X (cx2 e t0 i0 f0 t1 i1 f1 sc ps) (tSc2 X.K X.prog X.w a0 g0 q0 a1 g1 q1 te (own.map (·.2)) vs1) := by
  refine ⟨fun pins s σ H Q I h => ?_⟩
  rw [PpSet.eval_SetComp]
  have free : ∀ y ∈ sc.names, y.2 = .free → ∃ c, X.env.cells.lookup y.1 = some c := fun y hy z => (ok.free y hy z).elim (fun k => I.ok.has _ (.inl k)) fun k => I.ok.has _ (.inr k)
  refine wpAny_comprehension_free (use := none) rfl hs (closure_ok free) ok.kind (fun y hy z => by rw [ok.uniq y hy, z]) (thn (p0.run pins s σ H _ I h) fun xv sa hx => thn hx fun itv sb hy => ?_)
  obtain ⟨it, fp, tn, J, B, rfl, IB, T, stB, fB, q⟩ := hy
  refine PpSet.newSet_ok (newEnv_comp ?_)
  generalize hD : sb.heap.objs.size = D
  obtain ⟨Z, ⟨m0, z0⟩, turn⟩ := q D (IB.hok.fresh (Nat.le_of_eq hD))
  -- the new set
  generalize hsc : ({ sb with heap := sb.heap.push (set0 X.w) } : Shared) = sd
  have heq : sd.heap = sb.heap.push (set0 X.w) := by rw [← hsc]
  have ID : Inv X pins σ (upd B D (SetX X.prog X.w D [])) sd := by
    rw [← hsc]
    refine IB.laid (t' := sb.toks) (fun b o z => Heap.get?_push_of_some _ z) (Nat.le_of_eq hD) ?_
    rw [← hD]
    exact setX_ok (set_new (P := X.prog) (w := X.w) (Heap.get?_push_size _ rfl)).core
  have fD : ∀ b ∈ fp, FpOk X pins (upd B D (SetX X.prog X.w D [])) b ∧ b < sd.heap.objs.size := fun b hb => by
    obtain ⟨o, z, _⟩ := T.obj _ _ stB b hb
    have lt := Heap.lt_size z
    exact ⟨⟨by rw [upd_ne (by rw [← hD]; exact Nat.ne_of_lt lt)]; exact (fB b hb).1, (fB b hb).2⟩, by rw [heq, Heap.size_push]; exact Nat.lt_succ_of_lt lt⟩
  have stD : tn 0 sd.heap := T.keep _ _ _ stB fun b _ o z => by rw [heq]; exact Heap.get?_push_of_some _ z
  have IE := block_start ID ok hN fD
  show codeAny _ _ (.compStart (cx2 e t0 i0 f0 t1 i1 f1 sc ps) 0 (.ref it) (.ref D) (compEnvC sc (cellsFrom (sd.heap.objs.size + 1) sc.names (cloFrom X.env.cells sc.names [])) sd.heap.objs.size X.env)) (compPost (model X.prog X.w) X.A X.xe none _ (.ref D) sd.heap.objs.size) { sd with heap := pushCells (sd.heap.push { cls := .type "dict", data := .dict #[] }) sc.names }
  generalize hcl : cellsFrom (sd.heap.objs.size + 1) sc.names (cloFrom X.env.cells sc.names []) = cl at IE ⊢
  have xg0 := pg0 sd (upd B D (SetX X.prog X.w D [])) sd.heap.objs.size cl fp
  have xt0 := pt0 sd (upd B D (SetX X.prog X.w D [])) sd.heap.objs.size cl fp
  have x1 := p1 sd (upd B D (SetX X.prog X.w D [])) sd.heap.objs.size cl fp
  have xg1 := pg1 sd (upd B D (SetX X.prog X.w D [])) sd.heap.objs.size cl fp
  have xt1 := pt1 sd (upd B D (SetX X.prog X.w D [])) sd.heap.objs.size cl fp
  have xe := pe sd (upd B D (SetX X.prog X.w D [])) sd.heap.objs.size cl fp
  have nD : ∀ b ∈ fp, (upd B D (SetX X.prog X.w D [])) b = none := fun b hb => (fD b hb).1.1
  generalize hce : compEnvC sc cl sd.heap.objs.size X.env = ce at IE xg0 xt0 x1 xg1 xt1 xe ⊢
  have cL : ce.locals = sd.heap.objs.size := by subst hce; rfl
  generalize upd B D (SetX X.prog X.w D []) = B3 at ID IE xg0 xt0 x1 xg1 xt1 xe z0 nD fD
  generalize hse : ({ sd with heap := pushCells (sd.heap.push { cls := .type "dict", data := .dict #[] }) sc.names } : Shared) = se at IE ⊢
  have stE : tn 0 se.heap := T.keep _ _ _ stD fun b _ o z => by rw [← hse]; exact pushCells_keeps _ _ _ _ (Heap.get?_push_of_some _ z)
  have stat : ∀ {σ' : L2.St} {H' : Hp} {s' : Shared}, Inv (X.blk sd B3 sc ce fp) [] σ' H' s' → (∀ b ∈ fp, H' b = none) → ∀ b ∈ fp, FpOk (X.blk sd B3 sc ce fp) [] H' b := fun {σ' H' s'} I' hn b hb =>
    ⟨hn b hb, (I'.ok.exf b hb).1, I'.ok.exfs b hb, .inl hb, fun x c z => (I'.ok.exf b hb).2 x c z, fun p hp => absurd (show p ∈ ([] : List (Addr × Obj)) ++ [] from hp) (by simp)⟩
  generalize hW : wipe σ (own.map (·.2)) = σ0 at IE turn
  generalize hR : compPost (model X.prog X.w) X.A X.xe none (EP X pins σ Q) (.ref D) sd.heap.objs.size = R
  -- what stands ahead of each outer turn
  let At : Nat → Shared → Prop := fun m z => ∃ i G, Inv (X.blk sd B3 sc ce fp) [] σ0 G z ∧ tn i z.heap ∧ (∀ b ∈ fp, G b = none) ∧ Z i m G
  have main : codeAny (model X.prog X.w) X.A (.compLoop (cx2 e t0 i0 f0 t1 i1 f1 sc ps) 0 (.ref it) (.ref D) ce) R se := by
    refine loop_out (hs1 ce) At ?_ m0 ⟨0, B3, IE, stE, nD, z0⟩
    rintro m s5 ⟨i, G5, I5, st5, n5, z5⟩
    rcases turn i m G5 z5 with ⟨stop, fin⟩ | ⟨go, N0, hN0, step⟩
    · refine thnF (T.done (X.blk sd B3 sc ce fp) rfl rfl rfl hc i [] s5 _ G5 (fun _ _ => False) I5 (stat I5 n5) st5 stop) fun r s6 ⟨hr, I6⟩ => ?_
      subst hr
      have I7 : Inv X pins σ G5 s6 := ID.call' (ch := fp) I6.os I6.base I6.hok I6.bare fun b hb => let f := (fD b hb).1; ⟨f.2.2.2.1, f.2.1, f.2.2.2.2.1, f.2.2.2.2.2⟩
      have nC : G5 sd.heap.objs.size = none := by rw [← cL]; exact I6.free
      obtain ⟨nm, hn, _⟩ := I6.loc
      have hn : s6.heap.Ns sd.heap.objs.size nm := by rw [← cL]; exact hn
      obtain ⟨c0, c1, c2, c3, c4, c5⟩ := ID.fpOk (Nat.le_refl _) nC
      subst hR
      exact ⟨nm, hn, fun h2 sb => ⟨.ref D, G5, I7.turned (t' := s6.toks) (fun b o hb z => (sb.2 b hb).trans z) c0 c1 c3 c4 c5, rfl, fin⟩⟩
    · refine thnF (T.item (X.blk sd B3 sc ce fp) rfl rfl rfl hc i [] s5 _ G5 (fun _ _ => False) I5 (stat I5 n5) st5 go) fun r s6 ⟨u, hr, k6⟩ => ?_
      subst hr
      refine thnF k6 fun _ s7 ⟨x, G7, I7, r7, y7, st7, n7⟩ => ?_
      have I7p := I7.pinned (stat I7 n7) (T.obj _ _ st7)
      refine thnF (xg0.run _ s7 _ G7 x u _ I7p r7 (step x G7 y7)) fun _ s8 ⟨τ, G8, I8, hw, k8⟩ => ?_
      refine thnF (xt0.run _ s8 τ G8 _ I8 k8) fun b s9 ⟨G9, I9, k9⟩ => ?_
      -- a turn ends
      have ends0 : ∀ {υ : L2.St} {z : Shared} {G : Hp}, Inv (X.blk sd B3 sc ce fp) ([] ++ pinsAt fp s7.heap) υ G z → σ0.length = υ.length → (∀ (j : Nat) v, σ0[j]? = some (some v) → υ[j]? = some (some v)) → N0 G → ∃ m', m' < m ∧ At m' z := fun {υ z G} J hl hk nx => by
        obtain ⟨m', hm, z'⟩ := hN0 G nx
        have pin := fun b (hb : b ∈ fp) o (q : s7.heap.get? b = some o) => J.pin (b, o) (List.mem_append_right _ (List.mem_append_right _ (mem_pinsAt hb q)))
        refine ⟨m', hm, i + 1, G, (J.unpinned (pins := [])).weak hl hk, T.keep _ _ _ st7 fun b hb o q => (pin b hb o q).1, fun b hb => ?_, z'⟩
        obtain ⟨o, q, _⟩ := T.obj _ _ st7 b hb
        exact (pin b hb o q).2.1
      have hw0 : wipe τ (own.map (·.2)) = σ0 := by rw [← hW] at hw ⊢; exact hw
      have len0 : σ0.length = τ.length := by rw [← hw0, wipe_length]
      have say0 : ∀ (j : Nat) v, σ0[j]? = some (some v) → τ[j]? = some (some v) := fun j v q => by rw [← hw0] at q; exact (wipe_some q).1
      have say1 : ∀ (j : Nat) v, σ0[j]? = some (some v) → (wipe τ vs1)[j]? = some (some v) := fun j v q => by
        rw [← hw0] at q
        rw [wipe_out fun z => (wipe_some q).2 (hv j z)]
        exact (wipe_some q).1
      cases b with
      | false => exact ends0 I9 len0 say0 (k9.1 rfl)
      | true =>
        refine thnF (x1.run _ s9 τ G9 _ I9 (k9.2 rfl)) fun xv s10 kx => thnF kx fun itv s11 k11 => ?_
        obtain ⟨it1, fp1, tn1, J1, G11, rfl, I11, T1, st11, f11, Z1, ⟨m1, z1⟩, turn1⟩ := k11
        have stat1 : ∀ {G : Hp}, (∀ b ∈ fp1, G b = none) → ∀ b ∈ fp1, FpOk (X.blk sd B3 sc ce fp) ([] ++ pinsAt fp s7.heap) G b := fun hn b hb => ⟨hn b hb, (f11 b hb).2⟩
        let At1 : Nat → Shared → Prop := fun k z => ∃ j G, Inv (X.blk sd B3 sc ce fp) ([] ++ pinsAt fp s7.heap) (wipe τ vs1) G z ∧ tn1 j z.heap ∧ (∀ b ∈ fp1, G b = none) ∧ Z1 j k G
        have inner : codeAny (model X.prog X.w) X.A (.compLoop (cx2 e t0 i0 f0 t1 i1 f1 sc ps) 1 (.ref it1) (.ref D) ce) (fun r z => match r with | .ok _ => ∃ m', m' < m ∧ At m' z | .error _ => False) s11 := by
          refine loop_in At1 ?_ m1 ⟨0, G11, I11.weak (wipe_length _ _) (fun j v q => (wipe_some q).1), st11, fun b hb => (f11 b hb).1, z1⟩
          rintro k s12 ⟨j, G12, I12, st12, n12, z12⟩
          rcases turn1 j k G12 z12 with ⟨stop1, fin1⟩ | ⟨go1, N1, hN1, step1⟩
          · refine thnF (T1.done (X.blk sd B3 sc ce fp) rfl rfl rfl hc j _ s12 (wipe τ vs1) G12 (fun _ _ => False) I12 (stat1 n12) st12 stop1) fun r s13 ⟨hr, I13⟩ => ?_
            subst hr
            exact ends0 I13 (len0.trans (wipe_length τ vs1).symm) say1 fin1
          · refine thnF (T1.item (X.blk sd B3 sc ce fp) rfl rfl rfl hc j _ s12 (wipe τ vs1) G12 (fun _ _ => False) I12 (stat1 n12) st12 go1) fun r s13 ⟨u1, hr, k13⟩ => ?_
            subst hr
            refine thnF k13 fun _ s14 ⟨y, G14, I14, r14, y14, st14, n14⟩ => ?_
            have I14p := I14.pinned (stat1 n14) (T1.obj _ _ st14)
            refine thnF (xg1.run _ s14 (wipe τ vs1) G14 y u1 _ I14p r14 (step1 y G14 y14)) fun _ s15 ⟨υ, G15, I15, hw1, k15⟩ => ?_
            refine thnF (xt1.run _ s15 υ G15 _ I15 k15) fun b1 s16 ⟨G16, I16, k16⟩ => ?_
            have ends1 : ∀ {z : Shared} {G : Hp}, Inv (X.blk sd B3 sc ce fp) (([] ++ pinsAt fp s7.heap) ++ pinsAt fp1 s14.heap) υ G z → N1 G → ∃ k', k' < k ∧ At1 k' z := fun {z G} J nx => by
              obtain ⟨k', hk, z'⟩ := hN1 G nx
              have pin := fun b (hb : b ∈ fp1) o (q : s14.heap.get? b = some o) => J.pin (b, o) (List.mem_append_right _ (List.mem_append_right _ (mem_pinsAt hb q)))
              refine ⟨k', hk, j + 1, G, J.unpinned.weak (by rw [← hw1, wipe_length]) (fun j v q => by rw [← hw1] at q; exact (wipe_some q).1), T1.keep _ _ _ st14 fun b hb o q => (pin b hb o q).1, fun b hb => ?_, z'⟩
              obtain ⟨o, q, _⟩ := T1.obj _ _ st14 b hb
              exact (pin b hb o q).2.1
            cases b1 with
            | false => exact ends1 I16 (k16.1 rfl)
            | true =>
              refine thnF (xe.run _ s16 υ G16 _ I16 (k16.2 rfl)) fun z s17 ⟨yv, G17, I17, r17, ad⟩ => ?_
              exact addX_ok (X := X.blk sd B3 sc ce fp) I17 hu r17 ad fun s18 G18 I18 nx => ends1 I18 nx
        exact start_in inner (T1.self X.A 0 _ _ _ st11 inner)
  exact PpSet.codeAny_compStart_set main (T.self X.A 0 _ _ _ stE main)
end
end HD

namespace HD
open PySem PySem.Spec PyProof.Rows L2

/-! ### sorted({y for .. in .. if .. for y in e}), e a tuple of rows -/
def scOut (keep : Mem → Prop) (tg : Tg) (tt : DT) (f1 : DE) (ρ : DEnv) : List DV → List PyData → Mem → (List PyData → Mem → Prop) → Prop
  | [], acc, M, Q => keep M ∧ Q acc M
  | x :: r, acc, M, Q => keep M ∧ match setT M ρ tg x with
    | some ρ' => tt noX ρ' M fun k M1 => match k with
      | true => f1 noX ρ' M1 fun y M2 => match y with
        | .d (.tuple ds) => ((∀ d ∈ ds, Row d ∧ d.depth ≤ 6) ∧ acc.length + ds.length < 63) ∧ scOut keep tg tt f1 ρ r (acc ++ ds) M2 Q
        | _ => False
      | false => scOut keep tg tt f1 ρ r acc M1 Q
    | none => False
theorem scOut.mono {keep : Mem → Prop} {tg : Tg} {tt : DT} {f1 : DE} {ρ : DEnv} (ht : ∀ Xd ρ M Q Q', (∀ x M', Q x M' → Q' x M') → tt Xd ρ M Q → tt Xd ρ M Q') (he : ∀ Xd ρ M Q Q', (∀ x M', Q x M' → Q' x M') → f1 Xd ρ M Q → f1 Xd ρ M Q') :
    ∀ (its : List DV) (acc : List PyData) (M : Mem) (Q Q' : List PyData → Mem → Prop), (∀ a M', Q a M' → Q' a M') → scOut keep tg tt f1 ρ its acc M Q → scOut keep tg tt f1 ρ its acc M Q'
  | [], acc, M, Q, Q', hq, h => ⟨h.1, hq _ _ h.2⟩
  | x :: r, acc, M, Q, Q', hq, h => by
    simp only [scOut] at h ⊢
    refine ⟨h.1, ?_⟩
    have h2 := h.2
    split at h2
    · refine ht _ _ _ _ _ (fun k M1 h3 => ?_) h2
      cases k with
      | false => exact scOut.mono ht he r _ _ _ _ hq h3
      | true =>
        refine he _ _ _ _ _ (fun y M2 h4 => ?_) h3
        try dsimp only at h4 ⊢
        split at h4
        · exact ⟨h4.1, scOut.mono ht he r _ _ _ _ hq h4.2⟩
        · exact h4.elim
    · exact h2.elim
def dSortSc (f : DI) (vs : List Nat) (tg : Tg) (tt : DT) (iy : Nat) (f1 : DE) : DE := fun Xd ρ M Q => iy < ρ.length ∧ f Xd ρ M fun its keep M1 => scOut keep tg tt f1 (wipeD ρ vs) its [] M1 fun acc M2 => SetOk acc ∧ ∀ out, SortedOf acc out → Q (.d (.list out)) M2
theorem upd_me {H : Hp} {a : Addr} {o : HO} (h : H a = some o) : upd H a o = H := funext fun b => by
  unfold upd
  split
  · rename_i z; rw [z, h]
  · rfl
theorem MemOk.noExt {K : PySem.W.Frag} {H : Hp} {M : Mem} {D : Addr} (k : MemOk K H M) (x : IsExt H D) : M D = none := by
  obtain ⟨p, hp⟩ := x
  cases q : M D with
  | none => rfl
  | some ds =>
    rcases k D ds q with ⟨xs, h, _⟩ | ⟨xs, h, _⟩ <;> (rw [hp] at h; cases h)
theorem row_ref {K : PySem.W.Frag} {H : Hp} {M : Mem} {v : V} {d : PyData} (r : Fz K H M v d) (h : Row d) : ∃ b, v = .ref b := by
  obtain ⟨i, rest, rfl⟩ := h.first
  cases r with | tup _ _ => exact ⟨_, rfl⟩
theorem StT.over {K : PySem.W.Frag} {H : Hp} {M : Mem} {D a : Addr} {o : HO} {xs : List V} (x : IsExt H D) (h : StT K H M a xs) : StT K (upd H D o) M a xs := by
  rcases h with ⟨h, m⟩ | h
  · exact .inl ⟨x.rd (by intro p z; cases z) h, m⟩
  · exact .inr h
theorem wipe_twice {σ : L2.St} {vs0 : List Nat} : ∀ ws : List Nat, (∀ i ∈ ws, i ∈ vs0) → L2.wipe (L2.wipe σ ws) vs0 = L2.wipe σ vs0
  | [], _ => rfl
  | a :: ws, h => by
    simp only [L2.wipe]
    rw [wipe_set (h a (List.mem_cons_self ..)), wipe_twice ws fun i hi => h i (List.mem_cons_of_mem _ hi)]
theorem FzA.nth {K : PySem.W.Frag} {H : Hp} {M : Mem} : ∀ {vs : List V} {ds : List PyData} {j : Nat} {v : V}, FzA K H M vs ds → vs[j]? = some v → ∃ d, ds[j]? = some d ∧ Fz K H M v d
  | _, _, 0, _, .cons r _, h => by cases h; exact ⟨_, rfl, r⟩
  | _, _, j + 1, _, .cons _ t, h => FzA.nth (j := j) t h

section
variable {X : Cx} {W : WX} {e t0 i0 i1 : Expr} {f0 : List Expr} {sc : Scope} {own : List (Str × Nat)} {y : Str} {iy : Nat} {yp ep p ps pos : Pos} {f : DI} {tg : Tg} {tt : DT} {f1 : DE} {k : Nat}
/-- the rest of sorted, from the set on -/
abbrev restS (X : Cx) (Q : VK) : VK := fun v H1 => ∃ M ds, rSortedD X.K X.prog X.w M ds [v] H1 Q
theorem sc_read {σ : L2.St} {H : Hp} {Q : VK} {vs0 : List Nat} (hi : ∀ i ∈ tg.slots, i ∈ vs0) (ht : ∀ Xd ρ M Q Q', (∀ x M', Q x M' → Q' x M') → tt Xd ρ M Q → tt Xd ρ M Q') (he : ∀ Xd ρ M Q Q', (∀ x M', Q x M' → Q' x M') → f1 Xd ρ M Q → f1 Xd ρ M Q')
    (fm : ∀ Xd ρ M Q Q', (∀ its keep M', Q its keep M' → Q' its keep M') → f Xd ρ M Q → f Xd ρ M Q') {ρ : DEnv} {M : Mem} {Xd : DX} (r : Rel X.K σ H ρ M) (x : XRel X.K W σ H ρ M Xd)
    (q : dSortSc f vs0 tg tt iy f1 Xd ρ M fun z M' => ∀ v H', Ext H M H' M' → MemOk X.K H' M' → RV X.K H' M' v z → Q v H') :
    tSc2 X.K X.prog X.w (embI X.K W f) (tgOf X.K tg) (embT X.K W0 tt) (iTup X.K (emb X.K W0 f1)) (gName iy) (fun _ H Q => Q true H) (tVar iy) vs0 [iy] σ H (restS X Q) := by
  have hl : ∀ τ : L2.St, τ.length = σ.length → iy < τ.length := fun τ z => by rw [z, r.len]; exact q.1
  refine ⟨ρ, M, Xd, r, x, fm _ _ _ _ _ (fun its keep M1 h1 J H1 e1 o1 w => ?_) q.2⟩
  intro D hD
  obtain ⟨G, Y, w, hG, hY⟩ := w
  let Z : Nat → Nat → Hp → Prop := fun i m H' => m = its.length - i ∧ i ≤ its.length ∧ ∃ M' acc L, Ext H1 M1 H' M' ∧ Rel X.K (L2.wipe σ vs0) H' (wipeD ρ vs0) M' ∧ H' D = some (SetX X.prog X.w D L) ∧ Entries X.K H' M' acc L ∧ (∀ d ∈ acc, Row d ∧ d.depth ≤ 6) ∧ L.length ≤ acc.length ∧ acc.length < 63 ∧
    scOut keep tg tt f1 (wipeD ρ vs0) (its.drop i) acc M' fun acc M2 => SetOk acc ∧ ∀ out, SortedOf acc out → ∀ v H', Ext H M H' M2 → MemOk X.K H' M2 → RV X.K H' M2 v (.d (.list out)) → Q v H'
  refine ⟨Z, ⟨its.length, by simp, Nat.zero_le _, M1, [], [], Ext.new hD, ((r.ext e1 o1).wipe vs0).ext (Ext.new hD) (o1.new hD), upd_same, ⟨fun p hp => (by cases hp), fun d hd => (by cases hd)⟩, fun d hd => (by cases hd), Nat.le_refl _, by show 0 < 63; decide, h1⟩, ?_⟩
  rintro i m H' ⟨rfl, hi', M', acc, L, e', r', hD', en, row, hL, h63, hf⟩
  have kp : keep M' := by
    cases hd : its.drop i with
    | nil => rw [hd] at hf; exact hf.1
    | cons z rr => rw [hd] at hf; exact hf.1
  have gg := hG H' M' e' r'.mem kp
  by_cases hlt : i < its.length
  · refine .inr ⟨w.goes i H' hlt gg, fun G => Z (i + 1) (its.length - (i + 1)) G, fun G z => ⟨_, by omega, z⟩, fun v H2 yl => ?_⟩
    obtain ⟨z, hx, e2, o2, rv⟩ := hY i v H' H2 M' hlt e' r'.mem kp (w.yields i H' v H2 hlt gg yl)
    have hd : its.drop i = z :: its.drop (i + 1) := by
      rw [List.drop_eq_getElem_cons hlt]
      rw [List.getElem?_eq_getElem hlt] at hx
      rw [Option.some.inj hx]
    rw [hd] at hf
    obtain ⟨_, hf⟩ := hf
    split at hf
    · rename_i ρ2 eq
      refine tgOf_run2 hi rv (r'.ext e2 o2) eq fun τ hw r2 => ?_
      have hw2 : L2.wipe τ vs0 = L2.wipe σ vs0 := by rw [hw]; exact wipe_twice vs0 fun i h => h
      refine ⟨hw2, ?_⟩
      have x0 : ∀ {H3 M3}, XRel X.K W0 τ H3 ρ2 M3 noX := fun _ _ _ _ _ _ _ _ z => z.elim
      have noM : M' D = none := r'.mem.noExt ⟨_, hD'⟩
      refine embT.next r2 x0 ht hf fun kk M3 H3 e3 r3 x3 h3 => ?_
      cases kk with
      | false =>
        refine ⟨fun _ => ⟨rfl, hlt, M3, acc, L, (e'.trans e2).trans e3, ((r.ext e1 o1).wipe vs0).ext ((e'.trans e2).trans e3) r3.mem, (e2.trans e3).keep _ _ hD' noM, en.ext (e2.trans e3), row, hL, h63, h3⟩, fun z => by cases z⟩
      | true =>
        refine ⟨fun z => (by cases z), fun _ => ?_⟩
        refine emb.next r3 x3 he h3 fun z M4 u H4 e4 r4 x4 ru h4 => ?_
        split at h4
        · rename_i ds
          obtain ⟨⟨rows, few⟩, h4⟩ := h4
          have e24 := (e2.trans e3).trans e4
          have hD4 : H4 D = some (SetX X.prog X.w D L) := e24.keep _ _ hD' noM
          have ext4 : IsExt H4 D := ⟨_, hD4⟩
          cases ru with
          | @tup a xs _ st fz =>
            have lx := fz.length
            refine ⟨a, rfl, ⟨xs, st.sq⟩, fun j k G => k = xs.length - j ∧ j ≤ xs.length ∧ ∃ Lj, G = upd H4 D (SetX X.prog X.w D Lj) ∧ Entries X.K H4 M4 (acc ++ ds.take j) Lj ∧ Lj.length ≤ acc.length + j, ⟨xs.length, by simp, Nat.zero_le _, L, (upd_me hD4).symm, by simpa using en.ext e24, hL⟩, ?_⟩
            rintro j k G ⟨rfl, hj, Lj, rfl, en2, hL2⟩
            have sq := (st.over (o := SetX X.prog X.w D Lj) ext4).sq
            by_cases hjl : j < xs.length
            · refine .inr ⟨⟨xs, xs[j], sq, by simp [hjl]⟩, fun G => j + 1 ≤ xs.length ∧ ∃ Lj, G = upd H4 D (SetX X.prog X.w D Lj) ∧ Entries X.K H4 M4 (acc ++ ds.take (j + 1)) Lj ∧ Lj.length ≤ acc.length + (j + 1), fun G z => ⟨xs.length - (j + 1), by omega, rfl, z.1, z.2⟩, fun v G yl => ?_⟩
              obtain ⟨rfl, yl⟩ := yl
              have hv := yl xs sq
              obtain ⟨d, hdj, fd⟩ := fz.nth hv
              have hrow := rows d (List.mem_of_getElem? hdj)
              obtain ⟨b, rfl⟩ := row_ref fd hrow.1
              refine And.intro ?_ ?_
              rotate_left
              · show (_ → _) ∧ (_ → _)
                refine ⟨fun z => (by cases z), fun _ => ⟨.ref b, ?_, ?_⟩⟩
                rotate_left
                · refine ⟨b, M4, d, acc ++ ds.take j, Lj, rfl, upd_same, fd.over ext4, fun z hz => ?_, en2.over ext4, by omega, fun Lo c1 c2 => ⟨hjl, Lo, ?_, ?_, ?_⟩⟩
                  · rcases List.mem_cons.mp hz with q | q
                    · rw [q]; exact hrow
                    · rcases List.mem_append.mp q with q | q
                      · exact row z q
                      · exact rows z (List.mem_of_mem_take q)
                  · funext c
                    unfold upd
                    split <;> rfl
                  · rw [take_more hdj, ← List.append_assoc]
                    exact en2.more fd c1 c2
                  · by_cases z : keyD d ∈ Lj.map (·.2)
                    · rw [c1 z]; omega
                    · rw [(c2 z).length_eq, List.length_cons]; omega
                · have : iy < (L2.wipe τ [iy]).length := by
                    rw [wipe_length]
                    exact hl τ (by rw [← wipe_length τ vs0, hw2, wipe_length])
                  simp [this]
              · rw [wipe_set (List.mem_cons_self ..)]
                exact wipe_twice [iy] fun i h => h
            · have ej : j = xs.length := by omega
              subst ej
              have et : ds.take xs.length = ds := by rw [lx]; exact List.take_length
              rw [et] at en2
              have eo := ((e'.trans e24)).over (o := SetX X.prog X.w D Lj) hD
              refine .inl ⟨⟨xs, sq, Nat.le_refl _⟩, rfl, hlt, M4, acc ++ ds, Lj, eo, ((r.ext e1 o1).wipe vs0).ext eo (r4.mem.over ext4), upd_same, en2.over ext4, fun d hd => ?_, by rw [List.length_append]; omega, by rw [List.length_append]; omega, h4⟩
              rcases List.mem_append.mp hd with q | q
              · exact row d q
              · exact rows d q
        · exact h4.elim
    · exact hf.elim
  · have ei : i = its.length := by omega
    subst ei
    rw [List.drop_length] at hf
    obtain ⟨_, ok, hq⟩ := hf
    refine .inl ⟨w.stops H' gg, M', acc, D, L, rfl, hD', r'.mem, ok, en, fun out us p so hp fz => ?_⟩
    refine hq out so _ _ ((e1.trans e').trans (Ext.new hp)) (r'.mem.new hp) (.lst upd_same (r'.mem.out hp) (fz.ext (Ext.new hp)))
theorem ce_sortSc (cx : Cxe X W k) (hg : Gl X "sorted") (hm : X.mg "sorted" = none) (hv : bootBuiltins "sorted" = some (.builtin "sorted")) (hi : CI X W t0 i0 f) (ok : blkC X.N X.env.scope sc own = true)
    (hgt : ∀ (s : Shared) (H : Hp) (C : Addr) (cl : List (Str × Addr)) (fp : List Addr), CG (X.blk s H sc (compEnvC sc cl C X.env) fp) t0 tg) (ht : ∀ (s : Shared) (H : Hp) (C : Addr) (cl : List (Str × Addr)) (fp : List Addr), CTs (X.blk s H sc (compEnvC sc cl C X.env) fp) W0 f0 tt)
    (he1 : ∀ (s : Shared) (H : Hp) (C : Addr) (cl : List (Str × Addr)) (fp : List Addr), CE (X.blk s H sc (compEnvC sc cl C X.env) fp) W0 i1 f1)
    (hgy : ∀ (s : Shared) (H : Hp) (C : Addr) (cl : List (Str × Addr)) (fp : List Addr), PG (X.blk s H sc (compEnvC sc cl C X.env) fp) (.Name y yp) (gName iy)) (hey : ∀ (s : Shared) (H : Hp) (C : Addr) (cl : List (Str × Addr)) (fp : List Addr), PE (X.blk s H sc (compEnvC sc cl C X.env) fp) (.Name y ep) (tVar iy))
    (hsl : ∀ i ∈ tg.slots, i ∈ own.map (·.2) := by decide) (hsy : ∀ i ∈ [iy], i ∈ own.map (·.2) := by decide) (hs : ∀ x, foldedSetIterable i0 X.env x = pure x := by intro _; rfl) (hs1 : ∀ en x, foldedSetIterable i1 en x = pure x := by intro _ _; rfl)
    (he : starEach (cx2 (.Name y ep) t0 i0 f0 (.Name y yp) i1 [] sc ps :: []) X.env = (false, eval (cx2 (.Name y ep) t0 i0 f0 (.Name y yp) i1 [] sc ps) X.env) :: starEach [] X.env := by rfl) (hpl : (backTo pos (starEach [] X.env)).any (·.1) = false := by rfl) :
    CE X W (.Call (.Name "sorted" p) [.SetComp (.Name y ep) [⟨t0, i0, f0, 0⟩, ⟨.Name y yp, i1, [], 0⟩] sc ps] [] pos) (dSortSc f (own.map (·.2)) tg tt iy f1) where
  pe := PE.weak (pe_callB (cr_sortedE cx.calm cx.room.units) hg hm hv (pa_cons (pe_sc2 cx.calm cx.nd cx.room.units hi.pi (blkOk_by ok) hsy (fun s H C cl fp => (hgt s H C cl fp).pg) (fun s H C cl fp => (ht s H C cl fp).pts) (fun s H C cl fp => pi_tup (he1 s H C cl fp).pe) hgy (fun s H C cl fp => pts_nil) hey hs hs1) pa_nil he) (by decide) (by decide) he hpl) fun σ H Q ⟨ρ, M, Xd, r, x, q⟩ =>
    sc_read hsl (ht X.s_0 X.H_0 0 [] []).mono (he1 X.s_0 X.H_0 0 [] []).mono hi.mono r x q
  mono := fun Xd ρ M Q Q' hq h => ⟨h.1, hi.mono _ _ _ _ _ (fun its keep M1 h1 => scOut.mono (ht X.s_0 X.H_0 0 [] []).mono (he1 X.s_0 X.H_0 0 [] []).mono _ _ _ _ _ (fun a M' h2 => ⟨h2.1, fun out so => hq _ _ (h2.2 out so)⟩) h1) h.2⟩
end
end HD

namespace HD
open PySem PySem.Spec PyProof.Rows L2

/-! ### xs[k] += i, xs[k] -= i: a written list of ints, from its start counted -/
section
variable {X : Cx} {W : WX} {o i e : Expr} {fo fi fe : DE} {tpos pos : Pos}
def getN : V → V → Hp → VK → Prop := fun a b H Q => ∃ (p : Addr) (xs : List V) (j : Nat) (z : V), a = .ref p ∧ b = .int (j : Nat) ∧ H p = some (.lst xs) ∧ xs[j]? = some z ∧ Q z H
theorem pget_n : PGet X getN := by
  intro pins s σ H a b u v Q I ra rb h
  obtain ⟨p, xs, j, z, rfl, rfl, hp, hz, q⟩ := h
  cases ra
  obtain ⟨t, rfl⟩ := rb
  obtain ⟨its, r, pl, sz⟩ := I.list (.of hp)
  obtain ⟨w, ew, rw'⟩ := r.get hz
  have hj : j < xs.length := by
    by_cases c : j < xs.length
    · exact c
    · rw [List.getElem?_eq_none (by omega)] at hz; cases hz
  have big := line63
  refine wpAny_getItem_list pl.isList (by omega) (by omega) (x := w) ?_ ⟨z, H, I, rw', q⟩
  simpa using ew
def augP (f : Int → Int → Int) (fo fi fe : DE) : DS := fun D ρ M => fo D.ex ρ M fun x M1 => fi D.ex ρ M1 fun y M2 => match x, y with
  | .m a, .d (.int k) => ∃ (j : Nat) (ds : List PyData) (v : Int), k = (j : Nat) ∧ M2 a = some ds ∧ ds[j]? = some (.int v) ∧ fe D.ex ρ M2 fun z M3 => match z with
    | .d (.int w) => ∃ es : List PyData, M3 a = some es ∧ j < es.length ∧ D.nx ρ (updM M3 a (es.set j (.int (f v w))))
    | _ => False
  | _, _ => False
theorem aug_core {op : Operator} {f : Int → Int → Int} (hp : PIp X op (ipI f)) (ho : CE X W o fo) (hi : CE X W i fi) (he : CE X W e fe)
    (ha : ∀ ov iv new, augStore i ov iv new = (do holding [new, ov, iv] (setItem ov iv new); release [new, ov, iv] []; pure .next)) : CS X W (.AugAssign (.Subscript o i tpos) op e pos) (augP f fo fi fe) :=
  ⟨PS.weak (ps_augS ho.pe hi.pe pget_n he.pe hp set_list ha) fun D σ H ⟨ρ, M, Dd, r, en, q⟩ => by
    refine emb.next r (en.x r) ho.mono q fun x M1 v H1 e1 r1 x1 rv h1 => ?_
    refine emb.next r1 x1 hi.mono h1 fun y M2 u H2 e2 r2 x2 ru h2 => ?_
    split at h2
    · rename_i a k
      obtain ⟨j, ds, c, rfl, hm, hj, h2⟩ := h2
      obtain ⟨rfl, ha2, hl2⟩ := (rv.ext e2 : RV X.K H2 M2 v (.m a))
      obtain ⟨xs, hx, fx⟩ := r2.mem.lst hm hl2
      cases ru
      obtain ⟨xv, hxv, fxv⟩ := fx.get hj
      cases fxv
      refine ⟨a, xs, j, _, rfl, rfl, hx, hxv, ?_⟩
      refine emb.next r2 x2 he.mono h2 fun z M3 z' H3 e3 r3 x3 rz h3 => ?_
      split at h3
      · rename_i w
        obtain ⟨es, hm3, hj3, h3⟩ := h3
        obtain ⟨ys, hy, fy⟩ := r3.mem.lst hm3 (e3.lst _ _ hx)
        cases rz
        have ly := fy.length
        have ix : ixN ys.length ((j : Nat) : Int) = some j := by
          unfold ixN
          rw [if_pos (by omega), if_pos (by omega)]
          simp
        refine ⟨c, w, rfl, rfl, a, ys, _, j, rfl, rfl, hy, ix, ?_⟩
        refine en.nx σ _ ρ _ (((e1.trans e2).trans e3).trans (Ext.write hm3 hy)) ?_ h3
        exact r3.ext (Ext.write hm3 hy) (r3.mem.write hm3 hy (FzA.set (.int _) j fy))
      · exact h3.elim
    · exact h2.elim⟩
theorem cs_augSub (ho : CE X W o fo) (hi : CE X W i fi) (he : CE X W e fe) (ha : ∀ ov iv new, augStore i ov iv new = (do holding [new, ov, iv] (setItem ov iv new); release [new, ov, iv] []; pure .next) := by intros; rfl) :
    CS X W (.AugAssign (.Subscript o i tpos) .Sub e pos) (augP (fun i j => i - j) fo fi fe) := aug_core ip_sub ho hi he ha
theorem cs_augAdd (ho : CE X W o fo) (hi : CE X W i fi) (he : CE X W e fe) (ha : ∀ ov iv new, augStore i ov iv new = (do holding [new, ov, iv] (setItem ov iv new); release [new, ov, iv] []; pure .next) := by intros; rfl) :
    CS X W (.AugAssign (.Subscript o i tpos) .Add e pos) (augP (fun i j => i + j) fo fi fe) := aug_core ip_add ho hi he ha
end
end HD

namespace HD
open PySem PySem.Spec PyProof.Rows PySem.SeqAt L2

/-! ### sorted of a list of rows -/
section
variable {P : Program} {w : World} {A : Around} {E : Value → Shared → Prop} {s : Shared}
theorem sorted_rowsL {l : Addr} {vs : List Value} {Q : Value → Shared → Prop} (hl : s.heap.IsList l vs.toArray) (h64 : vs.length < 64) (dat : Value → PyData) (U : List PyData)
    (hv : ∀ v ∈ vs, (∃ as, Reads s.heap v (dat v) as) ∧ Row (dat v) ∧ dat v ∈ U) (hU : ∀ u ∈ U, pureI u = true) (hO : ∀ u ∈ U, ∀ v ∈ U, ordD u v = true) (hu : A.units + 24 < cLine)
    (hQ : ∀ out : Array Value, out.toList.Perm vs → out.toList.Pairwise (fun u v => rankD U (dat u) ≤ rankD U (dat v)) → Q (.ref (s.heap.objs.size + 1)) { s with heap := sortedAll s.heap vs out }) :
    wpAny (model P w) A (call (.builtin "sorted") [.ref l]) Q E s := by
  refine Calls.call_function_entry kind_sorted plain_sorted entry_sorted (args_sorted1 _) ?_
  unfold Builtin.«sorted»
  refine wpAny_bind (m := checkCount "sorted" 1 1 _) (wpAny_pure (wpAny_bind (collect_list hl (wpAny_bind (wpAny_newList ?_ (by rw [sizeLine_eq]; omega))) (by rw [sizeLine_eq]; omega))))
  generalize hB : (s.heap.push (seqObj "list" #[] 0)).update s.heap.objs.size (Obj.mapSeq (· ++ vs.toArray)) = B
  have sz : B.objs.size = s.heap.objs.size + 1 := by rw [← hB, Heap.size_update, size_push']
  have top : (B.push (seqObj "list" vs.toArray 0)).get? (s.heap.objs.size + 1) = some (seqObj "list" vs.toArray 0) := by rw [← sz]; exact Heap.get?_push_size _ rfl
  have old : ∀ b o, s.heap.get? b = some o → (B.push (seqObj "list" vs.toArray 0)).get? b = some o := fun b o q => by
    have lt := Heap.lt_size q
    rw [Heap.get?_push_ne _ _ _ (by rw [sz]; exact Nat.ne_of_lt (Nat.lt_succ_of_lt lt)), ← hB]
    rw [Heap.get?_update_ne _ _ _ _ (Nat.ne_of_lt lt), Heap.get?_push_ne _ _ _ (Nat.ne_of_lt lt)]
    exact q
  show wpAny _ _ _ _ _ { s with heap := B.push (seqObj "list" vs.toArray 0) }
  rw [sz]
  have vals : ∀ v ∈ vs, (∃ as, Reads (B.push (seqObj "list" vs.toArray 0)) v (dat v) as) ∧ Row (dat v) ∧ dat v ∈ U := fun v m =>
    let ⟨⟨as, r⟩, row, u⟩ := hv v m
    ⟨⟨as, reads_tups (fun b o e _ => old b o e) _ _ _ row.pure r⟩, row, u⟩
  refine wpAny_bind (wpAny_holding (wpAny_call_entry slot_list_sort ⟨_, top, rfl⟩ entry_list_sort (sort_rows (s := { s with heap := B.push (seqObj "list" vs.toArray 0) }) dat U top h64 vals hU hO (by show A.units + 1 + 1 + 16 < cLine; omega) fun out a1 a2 => ⟨_, rfl, ?_⟩) (args_list_sort _)))
  have q := hQ out a1 a2
  unfold sortedAll at q
  rw [hB] at q
  exact wpAny_pure ⟨_, rfl, q⟩
end
/-- the same things, none less than one ahead of it -/
structure RowsSorted (ds out : List PyData) : Prop where
  perm : out.Perm ds
  asc : out.Pairwise fun d e => ltD e d = false
def rSortL (K : PySem.W.Frag) (M : Mem) (ds : List PyData) : List V → Hp → VK → Prop := fun xs H Q => ∃ v x, xs = [v] ∧ MemOk K H M ∧ RV K H M v x ∧ vw M x = some (.list ds) ∧ SetOk ds ∧
  ∀ out us p, RowsSorted ds out → H p = none → FzA K H M us out → Q (.ref p) (upd H p (.lst us))
section
variable {X : Cx} {pins : List (Addr × Obj)} {σ : L2.St} {H : Hp} {M : Mem} {s : Shared}
theorem vals_reads (I : Inv X pins σ H s) : ∀ {vs : List V} {us : List Value} {ds : List PyData}, Vals vs us → FzA X.K H M vs ds → (∀ d ∈ ds, Row d) → us.map (readOf s.heap) = ds ∧ ∀ u ∈ us, ∃ b, u = .ref b ∧ Fz X.K H M (.ref b) (readOf s.heap u) ∧ ∃ as, Reads s.heap u (readOf s.heap u) as
  | _, _, _, .nil, .nil, _ => ⟨rfl, fun u hu => (by cases hu)⟩
  | _, _, _, .cons r t, .cons (d := d) f g, h => by
    obtain ⟨i1, i2⟩ := vals_reads I t g fun d hd => h d (List.mem_cons_of_mem _ hd)
    have row := h d List.mem_cons_self
    obtain ⟨b, rfl⟩ := row_ref f row
    cases r
    obtain ⟨as, rd, _⟩ := Fz.reads I f (u := .ref b) rfl
    have e := readOf_eq (pure_lay d row.pure) rd
    refine ⟨by rw [List.map_cons, e, i1], fun u hu => ?_⟩
    rcases List.mem_cons.mp hu with z | z
    · subst z; exact ⟨b, rfl, by rw [e]; exact f, as, by rw [e]; exact rd⟩
    · exact i2 u z
theorem cr_sortL (hc : X.calm = true) (hu : X.A.units + 64 < cLine) (M : Mem) (ds : List PyData) : CallR X (.builtin "sorted") (rSortL X.K M ds) := by
  intro pins s σ H xs us Q I r h
  obtain ⟨v, x, rfl, o, rv, e, ok, q⟩ := h
  obtain ⟨l, vs, rfl, hl, fz⟩ := vw_lst o rv e
  rw [Vals.ref1 r]
  obtain ⟨its, vals, pl, hz⟩ := I.list (.of hl)
  obtain ⟨d1, d2⟩ := vals_reads I vals fz fun d hd => (ok.row d hd).1
  have len : its.length = ds.length := by rw [← d1, List.length_map]
  have mem : ∀ u ∈ its, readOf s.heap u ∈ ds := fun u m => by rw [← d1]; exact List.mem_map.mpr ⟨u, m, rfl⟩
  refine sorted_rowsL pl.isList (by rw [len]; exact ok.few) (readOf s.heap) ds (fun u m => ?_) (fun d hd => (ok.row d hd).1.pure) ok.ord (by omega) fun out a1 a2 => ?_
  · obtain ⟨b, _, _, as⟩ := d2 u m
    exact ⟨as, (ok.row _ (mem u m)).1, mem u m⟩
  · obtain ⟨ep, he'⟩ := PyProof.Rows.sortedAll_at s.heap its out
    have back : ∀ u ∈ out.toList, ∃ b, u = Value.ref b ∧ Fz X.K H M (.ref b) (readOf s.heap u) := fun u m => let ⟨b, z, f, _⟩ := d2 u (a1.mem_iff.mp m); ⟨b, z, f⟩
    have fzo : FzA X.K H M (out.toList.map bkV) (out.toList.map (readOf s.heap)) := fz_all fun u m => by
      obtain ⟨b, z, f⟩ := back u m
      subst z
      exact f
    have lo : (out.toList.map bkV).length ≤ sizeLine := by
      have := ok.few
      rw [List.length_map, a1.length_eq, len, sizeLine_eq]
      omega
    refine ⟨.ref _, upd H (s.heap.objs.size + 1) (.lst (out.toList.map bkV)), I.laid (t' := s.toks) (fun _ _ => PyProof.Rows.sortedAll_old) (Nat.le_succ _) ⟨lo, out.toList, ep, bkV_vals fun u m => let ⟨b, z, _⟩ := back u m; ⟨b, z⟩, he'⟩, rfl, q (out.toList.map (readOf s.heap)) _ _ ⟨by rw [← d1]; exact a1.map _, ?_⟩ (I.hok.fresh (Nat.le_succ _)) fzo⟩
    refine List.pairwise_map.mpr (List.Pairwise.imp_of_mem (fun {u v} mu mv z => ?_) a2)
    have m1 := mem u (a1.mem_iff.mp mu)
    have m2 := mem v (a1.mem_iff.mp mv)
    cases y : ltD (readOf s.heap v) (readOf s.heap u) with
    | false => rfl
    | true =>
      have := (rank_lt (fun u hu => (ok.row u hu).1.pure) ok.ord m2 m1).mpr y
      omega
end
def dSortL (fa : DE) : DE := fun Xd ρ M Q => fa Xd ρ M fun x M1 => match vw M1 x with
  | some (.list ds) => SetOk ds ∧ ∀ out, RowsSorted ds out → Q (.d (.list out)) M1
  | _ => False
section
variable {X : Cx} {W : WX} {a : Expr} {fa : DE} {p pos : Pos}
theorem ce_sortL (hc : X.calm = true) (hu : X.A.units + 64 < cLine) (hg : Gl X "sorted") (hm : X.mg "sorted" = none) (hv : bootBuiltins "sorted" = some (.builtin "sorted")) (ha : CE X W a fa)
    (he : starEach (a :: []) X.env = (false, eval a X.env) :: starEach [] X.env := by rfl) (hpl : (backTo pos (starEach [] X.env)).any (·.1) = false := by rfl) : CE X W (.Call (.Name "sorted" p) [a] [] pos) (dSortL fa) where
  pe := PE.weak (pe_callB (fun pins s σ H xs us Q I r (h : ∃ M ds, rSortL X.K M ds xs H Q) => let ⟨M, ds, h⟩ := h; cr_sortL hc hu M ds pins s σ H xs us Q I r h) hg hm hv (pa_cons ha.pe pa_nil he) (by decide) (by decide) he hpl) fun σ H Q ⟨ρ, M, Xd, r, x, h⟩ => by
    refine emb.next r x ha.mono h fun y M1 v H1 e1 r1 x1 rv h1 => ?_
    split at h1
    · rename_i ds e
      exact ⟨M1, ds, v, y, rfl, r1.mem, rv, e, h1.1, fun out us q so hq fz => h1.2 out so _ _ (e1.trans (Ext.new hq)) (r1.mem.new hq) (.lst upd_same (r1.mem.out hq) (fz.ext (Ext.new hq)))⟩
    · exact h1.elim
  mono := fun Xd ρ M Q Q' hq h => ha.mono _ _ _ _ _ (fun x M1 h1 => by
    split at h1
    · exact ⟨h1.1, fun out so => hq _ _ (h1.2 out so)⟩
    · exact h1.elim) h
end
end HD

namespace HD
open PySem PySem.Spec PyProof.Rows L2

/-! ### enumerate of a list that is still written -/
section
variable {K : PySem.W.Frag} {H : Hp} {M : Mem} {a : Addr} {ds : List PyData}
theorem dwalk_enM (hm : M a = some ds) (o1 : MemOk K H M) (hl : ∃ ws, H a = some (.lst ws)) : DWalk K (Ite K a) (enumD ds) (fun M' => M' a = some ds) H M := by
  have lst : ∀ {H' M'}, Ext H M H' M' → ∃ ws, H' a = some (.lst ws) := fun e => let ⟨ws, z⟩ := hl; e.lst a ws z
  refine ⟨fun H' => ∃ ws, H' a = some (.lst ws) ∧ ws.length = ds.length, fun i H' v H'' => ∃ T x, v = .ref T ∧ H' T = none ∧ H'' = upd H' T (.tup [.int (i : Nat), x]) ∧ ∀ ws, H' a = some (.lst ws) → ws[i]? = some x, ⟨fun i H' hi ⟨ws, h1, h2⟩ => ?_, fun H' ⟨ws, h1, h2⟩ => ?_, fun i H' v H'' hi g ⟨T, x, y1, y2, y3, y⟩ => ⟨T, x, y1, y2, y3, fun ws h => y ws (.of h)⟩⟩, fun H' M' e o k => ?_, fun i v H' H'' M' _ e o k ⟨T, x, y1, y2, y3, y⟩ => ?_⟩
  · rw [enumD_length] at hi
    exact ⟨ws, ws[i]'(by omega), .of h1, by simp [h2, hi]⟩
  · exact ⟨ws, .of h1, by rw [enumD_length]; omega⟩
  · obtain ⟨xs, h1, h2⟩ := o.lst k (lst e)
    exact ⟨xs, h1, h2.length⟩
  · obtain ⟨xs, h1, h2⟩ := o.lst k (lst e)
    exact enum_yield h2 o ⟨T, .int (i : Nat), x, y1, y2, y3, rfl, y xs h1⟩
end
section
variable {X : Cx} {W : WX} {a : Expr} {t : DA} {p pos tpos : Pos} {elts : List Expr} {kk : Nat}
def iEnumX (t : DA) : DI := fun Xd ρ M R => t Xd ρ M fun xs M1 => match xs with
  | [.d (.tuple ds)] => R (enumD ds) (fun _ => True) M1
  | [.d (.list ds)] => R (enumD ds) (fun _ => True) M1
  | [.m a] => match M1 a with
    | some ds => R (enumD ds) (fun M' => M' a = some ds) M1
    | none => False
  | _ => False
theorem ci_enumX (hg : Gl X "enumerate") (hm : X.mg "enumerate" = none) (ha : CA X W [a] t) (hs : starEach [a] X.env = [(false, eval a X.env)] := by rfl) : CI X W (.Tuple elts kk tpos) (.Call (.Name "enumerate" p) [a] [] pos) (iEnumX t) where
  pi := PI.weak (pi_enT hg hm ha.pa hs) fun σ H R ⟨ρ, M, Xd, r, x, h⟩ => embA.next r x ha.mono h fun ys M1 vs H1 e1 r1 x1 rv h1 => by
    split at h1
    · obtain ⟨v, rfl, rv1⟩ := rv.one
      cases rv1 with | tup h2 f => exact ⟨_, _, rfl, .inl ⟨h2.sq, h1 _ _ e1 r1.mem (dwalk_enT h2 f)⟩⟩
    · obtain ⟨v, rfl, rv1⟩ := rv.one
      cases rv1 with | lst h2 m f => exact ⟨_, _, rfl, .inr ⟨.of h2, h1 _ _ e1 r1.mem (dwalk_enL h2 m f)⟩⟩
    · split at h1
      · rename_i ds em
        obtain ⟨v, rfl, rv1⟩ := rv.one
        obtain ⟨rfl, _, hl⟩ := rv1
        obtain ⟨xs, h2, _⟩ := r1.mem.lst em hl
        exact ⟨_, _, rfl, .inr ⟨.of h2, h1 _ _ e1 r1.mem (dwalk_enM em r1.mem hl)⟩⟩
      · exact h1.elim
    · exact h1.elim
  mono := fun Xd ρ M Q Q' hq h => ha.mono _ _ _ _ _ (fun x M1 h1 => by
    split at h1
    · exact hq _ _ _ h1
    · exact hq _ _ _ h1
    · split at h1
      · exact hq _ _ _ h1
      · exact h1.elim
    · exact h1.elim) h
end
end HD

/-! own errors as values: their class, their fields, lists of them -/
namespace HD
open PySem PySem.Spec PyProof.Rows L2
/-- what the text says of an own class of errors whose objects are values; bm: the built-in classes above it -/
structure XCl (K : PySem.W.Frag) (C : Addr) (bm : List Value) : Prop where
  lk : ∃ (nm q : Str) (N : Addr) (bs : List Value) (sn : List Str) (sub : List Value) (ab : Bool) (col : Option Bool) (dd : Option Addr) (a0 a1 a2 a3 a5 : Option Value) (nI : String), K.lookup C = some (excClassObj nm q C N bs bm true sn sub ab col dd a0 a1 a2 a3 a5 nI)
  nr : ∀ D, bm.contains (Value.ref D) = false
  ob : bm.contains (.type "object") = true
  be : bm.contains (.type "BaseException") = true
  ty : PySem.W.typeIn K (.ref C) = some (.type "type")
  ga : PySem.W.findIn K (.ref C) "__getattribute__" = some (some (.builtin "BaseException.__getattribute__"))
  gg : PySem.W.findIn K (.ref C) "__getattr__" = some none
  ca : PySem.W.findIn K (.ref C) "__class__" = some (some (.builtin "object.__class__"))
  cn : PySem.W.specialIn K (.builtin "object.__class__") "__get__" = some (some (.builtin "getset_descriptor.__get__"))
  ct : PySem.W.takesIn K (.builtin "object.__class__") = some true
section
variable {K : PySem.W.Frag} {C D : Addr} {bm bm' : List Value}
theorem XCl.cls (T : XCl K C bm) : ∃ cd, PySem.W.clsIn K C = some cd ∧ cd.mro = .ref C :: bm ∧ cd.hasDict = true := by
  obtain ⟨nm, q, N, bs, sn, sub, ab, col, dd, a0, a1, a2, a3, a5, nI, e⟩ := T.lk
  have hc : PySem.W.clsIn K C = some { name := nm, bases := bs, mro := .ref C :: bm, ns := N, qualname := q, hasDict := true, slotNames := sn, subclasses := sub, abstract := ab, collection := col, hasDel := false } := by
    unfold PySem.W.clsIn; rw [e] <;> rfl
  exact ⟨_, hc, rfl, rfl⟩
theorem XCl.some (T : XCl K C bm) : (PySem.W.clsIn K C).isSome = true := by
  obtain ⟨cd, h, _⟩ := T.cls
  rw [h]; rfl
theorem XCl.mro (T : XCl K C bm) (b : Value) : PySem.W.mroIn K C b = Option.some ((Value.ref C :: bm).contains b) := by
  obtain ⟨cd, h, m, _⟩ := T.cls
  unfold PySem.W.mroIn
  rw [h, Option.bind_some, m]
  rfl
theorem XCl.dict (T : XCl K C bm) : PySem.W.hasDictIn K C = true := by
  obtain ⟨cd, h, _, m⟩ := T.cls
  unfold PySem.W.hasDictIn
  rw [h]
  exact m
theorem XCl.exc (T : XCl K C bm) : PySem.W.subIn K (.ref C) (.type "BaseException") = Option.some true := by
  show PySem.W.mroIn K C _ = _
  rw [T.mro, List.contains_cons, T.be, Bool.or_true]
theorem XCl.top (T : XCl K C bm) : PySem.W.mroIn K C (.type "object") = Option.some true := by
  rw [T.mro, List.contains_cons, T.ob, Bool.or_true]
theorem ref_beq : (Value.ref C == Value.ref D) = decide (C = D) := by
  by_cases h : C = D
  · subst h; rw [decide_eq_true rfl]; exact beq_self_eq_true _
  · rw [decide_eq_false h]
    exact Bool.eq_false_iff.mpr fun q => h (Value.ref.inj (beq_iff_eq.mp q))
theorem XCl.own (T : XCl K C bm) (T' : XCl K D bm') : PySem.W.kitOne K (.ref C) (.ref D) = Option.some (decide (C = D)) := by
  unfold PySem.W.kitOne
  by_cases h : C = D
  · subst h
    rw [if_pos (beq_self_eq_true _), decide_eq_true rfl]
  · rw [if_neg (fun q => h (Value.ref.inj (beq_iff_eq.mp q))), decide_eq_false h]
    unfold PySem.W.kitCls
    have e2 : ((PySem.W.clsIn K D).isSome && PySem.W.typeIn K (.ref D) == Option.some (.type "type")) = true := by
      rw [T'.some, T'.ty] <;> rfl
    refine (if_pos e2).trans ?_
    show PySem.W.mroIn K C _ = _
    rw [T.mro, List.contains_cons, T.nr, Bool.or_false, ref_beq, decide_eq_false (fun q => h q.symm)]
theorem XCl.built (T : XCl K C bm) {B : String} (hB : PySem.W.kitMeta B = true) : PySem.W.kitOne K (.ref C) (.type B) = Option.some (bm.contains (.type B)) := by
  have e0 : (Value.ref C == Value.type B) = false := rfl
  have e1 : (Value.type B == Value.ref C) = false := rfl
  unfold PySem.W.kitOne
  rw [e0, if_neg Bool.false_ne_true]
  unfold PySem.W.kitCls
  refine (if_pos hB).trans ?_
  show PySem.W.mroIn K C _ = _
  rw [T.mro, List.contains_cons, e1, Bool.false_or]
end

/-- the object at a, as the library asks for it -/
theorem xo_inst {K : PySem.W.Frag} {P : Program} {w : World} {H : Hp} {h : Heap} {a C : Addr} {d : Option Addr} (hok : HOk P w H h) (he : H a = some (exo a C d)) (hd : d = none ∨ ∃ dx fs, d = some dx ∧ H dx = some (exd dx fs)) :
    ∃ ox od, PySem.W.InstAt h a ox C od := by
  obtain ⟨t1, ho⟩ := exo_at hok he
  rcases hd with rfl | ⟨dx, fs, rfl, ed⟩
  · exact ⟨_, none, ho, rfl, rfl, trivial⟩
  · obtain ⟨mA, hns, rel⟩ := exd_at hok ed
    obtain ⟨oD, hoD, _⟩ := lookIn_ns hns
    exact ⟨_, some oD, ho, rfl, rfl, hoD⟩
/-- isinstance(e, c), e an own error -/
def rIsX (K : PySem.W.Frag) : List V → Hp → VK → Prop := fun xs H Q => ∃ (a C : Addr) (bm : List Value) (d : Option Addr) (c : V) (u : Value) (b : Bool), xs = [.ref a, c] ∧ ClsV c u ∧ XCl K C bm ∧ H a = some (exo a C d) ∧ (d = none ∨ ∃ dx fs, d = some dx ∧ H dx = some (exd dx fs)) ∧ PySem.W.kitOne K (.ref C) u = some b ∧ Q (.bl b) H
theorem call_isX {X : Cx} : CallR X (.builtin "isinstance") (rIsX X.K) := by
  intro pins s σ H xs us Q I r h
  obtain ⟨a, C, bm, d, c, u, b, rfl, hc, T, he, hd, e, q⟩ := h
  obtain ⟨u1, u2, rfl, r1, r2⟩ := vals2 r
  cases (show u1 = Value.ref a from r1)
  have e2 := hc.eq r2
  subst e2
  obtain ⟨ox, od, J⟩ := xo_inst (K := X.K) I.hok he hd
  exact PySem.W.kia_one (PySem.W.kitx_exc (ox := ox) (od := od) T.some T.ga T.gg T.exc T.ca T.cn T.ct T.top) I.kIn J e (fun z => nomatch z) fun tk => ⟨.bl b, H, I.tok tk, rfl, q⟩
theorem xo_dict {K : PySem.W.Frag} {H : Hp} {M : Mem} {a C : Addr} {d : Option Addr} {fs : List (Str × PyData)} (h : XoAt K H M a C d fs) : d = none ∨ ∃ dx fs, d = some dx ∧ H dx = some (exd dx fs) := by
  rcases h.2 with z | ⟨dx, fv, h1, h2, _⟩
  · exact .inl z.1
  · exact .inr ⟨dx, fv, h1, h2.1⟩

/-- e's class is among cs; is it D? -/
def dIsO (cs : List Addr) (D : Addr) (fa : DE) : DE := fun Xd ρ M Q => fa Xd ρ M fun x M1 => match x with
  | .x _ C _ _ => C ∈ cs ∧ Q (.d (.bool (decide (C = D)))) M1
  | _ => False
/-- bms: the built-in classes above each of the classes -/
def dIsB (bms : List (Addr × List Value)) (B : String) (fa : DE) : DE := fun Xd ρ M Q => fa Xd ρ M fun x M1 => match x with
  | .x _ C _ _ => ∃ bm, (C, bm) ∈ bms ∧ Q (.d (.bool (bm.contains (.type B)))) M1
  | _ => False
section
variable {X : Cx} {W : WX} {a : Expr} {fa : DE} {n : Str} {p p2 pos : Pos} {D : Addr} {bms : List (Addr × List Value)} {B : String}
theorem ce_isO (hcs : ∀ z ∈ bms, XCl X.K z.1 z.2) {bD : List Value} (hD : (D, bD) ∈ bms) (hg : Gl X "isinstance") (hm : X.mg "isinstance" = none) (hgT : Gl X n) (hmT : X.mg n = some (.ref D)) (ha : CE X W a fa) (hdb : (n == ("__debug__" : Str)) = false := by decide)
    (he : starEach (a :: [.Name n p2]) X.env = (false, eval a X.env) :: starEach [.Name n p2] X.env := by rfl) (he2 : starEach (.Name n p2 :: []) X.env = (false, eval (.Name n p2) X.env) :: starEach [] X.env := by rfl) (hpl : (backTo pos (starEach [.Name n p2] X.env)).any (·.1) = false := by rfl) :
    CE X W (.Call (.Name "isinstance" p) [a, .Name n p2] [] pos) (dIsO (bms.map (·.1)) D fa) where
  pe := PE.weak (pe_callB call_isX hg hm PyProof.Rows.boot_isinstance (pa_cons ha.pe (pa_cons (pe_glob hgT hmT hdb) pa_nil he2) he) (by decide) (by decide) he hpl) fun σ H Q ⟨ρ, M, Xd, r, x, h⟩ => by
    refine emb.next r x ha.mono h fun y M1 v H1 e1 r1 x1 rv h1 => ?_
    split at h1
    · rename_i b C d fs
      obtain ⟨hC, q⟩ := h1
      obtain ⟨z, hz, rfl⟩ := List.mem_map.mp hC
      obtain ⟨rfl, xo⟩ := rv
      exact ⟨b, z.1, z.2, d, .ref D, .ref D, _, rfl, .own D, hcs _ hz, xo.1.1, xo_dict xo, (hcs _ hz).own (hcs _ hD), q _ _ e1 r1.mem (.bl _)⟩
    · exact h1.elim
  mono := fun Xd ρ M Q Q' hq h => ha.mono _ _ _ _ _ (fun x M1 h1 => by
    split at h1
    · exact ⟨h1.1, hq _ _ h1.2⟩
    · exact h1.elim) h
theorem ce_isB (hcs : ∀ z ∈ bms, XCl X.K z.1 z.2) (hB : PySem.W.kitMeta B = true) (hg : Gl X "isinstance") (hm : X.mg "isinstance" = none) (hgT : Gl X n) (hmT : X.mg n = none) (hbT : bootBuiltins n = some (.type B)) (ha : CE X W a fa) (hn : n ≠ "__name__" := by decide) (hdb : (n == ("__debug__" : Str)) = false := by decide)
    (he : starEach (a :: [.Name n p2]) X.env = (false, eval a X.env) :: starEach [.Name n p2] X.env := by rfl) (he2 : starEach (.Name n p2 :: []) X.env = (false, eval (.Name n p2) X.env) :: starEach [] X.env := by rfl) (hpl : (backTo pos (starEach [.Name n p2] X.env)).any (·.1) = false := by rfl) :
    CE X W (.Call (.Name "isinstance" p) [a, .Name n p2] [] pos) (dIsB bms B fa) where
  pe := PE.weak (pe_callB call_isX hg hm PyProof.Rows.boot_isinstance (pa_cons ha.pe (pa_cons (pe_bltn (v := .ty B) hgT hmT hbT rfl hn hdb) pa_nil he2) he) (by decide) (by decide) he hpl) fun σ H Q ⟨ρ, M, Xd, r, x, h⟩ => by
    refine emb.next r x ha.mono h fun y M1 v H1 e1 r1 x1 rv h1 => ?_
    split at h1
    · rename_i b C d fs
      obtain ⟨bm, hC, q⟩ := h1
      obtain ⟨rfl, xo⟩ := rv
      exact ⟨b, C, bm, d, .ty B, .type B, _, rfl, .ty B, hcs _ hC, xo.1.1, xo_dict xo, (hcs _ hC).built hB, q _ _ e1 r1.mem (.bl _)⟩
    · exact h1.elim
  mono := fun Xd ρ M Q Q' hq h => ha.mono _ _ _ _ _ (fun x M1 h1 => by
    split at h1
    · obtain ⟨bm, h2, h3⟩ := h1
      exact ⟨bm, h2, hq _ _ h3⟩
    · exact h1.elim) h
/-- e.f, e an own error -/
theorem zip_lookup {f : Str} : ∀ {fv : List (Str × V)} {fs : List (Str × PyData)} {K : PySem.W.Frag} {H : Hp} {M : Mem} {y : PyData}, fv.map (·.1) = fs.map (·.1) → FzA K H M (fv.map (·.2)) (fs.map (·.2)) → fs.lookup f = some y → ∃ v, fv.lookup f = some v ∧ Fz K H M v y
  | [], [], _, _, _, _, _, _, h => by simp at h
  | [], _ :: _, _, _, _, _, h, _, _ => by simp at h
  | _ :: _, [], _, _, _, _, h, _, _ => by simp at h
  | (g, v) :: fv, (g', z) :: fs, _, _, _, y, h, r, q => by
    simp only [List.map_cons, List.cons.injEq] at h
    obtain ⟨rfl, h⟩ := h
    simp only [List.map_cons] at r
    cases r with
    | cons r1 r2 =>
      simp only [List.lookup] at q ⊢
      split at q
      · cases q; exact ⟨v, rfl, r1⟩
      · exact zip_lookup h r2 q
def dXf (cs : List Addr) (f : Str) (fa : DE) : DE := fun Xd ρ M Q => fa Xd ρ M fun x M1 => match x with
  | .x _ C _ fs => C ∈ cs ∧ match fs.lookup f with
    | some y => Q (.d y) M1
    | none => False
  | _ => False
theorem ce_xf {f : Str} {cs : List Addr} (hcs : ∀ z ∈ cs, ∃ bm, XCl X.K z bm) (hno : ∀ z ∈ cs, PySem.W.findIn X.K (.ref z) f = some none) (ha : CE X W a fa) (hb : attributeBase a f X.env (eval a X.env) = eval a X.env := by rfl) :
    CE X W (.Attribute a f pos) (dXf cs f fa) where
  pe := ⟨fun pins s σ H Q I h => by
    refine attr_of hb (thn (ha.pe.run pins s σ H (fun v H1 => ∃ (b C dx : Addr) (fv : List (Str × V)) (y : V), v = .ref b ∧ C ∈ cs ∧ H1 b = some (exo b C (some dx)) ∧ H1 dx = some (exd dx fv) ∧ fv.lookup f = some y ∧ Q y H1) I ?_) fun u s1 hh => ?_)
    · obtain ⟨ρ, M, Xd, r, x, h⟩ := h
      refine emb.next r x ha.mono h fun y M1 v H1 e1 r1 x1 rv h1 => ?_
      split at h1
      · rename_i b C d fs
        obtain ⟨hC, q⟩ := h1
        split at q
        · rename_i y el
          obtain ⟨rfl, xo⟩ := rv
          rcases xo.2 with z | ⟨dx, fv, rfl, h2, h3, h4⟩
          · rw [z.2] at el; simp at el
          · obtain ⟨v, h5, h6⟩ := zip_lookup h3 h4 el
            exact ⟨b, C, dx, fv, v, rfl, hC, xo.1.1, h2.1, h5, q v H1 e1 r1.mem h6⟩
        · exact q.elim
      · exact h1.elim
    · obtain ⟨x, H1, I1, rx, b, C, dx, fv, y, ex, hC, h1, h2, l, q⟩ := hh
      subst ex
      obtain rfl : u = Value.ref b := rx
      obtain ⟨bm, T⟩ := hcs C hC
      obtain ⟨t1, ho⟩ := exo_at I1.hok h1
      obtain ⟨mA, hns, hr⟩ := exd_at I1.hok h2
      obtain ⟨od, hod, hl⟩ := lookIn_ns hns
      obtain ⟨u, hu, ru⟩ := RelO.some_of (v := y) (o := mA f) (by rw [← l]; exact hr f)
      have J : PySem.W.InstAt s1.heap b _ C (some od) := ⟨ho, rfl, rfl, hod⟩
      exact HandSPX.exc_get I1.kIn J T.ga T.gg T.exc (PySem.W.findObj_own T.dict (hno C hC) rfl (by rw [hl, hu])) (handed_of ru) ⟨y, H1, I1.tok _, ru, q⟩⟩
  mono := fun Xd ρ M Q Q' hq h => ha.mono _ _ _ _ _ (fun x M1 h1 => by
    split at h1
    · refine ⟨h1.1, ?_⟩
      have h2 := h1.2
      split at h2
      · exact hq _ _ h2
      · exact h2.elim
    · exact h1.elim) h
end

/-! lists of errors -/
abbrev XE4 := Addr × Addr × Option Addr × List (Str × PyData)
def allX : List DV → Option (List XE4)
  | [] => some []
  | .x a C d fs :: r => (allX r).map ((a, C, d, fs) :: ·)
  | _ :: _ => none
theorem RVs.allX {K : PySem.W.Frag} {H : Hp} {M : Mem} {vs : List V} {xs : List DV} (r : RVs K H M vs xs) : ∀ {es : List XE4}, HD.allX xs = some es → vs = es.map (fun e => V.ref e.1) ∧ ∀ e ∈ es, XoAt K H M e.1 e.2.1 e.2.2.1 e.2.2.2 := by
  induction r with
  | nil =>
    intro es h
    obtain rfl := Option.some.inj h
    exact ⟨rfl, fun _ h => by simp at h⟩
  | @cons v vs x xs h t ih =>
    intro es e
    cases x with
    | x a C d fs =>
      unfold HD.allX at e
      obtain ⟨es', e1, rfl⟩ := Option.map_eq_some_iff.mp e
      obtain ⟨h1, h2⟩ := ih e1
      obtain ⟨rfl, h3⟩ := h
      refine ⟨by rw [h1, List.map_cons], fun z hz => ?_⟩
      rcases List.mem_cons.mp hz with rfl | hz
      · exact h3
      · exact h2 z hz
    | d => exact nomatch e
    | m => exact nomatch e
    | k => exact nomatch e
    | e => exact nomatch e
    | s => exact nomatch e
    | f => exact nomatch e
    | n => exact nomatch e
    | p => exact nomatch e
    | u => exact nomatch e
    | xl => exact nomatch e
def dLstX (t : DA) : DE := fun Xd ρ M Q => t Xd ρ M fun xs M1 => match allX xs with
  | some es => es.length ≤ sizeLine ∧ ∀ p, M1 p = none → Q (.xl p es) M1
  | none => False
section
variable {X : Cx} {W : WX} {a : Expr} {es : List Expr} {fa : DE} {pos : Pos} {tg : Expr}
theorem ce_lstX {t : DA} (h : CA X W es t) : CE X W (.List es pos) (dLstX t) where
  pe := PE.weak (pe_lst h.pa) fun σ H Q ⟨ρ, M, Xd, r, x, q⟩ => by
    refine embA.next r x h.mono q fun ys M1 vs H1 e1 r1 x1 rv h1 => ?_
    split at h1
    · rename_i zs e
      obtain ⟨h2, h3⟩ := rv.allX e
      refine ⟨by rw [h2, List.length_map]; exact h1.1, fun p hp => ?_⟩
      exact h1.2 p (r1.mem.out hp) _ _ (e1.trans (Ext.new hp)) (r1.mem.new hp) ⟨rfl, ⟨by rw [upd_same, h2], r1.mem.out hp⟩, fun z hz => (h3 z hz).ext (Ext.new hp)⟩
    · exact h1.elim
  mono := fun Xd ρ M Q Q' hq q => h.mono _ _ _ _ _ (fun xs M1 h1 => by
    split at h1
    · exact ⟨h1.1, fun p hp => hq _ _ (h1.2 p hp)⟩
    · exact h1.elim) q
theorem dwalk_xl {K : PySem.W.Frag} {H : Hp} {M : Mem} {b : Addr} {zs : List XE4} (h : H b = some (.lst (zs.map fun e => V.ref e.1))) (m : M b = none) (f : ∀ e ∈ zs, XoAt K H M e.1 e.2.1 e.2.2.1 e.2.2.2) : DWalk K (Itl K b) (zs.map fun e => .x e.1 e.2.1 e.2.2.1 e.2.2.2) (fun _ => True) H M :=
  ⟨fun H => SqL K H b (zs.map fun e => V.ref e.1), YAt (zs.map fun e => V.ref e.1), by rw [List.length_map, ← List.length_map (f := fun e : XE4 => V.ref e.1)]; exact walk_list, fun H' M' e _ _ => .of (e.keep _ _ h m), fun i v H' H'' M' _ e o _ ⟨q, y⟩ => by
    subst q
    rw [List.getElem?_map, Option.map_eq_some_iff] at y
    obtain ⟨z, hz, rfl⟩ := y
    exact ⟨.x z.1 z.2.1 z.2.2.1 z.2.2.2, by rw [List.getElem?_map, hz]; rfl, Ext.refl, o, rfl, (f z (List.mem_of_getElem? hz)).ext e⟩⟩
def iXl (f : DE) : DI := fun Xd ρ M R => f Xd ρ M fun x M1 => match x with
  | .xl _ zs => R (zs.map fun e => .x e.1 e.2.1 e.2.2.1 e.2.2.2) (fun _ => True) M1
  | _ => False
theorem ci_xl (ha : CE X W a fa) : CI X W tg a (iXl fa) where
  pi := PI.weak (pi_list ha.pe) fun σ H R ⟨ρ, M, Xd, r, x, h⟩ => emb.next r x ha.mono h fun y M1 v H1 e1 r1 x1 rv h1 => by
    split at h1
    · obtain ⟨rfl, ⟨h2, h3⟩, h4⟩ := rv
      exact ⟨_, rfl, ⟨_, .of h2⟩, h1 _ _ e1 r1.mem (dwalk_xl h2 h3 h4)⟩
    · exact h1.elim
  mono := fun Xd ρ M Q Q' hq h => ha.mono _ _ _ _ _ (fun x M1 h1 => by
    split at h1
    · exact hq _ _ _ h1
    · exact h1.elim) h
end
end HD

/-! an own error made by a call with keywords -/
namespace PySem.XKw
open PySem PySem.Spec PySem.HandSPX Builtin Builtin.ObjectAttr
section
variable {M : Model} {A : Around} {E : Value → Shared → Prop} {h : Heap} {g : Array GenState} {d : Drawn} {t : Nat} {os : OsState}
variable {nm q : Str} {C N : Addr} {bs bm bmB : List Value} {hdct : Bool} {sn : List Str} {sub : List Value} {ab : Bool} {col : Option Bool} {dd : Option Addr} {k0 k1 k2 k3 k5 : Option Value} {B newId initId : String}
theorem check_newK (F : ExcBaseFacts B newId initId bmB) (hT : ∀ X : String, bm.contains (.type X) = bmB.contains (.type X)) {rest : List Value} {kw : List (Str × Value)} {Q : Unit → Shared → Prop}
    (hC : h.get? C = some (excClassObj nm q C N bs bm hdct sn sub ab col dd k0 k1 k2 k3 k5 newId)) (hq : Q () ⟨h, g, d, t, os⟩) : wpAny M A (checkBuiltinCall newId ⟨.ref C :: rest, kw⟩) Q E ⟨h, g, d, t, os⟩ := by
  have hcont : (Value.ref C :: bm).contains (.type B) = true := by rw [List.contains_cons, hT, F.hasB, Bool.or_true]
  have hstar := F.noStar
  simp only [checkBuiltinCall, F.newKind, F.newSplit, F.newRow]
  repeat (first | refine wpAny_loadPart_at hC ?_ | (refine wpAny_isSubtype_exc hC ?_; rw [hcont]) | refine wpAny_staticBase_exc hC ?_ | refine wpAny_madeBy_exc hC ?_ | simp only [bne_self_eq_false, Bool.false_eq_true, if_false] | wp_step)
  exact hq
end
section
variable {prog : Program} {w : World} {A : Around} {E : Value → Shared → Prop} {R : Result → Shared → Prop} {h : Heap} {g : Array GenState} {d : Drawn} {t : Nat} {os : OsState}
variable {nm q : Str} {C N : Addr} {bs bm bmB : List Value} {hdct : Bool} {sn : List Str} {sub : List Value} {ab : Bool} {col : Option Bool} {dd : Option Addr} {k0 k1 k2 k3 k5 : Option Value} {B newId initId : String}
theorem newK (F : ExcBaseFacts B newId initId bmB) (hT : ∀ X : String, bm.contains (.type X) = bmB.contains (.type X)) {rest : List Value} {kw : List (Str × Value)}
    (hC : h.get? C = some (excClassObj nm q C N bs bm hdct sn sub ab col dd k0 k1 k2 k3 k5 newId))
    (hq : R (.ok (.ret (.ref (h.objs.size + 1)))) ⟨(h.push { cls := .type "tuple", data := .seq rest.toArray }).push
      { cls := .ref C, data := .fields #[.ref h.objs.size, .none, .none, .none, .bool false, .none] }, g, d, t, os⟩) (hrest : rest.length ≤ sizeLine) :
    codeAny (model prog w) A (.builtin newId ⟨.ref C :: rest, kw⟩) R ⟨h, g, d, t, os⟩ := by
  have hends := F.ends
  have hcB : (Value.ref C :: bm).contains (.type B) = true := by rw [List.contains_cons, hT, F.hasB, Bool.or_true]
  have hcA : (Value.ref C :: bm).contains (.type "AttributeError") = false := by rw [List.contains_cons, hT, F.noAttr]; rfl
  have hcN : (Value.ref C :: bm).contains (.type "NameError") = false := by rw [List.contains_cons, hT, F.noName]; rfl
  refine codeAny_builtinAt F.entry ?_
  unfold Builtin.«BaseException.__new__»
  refine wpAt_bind ?_
  show wpAt _ _ _ (stack >>= _) _ _ _
  refine wpAt_bind (wpAt_stack fun p below => wpAt_of_wpAny ?_)
  wp_walk
  refine wpAt_of_wpAny ?_
  rw [F.owner]
  repeat (first | with_reducible refine wpAny_madeHere_exc F.canon hC ?_ | with_reducible refine wpAny_loadPart_at hC ?_ | (with_reducible refine wpAny_isSubtype_exc hC ?_; first | rw [hcB] | rw [hcA] | rw [hcN]) | wp_step)
  show R _ _
  rw [Heap.size_push]
  exact hq
theorem type_callK (F : ExcBaseFacts B newId initId bmB) (hT : ∀ X : String, bm.contains (.type X) = bmB.contains (.type X)) {rest : List Value} {kw : List (Str × Value)} {fI : Addr} {Q : Fin → Shared → Prop}
    (hC : h.get? C = some (excClassObj nm q C N bs bm hdct sn sub ab col dd k0 k1 k2 k3 k5 newId))
    (hi : W.Looks (model prog w) h (typeLookup (.ref C) "__init__") (some (.ref fI))) (hb : ∀ self, W.Looks (model prog w) h (bindSpecial (.ref fI) self) (.ref fI, [self])) (hrest : rest.length ≤ sizeLine)
    (hq : codeAny (model prog w) A (.call (.ref fI) ⟨.ref (h.objs.size + 1) :: rest, kw⟩)
      (fun r s' => match r with | .ok (.ret v) => v = .none ∧ Q (.done (.ret (.ref (h.objs.size + 1)))) s' | .ok _ => False | .error e => E e s')
      ⟨(h.push (W.kdv_tup rest)).push (excO C h.objs.size), g, d, t, os⟩) :
    wpAny (model prog w) A (Builtin.«type.__call__» ⟨.ref C :: rest, kw⟩) Q E ⟨h, g, d, t, os⟩ := by
  repeat (first | with_reducible refine wpAny_loadPart_at hC ?_ | with_reducible refine wpAny_madeBy_exc hC ?_ | wp_step)
  refine codeAny_call_builtin_code (Code.quiet_builtin _ F.quiet) (check_newK F hT hC ?_)
  refine newK F hT hC ?_ hrest
  show wpAny _ _ _ _ _ _
  have k : ∀ b o, h.get? b = some o → ((h.push (W.kdv_tup rest)).push (excO C h.objs.size)).get? b = some o := fun b o e => Heap.get?_push_of_some _ (Heap.get?_push_of_some _ e)
  have hC₁ := k _ _ hC
  have hget : ((h.push (W.kdv_tup rest)).push (excO C h.objs.size)).get? (h.objs.size + 1) = some (excO C h.objs.size) := by heap_get
  have hcC : (Value.ref C :: bm).contains (.ref C) = true := by simp
  have i1 := hi.keeps k
  have b1 := (hb (.ref (h.objs.size + 1))).keeps k
  unfold isInstance
  repeat (first | with_reducible refine wpAny_loadPart_at hget ?_ | (with_reducible refine wpAny_isSubtype_exc hC₁ ?_; rw [hcC]) | wp_step)
  show wpAny _ _ (typeLookup (.ref C) _) _ _ _
  refine i1.at ?_
  refine wpAny_holding (wpAny_bind (b1.at ?_))
  refine wpAny_bind (wpAny_call (codeAny_mono hq fun r s' z => ?_))
  rcases r with e | (v | _ | _ | _) <;> first | exact z | exact z.elim | skip
  obtain ⟨rfl, z⟩ := z
  first
    | exact wpAny_pure (wpAny_pure z)
    | (wp_walk; exact z)
theorem wpAny_check_callK {M : Model} {rest : List Value} {kw : List (Str × Value)} {Q : Unit → Shared → Prop} (hC : h.get? C = some (excClassObj nm q C N bs bm hdct sn sub ab col dd k0 k1 k2 k3 k5 newId))
    (hq : Q () ⟨h, g, d, t, os⟩) : wpAny M A (checkBuiltinCall "type.__call__" ⟨.ref C :: rest, kw⟩) Q E ⟨h, g, d, t, os⟩ := by
  have f3 := tc_sub
  have hT : (⟨h, g, d, t, os⟩ : Shared).TypeIs (.ref C) "type" := ⟨_, hC, rfl⟩
  simp only [checkBuiltinCall, tc_kind, tc_split]
  repeat (any_goals (first | assumption | with_reducible refine wpAny_loadPart_at hC ?_ | with_reducible refine wpAny_onRaise ?_ | with_reducible refine wpAny_map ?_ | wp_step))
theorem call_ownK (F : ExcBaseFacts B newId initId bmB) (hT : ∀ X : String, bm.contains (.type X) = bmB.contains (.type X)) {rest : List Value} {kw : List (Str × Value)} {fI : Addr}
    (hC : h.get? C = some (excClassObj nm q C N bs bm hdct sn sub ab col dd k0 k1 k2 k3 k5 newId))
    (hi : W.Looks (model prog w) h (typeLookup (.ref C) "__init__") (some (.ref fI))) (hb : ∀ self, W.Looks (model prog w) h (bindSpecial (.ref fI) self) (.ref fI, [self])) (hrest : rest.length ≤ sizeLine)
    (hq : codeAny (model prog w) (A.under (.builtin "type.__call__" ⟨.ref C :: rest, kw⟩)) (.call (.ref fI) ⟨.ref (h.objs.size + 1) :: rest, kw⟩) (W.InitBack (h.objs.size + 1) R)
      ⟨(h.push (W.kdv_tup rest)).push (excO C h.objs.size), g, d, t, os⟩) :
    codeAny (model prog w) A (.call (.ref C) ⟨rest, kw⟩) R ⟨h, g, d, t, os⟩ := by
  have f1 := tc_lookup
  have f2 := tc_bind (.ref C)
  have hTy : (⟨h, g, d, t, os⟩ : Shared).TypeIs (.ref C) "type" := ⟨_, hC, rfl⟩
  refine codeAny_of_tree ?_
  show wpAny _ _ (callAny (.ref C) _) _ _ _
  repeat (any_goals (first | assumption | with_reducible refine wpAny_loadPart_at hC ?_ | wp_step))
  refine ⟨rfl, ?_⟩
  refine codeAny_call_builtin_at (Code.quiet_builtin _ (by decide +kernel)) entry_typeCall (wpAny_check_callK hC (type_callK F hT hC hi hb hrest ?_))
  refine codeAny_mono hq fun r s' z => ?_
  rcases r with e | (v | _ | _ | _) <;> exact z
end
end PySem.XKw

namespace HD
open PySem PySem.Spec PyProof.Rows L2
/-- the promise of such a class's __init__: it keeps each argument under its name -/
def spN (K : PySem.W.Frag) (C : Addr) (flds : List Str) : Sp := fun vs H Q _ => ∃ a ws, vs = .ref a :: ws ∧ ws.length = flds.length ∧ OexB K C ∧ (∀ f ∈ flds, PySem.W.findIn K (.ref C) f = some none) ∧ H a = some (exo a C none) ∧
  (flds = [] → Q .non H) ∧ (flds ≠ [] → ∀ dx, H dx = none → dx ≠ a → Q .non (upd (upd H dx (exd dx (flds.zip ws).reverse)) a (exo a C (some dx))))
section
variable {X : Cx} {CX : CXT} {C fI : Addr} {k n : Nat} {fd : FuncData} {ps ks : List Str} {sp : Sp} {us ws : List Value} {vs zs : List V} {pins : List (Addr × Obj)} {σ : L2.St} {H1 : Hp} {Q : VK} {s : Shared} {g : List Value → List Value → List Value} {gV : List V → List V → List V}
theorem x_call (T : OexB X.K C) (iC : PySem.W.findIn X.K (.ref C) "__init__" = some (some (.ref fI))) (tI : PySem.W.typeIn X.K (.ref fI) = some (.type "function"))
    (F1 : FnOk X.prog X.w X.K X.mg X.base CX k fI fd ps sp) (hr : Room (k + 1) X.A) (hb : KBn X.K fd ps (n + 1) ks g gV) (hx : Passes CX X (fun _ _ _ => False)) (I1 : Inv X pins σ H1 s) (r1 : Vals vs us) (rz : Vals zs ws) (l1 : vs.length = n) (l2 : zs.length = ks.length) (hn : n ≤ 1000)
    (q : ∀ a, H1 a = none → sp (gV (.ref a :: vs) zs) (upd H1 a (exo a C none)) (fun v H2 => v = .non ∧ Q (.ref a) H2) (fun _ _ _ => False)) :
    wpAny (model X.prog X.w) X.A (call (.ref C) us (ks.zip ws)) (EP X pins σ Q) X.xe s := by
  obtain ⟨nm, qn, N, bs, bm, sn, sub, ab, col, dd, a0, a1, a2, a3, a5, B, nI, hC, ov⟩ := T.cl
  obtain ⟨iI, FB⟩ := ov.built
  obtain ⟨m, g0, dr, tk, os⟩ := s
  have up : m.objs.size ≤ m.objs.size + 1 := Nat.le_succ _
  have hq := q (m.objs.size + 1) (I1.hok.fresh up)
  have kk : ∀ b o, m.get? b = some o → ((m.push (PySem.W.kdv_tup us)).push (PySem.HandSPX.excO C m.objs.size)).get? b = some o := fun b o e => Heap.get?_push_of_some _ (Heap.get?_push_of_some _ e)
  have got : ((m.push (PySem.W.kdv_tup us)).push (PySem.HandSPX.excO C m.objs.size)).get? (m.objs.size + 1) = some (PySem.HandSPX.excO C m.objs.size) := by heap_get
  have I2 := I1.laid (t' := tk) (a := m.objs.size + 1) (o := exo (m.objs.size + 1) C none) kk up (exo_ok got)
  have r2 : Vals (V.ref (m.objs.size + 1) :: vs) (Value.ref (m.objs.size + 1) :: us) := .cons rfl r1
  have e1 : (Value.ref (m.objs.size + 1) :: us).length = n + 1 := r2.length.symm.trans (congrArg Nat.succ l1)
  have e2 : ws.length = ks.length := rz.length.symm.trans l2
  have hus : us.length ≤ sizeLine := by rw [← r1.length, sizeLine_eq]; omega
  refine wpAny_call (PySem.XKw.call_ownK FB (fun _ => rfl) (I1.kIn _ _ hC) (PySem.W.looks_findIn I1.kIn iC) (fun self => PySem.W.bind_fn I1.kIn self tI) hus ?_)
  refine codeAny_mono (F1.run _ X.stack _ _ ⟨Value.ref (m.objs.size + 1) :: us, ks.zip ws⟩ (g (Value.ref (m.objs.size + 1) :: us) ws) _ _ (fun _ _ _ => False) (hr.make C us (ks.zip ws)) (I2.env0.make C us (ks.zip ws)) (hb.to _ (Value.ref (m.objs.size + 1) :: us) ws I2.kIn e1 e2) (hb.rel r2 rz) hq) fun r s' hq' => ?_
  match r, hq' with
  | .error er, hq' => exact hx pins σ _ _ er s' I2 hq'
  | .ok (.ret u), hq' =>
    obtain ⟨v, H', I3, rv, ev, q3⟩ := I2.after hq'
    subst ev
    exact ⟨rv, ⟨V.ref (m.objs.size + 1), H', I3, rfl, q3⟩⟩
  | .ok .next, hq' => exact False.elim hq'
  | .ok .brk, hq' => exact False.elim hq'
  | .ok .cont, hq' => exact False.elim hq'
end
/-- what the text says of such a class -/
structure XEr (K : PySem.W.Frag) (mg : Str → Option Value) (x : Str) (flds : List Str) (C fI : Addr) (fd : FuncData) : Prop where
  oex : OexB K C
  iC : PySem.W.findIn K (.ref C) "__init__" = some (some (.ref fI))
  tI : PySem.W.typeIn K (.ref fI) = some (.type "function")
  g : mg x = some (.ref C)
  no : ∀ f ∈ flds, PySem.W.findIn K (.ref C) f = some none
  bd : ∀ (s : Shared) (u : Value) (ws : List Value), ws.length = flds.length → BindsTo s fd ⟨u :: ws, []⟩ ((("self" : Str) :: flds).zip (u :: ws))
  bk : ∀ (s : Shared) (u : Value) (ws : List Value), ws.length = flds.length → BindsTo s fd ⟨[u], flds.reverse.zip ws⟩ ((("self" : Str) :: flds).zip (u :: ws.reverse))
section
variable {K : PySem.W.Frag} {mg : Str → Option Value} {x : Str} {flds : List Str} {C fI : Addr} {fd : FuncData}
theorem XEr.kP (E : XEr K mg x flds C fI fd) : KBn K fd (("self" : Str) :: flds) (flds.length + 1) [] (fun us _ => us) (fun vs _ => vs) :=
  ⟨fun s us ws _ l1 l2 => match us, l1 with
    | u :: us, l1 => E.bd s u us (by simpa using l1), fun r _ => r⟩
theorem vals_rev : ∀ {vs : List V} {us : List Value}, Vals vs us → Vals vs.reverse us.reverse
  | _, _, .nil => .nil
  | _, _, .cons r t => by
    rw [List.reverse_cons, List.reverse_cons]
    exact (vals_rev t).append (.cons r .nil)
theorem XEr.kK (E : XEr K mg x flds C fI fd) : KBn K fd (("self" : Str) :: flds) 1 flds.reverse (fun us ws => us ++ ws.reverse) (fun vs zs => vs ++ zs.reverse) :=
  ⟨fun s us ws _ l1 l2 => match us, l1 with
    | [u], _ => E.bk s u ws (by rw [l2, List.length_reverse]), fun r z => r.append (vals_rev z)⟩
end
/-- C(e, ..): rv: by keywords, from the last field to the first -/
def dXmk (C : Addr) (flds : List Str) (rv : Bool) (t : DA) : DE := fun Xd ρ M Q => t Xd ρ M fun xs M1 => match allD xs with
  | some ds => ds.length = flds.length ∧ ∀ a d, M1 a = none → Q (.x a C d (flds.zip (if rv then ds.reverse else ds)).reverse) M1
  | none => False
theorem FzA.rev {K : PySem.W.Frag} {H : Hp} {M : Mem} {vs : List V} {ds : List PyData} (h : FzA K H M vs ds) : FzA K H M vs.reverse ds.reverse := h.reverse
theorem zip_fst : ∀ {α : Type} {fs : List Str} {ys : List α}, ys.length = fs.length → (fs.zip ys).map (·.1) = fs
  | _, [], _, _ => by simp
  | _, f :: fs, [], h => by simp at h
  | _, f :: fs, y :: ys, h => by simp only [List.zip_cons_cons, List.map_cons]; rw [zip_fst (by simpa using h)]
theorem zip_snd : ∀ {α : Type} {fs : List Str} {ys : List α}, ys.length = fs.length → (fs.zip ys).map (·.2) = ys
  | _, [], [], _ => by simp
  | _, [], _ :: _, h => by simp at h
  | _, f :: fs, [], h => by simp at h
  | _, f :: fs, y :: ys, h => by simp only [List.zip_cons_cons, List.map_cons]; rw [zip_snd (by simpa using h)]
/-- the object that came about, as data tell it -/
theorem xo_made {K : PySem.W.Frag} {H : Hp} {M : Mem} {C : Addr} {flds : List Str} {vs : List V} {ds : List PyData} {P : VK} {Q : DK} (o : MemOk K H M) (T : OexB K C) (no : ∀ f ∈ flds, PySem.W.findIn K (.ref C) f = some none) (rv : FzA K H M vs ds) (hl : ds.length = flds.length)
    (hP : ∀ v H' x, Ext H M H' M → MemOk K H' M → RV K H' M v x → Q x M → P v H')
    (h : ∀ a d, M a = none → Q (.x a C d (flds.zip ds).reverse) M) :
    ∀ a, H a = none → spN K C flds (.ref a :: vs) (upd H a (exo a C none)) (fun v H2 => v = .non ∧ P (.ref a) H2) (fun _ _ _ => False) := by
  intro a ha
  refine ⟨a, vs, rfl, by rw [rv.length, hl], T, no, upd_same, fun e => ⟨rfl, ?_⟩, fun _ dx hdx ne => ⟨rfl, ?_⟩⟩
  · subst e
    refine hP _ _ (.x a C none (([] : List Str).zip ds).reverse) (Ext.new ha) (o.new ha) ⟨rfl, ⟨upd_same, o.out ha⟩, .inl ⟨rfl, rfl⟩⟩ (h a none (o.out ha))
  · rw [upd_ne ne] at hdx
    have e1 : upd (upd (upd H a (exo a C none)) dx (exd dx (flds.zip vs).reverse)) a (exo a C (some dx)) = upd (upd H dx (exd dx (flds.zip vs).reverse)) a (exo a C (some dx)) := by
      funext b
      by_cases q : b = a
      · subst q; rw [upd_same, upd_same]
      · rw [upd_ne q, upd_ne q]
        by_cases q2 : b = dx
        · subst q2; rw [upd_same, upd_same]
        · rw [upd_ne q2, upd_ne q2, upd_ne q]
    rw [e1]
    have ha2 : upd H dx (exd dx (flds.zip vs).reverse) a = none := by rw [upd_ne (fun q => ne q.symm)]; exact ha
    have E1 : Ext H M (upd H dx (exd dx (flds.zip vs).reverse)) M := Ext.new hdx
    have E2 : Ext (upd H dx (exd dx (flds.zip vs).reverse)) M (upd (upd H dx (exd dx (flds.zip vs).reverse)) a (exo a C (some dx))) M := Ext.new ha2
    have lv : vs.length = flds.length := by rw [rv.length, hl]
    refine hP _ _ (.x a C (some dx) (flds.zip ds).reverse) (E1.trans E2) ((o.new hdx).new ha2) ⟨rfl, ⟨upd_same, o.out ha⟩, .inr ⟨dx, (flds.zip vs).reverse, rfl, ⟨by rw [upd_ne ne, upd_same], o.out hdx⟩, ?_, ?_⟩⟩ (h a (some dx) (o.out ha))
    · rw [List.map_reverse, List.map_reverse, zip_fst lv, zip_fst hl]
    · rw [List.map_reverse, List.map_reverse, zip_snd lv, zip_snd hl]
      exact (rv.ext (E1.trans E2)).reverse
section
variable {X : Cx} {W : WX} {x : Str} {flds : List Str} {C fI : Addr} {fd : FuncData} {j : Nat} {e : Expr} {es : List Expr} {kws : List Keyword} {t : DA} {p pos : Pos}
theorem allD_len : ∀ {xs : List DV} {ds : List PyData}, allD xs = some ds → xs.length = ds.length
  | [], ds, h => by cases h; rfl
  | .d y :: r, ds, h => by
    simp only [allD, Option.map_eq_some_iff] at h
    obtain ⟨es, e1, rfl⟩ := h
    rw [List.length_cons, List.length_cons, allD_len e1]
theorem dXmk_mono {rv : Bool} (h : ∀ Xd ρ M Q Q', (∀ xs M', Q xs M' → Q' xs M') → t Xd ρ M Q → t Xd ρ M Q') : ∀ Xd ρ M Q Q', (∀ x M', Q x M' → Q' x M') → dXmk C flds rv t Xd ρ M Q → dXmk C flds rv t Xd ρ M Q' :=
  fun Xd ρ M Q Q' hq q => h _ _ _ _ _ (fun xs M1 h1 => by
    split at h1
    · exact ⟨h1.1, fun a d m => hq _ _ (h1.2 a d m)⟩
    · exact h1.elim) q
theorem ce_xmk (E : XEr X.K X.mg x flds C fI fd) (F : FnOk X.prog X.w X.K X.mg X.base CX0 1 fI fd (("self" : Str) :: flds) (spN X.K C flds)) (cx : Cxe X W j) (hj : 2 ≤ j) (hf : flds.length ≤ 1000) (hg : Gl X x) (ha : CA X W (e :: es) t)
    (hdb : (x == ("__debug__" : Str)) = false := by decide) (hse : starEach (e :: es) X.env = (false, eval e X.env) :: starEach es X.env := by rfl) (hpl : (backTo pos (starEach es X.env)).any (·.1) = false := by rfl) :
    CE X W (.Call (.Name x p) (e :: es) [] pos) (dXmk C flds false t) where
  pe := ⟨fun pins s σ H Q I ⟨ρ, M, Xd, r, xr, h⟩ =>
    wpAny_Call_Name_kw (ld_glob I hg E.g (PySem.W.callWith_K (h₀ := X.base) I.ok.mod.kin E.oex.kp (thn (ha.pa.run pos pins s σ H (fun vs H1 => ∃ M1 ds, MemOk X.K H1 M1 ∧ FzA X.K H1 M1 vs ds ∧ ds.length = flds.length ∧ ∀ a, H1 a = none → spN X.K C flds (.ref a :: vs) (upd H1 a (exo a C none)) (fun v H2 => v = .non ∧ Q (.ref a) H2) (fun _ _ _ => False)) I
      (embA.next r xr ha.mono h fun ys M1 vs H1 e1 r1 x1 rv h1 => by
        split at h1
        · rename_i ds eD
          obtain ⟨hl, h2⟩ := h1
          exact ⟨M1, ds, r1.mem, rv.allD eD, hl, xo_made (P := Q) (Q := fun x M' => ∀ v H', Ext H M H' M' → MemOk X.K H' M' → RV X.K H' M' v x → Q v H') r1.mem E.oex E.no (rv.allD eD) hl (fun v H' z e2 o2 rz q => q v H' (e1.trans e2) o2 rz) (fun a d m => h2 a d m)⟩
        · exact h1.elim))
      fun us s1 ⟨vs, H1, I1, r1, M1, ds, o1, rv, hl, q⟩ => ⟨I1.kIn, x_call (ks := []) (ws := []) (zs := []) E.oex E.iC E.tI F (cx.room.mono hj) E.kP (fun _ _ _ _ _ _ _ z => z.elim) I1 r1 .nil (by rw [rv.length, hl]) rfl hf q⟩) hse hpl) hdb)⟩
  mono := dXmk_mono ha.mono
theorem ce_xmk0 (E : XEr X.K X.mg x [] C fI fd) (F : FnOk X.prog X.w X.K X.mg X.base CX0 1 fI fd [("self" : Str)] (spN X.K C [])) (cx : Cxe X W j) (hj : 2 ≤ j) (hg : Gl X x) (hdb : (x == ("__debug__" : Str)) = false := by decide) :
    CE X W (.Call (.Name x p) [] [] pos) (dXmk C [] false dNil) where
  pe := ⟨fun pins s σ H Q I ⟨ρ, M, Xd, r, xr, h⟩ => by
    refine wpAny_Call_Name_kw (ld_glob I hg E.g ?_ hdb)
    refine PySem.W.callWith_K0 I.kIn E.oex.kp ?_
    exact (x_call (vs := []) (us := []) (ks := []) (ws := []) (zs := []) E.oex E.iC E.tI F (cx.room.mono hj) E.kP (fun _ _ _ _ _ _ _ z => z.elim) I .nil .nil rfl rfl (by decide)
        (xo_made (P := Q) (ds := []) (Q := fun x M' => ∀ v H', Ext H M H' M' → MemOk X.K H' M' → RV X.K H' M' v x → Q v H') r.mem E.oex E.no .nil rfl (fun v H' z e2 o2 rz q => q v H' e2 o2 rz) (fun a d m => h.2 a d m)))⟩
  mono := dXmk_mono fun _ _ _ _ _ hq h => hq _ _ h
/-- the values of keywords -/
structure CK (X : Cx) (W : WX) (kws : List Keyword) (f : DA) : Prop where
  pk : PK X kws (embA X.K W f)
  mono : ∀ Xd ρ M Q Q', (∀ x M', Q x M' → Q' x M') → f Xd ρ M Q → f Xd ρ M Q'
theorem PK.weak {X : Cx} {kws : List Keyword} {t t' : TA} (h : PK X kws t) (w : ∀ σ H Q, t' σ H Q → t σ H Q) : PK X kws t' := ⟨fun p pins s σ H Q I q => h.run p pins s σ H Q I (w σ H Q q)⟩
theorem ck_nil : CK X W [] dNil where
  pk := PK.weak pk_nil fun σ H Q ⟨ρ, M, Xd, r, _, h⟩ => h [] H Ext.refl r.mem .nil
  mono := fun _ _ _ _ _ hq h => hq _ _ h
theorem ck_cons {f : DE} {g : DA} {nm : Option Str} {kp : Pos} (ha : CE X W e f) (hr : CK X W kws g) : CK X W (⟨nm, e, kp⟩ :: kws) (dCons f g) where
  pk := PK.weak (pk_cons ha.pe hr.pk) fun σ H Q ⟨ρ, M, Xd, r, x, h⟩ => by
    refine emb.next r x ha.mono h fun y M1 v H1 e1 r1 x1 rv h1 => ?_
    refine embA.next r1 x1 hr.mono h1 fun ys M2 vs H2 e2 r2 _ rvs h2 => ?_
    exact h2 (v :: vs) H2 (e1.trans e2) r2.mem (.cons (rv.ext e2) rvs)
  mono := fun Xd ρ M Q Q' hq h => ha.mono _ _ _ _ _ (fun y M1 h1 => hr.mono _ _ _ _ _ (fun ys M2 h2 => hq _ _ h2) h1) h
theorem fz_unrev {K : PySem.W.Frag} {H : Hp} {M : Mem} {vs : List V} {ds : List PyData} (h : FzA K H M vs ds) : FzA K H M vs.reverse ds.reverse := h.reverse
theorem ce_xmkK (E : XEr X.K X.mg x flds C fI fd) (F : FnOk X.prog X.w X.K X.mg X.base CX0 1 fI fd (("self" : Str) :: flds) (spN X.K C flds)) (cx : Cxe X W j) (hj : 2 ≤ j) (hg : Gl X x) (hkw : CK X W kws t)
    (hall : (backToKw pos (keywordEach kws X.env)).all (·.1.isSome) = true := by rfl) (hks : (backToKw pos (keywordEach kws X.env)).filterMap (·.1) = flds.reverse := by rfl) (hdb : (x == ("__debug__" : Str)) = false := by decide)
    (hpl : ((backTo pos (starEach [] X.env)).any (·.1) || (backToKw pos (keywordEach kws X.env)).any (·.1.isNone)) = false := by rfl) :
    CE X W (.Call (.Name x p) [] kws pos) (dXmk C flds true t) where
  pe := ⟨fun pins s σ H Q I ⟨ρ, M, Xd, r, xr, h⟩ => by
    refine wpAny_Call_Name_kw (ld_glob I hg E.g ?_ hdb)
    refine PySem.W.callWith_KW0 (h₀ := X.base) I.ok.mod.kin E.oex.kp hall ?_ hpl
    refine thn (hkw.pk.run pos pins s σ H (fun zs H1 => ∃ M1 ds, MemOk X.K H1 M1 ∧ FzA X.K H1 M1 zs ds ∧ ds.length = flds.length ∧ ∀ a, H1 a = none → spN X.K C flds (.ref a :: zs.reverse) (upd H1 a (exo a C none)) (fun v H2 => v = .non ∧ Q (.ref a) H2) (fun _ _ _ => False)) I
      (embA.next r xr hkw.mono h fun ys M1 vs H1 e1 r1 x1 rv h1 => ?_)) fun ws s2 ⟨zs, H2, I2, rz, M2, ds, o2, fz, hl, q2⟩ => ⟨I2.kIn, ?_⟩
    · split at h1
      · rename_i ds eD
        obtain ⟨hl, h2⟩ := h1
        refine ⟨M1, ds, r1.mem, rv.allD eD, hl, xo_made (P := Q) (Q := fun x M' => ∀ v H', Ext H M H' M' → MemOk X.K H' M' → RV X.K H' M' v x → Q v H') r1.mem E.oex E.no (rv.allD eD).reverse (by rw [List.length_reverse, hl]) (fun v H' z e2 o2 rz q => q v H' (e1.trans e2) o2 rz) (fun a d m => h2 a d m)⟩
      · exact h1.elim
    · rw [hks]
      exact x_call (vs := []) (us := []) (ks := flds.reverse) E.oex E.iC E.tI F (cx.room.mono hj) E.kK (fun _ _ _ _ _ _ _ z => z.elim) I2 .nil rz rfl (by rw [fz.length, hl, List.length_reverse]) (by decide) q2⟩
  mono := dXmk_mono hkw.mono
end
/-- the own __init__ of such a class -/
theorem ok_init0 {P : Program} {w : World} {K : PySem.W.Frag} {mg : Str → Option Value} {base : Heap} {C f : Addr} {fd : FuncData} {st : Stmt} {q : Str} {pp : Pos} (F : Fun K "__init__" q st f fd) (S : FnScope [("self" : Str)] [("self" : Str)] (defScope st)) (hb : defBody st = [.Pass pp]) : FnOk P w K mg base CX0 1 f fd [("self" : Str)] (spN K C []) := by
  refine F.ok S (fun vs H Q E h => ?_) (fun cdv A outer s H vs Q E hr h => ⟨_, hb ▸ pss_one ps_pass, ?_⟩)
  · obtain ⟨a, ws, rfl, h1, _⟩ := h
    rw [List.length_cons, h1]; rfl
  · obtain ⟨a, ws, rfl, h1, T, no, ha, h0, _⟩ := h
    exact h0 rfl
theorem ok_init1 {P : Program} {w : World} {K : PySem.W.Frag} {mg : Str → Option Value} {base : Heap} {C f : Addr} {fd : FuncData} {st : Stmt} {q fld : Str} {p1 p2 p3 p4 : Pos} (F : Fun K "__init__" q st f fd) (S : FnScope [("self" : Str), fld] [("self" : Str), fld] (defScope st))
    (hb : defBody st = [.Assign [.Attribute (.Name "self" p1) fld p2] (.Name fld p3) p4]) (hv : ∀ X : Cx, X.N = [("self" : Str), fld] → X.env.scope = defScope st → PE X (.Name fld p3) (tVar 1)) (hs : ∀ X : Cx, X.N = [("self" : Str), fld] → X.env.scope = defScope st → PE X (.Name "self" p1) (tVar 0)) : FnOk P w K mg base CX0 1 f fd [("self" : Str), fld] (spN K C [fld]) := by
  refine F.ok S (fun vs H Q E h => ?_) (fun cdv A outer s H vs Q E hr h => ⟨tErS K fld (tVar 0) (tVar 1), hb ▸ pss_one (ps_erS (hs _ rfl rfl) (hv _ rfl rfl)), ?_⟩)
  · obtain ⟨a, ws, rfl, h1, _⟩ := h
    rw [List.length_cons, h1]; rfl
  · obtain ⟨a, ws, rfl, h1, T, no, ha, _, h2⟩ := h
    match ws, h1 with
    | [v], _ =>
      refine ⟨v, rfl, .ref a, rfl, a, C, rfl, T, no _ List.mem_cons_self, .inl ⟨ha, fun dx hdx n => ?_⟩⟩
      exact h2 (by simp) dx hdx n
end HD

namespace K86
open PySem PySem.Spec PyProof.Rows L2 HD
def topS (i : Nat) : Stmt := PySem.Challenge.pw_enoughheard_k86_errors_required.main.body.getD i (.Pass ⟨0, 0, 0, 0⟩)
abbrev s__law_pen : Stmt := topS 17
theorem sc__law_pen : FnScope ["script"] ["script"] (defScope s__law_pen) := ⟨rfl, rfl, rfl, by decide +kernel, rfl, by decide +kernel, by decide +kernel⟩
abbrev s__law_fresh : Stmt := topS 18
theorem sc__law_fresh : FnScope ["pen", "seat", "given", "cell", "prime", "state", "found", "lap"] ["pen"] (defScope s__law_fresh) := ⟨rfl, rfl, rfl, by decide +kernel, rfl, by decide +kernel, by decide +kernel⟩
abbrev s__law_draw : Stmt := topS 19
theorem sc__law_draw : FnScope ["pen", "bound", "digit"] ["pen", "bound"] (defScope s__law_draw) := ⟨rfl, rfl, rfl, by decide +kernel, rfl, by decide +kernel, by decide +kernel⟩
abbrev s__law_one_of : Stmt := topS 20
theorem sc__law_one_of : FnScope ["pen", "some"] ["pen", "some"] (defScope s__law_one_of) := ⟨rfl, rfl, rfl, by decide +kernel, rfl, by decide +kernel, by decide +kernel⟩
abbrev s__law_which : Stmt := topS 21
theorem sc__law_which : FnScope ["e", "found", "seat", "is_it"] ["e"] (defScope s__law_which) := ⟨rfl, rfl, rfl, by decide +kernel, rfl, by decide +kernel, by decide +kernel⟩
abbrev s__law_last : Stmt := topS 22
theorem sc__law_last : FnScope ["e"] ["e"] (defScope s__law_last) := ⟨rfl, rfl, rfl, by decide +kernel, rfl, by decide +kernel, by decide +kernel⟩
abbrev s__law_base : Stmt := topS 23
theorem sc__law_base : FnScope ["e", "found", "seat", "is_it"] ["e"] (defScope s__law_base) := ⟨rfl, rfl, rfl, by decide +kernel, rfl, by decide +kernel, by decide +kernel⟩
abbrev s__law_right : Stmt := topS 24
theorem sc__law_right : FnScope ["seat", "base", "made", "e"] ["seat", "base", "made"] (defScope s__law_right) := ⟨rfl, rfl, rfl, by decide +kernel, rfl, by decide +kernel, by decide +kernel⟩
abbrev s__law_indexed : Stmt := topS 25
theorem sc__law_indexed : FnScope ["count", "a", "b", "good"] ["count"] (defScope s__law_indexed) := ⟨rfl, rfl, rfl, by decide +kernel, rfl, by decide +kernel, by decide +kernel⟩
abbrev s__law_others : Stmt := topS 26
theorem sc__law_others : FnScope ["count", "thing", "a", "b", "good"] ["count", "thing"] (defScope s__law_others) := ⟨rfl, rfl, rfl, by decide +kernel, rfl, by decide +kernel, by decide +kernel⟩
abbrev s_law : Stmt := topS 27
theorem sc_law : FnScope ["script", "pen", "lap", "count", "thing"] ["script"] (defScope s_law) := ⟨rfl, rfl, rfl, by decide +kernel, rfl, by decide +kernel, by decide +kernel⟩
abbrev s_InvalidResilience : Stmt := inClass (topS 1) 0
abbrev s_InvalidProtocol : Stmt := inClass (topS 2) 0
abbrev s_InvalidSituation : Stmt := inClass (topS 3) 0
abbrev s_InvalidOptions : Stmt := inClass (topS 4) 0
abbrev s_InvalidNumbers : Stmt := inClass (topS 5) 0
abbrev s_InvalidStarts : Stmt := inClass (topS 6) 0
abbrev s_InvalidClaim : Stmt := inClass (topS 7) 0
abbrev s_ParseError : Stmt := inClass (topS 8) 0
abbrev s_UnknownMember : Stmt := inClass (topS 9) 0
abbrev s_CannotTake : Stmt := inClass (topS 10) 0
abbrev s_CannotAct : Stmt := inClass (topS 11) 0
abbrev s_CannotDeliver : Stmt := inClass (topS 12) 0
abbrev s_Refused : Stmt := inClass (topS 13) 0
abbrev s_NothingDone : Stmt := inClass (topS 14) 0
abbrev s_LimitExceeded : Stmt := inClass (topS 15) 0
structure Txt (K : PySem.W.Frag) (mg : Str → Option Value) : Prop where
  n_IndexError : mg "IndexError" = none
  n_KeyError : mg "KeyError" = none
  n_LookupError : mg "LookupError" = none
  n_NotImplementedError : mg "NotImplementedError" = none
  n_OverflowError : mg "OverflowError" = none
  n_RuntimeError : mg "RuntimeError" = none
  n_ValueError : mg "ValueError" = none
  n_enumerate : mg "enumerate" = none
  n_int : mg "int" = none
  n_isinstance : mg "isinstance" = none
  n_len : mg "len" = none
  n_list : mg "list" = none
  n_range : mg "range" = none
  n_repr : mg "repr" = none
end K86

namespace K86
open PySem PySem.Spec PyProof.Rows HD
open L2 (kitB atI)


/-! the fifteen classes of errors, by their seats -/
def VE : List Value := [.type "ValueError", .type "Exception", .type "BaseException", .type "object"]
def LE : List Value := [.type "LookupError", .type "Exception", .type "BaseException", .type "object"]
def RE : List Value := [.type "RuntimeError", .type "Exception", .type "BaseException", .type "object"]
def OE : List Value := [.type "OverflowError", .type "ArithmeticError", .type "Exception", .type "BaseException", .type "object"]
def nmI : Nat → Str
  | 0 => "InvalidResilience" | 1 => "InvalidProtocol" | 2 => "InvalidSituation" | 3 => "InvalidOptions" | 4 => "InvalidNumbers" | 5 => "InvalidStarts" | 6 => "InvalidClaim" | 7 => "ParseError"
  | 8 => "UnknownMember" | 9 => "CannotTake" | 10 => "CannotAct" | 11 => "CannotDeliver" | 12 => "Refused" | 13 => "NothingDone" | _ => "LimitExceeded"
def fldI : Nat → List Str
  | 0 => ["index"] | 1 => ["part"] | 2 => ["index"] | 3 => ["index"] | 4 => [] | 5 => ["index"] | 6 => [] | 7 => ["line"]
  | 8 => ["value"] | 9 => ["index"] | 10 => [] | 11 => [] | 12 => ["index", "reason"] | 13 => [] | _ => ["limit"]
def baseI : Nat → Nat
  | 8 => 1 | 9 => 2 | 10 => 2 | 11 => 2 | 12 => 2 | 13 => 2 | 14 => 3 | _ => 0
def bmI (i : Nat) : List Value := match baseI i with
  | 0 => VE | 1 => LE | 2 => RE | _ => OE
def csX (ea : Nat → Addr) : List (Addr × List Value) := (List.range 15).map fun i => (ea i, bmI i)
def csO (ea : Nat → Addr) : List Addr := (csX ea).map (·.1)
def csF (ea : Nat → Addr) (f : Str) : List Addr := ((List.range 15).filter fun i => decide (f ∈ fldI i)).map ea
def Nd (ea : Nat → Addr) : Prop := ∀ i j, i < 15 → j < 15 → ea i = ea j → i = j
theorem csO_mem {ea : Nat → Addr} {i : Nat} (h : i < 15) : ea i ∈ csO ea := List.mem_map.mpr ⟨(ea i, bmI i), List.mem_map.mpr ⟨i, List.mem_range.mpr h, rfl⟩, rfl⟩
theorem csX_mem {ea : Nat → Addr} {i : Nat} (h : i < 15) : (ea i, bmI i) ∈ csX ea := List.mem_map.mpr ⟨i, List.mem_range.mpr h, rfl⟩
theorem csF_mem {ea : Nat → Addr} {f : Str} {i : Nat} (h : i < 15) (hf : f ∈ fldI i) : ea i ∈ csF ea f := List.mem_map.mpr ⟨i, List.mem_filter.mpr ⟨List.mem_range.mpr h, decide_eq_true hf⟩, rfl⟩
/-- what the text says of all of them -/
structure Cls (P : Program) (w : World) (K : PySem.W.Frag) (mg : Str → Option Value) (base : Heap) (ea : Nat → Addr) : Prop where
  er : ∀ i, i < 15 → ∃ fI fd, XEr K mg (nmI i) (fldI i) (ea i) fI fd ∧ L2.FnOk P w K mg base L2.CX0 1 fI fd (("self" : Str) :: fldI i) (spN K (ea i) (fldI i))
  xc : ∀ i, i < 15 → XCl K (ea i) (bmI i)
  nd : Nd ea
def dXnew (ea : Nat → Addr) (i : Nat) (flds : List Str) (rv : Bool) (t : DA) : DE := fun Xd ρ M Q => Nd ea → dXmk (ea i) flds rv t Xd ρ M Q
open L2
section
variable {X : Cx} {W : WX} {ea : Nat → Addr} {i j : Nat} {x f n : Str} {flds : List Str} {a e : Expr} {es : List Expr} {kws : List Keyword} {t : DA} {fa : DE} {p p2 pos : Pos} {B : String}
theorem ce_nd {g : DE} {N : Prop} (h : N) (c : CE X W e g) : CE X W e (fun Xd ρ M Q => N → g Xd ρ M Q) where
  pe := PE.weak c.pe fun σ H Q ⟨ρ, M, Xd, r, x, q⟩ => ⟨ρ, M, Xd, r, x, q h⟩
  mono := fun Xd ρ M Q Q' hq q n => c.mono _ _ _ _ _ hq (q n)
theorem ce_newP (cl : Cls X.prog X.w X.K X.mg X.base ea) (hi : i < 15) (hx : nmI i = x) (hf : fldI i = flds) (cx : Cxe X W j) (hj : 2 ≤ j) (hl : flds.length ≤ 1000) (hg : Gl X x) (ha : CA X W (e :: es) t)
    (hdb : (x == ("__debug__" : Str)) = false := by decide) (hse : starEach (e :: es) X.env = (false, eval e X.env) :: starEach es X.env := by rfl) (hpl : (backTo pos (starEach es X.env)).any (·.1) = false := by rfl) :
    CE X W (.Call (.Name x p) (e :: es) [] pos) (dXnew ea i flds false t) := by
  obtain ⟨fI, fd, E, F⟩ := cl.er i hi
  rw [hx, hf] at E
  rw [hf] at F
  exact ce_nd cl.nd (ce_xmk E F cx hj hl hg ha hdb hse hpl)
theorem ce_new0 (cl : Cls X.prog X.w X.K X.mg X.base ea) (hi : i < 15) (hx : nmI i = x) (hf : fldI i = []) (cx : Cxe X W j) (hj : 2 ≤ j) (hg : Gl X x) (hdb : (x == ("__debug__" : Str)) = false := by decide) :
    CE X W (.Call (.Name x p) [] [] pos) (dXnew ea i [] false dNil) := by
  obtain ⟨fI, fd, E, F⟩ := cl.er i hi
  rw [hx, hf] at E
  rw [hf] at F
  exact ce_nd cl.nd (ce_xmk0 E F cx hj hg hdb)
theorem ce_newK (cl : Cls X.prog X.w X.K X.mg X.base ea) (hi : i < 15) (hx : nmI i = x) (hf : fldI i = flds) (cx : Cxe X W j) (hj : 2 ≤ j) (hg : Gl X x) (hkw : CK X W kws t)
    (hall : (backToKw pos (keywordEach kws X.env)).all (·.1.isSome) = true := by rfl) (hks : (backToKw pos (keywordEach kws X.env)).filterMap (·.1) = flds.reverse := by rfl) (hdb : (x == ("__debug__" : Str)) = false := by decide)
    (hpl : ((backTo pos (starEach [] X.env)).any (·.1) || (backToKw pos (keywordEach kws X.env)).any (·.1.isNone)) = false := by rfl) :
    CE X W (.Call (.Name x p) [] kws pos) (dXnew ea i flds true t) := by
  obtain ⟨fI, fd, E, F⟩ := cl.er i hi
  rw [hx, hf] at E
  rw [hf] at F
  exact ce_nd cl.nd (ce_xmkK E F cx hj hg hkw hall hks hdb hpl)
theorem cl_xc (cl : Cls X.prog X.w X.K X.mg X.base ea) : ∀ z ∈ csX ea, XCl X.K z.1 z.2 := fun z hz => by
  obtain ⟨k, hk, rfl⟩ := List.mem_map.mp hz
  exact cl.xc k (List.mem_range.mp hk)
theorem ce_isOx (cl : Cls X.prog X.w X.K X.mg X.base ea) (hi : i < 15) (hx : nmI i = n) (hg : Gl X "isinstance") (hm : X.mg "isinstance" = none) (hgT : Gl X n) (ha : CE X W a fa) (hdb : (n == ("__debug__" : Str)) = false := by decide)
    (he : starEach (a :: [.Name n p2]) X.env = (false, eval a X.env) :: starEach [.Name n p2] X.env := by rfl) (he2 : starEach (.Name n p2 :: []) X.env = (false, eval (.Name n p2) X.env) :: starEach [] X.env := by rfl) (hpl : (backTo pos (starEach [.Name n p2] X.env)).any (·.1) = false := by rfl) :
    CE X W (.Call (.Name "isinstance" p) [a, .Name n p2] [] pos) (dIsO (csO ea) (ea i) fa) := by
  obtain ⟨fI, fd, E, F⟩ := cl.er i hi
  rw [hx] at E
  exact ce_isO (bms := csX ea) (cl_xc cl) (csX_mem hi) hg hm hgT E.g ha hdb he he2 hpl
theorem ce_isBx (cl : Cls X.prog X.w X.K X.mg X.base ea) (hB : PySem.W.kitMeta B = true) (hg : Gl X "isinstance") (hm : X.mg "isinstance" = none) (hgT : Gl X n) (hmT : X.mg n = none) (hbT : bootBuiltins n = some (.type B)) (ha : CE X W a fa) (hn : n ≠ "__name__" := by decide) (hdb : (n == ("__debug__" : Str)) = false := by decide)
    (he : starEach (a :: [.Name n p2]) X.env = (false, eval a X.env) :: starEach [.Name n p2] X.env := by rfl) (he2 : starEach (.Name n p2 :: []) X.env = (false, eval (.Name n p2) X.env) :: starEach [] X.env := by rfl) (hpl : (backTo pos (starEach [.Name n p2] X.env)).any (·.1) = false := by rfl) :
    CE X W (.Call (.Name "isinstance" p) [a, .Name n p2] [] pos) (dIsB (csX ea) B fa) := ce_isB (cl_xc cl) hB hg hm hgT hmT hbT ha hn hdb he he2 hpl
theorem ce_xfx (cl : Cls X.prog X.w X.K X.mg X.base ea) (ha : CE X W a fa) (hb : attributeBase a f X.env (eval a X.env) = eval a X.env := by rfl) :
    CE X W (.Attribute a f pos) (dXf (csF ea f) f fa) := by
  refine ce_xf (fun z hz => ?_) (fun z hz => ?_) ha hb
  · obtain ⟨k, hk, rfl⟩ := List.mem_map.mp hz
    exact ⟨_, cl.xc k (List.mem_range.mp (List.mem_filter.mp hk).1)⟩
  · obtain ⟨k, hk, rfl⟩ := List.mem_map.mp hz
    obtain ⟨h1, h2⟩ := List.mem_filter.mp hk
    obtain ⟨fI, fd, E, F⟩ := cl.er k (List.mem_range.mp h1)
    exact E.no f (of_decide_eq_true h2)
end
/-! the contracts -/
def XA (ea : Nat → Addr) (xs : List DV) (i : Nat) : Prop := ∃ a d fs, xs = [.x a (ea i) d fs] ∧ i < 15
def c__law_pen : DSp := c_pen
def c__law_fresh : DSp := c_fresh
def c__law_draw : DSp := c_draw
def c__law_one_of : DSp := c_one_of
def xC (ea : Nat → Addr) (res : Nat → PyData) : DSp where
  pre := fun xs _ => Nd ea ∧ ∃ i, XA ea xs i
  post := fun xs M x M' => Sub M M' ∧ ∀ i, XA ea xs i → x = .d (res i)
def c__law_which (ea : Nat → Addr) : DSp := xC ea fun i => .list [.int i]
def c__law_last (ea : Nat → Addr) : DSp := xC ea fun i => .list [.bool (decide (i = 12)), .bool (decide (i = 13)), .bool (decide (i = 14))]
def c__law_base (ea : Nat → Addr) : DSp := xC ea fun i => .list [.int (baseI i)]
def c__law_right (ea : Nat → Addr) : DSp where
  pre := fun xs _ => Nd ea ∧ ∃ i q es, i < 15 ∧ xs = [.d (.int (i : Nat)), .d (.int (baseI i : Nat)), .xl q es] ∧ es.length ≤ 10 ∧ ∀ e ∈ es, e.2.1 = ea i
  post := fun _ M x M' => Sub M M' ∧ x = .d (.bool true)
def Cnt (n : Int) : Prop := n.natAbs ≤ 10 ^ 61
def c__law_indexed (ea : Nat → Addr) : DSp where
  pre := fun xs _ => ∃ n, xs = [.d (.int n)] ∧ Cnt n
  post := fun _ M x M' => Sub M M' ∧ x = .d (.bool true)
def c__law_others (ea : Nat → Addr) : DSp where
  pre := fun xs _ => ∃ n y, xs = [.d (.int n), .d y] ∧ Cnt n ∧ Shows (.list [y, y])
  post := fun _ M x M' => Sub M M' ∧ x = .d (.bool true)
def c_law : DSp where
  pre := fun xs _ => ∃ a ns, xs = [.s a ns]
  post := fun _ _ x _ => x = .d (.bool true)

def g__law_which (ea : Nat → Addr) : DS :=
  (dSeq (dAsg (dLst (dCons (dIsO (csO ea) (ea 0) (dVar 0)) (dCons (dIsO (csO ea) (ea 1) (dVar 0)) (dCons (dIsO (csO ea) (ea 2) (dVar 0)) dNil)))) (.one 1))
    (dSeq (dAsg (dBin gAdd (dVar 1) (dLst (dCons (dIsO (csO ea) (ea 3) (dVar 0)) (dCons (dIsO (csO ea) (ea 4) (dVar 0)) (dCons (dIsO (csO ea) (ea 5) (dVar 0)) dNil))))) (.one 1))
    (dSeq (dAsg (dBin gAdd (dVar 1) (dLst (dCons (dIsO (csO ea) (ea 6) (dVar 0)) (dCons (dIsO (csO ea) (ea 7) (dVar 0)) (dCons (dIsO (csO ea) (ea 8) (dVar 0)) dNil))))) (.one 1))
    (dSeq (dAsg (dBin gAdd (dVar 1) (dLst (dCons (dIsO (csO ea) (ea 9) (dVar 0)) (dCons (dIsO (csO ea) (ea 10) (dVar 0)) (dCons (dIsO (csO ea) (ea 11) (dVar 0)) dNil))))) (.one 1))
    (dRet (dLc (iEnumD (dCons (dBin gAdd (dVar 1) (dCall (c__law_last ea) (dCons (dVar 0) dNil))) dNil)) [2, 3] (.many [2, 3]) (tVal (dVar 3)) (dVar 2)))))))
def g__law_last (ea : Nat → Addr) : DS :=
  (dRet (dLst (dCons (dIsO (csO ea) (ea 12) (dVar 0)) (dCons (dIsO (csO ea) (ea 13) (dVar 0)) (dCons (dIsO (csO ea) (ea 14) (dVar 0)) dNil)))))
def g__law_base (ea : Nat → Addr) : DS :=
  (dSeq (dAsg (dLstM (dCons (dIsB (csX ea) "ValueError" (dVar 0)) (dCons (dIsB (csX ea) "LookupError" (dVar 0)) (dCons (dIsB (csX ea) "RuntimeError" (dVar 0)) dNil)))) (.one 1))
    (dSeq (dAsg (dBin gAddM (dVar 1) (dLst (dCons (dIsB (csX ea) "OverflowError" (dVar 0)) (dCons (dIsB (csX ea) "KeyError" (dVar 0)) (dCons (dIsB (csX ea) "IndexError" (dVar 0)) dNil))))) (.one 1))
    (dSeq (dDrop (dAppend (dVar 1) (dIsB (csX ea) "NotImplementedError" (dVar 0))))
    (dRet (dLc (iEnumX (dCons (dVar 1) dNil)) [2, 3] (.many [2, 3]) (tVal (dVar 3)) (dVar 2))))))
def g__law_right (ea : Nat → Addr) : DS :=
  (dRet (dBin gEqC (dLc (iXl (dVar 2)) [3] (.one 3) (tOr2 (tVal (dBin gNeC (dCall (c__law_which ea) (dCons (dVar 3) dNil)) (dLst (dCons (dVar 0) dNil)))) (tVal (dBin gNeC (dCall (c__law_base ea) (dCons (dVar 3) dNil)) (dLst (dCons (dVar 1) dNil))))) (dVar 3)) (dLst dNil)))
def g__law_indexed (ea : Nat → Addr) : DS :=
  (dSeq (dPar 1 2 (dCons (dXnew ea 0 ["index"] false (dCons (dVar 0) dNil)) (dCons (dXnew ea 0 ["index"] true (dCons (dC .none) dNil)) dNil)))
    (dSeq (dAsg (dAnd (dCall (c__law_right ea) (dCons (dC (.int 0)) (dCons (dC (.int 0)) (dCons (dLstX (dCons (dVar 1) (dCons (dVar 2) dNil))) dNil)))) (dBin gEqC (dFun gRepr (dCons (dLst (dCons (dXf (csF ea "index") "index" (dVar 1)) (dCons (dXf (csF ea "index") "index" (dVar 2)) dNil))) dNil)) (dFun gRepr (dCons (dLst (dCons (dVar 0) (dCons (dC .none) dNil))) dNil)))) (.one 3))
    (dSeq (dPar 1 2 (dCons (dXnew ea 2 ["index"] false (dCons (dVar 0) dNil)) (dCons (dXnew ea 2 ["index"] true (dCons (dC .none) dNil)) dNil)))
    (dSeq (dAsg (dAnd (dVar 3) (dAnd (dCall (c__law_right ea) (dCons (dC (.int 2)) (dCons (dC (.int 0)) (dCons (dLstX (dCons (dVar 1) (dCons (dVar 2) dNil))) dNil)))) (dBin gEqC (dFun gRepr (dCons (dLst (dCons (dXf (csF ea "index") "index" (dVar 1)) (dCons (dXf (csF ea "index") "index" (dVar 2)) dNil))) dNil)) (dFun gRepr (dCons (dLst (dCons (dVar 0) (dCons (dC .none) dNil))) dNil))))) (.one 3))
    (dSeq (dPar 1 2 (dCons (dXnew ea 3 ["index"] false (dCons (dVar 0) dNil)) (dCons (dXnew ea 3 ["index"] true (dCons (dC .none) dNil)) dNil)))
    (dSeq (dAsg (dAnd (dVar 3) (dAnd (dCall (c__law_right ea) (dCons (dC (.int 3)) (dCons (dC (.int 0)) (dCons (dLstX (dCons (dVar 1) (dCons (dVar 2) dNil))) dNil)))) (dBin gEqC (dFun gRepr (dCons (dLst (dCons (dXf (csF ea "index") "index" (dVar 1)) (dCons (dXf (csF ea "index") "index" (dVar 2)) dNil))) dNil)) (dFun gRepr (dCons (dLst (dCons (dVar 0) (dCons (dC .none) dNil))) dNil))))) (.one 3))
    (dSeq (dPar 1 2 (dCons (dXnew ea 5 ["index"] false (dCons (dVar 0) dNil)) (dCons (dXnew ea 5 ["index"] true (dCons (dC .none) dNil)) dNil)))
    (dSeq (dAsg (dAnd (dVar 3) (dAnd (dCall (c__law_right ea) (dCons (dC (.int 5)) (dCons (dC (.int 0)) (dCons (dLstX (dCons (dVar 1) (dCons (dVar 2) dNil))) dNil)))) (dBin gEqC (dFun gRepr (dCons (dLst (dCons (dXf (csF ea "index") "index" (dVar 1)) (dCons (dXf (csF ea "index") "index" (dVar 2)) dNil))) dNil)) (dFun gRepr (dCons (dLst (dCons (dVar 0) (dCons (dC .none) dNil))) dNil))))) (.one 3))
    (dSeq (dPar 1 2 (dCons (dXnew ea 9 ["index"] false (dCons (dVar 0) dNil)) (dCons (dXnew ea 9 ["index"] true (dCons (dC (.int 0)) dNil)) dNil)))
    (dRet (dAnd (dVar 3) (dAnd (dCall (c__law_right ea) (dCons (dC (.int 9)) (dCons (dC (.int 2)) (dCons (dLstX (dCons (dVar 1) (dCons (dVar 2) dNil))) dNil)))) (dBin gEqC (dFun gRepr (dCons (dLst (dCons (dXf (csF ea "index") "index" (dVar 1)) (dCons (dXf (csF ea "index") "index" (dVar 2)) dNil))) dNil)) (dFun gRepr (dCons (dLst (dCons (dVar 0) (dCons (dC (.int 0)) dNil))) dNil)))))))))))))))
def g__law_others (ea : Nat → Addr) : DS :=
  (dSeq (dPar 2 3 (dCons (dXnew ea 1 ["part"] false (dCons (dTup (dCons (dC (.str "rule")) (dCons (dVar 0) dNil))) dNil)) (dCons (dXnew ea 1 ["part"] true (dCons (dC .none) dNil)) dNil)))
    (dSeq (dAsg (dAnd (dCall (c__law_right ea) (dCons (dC (.int 1)) (dCons (dC (.int 0)) (dCons (dLstX (dCons (dVar 2) (dCons (dVar 3) dNil))) dNil)))) (dBin gEqC (dFun gRepr (dCons (dLst (dCons (dXf (csF ea "part") "part" (dVar 2)) (dCons (dXf (csF ea "part") "part" (dVar 3)) dNil))) dNil)) (dFun gRepr (dCons (dLst (dCons (dTup (dCons (dC (.str "rule")) (dCons (dVar 0) dNil))) (dCons (dC .none) dNil))) dNil)))) (.one 4))
    (dSeq (dPar 2 3 (dCons (dXnew ea 7 ["line"] false (dCons (dVar 0) dNil)) (dCons (dXnew ea 7 ["line"] true (dCons (dVar 0) dNil)) dNil)))
    (dSeq (dAsg (dAnd (dVar 4) (dAnd (dCall (c__law_right ea) (dCons (dC (.int 7)) (dCons (dC (.int 0)) (dCons (dLstX (dCons (dVar 2) (dCons (dVar 3) dNil))) dNil)))) (dBin gEqC (dFun gRepr (dCons (dLst (dCons (dXf (csF ea "line") "line" (dVar 2)) (dCons (dXf (csF ea "line") "line" (dVar 3)) dNil))) dNil)) (dFun gRepr (dCons (dLst (dCons (dVar 0) (dCons (dVar 0) dNil))) dNil))))) (.one 4))
    (dSeq (dPar 2 3 (dCons (dXnew ea 8 ["value"] false (dCons (dVar 1) dNil)) (dCons (dXnew ea 8 ["value"] true (dCons (dVar 1) dNil)) dNil)))
    (dSeq (dAsg (dAnd (dVar 4) (dAnd (dCall (c__law_right ea) (dCons (dC (.int 8)) (dCons (dC (.int 1)) (dCons (dLstX (dCons (dVar 2) (dCons (dVar 3) dNil))) dNil)))) (dBin gEqC (dFun gRepr (dCons (dLst (dCons (dXf (csF ea "value") "value" (dVar 2)) (dCons (dXf (csF ea "value") "value" (dVar 3)) dNil))) dNil)) (dFun gRepr (dCons (dLst (dCons (dVar 1) (dCons (dVar 1) dNil))) dNil))))) (.one 4))
    (dSeq (dPar 2 3 (dCons (dXnew ea 12 ["index", "reason"] false (dCons (dVar 0) (dCons (dC (.str "CannotAct")) dNil))) (dCons (dXnew ea 12 ["index", "reason"] true (dCons (dC .none) (dCons (dUn gNeg (dC (.int 1))) dNil))) dNil)))
    (dSeq (dAsg (dAnd (dVar 4) (dAnd (dCall (c__law_right ea) (dCons (dC (.int 12)) (dCons (dC (.int 2)) (dCons (dLstX (dCons (dVar 2) (dCons (dVar 3) dNil))) dNil)))) (dBin gEqC (dFun gRepr (dCons (dLst (dCons (dXf (csF ea "index") "index" (dVar 2)) (dCons (dXf (csF ea "index") "index" (dVar 3)) dNil))) dNil)) (dFun gRepr (dCons (dLst (dCons (dVar 0) (dCons (dUn gNeg (dC (.int 1))) dNil))) dNil))))) (.one 4))
    (dSeq (dAsg (dAnd (dVar 4) (dBin gEqC (dFun gRepr (dCons (dLst (dCons (dXf (csF ea "reason") "reason" (dVar 2)) (dCons (dXf (csF ea "reason") "reason" (dVar 3)) dNil))) dNil)) (dFun gRepr (dCons (dLst (dCons (dC (.str "CannotAct")) (dCons (dC .none) dNil))) dNil)))) (.one 4))
    (dSeq (dPar 2 3 (dCons (dXnew ea 14 ["limit"] false (dCons (dVar 0) dNil)) (dCons (dXnew ea 14 ["limit"] true (dCons (dC (.int 500)) dNil)) dNil)))
    (dRet (dAnd (dVar 4) (dAnd (dCall (c__law_right ea) (dCons (dC (.int 14)) (dCons (dC (.int 3)) (dCons (dLstX (dCons (dVar 2) (dCons (dVar 3) dNil))) dNil)))) (dBin gEqC (dFun gRepr (dCons (dLst (dCons (dXf (csF ea "limit") "limit" (dVar 2)) (dCons (dXf (csF ea "limit") "limit" (dVar 3)) dNil))) dNil)) (dFun gRepr (dCons (dLst (dCons (dVar 0) (dCons (dC (.int 500)) dNil))) dNil))))))))))))))))
def g_law (ea : Nat → Addr) : DS :=
  (dSeq (dAsg (dCall c__law_pen (dCons (dVar 0) dNil)) (.one 1))
    (dSeq (dFor (iRange1 (dCons (dC (.int 3)) dNil)) (.one 2)
    (dSeq (dAsg (dCall c__law_one_of (dCons (dVar 1) (dCons (dLst (dCons (dC (.int 0)) (dCons (dC (.int 1)) (dCons (dC (.int 17)) (dCons (dCall c__law_draw (dCons (dVar 1) (dCons (dBin gPow (dC (.int 10)) (dC (.int 60))) dNil))) dNil))))) dNil))) (.one 3))
    (dSeq (dAsg (dCall c__law_one_of (dCons (dVar 1) (dCons (dLst (dCons (dC .none) (dCons (dC (.bool true)) (dCons (dC (.str "up")) (dCons (dTup (dCons (dC (.int 0)) (dCons (dC (.int 1)) dNil))) (dCons (dLst dNil) (dCons dDict0 (dCons (dVar 3) (dCons (dUn gNeg (dC (.int 1))) dNil))))))))) dNil))) (.one 4))
    (dIfS (tOr2 (tNot1 (tVal (dCall (c__law_indexed ea) (dCons (dVar 3) dNil)))) (tNot1 (tVal (dCall (c__law_others ea) (dCons (dVar 3) (dCons (dVar 4) dNil))))))
    (dRet (dC (.bool false)))
    dNext))))
    (dSeq (dIfS (tOr2 (tNot1 (tVal (dCall (c__law_right ea) (dCons (dC (.int 4)) (dCons (dC (.int 0)) (dCons (dLstX (dCons (dXnew ea 4 [] false dNil) dNil)) dNil)))))) (tNot1 (tVal (dCall (c__law_right ea) (dCons (dC (.int 6)) (dCons (dC (.int 0)) (dCons (dLstX (dCons (dXnew ea 6 [] false dNil) dNil)) dNil)))))))
    (dRet (dC (.bool false)))
    dNext)
    (dSeq (dIfS (tOr2 (tNot1 (tVal (dCall (c__law_right ea) (dCons (dC (.int 10)) (dCons (dC (.int 2)) (dCons (dLstX (dCons (dXnew ea 10 [] false dNil) dNil)) dNil)))))) (tNot1 (tVal (dCall (c__law_right ea) (dCons (dC (.int 11)) (dCons (dC (.int 2)) (dCons (dLstX (dCons (dXnew ea 11 [] false dNil) dNil)) dNil)))))))
    (dRet (dC (.bool false)))
    dNext)
    (dRet (dCall (c__law_right ea) (dCons (dC (.int 13)) (dCons (dC (.int 2)) (dCons (dLstX (dCons (dXnew ea 13 [] false dNil) dNil)) dNil)))))))))
end K86

namespace K86
open PySem PySem.Spec PyProof.Rows HD
open L2 (kitB atI)

/-- as lc_pureA, some turns without an item -/
theorem lc_pureO {α : Type} {t : α → DV} {g : α → Option PyData} {keep : Mem → Prop} {tg : Tg} {tt : DT} {te : DE} {ρ : DEnv} {xs : List α} {M : Mem} {Q : Addr → Mem → Prop} (hk : ∀ M1, Sub M M1 → keep M1) (hl : xs.length ≤ sizeLine)
    (hx : ∀ a ∈ xs, ∀ M1 R, Sub M M1 → (∀ M2, Sub M1 M2 → R (g a) M2) → lcTurn tg tt te ρ (t a) M1 R) (hq : ∀ p M', M p = none → M' p = some (xs.filterMap g) → Sub M (eraseM M' p) → Q p M') :
    ∀ p, M p = none → lcD keep tg tt te p ρ (xs.map t) (updM M p []) (Q p) := by
  intro p hp
  have ne : ∀ {a ds}, M a = some ds → a ≠ p := fun h z => by subst z; rw [hp] at h; cases h
  refine lcD_run (fun r acc M' => ∃ l r', xs = l ++ r' ∧ r = r'.map t ∧ acc = l.filterMap g ∧ M' p = some acc ∧ Sub M M') (fun _ _ _ ⟨_, _, _, _, _, _, h⟩ => hk _ h) ?_ ?_ (xs.map t) [] (updM M p []) ⟨[], xs, rfl, rfl, rfl, updM_same, fun a ds h => by rw [updM_ne (ne h)]; exact h⟩
  · rintro x r acc M1 R ⟨l, r', e, er, rfl, h1, h2⟩ hn hs
    cases r' with
    | nil => cases er
    | cons a r' =>
      simp only [List.map_cons, List.cons.injEq] at er
      obtain ⟨rfl, rfl⟩ := er
      refine hx a (by rw [e]; simp) M1 R h2 fun M2 s => ?_
      cases q : g a with
      | none => exact hn M2 ⟨l ++ [a], r', by rw [e]; simp, rfl, by simp [q], s _ _ h1, h2.trans s⟩
      | some d =>
        refine hs d M2 (s _ _ h1) ?_ ⟨l ++ [a], r', by rw [e]; simp, rfl, by simp [q], updM_same, fun b ds h => by rw [updM_ne (ne h)]; exact s _ _ (h2 b ds h)⟩
        have := List.length_filterMap_le g l
        rw [e] at hl
        simp at hl
        omega
  · rintro acc M1 ⟨l, r', e, er, rfl, h1, h2⟩
    cases r' with
    | cons a r' => cases er
    | nil =>
      rw [List.append_nil] at e
      subst e
      exact hq p M1 hp h1 fun a ds h => by unfold eraseM; rw [if_neg (ne h)]; exact h2 a ds h


theorem nd_dec {ea : Nat → Addr} (nd : Nd ea) {i k : Nat} (hi : i < 15) (hk : k < 15) : decide (ea i = ea k) = decide (i = k) := by
  by_cases h : i = k
  · subst h; simp
  · rw [decide_eq_false h, decide_eq_false fun q => h (nd i k hi hk q)]
theorem xa_one {ea : Nat → Addr} (nd : Nd ea) {i k : Nat} (hi : i < 15) {a : Addr} {d : Option Addr} {fs : List (Str × PyData)} (h : XA ea [.x a (ea i) d fs] k) : k = i := by
  obtain ⟨a', d', fs', e, hk⟩ := h
  simp only [List.cons.injEq, DV.x.injEq, and_true] at e
  exact (nd i k hi hk e.2.1).symm
theorem call_x {ea : Nat → Addr} {res : Nat → PyData} {i : Nat} {a : Addr} {d : Option Addr} {fs : List (Str × PyData)} {M : Mem} {E : Value → List (Str × PyData) → Mem → Prop} {Q : DK} (nd : Nd ea) (hi : i < 15) (hq : ∀ M2, Sub M M2 → Q (.d (res i)) M2) :
    (xC ea res).pre [.x a (ea i) d fs] M ∧ (∀ x M2, (xC ea res).post [.x a (ea i) d fs] M x M2 → Q x M2) ∧ (∀ cls fs' M2, (xC ea res).err [.x a (ea i) d fs] M cls fs' M2 → E cls fs' M2) :=
  ⟨⟨nd, i, a, d, fs, rfl, hi⟩, fun x M2 ⟨s, h⟩ => by rw [h i ⟨a, d, fs, rfl, hi⟩]; exact hq M2 s, fun _ _ _ q => q.elim⟩
theorem x_end {ea : Nat → Addr} {res : Nat → PyData} {i : Nat} {a : Addr} {d : Option Addr} {fs : List (Str × PyData)} {M M' : Mem} {y : PyData} (nd : Nd ea) (hi : i < 15) (s : Sub M M') (e : y = res i) : (xC ea res).post [.x a (ea i) d fs] M (.d y) M' :=
  ⟨s, fun k hk => by rw [xa_one nd hi hk, e]⟩
theorem xC.len {ea : Nat → Addr} {res : Nat → PyData} : ∀ xs M, (xC ea res).pre xs M → xs.length = 1 := by
  rintro _ M ⟨_, i, a, d, fs, rfl, _⟩; rfl
/-- the seats at which it is true -/
theorem enum_bools {keep : Mem → Prop} {x0 x1 : Option DV} {bs : List Bool} {M : Mem} {Q : Addr → Mem → Prop} (hk : ∀ M1, Sub M M1 → keep M1) (hl : bs.length ≤ 1000)
    (hq : ∀ p M', M p = none → M' p = some (((List.range bs.length).filter fun k => bs.getD k false).map fun (k : Nat) => PyData.int k) → Sub M (eraseM M' p) → Q p M') :
    ∀ p, M p = none → lcD keep (.many [2, 3]) (tVal (dVar 3)) (dVar 2) p [x0, x1, none, none] (enumD (bs.map .bool)) (updM M p []) (Q p) := by
  have e : enumD (bs.map PyData.bool) = (List.range bs.length).map fun (k : Nat) => DV.d (.tuple [.int (k : Nat), .bool (bs.getD k false)]) := by
    unfold enumD
    rw [List.length_map]
    refine List.map_congr_left fun k hk => ?_
    rw [List.mem_range] at hk
    congr 3
    simp [hk]
  rw [e]
  refine lc_pureO (g := fun k => if bs.getD k false = true then some (.int (k : Nat)) else none) hk ?_ ?_ ?_
  · exact line1 (by rw [List.length_range]; omega)
  · intro k hk M1 R s hR
    simp only [dSeq, dNext, dRet, dRetN, dIfS, dDrop, dAsg, dPar, dPut, dSet1, setT, setAll, dVar, dC, dBin, dUn, dFun, dNot, chain_eq, dTup, dLst, dLstM, and_eq, or_eq, dIf, tVal, tAnd2, tOr2, tNot1, dCall, dCons, dNil, gAdd, gAddM, gSub, gMod, gPow, gMul, gNeg, gLt, gLe, gGt, gGe, gInt, gInt0, gIx, dSl, oNo, oSome, gSl, gLen, gInt1, gList, gListM, seqOf, gTuple, gMin2, gMax2, gRepr, dIsi, dTyEq, dAppend, dRev, dDict0, dRaise, dTry, catching, inSuite, dFld, vw, allD, gSumL, itemsD, iZipX, gRepT, dSortSet, dSortSetM, gMaxL, dGetK, dPutK, gDictP, dExtend, dPopAt, gIn, iRange2, gMulM, dSortI, gSumT, iEnumX, dGlob, Nat.reduceAdd, iRange1, startD, ends, wipeD, lcTurn, noX, iTupD, iLst, iEnumD, tAll, dLc, dLcM, dFor, gEqC, gNeC, gBools, boolsOf, List.map_cons, List.map_nil, List.length_cons, List.length_nil, List.replicate, List.cons_append, List.nil_append, List.getElem?_cons_zero, List.getElem?_cons_succ, List.set_cons_zero, List.set_cons_succ, Option.map_some, Option.map_none, dIsO, dIsB, dXf, dXnew, dXmk, dLstX, iXl, allX]
    cases h : bs.getD k false with
    | true =>
      have := hR M1 Sub.refl
      simp only [h, if_true] at this
      exact this
    | false =>
      have := hR M1 Sub.refl
      simp only [h, Bool.false_eq_true, if_false] at this
      exact this
  · intro p M' hp h1 s
    refine hq p M' hp ?_ s
    rw [h1]
    congr 1
    generalize List.range bs.length = ks
    induction ks with
    | nil => rfl
    | cons k ks ih =>
      cases h : bs.getD k false <;> simp only [List.filterMap_cons, List.filter_cons, h, if_true, Bool.false_eq_true, if_false, List.map_cons, ih]
def bl (i : Nat) : List Bool := [decide (i = 0), decide (i = 1), decide (i = 2), decide (i = 3), decide (i = 4), decide (i = 5), decide (i = 6), decide (i = 7), decide (i = 8), decide (i = 9), decide (i = 10), decide (i = 11), decide (i = 12), decide (i = 13), decide (i = 14)]
theorem bl_at : ∀ i, i < 15 → (List.range 15).filter (fun k => (bl i).getD k false) = [i] := by decide
def cb (i : Nat) (B : String) : Bool := (bmI i).contains (.type B)
def bl2 (i : Nat) : List Bool := [cb i "ValueError", cb i "LookupError", cb i "RuntimeError", cb i "OverflowError", cb i "KeyError", cb i "IndexError", cb i "NotImplementedError"]
theorem bl2_at : ∀ i, i < 15 → (List.range 7).filter (fun k => (bl2 i).getD k false) = [baseI i] := by decide +kernel

theorem len__law_last {ea : Nat → Addr} : ∀ xs M, ((c__law_last ea)).pre xs M → xs.length = 1 := xC.len
theorem sp__law_last (ea : Nat → Addr) : ∀ xs M, ((c__law_last ea)).pre xs M → g__law_last ea (ends (c__law_last ea) xs M) (startD ["e"] xs) M := by
  rintro _ M ⟨nd, i, a, d, fs, rfl, hi⟩
  simp only [g__law_last, dSeq, dNext, dRet, dRetN, dIfS, dDrop, dAsg, dPar, dPut, dSet1, setT, setAll, dVar, dC, dBin, dUn, dFun, dNot, chain_eq, dTup, dLst, dLstM, and_eq, or_eq, dIf, tVal, tAnd2, tOr2, tNot1, dCall, dCons, dNil, gAdd, gAddM, gSub, gMod, gPow, gMul, gNeg, gLt, gLe, gGt, gGe, gInt, gInt0, gIx, dSl, oNo, oSome, gSl, gLen, gInt1, gList, gListM, seqOf, gTuple, gMin2, gMax2, gRepr, dIsi, dTyEq, dAppend, dRev, dDict0, dRaise, dTry, catching, inSuite, dFld, vw, allD, gSumL, itemsD, iZipX, gRepT, dSortSet, dSortSetM, gMaxL, dGetK, dPutK, gDictP, dExtend, dPopAt, gIn, iRange2, gMulM, dSortI, gSumT, iEnumX, dGlob, Nat.reduceAdd, iRange1, startD, ends, wipeD, lcTurn, noX, iTupD, iLst, iEnumD, tAll, dLc, dLcM, dFor, gEqC, gNeC, gBools, boolsOf, List.map_cons, List.map_nil, List.length_cons, List.length_nil, List.replicate, List.cons_append, List.nil_append, List.getElem?_cons_zero, List.getElem?_cons_succ, List.set_cons_zero, List.set_cons_succ, Option.map_some, Option.map_none, dIsO, dIsB, dXf, dXnew, dXmk, dLstX, iXl, allX]
  refine ⟨csO_mem hi, csO_mem hi, csO_mem hi, by decide, ?_⟩
  rw [nd_dec nd hi (by decide), nd_dec nd hi (by decide), nd_dec nd hi (by decide)]
  exact x_end nd hi Sub.refl rfl

theorem len__law_which {ea : Nat → Addr} : ∀ xs M, ((c__law_which ea)).pre xs M → xs.length = 1 := xC.len
theorem sp__law_which (ea : Nat → Addr) : ∀ xs M, ((c__law_which ea)).pre xs M → g__law_which ea (ends (c__law_which ea) xs M) (startD ["e", "found", "seat", "is_it"] xs) M := by
  rintro _ M ⟨nd, i, a, d, fs, rfl, hi⟩
  simp only [g__law_which, dSeq, dNext, dRet, dRetN, dIfS, dDrop, dAsg, dPar, dPut, dSet1, setT, setAll, dVar, dC, dBin, dUn, dFun, dNot, chain_eq, dTup, dLst, dLstM, and_eq, or_eq, dIf, tVal, tAnd2, tOr2, tNot1, dCall, dCons, dNil, gAdd, gAddM, gSub, gMod, gPow, gMul, gNeg, gLt, gLe, gGt, gGe, gInt, gInt0, gIx, dSl, oNo, oSome, gSl, gLen, gInt1, gList, gListM, seqOf, gTuple, gMin2, gMax2, gRepr, dIsi, dTyEq, dAppend, dRev, dDict0, dRaise, dTry, catching, inSuite, dFld, vw, allD, gSumL, itemsD, iZipX, gRepT, dSortSet, dSortSetM, gMaxL, dGetK, dPutK, gDictP, dExtend, dPopAt, gIn, iRange2, gMulM, dSortI, gSumT, iEnumX, dGlob, Nat.reduceAdd, iRange1, startD, ends, wipeD, lcTurn, noX, iTupD, iLst, iEnumD, tAll, dLc, dLcM, dFor, gEqC, gNeC, gBools, boolsOf, List.map_cons, List.map_nil, List.length_cons, List.length_nil, List.replicate, List.cons_append, List.nil_append, List.getElem?_cons_zero, List.getElem?_cons_succ, List.set_cons_zero, List.set_cons_succ, Option.map_some, Option.map_none, dIsO, dIsB, dXf, dXnew, dXmk, dLstX, iXl, allX]
  have h := csO_mem (ea := ea) hi
  refine ⟨h, h, h, by decide, h, h, h, by decide, ?_⟩
  try simp only [dSeq, dNext, dRet, dRetN, dIfS, dDrop, dAsg, dPar, dPut, dSet1, setT, setAll, dVar, dC, dBin, dUn, dFun, dNot, chain_eq, dTup, dLst, dLstM, and_eq, or_eq, dIf, tVal, tAnd2, tOr2, tNot1, dCall, dCons, dNil, gAdd, gAddM, gSub, gMod, gPow, gMul, gNeg, gLt, gLe, gGt, gGe, gInt, gInt0, gIx, dSl, oNo, oSome, gSl, gLen, gInt1, gList, gListM, seqOf, gTuple, gMin2, gMax2, gRepr, dIsi, dTyEq, dAppend, dRev, dDict0, dRaise, dTry, catching, inSuite, dFld, vw, allD, gSumL, itemsD, iZipX, gRepT, dSortSet, dSortSetM, gMaxL, dGetK, dPutK, gDictP, dExtend, dPopAt, gIn, iRange2, gMulM, dSortI, gSumT, iEnumX, dGlob, Nat.reduceAdd, iRange1, startD, ends, wipeD, lcTurn, noX, iTupD, iLst, iEnumD, tAll, dLc, dLcM, dFor, gEqC, gNeC, gBools, boolsOf, List.map_cons, List.map_nil, List.length_cons, List.length_nil, List.replicate, List.cons_append, List.nil_append, List.getElem?_cons_zero, List.getElem?_cons_succ, List.set_cons_zero, List.set_cons_succ, Option.map_some, Option.map_none, dIsO, dIsB, dXf, dXnew, dXmk, dLstX, iXl, allX]
  refine ⟨by decide, h, h, h, by decide, ?_⟩
  try simp only [dSeq, dNext, dRet, dRetN, dIfS, dDrop, dAsg, dPar, dPut, dSet1, setT, setAll, dVar, dC, dBin, dUn, dFun, dNot, chain_eq, dTup, dLst, dLstM, and_eq, or_eq, dIf, tVal, tAnd2, tOr2, tNot1, dCall, dCons, dNil, gAdd, gAddM, gSub, gMod, gPow, gMul, gNeg, gLt, gLe, gGt, gGe, gInt, gInt0, gIx, dSl, oNo, oSome, gSl, gLen, gInt1, gList, gListM, seqOf, gTuple, gMin2, gMax2, gRepr, dIsi, dTyEq, dAppend, dRev, dDict0, dRaise, dTry, catching, inSuite, dFld, vw, allD, gSumL, itemsD, iZipX, gRepT, dSortSet, dSortSetM, gMaxL, dGetK, dPutK, gDictP, dExtend, dPopAt, gIn, iRange2, gMulM, dSortI, gSumT, iEnumX, dGlob, Nat.reduceAdd, iRange1, startD, ends, wipeD, lcTurn, noX, iTupD, iLst, iEnumD, tAll, dLc, dLcM, dFor, gEqC, gNeC, gBools, boolsOf, List.map_cons, List.map_nil, List.length_cons, List.length_nil, List.replicate, List.cons_append, List.nil_append, List.getElem?_cons_zero, List.getElem?_cons_succ, List.set_cons_zero, List.set_cons_succ, Option.map_some, Option.map_none, dIsO, dIsB, dXf, dXnew, dXmk, dLstX, iXl, allX]
  refine ⟨by decide, h, h, h, by decide, ?_⟩
  try simp only [dSeq, dNext, dRet, dRetN, dIfS, dDrop, dAsg, dPar, dPut, dSet1, setT, setAll, dVar, dC, dBin, dUn, dFun, dNot, chain_eq, dTup, dLst, dLstM, and_eq, or_eq, dIf, tVal, tAnd2, tOr2, tNot1, dCall, dCons, dNil, gAdd, gAddM, gSub, gMod, gPow, gMul, gNeg, gLt, gLe, gGt, gGe, gInt, gInt0, gIx, dSl, oNo, oSome, gSl, gLen, gInt1, gList, gListM, seqOf, gTuple, gMin2, gMax2, gRepr, dIsi, dTyEq, dAppend, dRev, dDict0, dRaise, dTry, catching, inSuite, dFld, vw, allD, gSumL, itemsD, iZipX, gRepT, dSortSet, dSortSetM, gMaxL, dGetK, dPutK, gDictP, dExtend, dPopAt, gIn, iRange2, gMulM, dSortI, gSumT, iEnumX, dGlob, Nat.reduceAdd, iRange1, startD, ends, wipeD, lcTurn, noX, iTupD, iLst, iEnumD, tAll, dLc, dLcM, dFor, gEqC, gNeC, gBools, boolsOf, List.map_cons, List.map_nil, List.length_cons, List.length_nil, List.replicate, List.cons_append, List.nil_append, List.getElem?_cons_zero, List.getElem?_cons_succ, List.set_cons_zero, List.set_cons_succ, Option.map_some, Option.map_none, dIsO, dIsB, dXf, dXnew, dXmk, dLstX, iXl, allX]
  refine ⟨by decide, call_x nd hi fun M1 s1 => ?_⟩
  try simp only [dSeq, dNext, dRet, dRetN, dIfS, dDrop, dAsg, dPar, dPut, dSet1, setT, setAll, dVar, dC, dBin, dUn, dFun, dNot, chain_eq, dTup, dLst, dLstM, and_eq, or_eq, dIf, tVal, tAnd2, tOr2, tNot1, dCall, dCons, dNil, gAdd, gAddM, gSub, gMod, gPow, gMul, gNeg, gLt, gLe, gGt, gGe, gInt, gInt0, gIx, dSl, oNo, oSome, gSl, gLen, gInt1, gList, gListM, seqOf, gTuple, gMin2, gMax2, gRepr, dIsi, dTyEq, dAppend, dRev, dDict0, dRaise, dTry, catching, inSuite, dFld, vw, allD, gSumL, itemsD, iZipX, gRepT, dSortSet, dSortSetM, gMaxL, dGetK, dPutK, gDictP, dExtend, dPopAt, gIn, iRange2, gMulM, dSortI, gSumT, iEnumX, dGlob, Nat.reduceAdd, iRange1, startD, ends, wipeD, lcTurn, noX, iTupD, iLst, iEnumD, tAll, dLc, dLcM, dFor, gEqC, gNeC, gBools, boolsOf, List.map_cons, List.map_nil, List.length_cons, List.length_nil, List.replicate, List.cons_append, List.nil_append, List.getElem?_cons_zero, List.getElem?_cons_succ, List.set_cons_zero, List.set_cons_succ, Option.map_some, Option.map_none, dIsO, dIsB, dXf, dXnew, dXmk, dLstX, iXl, allX]
  refine ⟨by decide, ?_⟩
  simp only [nd_dec nd hi (show 0 < 15 by decide), nd_dec nd hi (show 1 < 15 by decide), nd_dec nd hi (show 2 < 15 by decide), nd_dec nd hi (show 3 < 15 by decide), nd_dec nd hi (show 4 < 15 by decide), nd_dec nd hi (show 5 < 15 by decide), nd_dec nd hi (show 6 < 15 by decide), nd_dec nd hi (show 7 < 15 by decide), nd_dec nd hi (show 8 < 15 by decide), nd_dec nd hi (show 9 < 15 by decide), nd_dec nd hi (show 10 < 15 by decide), nd_dec nd hi (show 11 < 15 by decide)]
  have e : enumD [PyData.bool (decide (i = 0)), .bool (decide (i = 1)), .bool (decide (i = 2)), .bool (decide (i = 3)), .bool (decide (i = 4)), .bool (decide (i = 5)), .bool (decide (i = 6)), .bool (decide (i = 7)), .bool (decide (i = 8)), .bool (decide (i = 9)), .bool (decide (i = 10)), .bool (decide (i = 11)), .bool (decide (i = 12)), .bool (decide (i = 13)), .bool (decide (i = 14))] = enumD ((bl i).map .bool) := rfl
  rw [e]
  refine enum_bools (fun _ _ => trivial) (by show 15 ≤ 1000; decide) fun p M2 hp h1 s => ?_
  have e2 : ((List.range (bl i).length).filter fun k => (bl i).getD k false) = [i] := bl_at i hi
  rw [e2] at h1
  simp only [h1, dSeq, dNext, dRet, dRetN, dIfS, dDrop, dAsg, dPar, dPut, dSet1, setT, setAll, dVar, dC, dBin, dUn, dFun, dNot, chain_eq, dTup, dLst, dLstM, and_eq, or_eq, dIf, tVal, tAnd2, tOr2, tNot1, dCall, dCons, dNil, gAdd, gAddM, gSub, gMod, gPow, gMul, gNeg, gLt, gLe, gGt, gGe, gInt, gInt0, gIx, dSl, oNo, oSome, gSl, gLen, gInt1, gList, gListM, seqOf, gTuple, gMin2, gMax2, gRepr, dIsi, dTyEq, dAppend, dRev, dDict0, dRaise, dTry, catching, inSuite, dFld, vw, allD, gSumL, itemsD, iZipX, gRepT, dSortSet, dSortSetM, gMaxL, dGetK, dPutK, gDictP, dExtend, dPopAt, gIn, iRange2, gMulM, dSortI, gSumT, iEnumX, dGlob, Nat.reduceAdd, iRange1, startD, ends, wipeD, lcTurn, noX, iTupD, iLst, iEnumD, tAll, dLc, dLcM, dFor, gEqC, gNeC, gBools, boolsOf, List.map_cons, List.map_nil, List.length_cons, List.length_nil, List.replicate, List.cons_append, List.nil_append, List.getElem?_cons_zero, List.getElem?_cons_succ, List.set_cons_zero, List.set_cons_succ, Option.map_some, Option.map_none, dIsO, dIsB, dXf, dXnew, dXmk, dLstX, iXl, allX]
  exact x_end nd hi (s1.trans s) rfl

theorem len__law_base {ea : Nat → Addr} : ∀ xs M, ((c__law_base ea)).pre xs M → xs.length = 1 := xC.len
theorem sp__law_base (ea : Nat → Addr) : ∀ xs M, ((c__law_base ea)).pre xs M → g__law_base ea (ends (c__law_base ea) xs M) (startD ["e", "found", "seat", "is_it"] xs) M := by
  rintro _ M ⟨nd, i, a, d, fs, rfl, hi⟩
  simp only [g__law_base, dSeq, dNext, dRet, dRetN, dIfS, dDrop, dAsg, dPar, dPut, dSet1, setT, setAll, dVar, dC, dBin, dUn, dFun, dNot, chain_eq, dTup, dLst, dLstM, and_eq, or_eq, dIf, tVal, tAnd2, tOr2, tNot1, dCall, dCons, dNil, gAdd, gAddM, gSub, gMod, gPow, gMul, gNeg, gLt, gLe, gGt, gGe, gInt, gInt0, gIx, dSl, oNo, oSome, gSl, gLen, gInt1, gList, gListM, seqOf, gTuple, gMin2, gMax2, gRepr, dIsi, dTyEq, dAppend, dRev, dDict0, dRaise, dTry, catching, inSuite, dFld, vw, allD, gSumL, itemsD, iZipX, gRepT, dSortSet, dSortSetM, gMaxL, dGetK, dPutK, gDictP, dExtend, dPopAt, gIn, iRange2, gMulM, dSortI, gSumT, iEnumX, dGlob, Nat.reduceAdd, iRange1, startD, ends, wipeD, lcTurn, noX, iTupD, iLst, iEnumD, tAll, dLc, dLcM, dFor, gEqC, gNeC, gBools, boolsOf, List.map_cons, List.map_nil, List.length_cons, List.length_nil, List.replicate, List.cons_append, List.nil_append, List.getElem?_cons_zero, List.getElem?_cons_succ, List.set_cons_zero, List.set_cons_succ, Option.map_some, Option.map_none, dIsO, dIsB, dXf, dXnew, dXmk, dLstX, iXl, allX]
  have h := csX_mem (ea := ea) hi
  refine ⟨_, h, _, h, _, h, by decide, ?_⟩
  intro p hp
  try simp only [updM_same, dSeq, dNext, dRet, dRetN, dIfS, dDrop, dAsg, dPar, dPut, dSet1, setT, setAll, dVar, dC, dBin, dUn, dFun, dNot, chain_eq, dTup, dLst, dLstM, and_eq, or_eq, dIf, tVal, tAnd2, tOr2, tNot1, dCall, dCons, dNil, gAdd, gAddM, gSub, gMod, gPow, gMul, gNeg, gLt, gLe, gGt, gGe, gInt, gInt0, gIx, dSl, oNo, oSome, gSl, gLen, gInt1, gList, gListM, seqOf, gTuple, gMin2, gMax2, gRepr, dIsi, dTyEq, dAppend, dRev, dDict0, dRaise, dTry, catching, inSuite, dFld, vw, allD, gSumL, itemsD, iZipX, gRepT, dSortSet, dSortSetM, gMaxL, dGetK, dPutK, gDictP, dExtend, dPopAt, gIn, iRange2, gMulM, dSortI, gSumT, iEnumX, dGlob, Nat.reduceAdd, iRange1, startD, ends, wipeD, lcTurn, noX, iTupD, iLst, iEnumD, tAll, dLc, dLcM, dFor, gEqC, gNeC, gBools, boolsOf, List.map_cons, List.map_nil, List.length_cons, List.length_nil, List.replicate, List.cons_append, List.nil_append, List.getElem?_cons_zero, List.getElem?_cons_succ, List.set_cons_zero, List.set_cons_succ, Option.map_some, Option.map_none, dIsO, dIsB, dXf, dXnew, dXmk, dLstX, iXl, allX]
  refine ⟨_, h, _, h, _, h, by decide, ?_⟩
  try simp only [updM_same, dSeq, dNext, dRet, dRetN, dIfS, dDrop, dAsg, dPar, dPut, dSet1, setT, setAll, dVar, dC, dBin, dUn, dFun, dNot, chain_eq, dTup, dLst, dLstM, and_eq, or_eq, dIf, tVal, tAnd2, tOr2, tNot1, dCall, dCons, dNil, gAdd, gAddM, gSub, gMod, gPow, gMul, gNeg, gLt, gLe, gGt, gGe, gInt, gInt0, gIx, dSl, oNo, oSome, gSl, gLen, gInt1, gList, gListM, seqOf, gTuple, gMin2, gMax2, gRepr, dIsi, dTyEq, dAppend, dRev, dDict0, dRaise, dTry, catching, inSuite, dFld, vw, allD, gSumL, itemsD, iZipX, gRepT, dSortSet, dSortSetM, gMaxL, dGetK, dPutK, gDictP, dExtend, dPopAt, gIn, iRange2, gMulM, dSortI, gSumT, iEnumX, dGlob, Nat.reduceAdd, iRange1, startD, ends, wipeD, lcTurn, noX, iTupD, iLst, iEnumD, tAll, dLc, dLcM, dFor, gEqC, gNeC, gBools, boolsOf, List.map_cons, List.map_nil, List.length_cons, List.length_nil, List.replicate, List.cons_append, List.nil_append, List.getElem?_cons_zero, List.getElem?_cons_succ, List.set_cons_zero, List.set_cons_succ, Option.map_some, Option.map_none, dIsO, dIsB, dXf, dXnew, dXmk, dLstX, iXl, allX]
  refine ⟨by decide, fun p1 hp1 => ⟨_, h, by decide, ?_⟩⟩
  have e : enumD [PyData.bool ((bmI i).contains (.type "ValueError")), .bool ((bmI i).contains (.type "LookupError")), .bool ((bmI i).contains (.type "RuntimeError")), .bool ((bmI i).contains (.type "OverflowError")), .bool ((bmI i).contains (.type "KeyError")), .bool ((bmI i).contains (.type "IndexError")), .bool ((bmI i).contains (.type "NotImplementedError"))] = enumD ((bl2 i).map .bool) := rfl
  rw [e]
  refine enum_bools (fun M1 s => s _ _ updM_same) (by show 7 ≤ 1000; decide) fun p2 M2 hp2 h1 s => ?_
  have e2 : ((List.range (bl2 i).length).filter fun k => (bl2 i).getD k false) = [baseI i] := bl2_at i hi
  rw [e2] at h1
  simp only [h1, dSeq, dNext, dRet, dRetN, dIfS, dDrop, dAsg, dPar, dPut, dSet1, setT, setAll, dVar, dC, dBin, dUn, dFun, dNot, chain_eq, dTup, dLst, dLstM, and_eq, or_eq, dIf, tVal, tAnd2, tOr2, tNot1, dCall, dCons, dNil, gAdd, gAddM, gSub, gMod, gPow, gMul, gNeg, gLt, gLe, gGt, gGe, gInt, gInt0, gIx, dSl, oNo, oSome, gSl, gLen, gInt1, gList, gListM, seqOf, gTuple, gMin2, gMax2, gRepr, dIsi, dTyEq, dAppend, dRev, dDict0, dRaise, dTry, catching, inSuite, dFld, vw, allD, gSumL, itemsD, iZipX, gRepT, dSortSet, dSortSetM, gMaxL, dGetK, dPutK, gDictP, dExtend, dPopAt, gIn, iRange2, gMulM, dSortI, gSumT, iEnumX, dGlob, Nat.reduceAdd, iRange1, startD, ends, wipeD, lcTurn, noX, iTupD, iLst, iEnumD, tAll, dLc, dLcM, dFor, gEqC, gNeC, gBools, boolsOf, List.map_cons, List.map_nil, List.length_cons, List.length_nil, List.replicate, List.cons_append, List.nil_append, List.getElem?_cons_zero, List.getElem?_cons_succ, List.set_cons_zero, List.set_cons_succ, Option.map_some, Option.map_none, dIsO, dIsB, dXf, dXnew, dXmk, dLstX, iXl, allX]
  refine x_end nd hi (Sub.trans (fun b ds hb => ?_) s) rfl
  have n1 : b ≠ p := fun z => by subst z; rw [hp] at hb; cases hb
  have n2 : b ≠ p1 := fun z => by
    subst z
    rw [updM_ne n1, hb] at hp1
    cases hp1
  rw [updM_ne n2, updM_ne n2, updM_ne n1]
  exact hb

theorem cmp_l (k : Int) : Cmp (.list [.int k]) ∧ noDict (.list [.int k]) = true := ⟨⟨rfl, by simp [PyData.depth, PyData.depthAll]⟩, rfl⟩
theorem eqv1 (k : Int) : (PyData.list [.int k]).eqv (.list [.int k]) = true := eqv_same _ rfl
theorem none_all {α : Type} : ∀ es : List α, es.filterMap (fun _ => (none : Option PyData)) = []
  | [] => rfl
  | _ :: es => by rw [List.filterMap_cons]; exact none_all es
theorem len__law_right {ea : Nat → Addr} : ∀ xs M, ((c__law_right ea)).pre xs M → xs.length = 3 := by
  rintro _ M ⟨_, i, q, es, _, rfl, _⟩; rfl
theorem sp__law_right (ea : Nat → Addr) : ∀ xs M, ((c__law_right ea)).pre xs M → g__law_right ea (ends (c__law_right ea) xs M) (startD ["seat", "base", "made", "e"] xs) M := by
  rintro _ M ⟨nd, i, q, es, hi, rfl, hl, he⟩
  simp only [g__law_right, dSeq, dNext, dRet, dRetN, dIfS, dDrop, dAsg, dPar, dPut, dSet1, setT, setAll, dVar, dC, dBin, dUn, dFun, dNot, chain_eq, dTup, dLst, dLstM, and_eq, or_eq, dIf, tVal, tAnd2, tOr2, tNot1, dCall, dCons, dNil, gAdd, gAddM, gSub, gMod, gPow, gMul, gNeg, gLt, gLe, gGt, gGe, gInt, gInt0, gIx, dSl, oNo, oSome, gSl, gLen, gInt1, gList, gListM, seqOf, gTuple, gMin2, gMax2, gRepr, dIsi, dTyEq, dAppend, dRev, dDict0, dRaise, dTry, catching, inSuite, dFld, vw, allD, gSumL, itemsD, iZipX, gRepT, dSortSet, dSortSetM, gMaxL, dGetK, dPutK, gDictP, dExtend, dPopAt, gIn, iRange2, gMulM, dSortI, gSumT, iEnumX, dGlob, Nat.reduceAdd, iRange1, startD, ends, wipeD, lcTurn, noX, iTupD, iLst, iEnumD, tAll, dLc, dLcM, dFor, gEqC, gNeC, gBools, boolsOf, List.map_cons, List.map_nil, List.length_cons, List.length_nil, List.replicate, List.cons_append, List.nil_append, List.getElem?_cons_zero, List.getElem?_cons_succ, List.set_cons_zero, List.set_cons_succ, Option.map_some, Option.map_none, dIsO, dIsB, dXf, dXnew, dXmk, dLstX, iXl, allX]
  refine lc_pureO (g := fun _ => none) (fun _ _ => trivial) (line1 (by omega)) ?_ ?_
  · rintro ⟨a, C, d, fs⟩ hm M1 R s hR
    have hC : C = ea i := he _ hm
    subst hC
    simp only [dSeq, dNext, dRet, dRetN, dIfS, dDrop, dAsg, dPar, dPut, dSet1, setT, setAll, dVar, dC, dBin, dUn, dFun, dNot, chain_eq, dTup, dLst, dLstM, and_eq, or_eq, dIf, tVal, tAnd2, tOr2, tNot1, dCall, dCons, dNil, gAdd, gAddM, gSub, gMod, gPow, gMul, gNeg, gLt, gLe, gGt, gGe, gInt, gInt0, gIx, dSl, oNo, oSome, gSl, gLen, gInt1, gList, gListM, seqOf, gTuple, gMin2, gMax2, gRepr, dIsi, dTyEq, dAppend, dRev, dDict0, dRaise, dTry, catching, inSuite, dFld, vw, allD, gSumL, itemsD, iZipX, gRepT, dSortSet, dSortSetM, gMaxL, dGetK, dPutK, gDictP, dExtend, dPopAt, gIn, iRange2, gMulM, dSortI, gSumT, iEnumX, dGlob, Nat.reduceAdd, iRange1, startD, ends, wipeD, lcTurn, noX, iTupD, iLst, iEnumD, tAll, dLc, dLcM, dFor, gEqC, gNeC, gBools, boolsOf, List.map_cons, List.map_nil, List.length_cons, List.length_nil, List.replicate, List.cons_append, List.nil_append, List.getElem?_cons_zero, List.getElem?_cons_succ, List.set_cons_zero, List.set_cons_succ, Option.map_some, Option.map_none, dIsO, dIsB, dXf, dXnew, dXmk, dLstX, iXl, allX]
    refine call_x nd hi fun M2 s2 => ?_
    simp only [dSeq, dNext, dRet, dRetN, dIfS, dDrop, dAsg, dPar, dPut, dSet1, setT, setAll, dVar, dC, dBin, dUn, dFun, dNot, chain_eq, dTup, dLst, dLstM, and_eq, or_eq, dIf, tVal, tAnd2, tOr2, tNot1, dCall, dCons, dNil, gAdd, gAddM, gSub, gMod, gPow, gMul, gNeg, gLt, gLe, gGt, gGe, gInt, gInt0, gIx, dSl, oNo, oSome, gSl, gLen, gInt1, gList, gListM, seqOf, gTuple, gMin2, gMax2, gRepr, dIsi, dTyEq, dAppend, dRev, dDict0, dRaise, dTry, catching, inSuite, dFld, vw, allD, gSumL, itemsD, iZipX, gRepT, dSortSet, dSortSetM, gMaxL, dGetK, dPutK, gDictP, dExtend, dPopAt, gIn, iRange2, gMulM, dSortI, gSumT, iEnumX, dGlob, Nat.reduceAdd, iRange1, startD, ends, wipeD, lcTurn, noX, iTupD, iLst, iEnumD, tAll, dLc, dLcM, dFor, gEqC, gNeC, gBools, boolsOf, List.map_cons, List.map_nil, List.length_cons, List.length_nil, List.replicate, List.cons_append, List.nil_append, List.getElem?_cons_zero, List.getElem?_cons_succ, List.set_cons_zero, List.set_cons_succ, Option.map_some, Option.map_none, dIsO, dIsB, dXf, dXnew, dXmk, dLstX, iXl, allX, eqv1, Bool.not_true]
    refine ⟨by decide, cmp_l _, call_x nd hi fun M3 s3 => ?_⟩
    simp only [dSeq, dNext, dRet, dRetN, dIfS, dDrop, dAsg, dPar, dPut, dSet1, setT, setAll, dVar, dC, dBin, dUn, dFun, dNot, chain_eq, dTup, dLst, dLstM, and_eq, or_eq, dIf, tVal, tAnd2, tOr2, tNot1, dCall, dCons, dNil, gAdd, gAddM, gSub, gMod, gPow, gMul, gNeg, gLt, gLe, gGt, gGe, gInt, gInt0, gIx, dSl, oNo, oSome, gSl, gLen, gInt1, gList, gListM, seqOf, gTuple, gMin2, gMax2, gRepr, dIsi, dTyEq, dAppend, dRev, dDict0, dRaise, dTry, catching, inSuite, dFld, vw, allD, gSumL, itemsD, iZipX, gRepT, dSortSet, dSortSetM, gMaxL, dGetK, dPutK, gDictP, dExtend, dPopAt, gIn, iRange2, gMulM, dSortI, gSumT, iEnumX, dGlob, Nat.reduceAdd, iRange1, startD, ends, wipeD, lcTurn, noX, iTupD, iLst, iEnumD, tAll, dLc, dLcM, dFor, gEqC, gNeC, gBools, boolsOf, List.map_cons, List.map_nil, List.length_cons, List.length_nil, List.replicate, List.cons_append, List.nil_append, List.getElem?_cons_zero, List.getElem?_cons_succ, List.set_cons_zero, List.set_cons_succ, Option.map_some, Option.map_none, dIsO, dIsB, dXf, dXnew, dXmk, dLstX, iXl, allX, eqv1, Bool.not_true]
    exact ⟨by decide, cmp_l _, hR M3 (s2.trans s3)⟩
  · intro p M2 hp h1 s
    simp only [h1, dSeq, dNext, dRet, dRetN, dIfS, dDrop, dAsg, dPar, dPut, dSet1, setT, setAll, dVar, dC, dBin, dUn, dFun, dNot, chain_eq, dTup, dLst, dLstM, and_eq, or_eq, dIf, tVal, tAnd2, tOr2, tNot1, dCall, dCons, dNil, gAdd, gAddM, gSub, gMod, gPow, gMul, gNeg, gLt, gLe, gGt, gGe, gInt, gInt0, gIx, dSl, oNo, oSome, gSl, gLen, gInt1, gList, gListM, seqOf, gTuple, gMin2, gMax2, gRepr, dIsi, dTyEq, dAppend, dRev, dDict0, dRaise, dTry, catching, inSuite, dFld, vw, allD, gSumL, itemsD, iZipX, gRepT, dSortSet, dSortSetM, gMaxL, dGetK, dPutK, gDictP, dExtend, dPopAt, gIn, iRange2, gMulM, dSortI, gSumT, iEnumX, dGlob, Nat.reduceAdd, iRange1, startD, ends, wipeD, lcTurn, noX, iTupD, iLst, iEnumD, tAll, dLc, dLcM, dFor, gEqC, gNeC, gBools, boolsOf, List.map_cons, List.map_nil, List.length_cons, List.length_nil, List.replicate, List.cons_append, List.nil_append, List.getElem?_cons_zero, List.getElem?_cons_succ, List.set_cons_zero, List.set_cons_succ, Option.map_some, Option.map_none, dIsO, dIsB, dXf, dXnew, dXmk, dLstX, iXl, allX]
    exact ⟨by decide, s, by rw [none_all]; rfl⟩

end K86

namespace K86
open PySem PySem.Spec PyProof.Rows HD
open L2 (kitB atI)


theorem call_right {ea : Nat → Addr} {i : Nat} {q : Addr} {es : List XE4} {M : Mem} {E : Value → List (Str × PyData) → Mem → Prop} {Q : DK} {i' b : Int} (hi : i < 15) (nd : Nd ea) (hl : es.length ≤ 10) (he : ∀ e ∈ es, e.2.1 = ea i) (h1 : i' = (i : Nat)) (h2 : b = (baseI i : Nat)) (hq : ∀ M2, Sub M M2 → Q (.d (.bool true)) M2) :
    (c__law_right ea).pre [.d (.int i'), .d (.int b), .xl q es] M ∧ (∀ x M2, (c__law_right ea).post [.d (.int i'), .d (.int b), .xl q es] M x M2 → Q x M2) ∧ (∀ cls fs' M2, (c__law_right ea).err [.d (.int i'), .d (.int b), .xl q es] M cls fs' M2 → E cls fs' M2) := by
  subst h1; subst h2
  exact ⟨⟨nd, i, q, es, hi, rfl, hl, he⟩, fun x M2 ⟨s, h⟩ => by rw [h]; exact hq M2 s, fun _ _ _ q => q.elim⟩
theorem two_ea {ea : Nat → Addr} {i : Nat} {a b : Addr} {d d' : Option Addr} {fs fs' : List (Str × PyData)} : ∀ e ∈ ([(a, ea i, d, fs), (b, ea i, d', fs')] : List XE4), e.2.1 = ea i := by
  intro e h
  simp only [List.mem_cons, List.not_mem_nil, or_false] at h
  rcases h with rfl | rfl <;> rfl
theorem one_ea {ea : Nat → Addr} {i : Nat} {a : Addr} {d : Option Addr} {fs : List (Str × PyData)} : ∀ e ∈ ([(a, ea i, d, fs)] : List XE4), e.2.1 = ea i := by
  intro e h
  simp only [List.mem_cons, List.not_mem_nil, or_false] at h
  subst h; rfl
theorem fit_n {n : Int} (h : Cnt n) : Fit 0 0 0 (.int n) := Fit.int h
theorem fit_0 : Fit 0 0 0 .none := ⟨rfl, Nat.zero_le _, Nat.zero_le _⟩
theorem shows2 {x y : PyData} {n m k t : Nat} (h : Fit n k t x) (g : Fit m k t y) (hn : n + m ≤ 1000) (hk : k ≤ 1000) (ht : t ≤ 20) : Shows (.list [x, y]) :=
  (((FitA.one h).app (FitA.one g)).lst).shows (by omega) hk (by omega)
theorem look_ir {x y : PyData} : List.lookup ("index" : Str) [(("reason" : Str), x), (("index" : Str), y)] = some y := by
  have e : (("index" : Str) == ("reason" : Str)) = false := by decide
  simp only [List.lookup, e, beq_self_eq_true]

theorem len__law_indexed {ea : Nat → Addr} : ∀ xs M, ((c__law_indexed ea)).pre xs M → xs.length = 1 := by
  rintro _ M ⟨n, rfl, _⟩; rfl
theorem sp__law_indexed (ea : Nat → Addr) : ∀ xs M, ((c__law_indexed ea)).pre xs M → g__law_indexed ea (ends (c__law_indexed ea) xs M) (startD ["count", "a", "b", "good"] xs) M := by
  rintro _ M ⟨n, rfl, hn⟩
  simp only [g__law_indexed, dSeq, dNext, dRet, dRetN, dIfS, dDrop, dAsg, dPar, dPut, dSet1, setT, setAll, dVar, dC, dBin, dUn, dFun, dNot, chain_eq, dTup, dLst, dLstM, and_eq, or_eq, dIf, tVal, tAnd2, tOr2, tNot1, dCall, dCons, dNil, gAdd, gAddM, gSub, gMod, gPow, gMul, gNeg, gLt, gLe, gGt, gGe, gInt, gInt0, gIx, dSl, oNo, oSome, gSl, gLen, gInt1, gList, gListM, seqOf, gTuple, gMin2, gMax2, gRepr, dIsi, dTyEq, dAppend, dRev, dDict0, dRaise, dTry, catching, inSuite, dFld, vw, allD, gSumL, itemsD, iZipX, gRepT, dSortSet, dSortSetM, gMaxL, dGetK, dPutK, gDictP, dExtend, dPopAt, gIn, iRange2, gMulM, dSortI, gSumT, iEnumX, dGlob, Nat.reduceAdd, iRange1, startD, ends, wipeD, lcTurn, noX, iTupD, iLst, iEnumD, tAll, dLc, dLcM, dFor, gEqC, gNeC, gBools, boolsOf, List.map_cons, List.map_nil, List.length_cons, List.length_nil, List.replicate, List.cons_append, List.nil_append, List.getElem?_cons_zero, List.getElem?_cons_succ, List.set_cons_zero, List.set_cons_succ, Option.map_some, Option.map_none, dIsO, dIsB, dXf, dXnew, dXmk, dLstX, iXl, allX, List.zip_cons_cons, List.zip_nil_left, List.reverse_cons, List.reverse_nil, if_true, Bool.false_eq_true, if_false, List.lookup_cons_self, look_ir, str_same]

  refine fun nd => ?_

  refine ⟨trivial, fun a0 d0 ha0 _ => ⟨trivial, fun b0 c0 hb0 => ?_⟩⟩
  try simp only [dSeq, dNext, dRet, dRetN, dIfS, dDrop, dAsg, dPar, dPut, dSet1, setT, setAll, dVar, dC, dBin, dUn, dFun, dNot, chain_eq, dTup, dLst, dLstM, and_eq, or_eq, dIf, tVal, tAnd2, tOr2, tNot1, dCall, dCons, dNil, gAdd, gAddM, gSub, gMod, gPow, gMul, gNeg, gLt, gLe, gGt, gGe, gInt, gInt0, gIx, dSl, oNo, oSome, gSl, gLen, gInt1, gList, gListM, seqOf, gTuple, gMin2, gMax2, gRepr, dIsi, dTyEq, dAppend, dRev, dDict0, dRaise, dTry, catching, inSuite, dFld, vw, allD, gSumL, itemsD, iZipX, gRepT, dSortSet, dSortSetM, gMaxL, dGetK, dPutK, gDictP, dExtend, dPopAt, gIn, iRange2, gMulM, dSortI, gSumT, iEnumX, dGlob, Nat.reduceAdd, iRange1, startD, ends, wipeD, lcTurn, noX, iTupD, iLst, iEnumD, tAll, dLc, dLcM, dFor, gEqC, gNeC, gBools, boolsOf, List.map_cons, List.map_nil, List.length_cons, List.length_nil, List.replicate, List.cons_append, List.nil_append, List.getElem?_cons_zero, List.getElem?_cons_succ, List.set_cons_zero, List.set_cons_succ, Option.map_some, Option.map_none, dIsO, dIsB, dXf, dXnew, dXmk, dLstX, iXl, allX, List.zip_cons_cons, List.zip_nil_left, List.reverse_cons, List.reverse_nil, if_true, Bool.false_eq_true, if_false, List.lookup_cons_self, look_ir, str_same]
  refine ⟨by decide, fun p0 hp0 => call_right (i := 0) (by decide) nd (by simp) two_ea rfl rfl fun M0 s0 => ?_⟩
  try simp only [dSeq, dNext, dRet, dRetN, dIfS, dDrop, dAsg, dPar, dPut, dSet1, setT, setAll, dVar, dC, dBin, dUn, dFun, dNot, chain_eq, dTup, dLst, dLstM, and_eq, or_eq, dIf, tVal, tAnd2, tOr2, tNot1, dCall, dCons, dNil, gAdd, gAddM, gSub, gMod, gPow, gMul, gNeg, gLt, gLe, gGt, gGe, gInt, gInt0, gIx, dSl, oNo, oSome, gSl, gLen, gInt1, gList, gListM, seqOf, gTuple, gMin2, gMax2, gRepr, dIsi, dTyEq, dAppend, dRev, dDict0, dRaise, dTry, catching, inSuite, dFld, vw, allD, gSumL, itemsD, iZipX, gRepT, dSortSet, dSortSetM, gMaxL, dGetK, dPutK, gDictP, dExtend, dPopAt, gIn, iRange2, gMulM, dSortI, gSumT, iEnumX, dGlob, Nat.reduceAdd, iRange1, startD, ends, wipeD, lcTurn, noX, iTupD, iLst, iEnumD, tAll, dLc, dLcM, dFor, gEqC, gNeC, gBools, boolsOf, List.map_cons, List.map_nil, List.length_cons, List.length_nil, List.replicate, List.cons_append, List.nil_append, List.getElem?_cons_zero, List.getElem?_cons_succ, List.set_cons_zero, List.set_cons_succ, Option.map_some, Option.map_none, dIsO, dIsB, dXf, dXnew, dXmk, dLstX, iXl, allX, List.zip_cons_cons, List.zip_nil_left, List.reverse_cons, List.reverse_nil, if_true, Bool.false_eq_true, if_false, List.lookup_cons_self, look_ir, str_same]
  refine ⟨csF_mem (i := 0) (by decide) (by decide), csF_mem (i := 0) (by decide) (by decide), by decide, shows2 (fit_n hn) fit_0 (by decide) (by decide) (by decide), by decide, shows2 (fit_n hn) fit_0 (by decide) (by decide) (by decide), str_cmp _ _, ?_⟩
  try simp only [dSeq, dNext, dRet, dRetN, dIfS, dDrop, dAsg, dPar, dPut, dSet1, setT, setAll, dVar, dC, dBin, dUn, dFun, dNot, chain_eq, dTup, dLst, dLstM, and_eq, or_eq, dIf, tVal, tAnd2, tOr2, tNot1, dCall, dCons, dNil, gAdd, gAddM, gSub, gMod, gPow, gMul, gNeg, gLt, gLe, gGt, gGe, gInt, gInt0, gIx, dSl, oNo, oSome, gSl, gLen, gInt1, gList, gListM, seqOf, gTuple, gMin2, gMax2, gRepr, dIsi, dTyEq, dAppend, dRev, dDict0, dRaise, dTry, catching, inSuite, dFld, vw, allD, gSumL, itemsD, iZipX, gRepT, dSortSet, dSortSetM, gMaxL, dGetK, dPutK, gDictP, dExtend, dPopAt, gIn, iRange2, gMulM, dSortI, gSumT, iEnumX, dGlob, Nat.reduceAdd, iRange1, startD, ends, wipeD, lcTurn, noX, iTupD, iLst, iEnumD, tAll, dLc, dLcM, dFor, gEqC, gNeC, gBools, boolsOf, List.map_cons, List.map_nil, List.length_cons, List.length_nil, List.replicate, List.cons_append, List.nil_append, List.getElem?_cons_zero, List.getElem?_cons_succ, List.set_cons_zero, List.set_cons_succ, Option.map_some, Option.map_none, dIsO, dIsB, dXf, dXnew, dXmk, dLstX, iXl, allX, List.zip_cons_cons, List.zip_nil_left, List.reverse_cons, List.reverse_nil, if_true, Bool.false_eq_true, if_false, List.lookup_cons_self, look_ir, str_same]
  refine fun _ => ?_

  refine ⟨trivial, fun a1 d1 ha1 _ => ⟨trivial, fun b1 c1 hb1 => ?_⟩⟩
  try simp only [dSeq, dNext, dRet, dRetN, dIfS, dDrop, dAsg, dPar, dPut, dSet1, setT, setAll, dVar, dC, dBin, dUn, dFun, dNot, chain_eq, dTup, dLst, dLstM, and_eq, or_eq, dIf, tVal, tAnd2, tOr2, tNot1, dCall, dCons, dNil, gAdd, gAddM, gSub, gMod, gPow, gMul, gNeg, gLt, gLe, gGt, gGe, gInt, gInt0, gIx, dSl, oNo, oSome, gSl, gLen, gInt1, gList, gListM, seqOf, gTuple, gMin2, gMax2, gRepr, dIsi, dTyEq, dAppend, dRev, dDict0, dRaise, dTry, catching, inSuite, dFld, vw, allD, gSumL, itemsD, iZipX, gRepT, dSortSet, dSortSetM, gMaxL, dGetK, dPutK, gDictP, dExtend, dPopAt, gIn, iRange2, gMulM, dSortI, gSumT, iEnumX, dGlob, Nat.reduceAdd, iRange1, startD, ends, wipeD, lcTurn, noX, iTupD, iLst, iEnumD, tAll, dLc, dLcM, dFor, gEqC, gNeC, gBools, boolsOf, List.map_cons, List.map_nil, List.length_cons, List.length_nil, List.replicate, List.cons_append, List.nil_append, List.getElem?_cons_zero, List.getElem?_cons_succ, List.set_cons_zero, List.set_cons_succ, Option.map_some, Option.map_none, dIsO, dIsB, dXf, dXnew, dXmk, dLstX, iXl, allX, List.zip_cons_cons, List.zip_nil_left, List.reverse_cons, List.reverse_nil, if_true, Bool.false_eq_true, if_false, List.lookup_cons_self, look_ir, str_same]
  refine ⟨by decide, fun p1 hp1 => call_right (i := 2) (by decide) nd (by simp) two_ea rfl rfl fun M1 s1 => ?_⟩
  try simp only [dSeq, dNext, dRet, dRetN, dIfS, dDrop, dAsg, dPar, dPut, dSet1, setT, setAll, dVar, dC, dBin, dUn, dFun, dNot, chain_eq, dTup, dLst, dLstM, and_eq, or_eq, dIf, tVal, tAnd2, tOr2, tNot1, dCall, dCons, dNil, gAdd, gAddM, gSub, gMod, gPow, gMul, gNeg, gLt, gLe, gGt, gGe, gInt, gInt0, gIx, dSl, oNo, oSome, gSl, gLen, gInt1, gList, gListM, seqOf, gTuple, gMin2, gMax2, gRepr, dIsi, dTyEq, dAppend, dRev, dDict0, dRaise, dTry, catching, inSuite, dFld, vw, allD, gSumL, itemsD, iZipX, gRepT, dSortSet, dSortSetM, gMaxL, dGetK, dPutK, gDictP, dExtend, dPopAt, gIn, iRange2, gMulM, dSortI, gSumT, iEnumX, dGlob, Nat.reduceAdd, iRange1, startD, ends, wipeD, lcTurn, noX, iTupD, iLst, iEnumD, tAll, dLc, dLcM, dFor, gEqC, gNeC, gBools, boolsOf, List.map_cons, List.map_nil, List.length_cons, List.length_nil, List.replicate, List.cons_append, List.nil_append, List.getElem?_cons_zero, List.getElem?_cons_succ, List.set_cons_zero, List.set_cons_succ, Option.map_some, Option.map_none, dIsO, dIsB, dXf, dXnew, dXmk, dLstX, iXl, allX, List.zip_cons_cons, List.zip_nil_left, List.reverse_cons, List.reverse_nil, if_true, Bool.false_eq_true, if_false, List.lookup_cons_self, look_ir, str_same]
  refine ⟨csF_mem (i := 2) (by decide) (by decide), csF_mem (i := 2) (by decide) (by decide), by decide, shows2 (fit_n hn) fit_0 (by decide) (by decide) (by decide), by decide, shows2 (fit_n hn) fit_0 (by decide) (by decide) (by decide), str_cmp _ _, ?_⟩
  try simp only [dSeq, dNext, dRet, dRetN, dIfS, dDrop, dAsg, dPar, dPut, dSet1, setT, setAll, dVar, dC, dBin, dUn, dFun, dNot, chain_eq, dTup, dLst, dLstM, and_eq, or_eq, dIf, tVal, tAnd2, tOr2, tNot1, dCall, dCons, dNil, gAdd, gAddM, gSub, gMod, gPow, gMul, gNeg, gLt, gLe, gGt, gGe, gInt, gInt0, gIx, dSl, oNo, oSome, gSl, gLen, gInt1, gList, gListM, seqOf, gTuple, gMin2, gMax2, gRepr, dIsi, dTyEq, dAppend, dRev, dDict0, dRaise, dTry, catching, inSuite, dFld, vw, allD, gSumL, itemsD, iZipX, gRepT, dSortSet, dSortSetM, gMaxL, dGetK, dPutK, gDictP, dExtend, dPopAt, gIn, iRange2, gMulM, dSortI, gSumT, iEnumX, dGlob, Nat.reduceAdd, iRange1, startD, ends, wipeD, lcTurn, noX, iTupD, iLst, iEnumD, tAll, dLc, dLcM, dFor, gEqC, gNeC, gBools, boolsOf, List.map_cons, List.map_nil, List.length_cons, List.length_nil, List.replicate, List.cons_append, List.nil_append, List.getElem?_cons_zero, List.getElem?_cons_succ, List.set_cons_zero, List.set_cons_succ, Option.map_some, Option.map_none, dIsO, dIsB, dXf, dXnew, dXmk, dLstX, iXl, allX, List.zip_cons_cons, List.zip_nil_left, List.reverse_cons, List.reverse_nil, if_true, Bool.false_eq_true, if_false, List.lookup_cons_self, look_ir, str_same]
  refine fun _ => ?_

  refine ⟨trivial, fun a2 d2 ha2 _ => ⟨trivial, fun b2 c2 hb2 => ?_⟩⟩
  try simp only [dSeq, dNext, dRet, dRetN, dIfS, dDrop, dAsg, dPar, dPut, dSet1, setT, setAll, dVar, dC, dBin, dUn, dFun, dNot, chain_eq, dTup, dLst, dLstM, and_eq, or_eq, dIf, tVal, tAnd2, tOr2, tNot1, dCall, dCons, dNil, gAdd, gAddM, gSub, gMod, gPow, gMul, gNeg, gLt, gLe, gGt, gGe, gInt, gInt0, gIx, dSl, oNo, oSome, gSl, gLen, gInt1, gList, gListM, seqOf, gTuple, gMin2, gMax2, gRepr, dIsi, dTyEq, dAppend, dRev, dDict0, dRaise, dTry, catching, inSuite, dFld, vw, allD, gSumL, itemsD, iZipX, gRepT, dSortSet, dSortSetM, gMaxL, dGetK, dPutK, gDictP, dExtend, dPopAt, gIn, iRange2, gMulM, dSortI, gSumT, iEnumX, dGlob, Nat.reduceAdd, iRange1, startD, ends, wipeD, lcTurn, noX, iTupD, iLst, iEnumD, tAll, dLc, dLcM, dFor, gEqC, gNeC, gBools, boolsOf, List.map_cons, List.map_nil, List.length_cons, List.length_nil, List.replicate, List.cons_append, List.nil_append, List.getElem?_cons_zero, List.getElem?_cons_succ, List.set_cons_zero, List.set_cons_succ, Option.map_some, Option.map_none, dIsO, dIsB, dXf, dXnew, dXmk, dLstX, iXl, allX, List.zip_cons_cons, List.zip_nil_left, List.reverse_cons, List.reverse_nil, if_true, Bool.false_eq_true, if_false, List.lookup_cons_self, look_ir, str_same]
  refine ⟨by decide, fun p2 hp2 => call_right (i := 3) (by decide) nd (by simp) two_ea rfl rfl fun M2 s2 => ?_⟩
  try simp only [dSeq, dNext, dRet, dRetN, dIfS, dDrop, dAsg, dPar, dPut, dSet1, setT, setAll, dVar, dC, dBin, dUn, dFun, dNot, chain_eq, dTup, dLst, dLstM, and_eq, or_eq, dIf, tVal, tAnd2, tOr2, tNot1, dCall, dCons, dNil, gAdd, gAddM, gSub, gMod, gPow, gMul, gNeg, gLt, gLe, gGt, gGe, gInt, gInt0, gIx, dSl, oNo, oSome, gSl, gLen, gInt1, gList, gListM, seqOf, gTuple, gMin2, gMax2, gRepr, dIsi, dTyEq, dAppend, dRev, dDict0, dRaise, dTry, catching, inSuite, dFld, vw, allD, gSumL, itemsD, iZipX, gRepT, dSortSet, dSortSetM, gMaxL, dGetK, dPutK, gDictP, dExtend, dPopAt, gIn, iRange2, gMulM, dSortI, gSumT, iEnumX, dGlob, Nat.reduceAdd, iRange1, startD, ends, wipeD, lcTurn, noX, iTupD, iLst, iEnumD, tAll, dLc, dLcM, dFor, gEqC, gNeC, gBools, boolsOf, List.map_cons, List.map_nil, List.length_cons, List.length_nil, List.replicate, List.cons_append, List.nil_append, List.getElem?_cons_zero, List.getElem?_cons_succ, List.set_cons_zero, List.set_cons_succ, Option.map_some, Option.map_none, dIsO, dIsB, dXf, dXnew, dXmk, dLstX, iXl, allX, List.zip_cons_cons, List.zip_nil_left, List.reverse_cons, List.reverse_nil, if_true, Bool.false_eq_true, if_false, List.lookup_cons_self, look_ir, str_same]
  refine ⟨csF_mem (i := 3) (by decide) (by decide), csF_mem (i := 3) (by decide) (by decide), by decide, shows2 (fit_n hn) fit_0 (by decide) (by decide) (by decide), by decide, shows2 (fit_n hn) fit_0 (by decide) (by decide) (by decide), str_cmp _ _, ?_⟩
  try simp only [dSeq, dNext, dRet, dRetN, dIfS, dDrop, dAsg, dPar, dPut, dSet1, setT, setAll, dVar, dC, dBin, dUn, dFun, dNot, chain_eq, dTup, dLst, dLstM, and_eq, or_eq, dIf, tVal, tAnd2, tOr2, tNot1, dCall, dCons, dNil, gAdd, gAddM, gSub, gMod, gPow, gMul, gNeg, gLt, gLe, gGt, gGe, gInt, gInt0, gIx, dSl, oNo, oSome, gSl, gLen, gInt1, gList, gListM, seqOf, gTuple, gMin2, gMax2, gRepr, dIsi, dTyEq, dAppend, dRev, dDict0, dRaise, dTry, catching, inSuite, dFld, vw, allD, gSumL, itemsD, iZipX, gRepT, dSortSet, dSortSetM, gMaxL, dGetK, dPutK, gDictP, dExtend, dPopAt, gIn, iRange2, gMulM, dSortI, gSumT, iEnumX, dGlob, Nat.reduceAdd, iRange1, startD, ends, wipeD, lcTurn, noX, iTupD, iLst, iEnumD, tAll, dLc, dLcM, dFor, gEqC, gNeC, gBools, boolsOf, List.map_cons, List.map_nil, List.length_cons, List.length_nil, List.replicate, List.cons_append, List.nil_append, List.getElem?_cons_zero, List.getElem?_cons_succ, List.set_cons_zero, List.set_cons_succ, Option.map_some, Option.map_none, dIsO, dIsB, dXf, dXnew, dXmk, dLstX, iXl, allX, List.zip_cons_cons, List.zip_nil_left, List.reverse_cons, List.reverse_nil, if_true, Bool.false_eq_true, if_false, List.lookup_cons_self, look_ir, str_same]
  refine fun _ => ?_

  refine ⟨trivial, fun a3 d3 ha3 _ => ⟨trivial, fun b3 c3 hb3 => ?_⟩⟩
  try simp only [dSeq, dNext, dRet, dRetN, dIfS, dDrop, dAsg, dPar, dPut, dSet1, setT, setAll, dVar, dC, dBin, dUn, dFun, dNot, chain_eq, dTup, dLst, dLstM, and_eq, or_eq, dIf, tVal, tAnd2, tOr2, tNot1, dCall, dCons, dNil, gAdd, gAddM, gSub, gMod, gPow, gMul, gNeg, gLt, gLe, gGt, gGe, gInt, gInt0, gIx, dSl, oNo, oSome, gSl, gLen, gInt1, gList, gListM, seqOf, gTuple, gMin2, gMax2, gRepr, dIsi, dTyEq, dAppend, dRev, dDict0, dRaise, dTry, catching, inSuite, dFld, vw, allD, gSumL, itemsD, iZipX, gRepT, dSortSet, dSortSetM, gMaxL, dGetK, dPutK, gDictP, dExtend, dPopAt, gIn, iRange2, gMulM, dSortI, gSumT, iEnumX, dGlob, Nat.reduceAdd, iRange1, startD, ends, wipeD, lcTurn, noX, iTupD, iLst, iEnumD, tAll, dLc, dLcM, dFor, gEqC, gNeC, gBools, boolsOf, List.map_cons, List.map_nil, List.length_cons, List.length_nil, List.replicate, List.cons_append, List.nil_append, List.getElem?_cons_zero, List.getElem?_cons_succ, List.set_cons_zero, List.set_cons_succ, Option.map_some, Option.map_none, dIsO, dIsB, dXf, dXnew, dXmk, dLstX, iXl, allX, List.zip_cons_cons, List.zip_nil_left, List.reverse_cons, List.reverse_nil, if_true, Bool.false_eq_true, if_false, List.lookup_cons_self, look_ir, str_same]
  refine ⟨by decide, fun p3 hp3 => call_right (i := 5) (by decide) nd (by simp) two_ea rfl rfl fun M3 s3 => ?_⟩
  try simp only [dSeq, dNext, dRet, dRetN, dIfS, dDrop, dAsg, dPar, dPut, dSet1, setT, setAll, dVar, dC, dBin, dUn, dFun, dNot, chain_eq, dTup, dLst, dLstM, and_eq, or_eq, dIf, tVal, tAnd2, tOr2, tNot1, dCall, dCons, dNil, gAdd, gAddM, gSub, gMod, gPow, gMul, gNeg, gLt, gLe, gGt, gGe, gInt, gInt0, gIx, dSl, oNo, oSome, gSl, gLen, gInt1, gList, gListM, seqOf, gTuple, gMin2, gMax2, gRepr, dIsi, dTyEq, dAppend, dRev, dDict0, dRaise, dTry, catching, inSuite, dFld, vw, allD, gSumL, itemsD, iZipX, gRepT, dSortSet, dSortSetM, gMaxL, dGetK, dPutK, gDictP, dExtend, dPopAt, gIn, iRange2, gMulM, dSortI, gSumT, iEnumX, dGlob, Nat.reduceAdd, iRange1, startD, ends, wipeD, lcTurn, noX, iTupD, iLst, iEnumD, tAll, dLc, dLcM, dFor, gEqC, gNeC, gBools, boolsOf, List.map_cons, List.map_nil, List.length_cons, List.length_nil, List.replicate, List.cons_append, List.nil_append, List.getElem?_cons_zero, List.getElem?_cons_succ, List.set_cons_zero, List.set_cons_succ, Option.map_some, Option.map_none, dIsO, dIsB, dXf, dXnew, dXmk, dLstX, iXl, allX, List.zip_cons_cons, List.zip_nil_left, List.reverse_cons, List.reverse_nil, if_true, Bool.false_eq_true, if_false, List.lookup_cons_self, look_ir, str_same]
  refine ⟨csF_mem (i := 5) (by decide) (by decide), csF_mem (i := 5) (by decide) (by decide), by decide, shows2 (fit_n hn) fit_0 (by decide) (by decide) (by decide), by decide, shows2 (fit_n hn) fit_0 (by decide) (by decide) (by decide), str_cmp _ _, ?_⟩
  try simp only [dSeq, dNext, dRet, dRetN, dIfS, dDrop, dAsg, dPar, dPut, dSet1, setT, setAll, dVar, dC, dBin, dUn, dFun, dNot, chain_eq, dTup, dLst, dLstM, and_eq, or_eq, dIf, tVal, tAnd2, tOr2, tNot1, dCall, dCons, dNil, gAdd, gAddM, gSub, gMod, gPow, gMul, gNeg, gLt, gLe, gGt, gGe, gInt, gInt0, gIx, dSl, oNo, oSome, gSl, gLen, gInt1, gList, gListM, seqOf, gTuple, gMin2, gMax2, gRepr, dIsi, dTyEq, dAppend, dRev, dDict0, dRaise, dTry, catching, inSuite, dFld, vw, allD, gSumL, itemsD, iZipX, gRepT, dSortSet, dSortSetM, gMaxL, dGetK, dPutK, gDictP, dExtend, dPopAt, gIn, iRange2, gMulM, dSortI, gSumT, iEnumX, dGlob, Nat.reduceAdd, iRange1, startD, ends, wipeD, lcTurn, noX, iTupD, iLst, iEnumD, tAll, dLc, dLcM, dFor, gEqC, gNeC, gBools, boolsOf, List.map_cons, List.map_nil, List.length_cons, List.length_nil, List.replicate, List.cons_append, List.nil_append, List.getElem?_cons_zero, List.getElem?_cons_succ, List.set_cons_zero, List.set_cons_succ, Option.map_some, Option.map_none, dIsO, dIsB, dXf, dXnew, dXmk, dLstX, iXl, allX, List.zip_cons_cons, List.zip_nil_left, List.reverse_cons, List.reverse_nil, if_true, Bool.false_eq_true, if_false, List.lookup_cons_self, look_ir, str_same]
  refine fun _ => ?_

  refine ⟨trivial, fun a4 d4 ha4 _ => ⟨trivial, fun b4 c4 hb4 => ?_⟩⟩
  try simp only [dSeq, dNext, dRet, dRetN, dIfS, dDrop, dAsg, dPar, dPut, dSet1, setT, setAll, dVar, dC, dBin, dUn, dFun, dNot, chain_eq, dTup, dLst, dLstM, and_eq, or_eq, dIf, tVal, tAnd2, tOr2, tNot1, dCall, dCons, dNil, gAdd, gAddM, gSub, gMod, gPow, gMul, gNeg, gLt, gLe, gGt, gGe, gInt, gInt0, gIx, dSl, oNo, oSome, gSl, gLen, gInt1, gList, gListM, seqOf, gTuple, gMin2, gMax2, gRepr, dIsi, dTyEq, dAppend, dRev, dDict0, dRaise, dTry, catching, inSuite, dFld, vw, allD, gSumL, itemsD, iZipX, gRepT, dSortSet, dSortSetM, gMaxL, dGetK, dPutK, gDictP, dExtend, dPopAt, gIn, iRange2, gMulM, dSortI, gSumT, iEnumX, dGlob, Nat.reduceAdd, iRange1, startD, ends, wipeD, lcTurn, noX, iTupD, iLst, iEnumD, tAll, dLc, dLcM, dFor, gEqC, gNeC, gBools, boolsOf, List.map_cons, List.map_nil, List.length_cons, List.length_nil, List.replicate, List.cons_append, List.nil_append, List.getElem?_cons_zero, List.getElem?_cons_succ, List.set_cons_zero, List.set_cons_succ, Option.map_some, Option.map_none, dIsO, dIsB, dXf, dXnew, dXmk, dLstX, iXl, allX, List.zip_cons_cons, List.zip_nil_left, List.reverse_cons, List.reverse_nil, if_true, Bool.false_eq_true, if_false, List.lookup_cons_self, look_ir, str_same]
  refine ⟨by decide, fun p4 hp4 => call_right (i := 9) (by decide) nd (by simp) two_ea rfl rfl fun M4 s4 => ?_⟩
  try simp only [dSeq, dNext, dRet, dRetN, dIfS, dDrop, dAsg, dPar, dPut, dSet1, setT, setAll, dVar, dC, dBin, dUn, dFun, dNot, chain_eq, dTup, dLst, dLstM, and_eq, or_eq, dIf, tVal, tAnd2, tOr2, tNot1, dCall, dCons, dNil, gAdd, gAddM, gSub, gMod, gPow, gMul, gNeg, gLt, gLe, gGt, gGe, gInt, gInt0, gIx, dSl, oNo, oSome, gSl, gLen, gInt1, gList, gListM, seqOf, gTuple, gMin2, gMax2, gRepr, dIsi, dTyEq, dAppend, dRev, dDict0, dRaise, dTry, catching, inSuite, dFld, vw, allD, gSumL, itemsD, iZipX, gRepT, dSortSet, dSortSetM, gMaxL, dGetK, dPutK, gDictP, dExtend, dPopAt, gIn, iRange2, gMulM, dSortI, gSumT, iEnumX, dGlob, Nat.reduceAdd, iRange1, startD, ends, wipeD, lcTurn, noX, iTupD, iLst, iEnumD, tAll, dLc, dLcM, dFor, gEqC, gNeC, gBools, boolsOf, List.map_cons, List.map_nil, List.length_cons, List.length_nil, List.replicate, List.cons_append, List.nil_append, List.getElem?_cons_zero, List.getElem?_cons_succ, List.set_cons_zero, List.set_cons_succ, Option.map_some, Option.map_none, dIsO, dIsB, dXf, dXnew, dXmk, dLstX, iXl, allX, List.zip_cons_cons, List.zip_nil_left, List.reverse_cons, List.reverse_nil, if_true, Bool.false_eq_true, if_false, List.lookup_cons_self, look_ir, str_same]
  refine ⟨csF_mem (i := 9) (by decide) (by decide), csF_mem (i := 9) (by decide) (by decide), by decide, shows2 (fit_n hn) (fit_n (n := 0) (show Cnt 0 by unfold Cnt; decide)) (by decide) (by decide) (by decide), by decide, shows2 (fit_n hn) (fit_n (n := 0) (show Cnt 0 by unfold Cnt; decide)) (by decide) (by decide) (by decide), str_cmp _ _, ?_⟩
  try simp only [dSeq, dNext, dRet, dRetN, dIfS, dDrop, dAsg, dPar, dPut, dSet1, setT, setAll, dVar, dC, dBin, dUn, dFun, dNot, chain_eq, dTup, dLst, dLstM, and_eq, or_eq, dIf, tVal, tAnd2, tOr2, tNot1, dCall, dCons, dNil, gAdd, gAddM, gSub, gMod, gPow, gMul, gNeg, gLt, gLe, gGt, gGe, gInt, gInt0, gIx, dSl, oNo, oSome, gSl, gLen, gInt1, gList, gListM, seqOf, gTuple, gMin2, gMax2, gRepr, dIsi, dTyEq, dAppend, dRev, dDict0, dRaise, dTry, catching, inSuite, dFld, vw, allD, gSumL, itemsD, iZipX, gRepT, dSortSet, dSortSetM, gMaxL, dGetK, dPutK, gDictP, dExtend, dPopAt, gIn, iRange2, gMulM, dSortI, gSumT, iEnumX, dGlob, Nat.reduceAdd, iRange1, startD, ends, wipeD, lcTurn, noX, iTupD, iLst, iEnumD, tAll, dLc, dLcM, dFor, gEqC, gNeC, gBools, boolsOf, List.map_cons, List.map_nil, List.length_cons, List.length_nil, List.replicate, List.cons_append, List.nil_append, List.getElem?_cons_zero, List.getElem?_cons_succ, List.set_cons_zero, List.set_cons_succ, Option.map_some, Option.map_none, dIsO, dIsB, dXf, dXnew, dXmk, dLstX, iXl, allX, List.zip_cons_cons, List.zip_nil_left, List.reverse_cons, List.reverse_nil, if_true, Bool.false_eq_true, if_false, List.lookup_cons_self, look_ir, str_same]

  exact ⟨s0.trans (s1.trans (s2.trans (s3.trans s4))), rfl⟩

theorem len__law_others {ea : Nat → Addr} : ∀ xs M, ((c__law_others ea)).pre xs M → xs.length = 2 := by
  rintro _ M ⟨n, y, rfl, _⟩; rfl
theorem fit_ca : Fit 10 0 0 (.str "CannotAct") := ⟨by decide +kernel, by decide +kernel, Nat.le_refl _⟩
theorem fit_rule {n : Int} (h : Cnt n) : Fit 20 0 1 (.tuple [.str "rule", .int n]) := by
  have h1 : Fit 10 0 0 (.str "rule") := ⟨by decide +kernel, by decide +kernel, Nat.le_refl _⟩
  have := ((FitA.one h1).app (FitA.one (fit_n h))).tup
  exact this.up (by decide) (by decide) (by decide)
theorem sp__law_others (ea : Nat → Addr) : ∀ xs M, ((c__law_others ea)).pre xs M → g__law_others ea (ends (c__law_others ea) xs M) (startD ["count", "thing", "a", "b", "good"] xs) M := by
  rintro _ M ⟨n, y, rfl, hn, hy⟩
  simp only [g__law_others, dSeq, dNext, dRet, dRetN, dIfS, dDrop, dAsg, dPar, dPut, dSet1, setT, setAll, dVar, dC, dBin, dUn, dFun, dNot, chain_eq, dTup, dLst, dLstM, and_eq, or_eq, dIf, tVal, tAnd2, tOr2, tNot1, dCall, dCons, dNil, gAdd, gAddM, gSub, gMod, gPow, gMul, gNeg, gLt, gLe, gGt, gGe, gInt, gInt0, gIx, dSl, oNo, oSome, gSl, gLen, gInt1, gList, gListM, seqOf, gTuple, gMin2, gMax2, gRepr, dIsi, dTyEq, dAppend, dRev, dDict0, dRaise, dTry, catching, inSuite, dFld, vw, allD, gSumL, itemsD, iZipX, gRepT, dSortSet, dSortSetM, gMaxL, dGetK, dPutK, gDictP, dExtend, dPopAt, gIn, iRange2, gMulM, dSortI, gSumT, iEnumX, dGlob, Nat.reduceAdd, iRange1, startD, ends, wipeD, lcTurn, noX, iTupD, iLst, iEnumD, tAll, dLc, dLcM, dFor, gEqC, gNeC, gBools, boolsOf, List.map_cons, List.map_nil, List.length_cons, List.length_nil, List.replicate, List.cons_append, List.nil_append, List.getElem?_cons_zero, List.getElem?_cons_succ, List.set_cons_zero, List.set_cons_succ, Option.map_some, Option.map_none, dIsO, dIsB, dXf, dXnew, dXmk, dLstX, iXl, allX, List.zip_cons_cons, List.zip_nil_left, List.reverse_cons, List.reverse_nil, if_true, Bool.false_eq_true, if_false, List.lookup_cons_self, look_ir, str_same]

  refine fun nd => ?_

  refine ⟨by decide, trivial, fun a0 d0 ha0 _ => ⟨trivial, fun b0 c0 hb0 => ?_⟩⟩
  try simp only [dSeq, dNext, dRet, dRetN, dIfS, dDrop, dAsg, dPar, dPut, dSet1, setT, setAll, dVar, dC, dBin, dUn, dFun, dNot, chain_eq, dTup, dLst, dLstM, and_eq, or_eq, dIf, tVal, tAnd2, tOr2, tNot1, dCall, dCons, dNil, gAdd, gAddM, gSub, gMod, gPow, gMul, gNeg, gLt, gLe, gGt, gGe, gInt, gInt0, gIx, dSl, oNo, oSome, gSl, gLen, gInt1, gList, gListM, seqOf, gTuple, gMin2, gMax2, gRepr, dIsi, dTyEq, dAppend, dRev, dDict0, dRaise, dTry, catching, inSuite, dFld, vw, allD, gSumL, itemsD, iZipX, gRepT, dSortSet, dSortSetM, gMaxL, dGetK, dPutK, gDictP, dExtend, dPopAt, gIn, iRange2, gMulM, dSortI, gSumT, iEnumX, dGlob, Nat.reduceAdd, iRange1, startD, ends, wipeD, lcTurn, noX, iTupD, iLst, iEnumD, tAll, dLc, dLcM, dFor, gEqC, gNeC, gBools, boolsOf, List.map_cons, List.map_nil, List.length_cons, List.length_nil, List.replicate, List.cons_append, List.nil_append, List.getElem?_cons_zero, List.getElem?_cons_succ, List.set_cons_zero, List.set_cons_succ, Option.map_some, Option.map_none, dIsO, dIsB, dXf, dXnew, dXmk, dLstX, iXl, allX, List.zip_cons_cons, List.zip_nil_left, List.reverse_cons, List.reverse_nil, if_true, Bool.false_eq_true, if_false, List.lookup_cons_self, look_ir, str_same]
  refine ⟨by decide, fun p0 hp0 => call_right (i := 1) (by decide) nd (by simp) two_ea rfl rfl fun M0 s0 => ?_⟩
  try simp only [dSeq, dNext, dRet, dRetN, dIfS, dDrop, dAsg, dPar, dPut, dSet1, setT, setAll, dVar, dC, dBin, dUn, dFun, dNot, chain_eq, dTup, dLst, dLstM, and_eq, or_eq, dIf, tVal, tAnd2, tOr2, tNot1, dCall, dCons, dNil, gAdd, gAddM, gSub, gMod, gPow, gMul, gNeg, gLt, gLe, gGt, gGe, gInt, gInt0, gIx, dSl, oNo, oSome, gSl, gLen, gInt1, gList, gListM, seqOf, gTuple, gMin2, gMax2, gRepr, dIsi, dTyEq, dAppend, dRev, dDict0, dRaise, dTry, catching, inSuite, dFld, vw, allD, gSumL, itemsD, iZipX, gRepT, dSortSet, dSortSetM, gMaxL, dGetK, dPutK, gDictP, dExtend, dPopAt, gIn, iRange2, gMulM, dSortI, gSumT, iEnumX, dGlob, Nat.reduceAdd, iRange1, startD, ends, wipeD, lcTurn, noX, iTupD, iLst, iEnumD, tAll, dLc, dLcM, dFor, gEqC, gNeC, gBools, boolsOf, List.map_cons, List.map_nil, List.length_cons, List.length_nil, List.replicate, List.cons_append, List.nil_append, List.getElem?_cons_zero, List.getElem?_cons_succ, List.set_cons_zero, List.set_cons_succ, Option.map_some, Option.map_none, dIsO, dIsB, dXf, dXnew, dXmk, dLstX, iXl, allX, List.zip_cons_cons, List.zip_nil_left, List.reverse_cons, List.reverse_nil, if_true, Bool.false_eq_true, if_false, List.lookup_cons_self, look_ir, str_same]
  refine ⟨csF_mem (i := 1) (by decide) (by decide), csF_mem (i := 1) (by decide) (by decide), by decide, shows2 (n := 20) (m := 0) (k := 0) (t := 1) (fit_rule hn) (fit_0.up (Nat.zero_le _) (Nat.zero_le _) (Nat.zero_le _)) (by decide) (by decide) (by decide), by decide, by decide, shows2 (n := 20) (m := 0) (k := 0) (t := 1) (fit_rule hn) (fit_0.up (Nat.zero_le _) (Nat.zero_le _) (Nat.zero_le _)) (by decide) (by decide) (by decide), str_cmp _ _, ?_⟩
  try simp only [dSeq, dNext, dRet, dRetN, dIfS, dDrop, dAsg, dPar, dPut, dSet1, setT, setAll, dVar, dC, dBin, dUn, dFun, dNot, chain_eq, dTup, dLst, dLstM, and_eq, or_eq, dIf, tVal, tAnd2, tOr2, tNot1, dCall, dCons, dNil, gAdd, gAddM, gSub, gMod, gPow, gMul, gNeg, gLt, gLe, gGt, gGe, gInt, gInt0, gIx, dSl, oNo, oSome, gSl, gLen, gInt1, gList, gListM, seqOf, gTuple, gMin2, gMax2, gRepr, dIsi, dTyEq, dAppend, dRev, dDict0, dRaise, dTry, catching, inSuite, dFld, vw, allD, gSumL, itemsD, iZipX, gRepT, dSortSet, dSortSetM, gMaxL, dGetK, dPutK, gDictP, dExtend, dPopAt, gIn, iRange2, gMulM, dSortI, gSumT, iEnumX, dGlob, Nat.reduceAdd, iRange1, startD, ends, wipeD, lcTurn, noX, iTupD, iLst, iEnumD, tAll, dLc, dLcM, dFor, gEqC, gNeC, gBools, boolsOf, List.map_cons, List.map_nil, List.length_cons, List.length_nil, List.replicate, List.cons_append, List.nil_append, List.getElem?_cons_zero, List.getElem?_cons_succ, List.set_cons_zero, List.set_cons_succ, Option.map_some, Option.map_none, dIsO, dIsB, dXf, dXnew, dXmk, dLstX, iXl, allX, List.zip_cons_cons, List.zip_nil_left, List.reverse_cons, List.reverse_nil, if_true, Bool.false_eq_true, if_false, List.lookup_cons_self, look_ir, str_same]
  refine fun _ => ?_

  refine ⟨trivial, fun a1 d1 ha1 _ => ⟨trivial, fun b1 c1 hb1 => ?_⟩⟩
  try simp only [dSeq, dNext, dRet, dRetN, dIfS, dDrop, dAsg, dPar, dPut, dSet1, setT, setAll, dVar, dC, dBin, dUn, dFun, dNot, chain_eq, dTup, dLst, dLstM, and_eq, or_eq, dIf, tVal, tAnd2, tOr2, tNot1, dCall, dCons, dNil, gAdd, gAddM, gSub, gMod, gPow, gMul, gNeg, gLt, gLe, gGt, gGe, gInt, gInt0, gIx, dSl, oNo, oSome, gSl, gLen, gInt1, gList, gListM, seqOf, gTuple, gMin2, gMax2, gRepr, dIsi, dTyEq, dAppend, dRev, dDict0, dRaise, dTry, catching, inSuite, dFld, vw, allD, gSumL, itemsD, iZipX, gRepT, dSortSet, dSortSetM, gMaxL, dGetK, dPutK, gDictP, dExtend, dPopAt, gIn, iRange2, gMulM, dSortI, gSumT, iEnumX, dGlob, Nat.reduceAdd, iRange1, startD, ends, wipeD, lcTurn, noX, iTupD, iLst, iEnumD, tAll, dLc, dLcM, dFor, gEqC, gNeC, gBools, boolsOf, List.map_cons, List.map_nil, List.length_cons, List.length_nil, List.replicate, List.cons_append, List.nil_append, List.getElem?_cons_zero, List.getElem?_cons_succ, List.set_cons_zero, List.set_cons_succ, Option.map_some, Option.map_none, dIsO, dIsB, dXf, dXnew, dXmk, dLstX, iXl, allX, List.zip_cons_cons, List.zip_nil_left, List.reverse_cons, List.reverse_nil, if_true, Bool.false_eq_true, if_false, List.lookup_cons_self, look_ir, str_same]
  refine ⟨by decide, fun p1 hp1 => call_right (i := 7) (by decide) nd (by simp) two_ea rfl rfl fun M1 s1 => ?_⟩
  try simp only [dSeq, dNext, dRet, dRetN, dIfS, dDrop, dAsg, dPar, dPut, dSet1, setT, setAll, dVar, dC, dBin, dUn, dFun, dNot, chain_eq, dTup, dLst, dLstM, and_eq, or_eq, dIf, tVal, tAnd2, tOr2, tNot1, dCall, dCons, dNil, gAdd, gAddM, gSub, gMod, gPow, gMul, gNeg, gLt, gLe, gGt, gGe, gInt, gInt0, gIx, dSl, oNo, oSome, gSl, gLen, gInt1, gList, gListM, seqOf, gTuple, gMin2, gMax2, gRepr, dIsi, dTyEq, dAppend, dRev, dDict0, dRaise, dTry, catching, inSuite, dFld, vw, allD, gSumL, itemsD, iZipX, gRepT, dSortSet, dSortSetM, gMaxL, dGetK, dPutK, gDictP, dExtend, dPopAt, gIn, iRange2, gMulM, dSortI, gSumT, iEnumX, dGlob, Nat.reduceAdd, iRange1, startD, ends, wipeD, lcTurn, noX, iTupD, iLst, iEnumD, tAll, dLc, dLcM, dFor, gEqC, gNeC, gBools, boolsOf, List.map_cons, List.map_nil, List.length_cons, List.length_nil, List.replicate, List.cons_append, List.nil_append, List.getElem?_cons_zero, List.getElem?_cons_succ, List.set_cons_zero, List.set_cons_succ, Option.map_some, Option.map_none, dIsO, dIsB, dXf, dXnew, dXmk, dLstX, iXl, allX, List.zip_cons_cons, List.zip_nil_left, List.reverse_cons, List.reverse_nil, if_true, Bool.false_eq_true, if_false, List.lookup_cons_self, look_ir, str_same]
  refine ⟨csF_mem (i := 7) (by decide) (by decide), csF_mem (i := 7) (by decide) (by decide), by decide, shows2 (fit_n hn) (fit_n hn) (by decide) (by decide) (by decide), by decide, shows2 (fit_n hn) (fit_n hn) (by decide) (by decide) (by decide), str_cmp _ _, ?_⟩
  try simp only [dSeq, dNext, dRet, dRetN, dIfS, dDrop, dAsg, dPar, dPut, dSet1, setT, setAll, dVar, dC, dBin, dUn, dFun, dNot, chain_eq, dTup, dLst, dLstM, and_eq, or_eq, dIf, tVal, tAnd2, tOr2, tNot1, dCall, dCons, dNil, gAdd, gAddM, gSub, gMod, gPow, gMul, gNeg, gLt, gLe, gGt, gGe, gInt, gInt0, gIx, dSl, oNo, oSome, gSl, gLen, gInt1, gList, gListM, seqOf, gTuple, gMin2, gMax2, gRepr, dIsi, dTyEq, dAppend, dRev, dDict0, dRaise, dTry, catching, inSuite, dFld, vw, allD, gSumL, itemsD, iZipX, gRepT, dSortSet, dSortSetM, gMaxL, dGetK, dPutK, gDictP, dExtend, dPopAt, gIn, iRange2, gMulM, dSortI, gSumT, iEnumX, dGlob, Nat.reduceAdd, iRange1, startD, ends, wipeD, lcTurn, noX, iTupD, iLst, iEnumD, tAll, dLc, dLcM, dFor, gEqC, gNeC, gBools, boolsOf, List.map_cons, List.map_nil, List.length_cons, List.length_nil, List.replicate, List.cons_append, List.nil_append, List.getElem?_cons_zero, List.getElem?_cons_succ, List.set_cons_zero, List.set_cons_succ, Option.map_some, Option.map_none, dIsO, dIsB, dXf, dXnew, dXmk, dLstX, iXl, allX, List.zip_cons_cons, List.zip_nil_left, List.reverse_cons, List.reverse_nil, if_true, Bool.false_eq_true, if_false, List.lookup_cons_self, look_ir, str_same]
  refine fun _ => ?_

  refine ⟨trivial, fun a2 d2 ha2 _ => ⟨trivial, fun b2 c2 hb2 => ?_⟩⟩
  try simp only [dSeq, dNext, dRet, dRetN, dIfS, dDrop, dAsg, dPar, dPut, dSet1, setT, setAll, dVar, dC, dBin, dUn, dFun, dNot, chain_eq, dTup, dLst, dLstM, and_eq, or_eq, dIf, tVal, tAnd2, tOr2, tNot1, dCall, dCons, dNil, gAdd, gAddM, gSub, gMod, gPow, gMul, gNeg, gLt, gLe, gGt, gGe, gInt, gInt0, gIx, dSl, oNo, oSome, gSl, gLen, gInt1, gList, gListM, seqOf, gTuple, gMin2, gMax2, gRepr, dIsi, dTyEq, dAppend, dRev, dDict0, dRaise, dTry, catching, inSuite, dFld, vw, allD, gSumL, itemsD, iZipX, gRepT, dSortSet, dSortSetM, gMaxL, dGetK, dPutK, gDictP, dExtend, dPopAt, gIn, iRange2, gMulM, dSortI, gSumT, iEnumX, dGlob, Nat.reduceAdd, iRange1, startD, ends, wipeD, lcTurn, noX, iTupD, iLst, iEnumD, tAll, dLc, dLcM, dFor, gEqC, gNeC, gBools, boolsOf, List.map_cons, List.map_nil, List.length_cons, List.length_nil, List.replicate, List.cons_append, List.nil_append, List.getElem?_cons_zero, List.getElem?_cons_succ, List.set_cons_zero, List.set_cons_succ, Option.map_some, Option.map_none, dIsO, dIsB, dXf, dXnew, dXmk, dLstX, iXl, allX, List.zip_cons_cons, List.zip_nil_left, List.reverse_cons, List.reverse_nil, if_true, Bool.false_eq_true, if_false, List.lookup_cons_self, look_ir, str_same]
  refine ⟨by decide, fun p2 hp2 => call_right (i := 8) (by decide) nd (by simp) two_ea rfl rfl fun M2 s2 => ?_⟩
  try simp only [dSeq, dNext, dRet, dRetN, dIfS, dDrop, dAsg, dPar, dPut, dSet1, setT, setAll, dVar, dC, dBin, dUn, dFun, dNot, chain_eq, dTup, dLst, dLstM, and_eq, or_eq, dIf, tVal, tAnd2, tOr2, tNot1, dCall, dCons, dNil, gAdd, gAddM, gSub, gMod, gPow, gMul, gNeg, gLt, gLe, gGt, gGe, gInt, gInt0, gIx, dSl, oNo, oSome, gSl, gLen, gInt1, gList, gListM, seqOf, gTuple, gMin2, gMax2, gRepr, dIsi, dTyEq, dAppend, dRev, dDict0, dRaise, dTry, catching, inSuite, dFld, vw, allD, gSumL, itemsD, iZipX, gRepT, dSortSet, dSortSetM, gMaxL, dGetK, dPutK, gDictP, dExtend, dPopAt, gIn, iRange2, gMulM, dSortI, gSumT, iEnumX, dGlob, Nat.reduceAdd, iRange1, startD, ends, wipeD, lcTurn, noX, iTupD, iLst, iEnumD, tAll, dLc, dLcM, dFor, gEqC, gNeC, gBools, boolsOf, List.map_cons, List.map_nil, List.length_cons, List.length_nil, List.replicate, List.cons_append, List.nil_append, List.getElem?_cons_zero, List.getElem?_cons_succ, List.set_cons_zero, List.set_cons_succ, Option.map_some, Option.map_none, dIsO, dIsB, dXf, dXnew, dXmk, dLstX, iXl, allX, List.zip_cons_cons, List.zip_nil_left, List.reverse_cons, List.reverse_nil, if_true, Bool.false_eq_true, if_false, List.lookup_cons_self, look_ir, str_same]
  refine ⟨csF_mem (i := 8) (by decide) (by decide), csF_mem (i := 8) (by decide) (by decide), by decide, hy, by decide, hy, str_cmp _ _, ?_⟩
  try simp only [dSeq, dNext, dRet, dRetN, dIfS, dDrop, dAsg, dPar, dPut, dSet1, setT, setAll, dVar, dC, dBin, dUn, dFun, dNot, chain_eq, dTup, dLst, dLstM, and_eq, or_eq, dIf, tVal, tAnd2, tOr2, tNot1, dCall, dCons, dNil, gAdd, gAddM, gSub, gMod, gPow, gMul, gNeg, gLt, gLe, gGt, gGe, gInt, gInt0, gIx, dSl, oNo, oSome, gSl, gLen, gInt1, gList, gListM, seqOf, gTuple, gMin2, gMax2, gRepr, dIsi, dTyEq, dAppend, dRev, dDict0, dRaise, dTry, catching, inSuite, dFld, vw, allD, gSumL, itemsD, iZipX, gRepT, dSortSet, dSortSetM, gMaxL, dGetK, dPutK, gDictP, dExtend, dPopAt, gIn, iRange2, gMulM, dSortI, gSumT, iEnumX, dGlob, Nat.reduceAdd, iRange1, startD, ends, wipeD, lcTurn, noX, iTupD, iLst, iEnumD, tAll, dLc, dLcM, dFor, gEqC, gNeC, gBools, boolsOf, List.map_cons, List.map_nil, List.length_cons, List.length_nil, List.replicate, List.cons_append, List.nil_append, List.getElem?_cons_zero, List.getElem?_cons_succ, List.set_cons_zero, List.set_cons_succ, Option.map_some, Option.map_none, dIsO, dIsB, dXf, dXnew, dXmk, dLstX, iXl, allX, List.zip_cons_cons, List.zip_nil_left, List.reverse_cons, List.reverse_nil, if_true, Bool.false_eq_true, if_false, List.lookup_cons_self, look_ir, str_same]
  refine fun _ => ?_

  refine ⟨trivial, fun a3 d3 ha3 _ => ⟨trivial, fun b3 c3 hb3 => ?_⟩⟩
  try simp only [dSeq, dNext, dRet, dRetN, dIfS, dDrop, dAsg, dPar, dPut, dSet1, setT, setAll, dVar, dC, dBin, dUn, dFun, dNot, chain_eq, dTup, dLst, dLstM, and_eq, or_eq, dIf, tVal, tAnd2, tOr2, tNot1, dCall, dCons, dNil, gAdd, gAddM, gSub, gMod, gPow, gMul, gNeg, gLt, gLe, gGt, gGe, gInt, gInt0, gIx, dSl, oNo, oSome, gSl, gLen, gInt1, gList, gListM, seqOf, gTuple, gMin2, gMax2, gRepr, dIsi, dTyEq, dAppend, dRev, dDict0, dRaise, dTry, catching, inSuite, dFld, vw, allD, gSumL, itemsD, iZipX, gRepT, dSortSet, dSortSetM, gMaxL, dGetK, dPutK, gDictP, dExtend, dPopAt, gIn, iRange2, gMulM, dSortI, gSumT, iEnumX, dGlob, Nat.reduceAdd, iRange1, startD, ends, wipeD, lcTurn, noX, iTupD, iLst, iEnumD, tAll, dLc, dLcM, dFor, gEqC, gNeC, gBools, boolsOf, List.map_cons, List.map_nil, List.length_cons, List.length_nil, List.replicate, List.cons_append, List.nil_append, List.getElem?_cons_zero, List.getElem?_cons_succ, List.set_cons_zero, List.set_cons_succ, Option.map_some, Option.map_none, dIsO, dIsB, dXf, dXnew, dXmk, dLstX, iXl, allX, List.zip_cons_cons, List.zip_nil_left, List.reverse_cons, List.reverse_nil, if_true, Bool.false_eq_true, if_false, List.lookup_cons_self, look_ir, str_same]
  refine ⟨by decide, fun p3 hp3 => call_right (i := 12) (by decide) nd (by simp) two_ea rfl rfl fun M3 s3 => ?_⟩
  try simp only [dSeq, dNext, dRet, dRetN, dIfS, dDrop, dAsg, dPar, dPut, dSet1, setT, setAll, dVar, dC, dBin, dUn, dFun, dNot, chain_eq, dTup, dLst, dLstM, and_eq, or_eq, dIf, tVal, tAnd2, tOr2, tNot1, dCall, dCons, dNil, gAdd, gAddM, gSub, gMod, gPow, gMul, gNeg, gLt, gLe, gGt, gGe, gInt, gInt0, gIx, dSl, oNo, oSome, gSl, gLen, gInt1, gList, gListM, seqOf, gTuple, gMin2, gMax2, gRepr, dIsi, dTyEq, dAppend, dRev, dDict0, dRaise, dTry, catching, inSuite, dFld, vw, allD, gSumL, itemsD, iZipX, gRepT, dSortSet, dSortSetM, gMaxL, dGetK, dPutK, gDictP, dExtend, dPopAt, gIn, iRange2, gMulM, dSortI, gSumT, iEnumX, dGlob, Nat.reduceAdd, iRange1, startD, ends, wipeD, lcTurn, noX, iTupD, iLst, iEnumD, tAll, dLc, dLcM, dFor, gEqC, gNeC, gBools, boolsOf, List.map_cons, List.map_nil, List.length_cons, List.length_nil, List.replicate, List.cons_append, List.nil_append, List.getElem?_cons_zero, List.getElem?_cons_succ, List.set_cons_zero, List.set_cons_succ, Option.map_some, Option.map_none, dIsO, dIsB, dXf, dXnew, dXmk, dLstX, iXl, allX, List.zip_cons_cons, List.zip_nil_left, List.reverse_cons, List.reverse_nil, if_true, Bool.false_eq_true, if_false, List.lookup_cons_self, look_ir, str_same]
  refine ⟨csF_mem (i := 12) (by decide) (by decide), csF_mem (i := 12) (by decide) (by decide), by decide, shows2 (fit_n hn) (fit_n (n := -1) (show Cnt (-1) by unfold Cnt; decide)) (by decide) (by decide) (by decide), by decide, shows2 (fit_n hn) (fit_n (n := -1) (show Cnt (-1) by unfold Cnt; decide)) (by decide) (by decide) (by decide), str_cmp _ _, ?_⟩
  try simp only [dSeq, dNext, dRet, dRetN, dIfS, dDrop, dAsg, dPar, dPut, dSet1, setT, setAll, dVar, dC, dBin, dUn, dFun, dNot, chain_eq, dTup, dLst, dLstM, and_eq, or_eq, dIf, tVal, tAnd2, tOr2, tNot1, dCall, dCons, dNil, gAdd, gAddM, gSub, gMod, gPow, gMul, gNeg, gLt, gLe, gGt, gGe, gInt, gInt0, gIx, dSl, oNo, oSome, gSl, gLen, gInt1, gList, gListM, seqOf, gTuple, gMin2, gMax2, gRepr, dIsi, dTyEq, dAppend, dRev, dDict0, dRaise, dTry, catching, inSuite, dFld, vw, allD, gSumL, itemsD, iZipX, gRepT, dSortSet, dSortSetM, gMaxL, dGetK, dPutK, gDictP, dExtend, dPopAt, gIn, iRange2, gMulM, dSortI, gSumT, iEnumX, dGlob, Nat.reduceAdd, iRange1, startD, ends, wipeD, lcTurn, noX, iTupD, iLst, iEnumD, tAll, dLc, dLcM, dFor, gEqC, gNeC, gBools, boolsOf, List.map_cons, List.map_nil, List.length_cons, List.length_nil, List.replicate, List.cons_append, List.nil_append, List.getElem?_cons_zero, List.getElem?_cons_succ, List.set_cons_zero, List.set_cons_succ, Option.map_some, Option.map_none, dIsO, dIsB, dXf, dXnew, dXmk, dLstX, iXl, allX, List.zip_cons_cons, List.zip_nil_left, List.reverse_cons, List.reverse_nil, if_true, Bool.false_eq_true, if_false, List.lookup_cons_self, look_ir, str_same]
  refine ⟨csF_mem (i := 12) (by decide) (by decide), csF_mem (i := 12) (by decide) (by decide), by decide, shows2 (n := 10) (m := 0) (k := 0) (t := 0) fit_ca fit_0 (by decide) (by decide) (by decide), by decide, shows2 (n := 10) (m := 0) (k := 0) (t := 0) fit_ca fit_0 (by decide) (by decide) (by decide), str_cmp _ _, ?_⟩
  try simp only [dSeq, dNext, dRet, dRetN, dIfS, dDrop, dAsg, dPar, dPut, dSet1, setT, setAll, dVar, dC, dBin, dUn, dFun, dNot, chain_eq, dTup, dLst, dLstM, and_eq, or_eq, dIf, tVal, tAnd2, tOr2, tNot1, dCall, dCons, dNil, gAdd, gAddM, gSub, gMod, gPow, gMul, gNeg, gLt, gLe, gGt, gGe, gInt, gInt0, gIx, dSl, oNo, oSome, gSl, gLen, gInt1, gList, gListM, seqOf, gTuple, gMin2, gMax2, gRepr, dIsi, dTyEq, dAppend, dRev, dDict0, dRaise, dTry, catching, inSuite, dFld, vw, allD, gSumL, itemsD, iZipX, gRepT, dSortSet, dSortSetM, gMaxL, dGetK, dPutK, gDictP, dExtend, dPopAt, gIn, iRange2, gMulM, dSortI, gSumT, iEnumX, dGlob, Nat.reduceAdd, iRange1, startD, ends, wipeD, lcTurn, noX, iTupD, iLst, iEnumD, tAll, dLc, dLcM, dFor, gEqC, gNeC, gBools, boolsOf, List.map_cons, List.map_nil, List.length_cons, List.length_nil, List.replicate, List.cons_append, List.nil_append, List.getElem?_cons_zero, List.getElem?_cons_succ, List.set_cons_zero, List.set_cons_succ, Option.map_some, Option.map_none, dIsO, dIsB, dXf, dXnew, dXmk, dLstX, iXl, allX, List.zip_cons_cons, List.zip_nil_left, List.reverse_cons, List.reverse_nil, if_true, Bool.false_eq_true, if_false, List.lookup_cons_self, look_ir, str_same]
  refine fun _ => ?_

  refine ⟨trivial, fun a4 d4 ha4 _ => ⟨trivial, fun b4 c4 hb4 => ?_⟩⟩
  try simp only [dSeq, dNext, dRet, dRetN, dIfS, dDrop, dAsg, dPar, dPut, dSet1, setT, setAll, dVar, dC, dBin, dUn, dFun, dNot, chain_eq, dTup, dLst, dLstM, and_eq, or_eq, dIf, tVal, tAnd2, tOr2, tNot1, dCall, dCons, dNil, gAdd, gAddM, gSub, gMod, gPow, gMul, gNeg, gLt, gLe, gGt, gGe, gInt, gInt0, gIx, dSl, oNo, oSome, gSl, gLen, gInt1, gList, gListM, seqOf, gTuple, gMin2, gMax2, gRepr, dIsi, dTyEq, dAppend, dRev, dDict0, dRaise, dTry, catching, inSuite, dFld, vw, allD, gSumL, itemsD, iZipX, gRepT, dSortSet, dSortSetM, gMaxL, dGetK, dPutK, gDictP, dExtend, dPopAt, gIn, iRange2, gMulM, dSortI, gSumT, iEnumX, dGlob, Nat.reduceAdd, iRange1, startD, ends, wipeD, lcTurn, noX, iTupD, iLst, iEnumD, tAll, dLc, dLcM, dFor, gEqC, gNeC, gBools, boolsOf, List.map_cons, List.map_nil, List.length_cons, List.length_nil, List.replicate, List.cons_append, List.nil_append, List.getElem?_cons_zero, List.getElem?_cons_succ, List.set_cons_zero, List.set_cons_succ, Option.map_some, Option.map_none, dIsO, dIsB, dXf, dXnew, dXmk, dLstX, iXl, allX, List.zip_cons_cons, List.zip_nil_left, List.reverse_cons, List.reverse_nil, if_true, Bool.false_eq_true, if_false, List.lookup_cons_self, look_ir, str_same]
  refine ⟨by decide, fun p4 hp4 => call_right (i := 14) (by decide) nd (by simp) two_ea rfl rfl fun M4 s4 => ?_⟩
  try simp only [dSeq, dNext, dRet, dRetN, dIfS, dDrop, dAsg, dPar, dPut, dSet1, setT, setAll, dVar, dC, dBin, dUn, dFun, dNot, chain_eq, dTup, dLst, dLstM, and_eq, or_eq, dIf, tVal, tAnd2, tOr2, tNot1, dCall, dCons, dNil, gAdd, gAddM, gSub, gMod, gPow, gMul, gNeg, gLt, gLe, gGt, gGe, gInt, gInt0, gIx, dSl, oNo, oSome, gSl, gLen, gInt1, gList, gListM, seqOf, gTuple, gMin2, gMax2, gRepr, dIsi, dTyEq, dAppend, dRev, dDict0, dRaise, dTry, catching, inSuite, dFld, vw, allD, gSumL, itemsD, iZipX, gRepT, dSortSet, dSortSetM, gMaxL, dGetK, dPutK, gDictP, dExtend, dPopAt, gIn, iRange2, gMulM, dSortI, gSumT, iEnumX, dGlob, Nat.reduceAdd, iRange1, startD, ends, wipeD, lcTurn, noX, iTupD, iLst, iEnumD, tAll, dLc, dLcM, dFor, gEqC, gNeC, gBools, boolsOf, List.map_cons, List.map_nil, List.length_cons, List.length_nil, List.replicate, List.cons_append, List.nil_append, List.getElem?_cons_zero, List.getElem?_cons_succ, List.set_cons_zero, List.set_cons_succ, Option.map_some, Option.map_none, dIsO, dIsB, dXf, dXnew, dXmk, dLstX, iXl, allX, List.zip_cons_cons, List.zip_nil_left, List.reverse_cons, List.reverse_nil, if_true, Bool.false_eq_true, if_false, List.lookup_cons_self, look_ir, str_same]
  refine ⟨csF_mem (i := 14) (by decide) (by decide), csF_mem (i := 14) (by decide) (by decide), by decide, shows2 (fit_n hn) (fit_n (n := 500) (show Cnt 500 by unfold Cnt; decide)) (by decide) (by decide) (by decide), by decide, shows2 (fit_n hn) (fit_n (n := 500) (show Cnt 500 by unfold Cnt; decide)) (by decide) (by decide) (by decide), str_cmp _ _, ?_⟩
  try simp only [dSeq, dNext, dRet, dRetN, dIfS, dDrop, dAsg, dPar, dPut, dSet1, setT, setAll, dVar, dC, dBin, dUn, dFun, dNot, chain_eq, dTup, dLst, dLstM, and_eq, or_eq, dIf, tVal, tAnd2, tOr2, tNot1, dCall, dCons, dNil, gAdd, gAddM, gSub, gMod, gPow, gMul, gNeg, gLt, gLe, gGt, gGe, gInt, gInt0, gIx, dSl, oNo, oSome, gSl, gLen, gInt1, gList, gListM, seqOf, gTuple, gMin2, gMax2, gRepr, dIsi, dTyEq, dAppend, dRev, dDict0, dRaise, dTry, catching, inSuite, dFld, vw, allD, gSumL, itemsD, iZipX, gRepT, dSortSet, dSortSetM, gMaxL, dGetK, dPutK, gDictP, dExtend, dPopAt, gIn, iRange2, gMulM, dSortI, gSumT, iEnumX, dGlob, Nat.reduceAdd, iRange1, startD, ends, wipeD, lcTurn, noX, iTupD, iLst, iEnumD, tAll, dLc, dLcM, dFor, gEqC, gNeC, gBools, boolsOf, List.map_cons, List.map_nil, List.length_cons, List.length_nil, List.replicate, List.cons_append, List.nil_append, List.getElem?_cons_zero, List.getElem?_cons_succ, List.set_cons_zero, List.set_cons_succ, Option.map_some, Option.map_none, dIsO, dIsB, dXf, dXnew, dXmk, dLstX, iXl, allX, List.zip_cons_cons, List.zip_nil_left, List.reverse_cons, List.reverse_nil, if_true, Bool.false_eq_true, if_false, List.lookup_cons_self, look_ir, str_same]

  exact ⟨s0.trans (s1.trans (s2.trans (s3.trans s4))), rfl⟩

end K86

namespace K86
open PySem PySem.Spec PyProof.Rows HD
open L2 (kitB atI)

theorem p60 : L2.CPow 10 60 := by unfold L2.CPow; decide
theorem len_law : ∀ xs M, (c_law).pre xs M → xs.length = 1 := by
  rintro _ M ⟨a, ns, rfl⟩; rfl
theorem thing_shows {n : Int} (hn : Cnt n) {y : PyData} (h : y ∈ [PyData.none, .bool true, .str "up", .tuple [.int 0, .int 1], .list [], .dict [], .int n, .int (-1)]) : Shows (.list [y, y]) := by
  simp only [List.mem_cons, List.not_mem_nil, or_false] at h
  have f : ∀ d : PyData, Fit 40 0 5 d → Shows (.list [d, d]) := fun d h => shows2 h h (by decide) (by decide) (by decide)
  rcases h with rfl | rfl | rfl | rfl | rfl | rfl | rfl | rfl
  · exact f _ (fit_of _ (by decide +kernel))
  · exact f _ (fit_of _ (by decide +kernel))
  · exact f _ (fit_of _ (by decide +kernel))
  · exact f _ (fit_of _ (by decide +kernel))
  · exact f _ (fit_of _ (by decide +kernel))
  · exact f _ (fit_of _ (by decide +kernel))
  · exact f _ ((fit_n hn).up (by decide) (by decide) (by decide))
  · exact f _ (fit_of _ (by decide +kernel))
theorem cnt_of {i : Int} (h0 : 0 ≤ i) (h1 : i < 10 ^ 60) {d : PyData} (h : d ∈ [PyData.int 0, .int 1, .int 17, .int i]) : ∃ n, d = .int n ∧ Cnt n := by
  simp only [List.mem_cons, List.not_mem_nil, or_false] at h
  have e : (10 : Int) ^ 60 ≤ 10 ^ 61 := by decide
  rcases h with rfl | rfl | rfl | rfl
  · exact ⟨_, rfl, by unfold Cnt; decide⟩
  · exact ⟨_, rfl, by unfold Cnt; decide⟩
  · exact ⟨_, rfl, by unfold Cnt; decide⟩
  · refine ⟨_, rfl, ?_⟩
    unfold Cnt
    have : i.natAbs < 10 ^ 61 := by omega
    omega

theorem sp_law (ea : Nat → Addr) : ∀ xs M, (c_law).pre xs M → g_law ea (ends c_law xs M) (startD ["script", "pen", "lap", "count", "thing"] xs) M := by
  rintro _ M ⟨a, ns, rfl⟩
  simp only [g_law, dSeq, dNext, dRet, dRetN, dIfS, dDrop, dAsg, dPar, dPut, dSet1, setT, setAll, dVar, dC, dBin, dUn, dFun, dNot, chain_eq, dTup, dLst, dLstM, and_eq, or_eq, dIf, tVal, tAnd2, tOr2, tNot1, dCall, dCons, dNil, gAdd, gAddM, gSub, gMod, gPow, gMul, gNeg, gLt, gLe, gGt, gGe, gInt, gInt0, gIx, dSl, oNo, oSome, gSl, gLen, gInt1, gList, gListM, seqOf, gTuple, gMin2, gMax2, gRepr, dIsi, dTyEq, dAppend, dRev, dDict0, dRaise, dTry, catching, inSuite, dFld, vw, allD, gSumL, itemsD, iZipX, gRepT, dSortSet, dSortSetM, gMaxL, dGetK, dPutK, gDictP, dExtend, dPopAt, gIn, iRange2, gMulM, dSortI, gSumT, iEnumX, dGlob, Nat.reduceAdd, iRange1, startD, ends, wipeD, lcTurn, noX, iTupD, iLst, iEnumD, tAll, dLc, dLcM, dFor, gEqC, gNeC, gBools, boolsOf, List.map_cons, List.map_nil, List.length_cons, List.length_nil, List.replicate, List.cons_append, List.nil_append, List.getElem?_cons_zero, List.getElem?_cons_succ, List.set_cons_zero, List.set_cons_succ, Option.map_some, Option.map_none, dIsO, dIsB, dXf, dXnew, dXmk, dLstX, iXl, allX, List.zip_cons_cons, List.zip_nil_left, List.reverse_cons, List.reverse_nil, if_true, Bool.false_eq_true, if_false, List.lookup_cons_self, look_ir, str_same]
  refine ⟨⟨a, ns, rfl⟩, ?_, fun _ _ _ q => q.elim⟩
  rintro x M1 ⟨p, rfl, _, hp, _⟩
  try simp only [dSeq, dNext, dRet, dRetN, dIfS, dDrop, dAsg, dPar, dPut, dSet1, setT, setAll, dVar, dC, dBin, dUn, dFun, dNot, chain_eq, dTup, dLst, dLstM, and_eq, or_eq, dIf, tVal, tAnd2, tOr2, tNot1, dCall, dCons, dNil, gAdd, gAddM, gSub, gMod, gPow, gMul, gNeg, gLt, gLe, gGt, gGe, gInt, gInt0, gIx, dSl, oNo, oSome, gSl, gLen, gInt1, gList, gListM, seqOf, gTuple, gMin2, gMax2, gRepr, dIsi, dTyEq, dAppend, dRev, dDict0, dRaise, dTry, catching, inSuite, dFld, vw, allD, gSumL, itemsD, iZipX, gRepT, dSortSet, dSortSetM, gMaxL, dGetK, dPutK, gDictP, dExtend, dPopAt, gIn, iRange2, gMulM, dSortI, gSumT, iEnumX, dGlob, Nat.reduceAdd, iRange1, startD, ends, wipeD, lcTurn, noX, iTupD, iLst, iEnumD, tAll, dLc, dLcM, dFor, gEqC, gNeC, gBools, boolsOf, List.map_cons, List.map_nil, List.length_cons, List.length_nil, List.replicate, List.cons_append, List.nil_append, List.getElem?_cons_zero, List.getElem?_cons_succ, List.set_cons_zero, List.set_cons_succ, Option.map_some, Option.map_none, dIsO, dIsB, dXf, dXnew, dXmk, dLstX, iXl, allX, List.zip_cons_cons, List.zip_nil_left, List.reverse_cons, List.reverse_nil, if_true, Bool.false_eq_true, if_false, List.lookup_cons_self, look_ir, str_same]
  refine ⟨by decide, ?_⟩
  refine forD_run (fun r ρ M' => (∃ y2 y3 y4, ρ = [some (.s a ns), some (.m p), y2, y3, y4]) ∧ PenOk M' p) (fun _ _ _ _ => trivial) ?_ ?_ _ _ _ ⟨⟨_, _, _, rfl⟩, hp⟩
  · rintro x r ρ M2 nx ⟨⟨y2, y3, y4, rfl⟩, hp2⟩ hn
    try simp only [dSeq, dNext, dRet, dRetN, dIfS, dDrop, dAsg, dPar, dPut, dSet1, setT, setAll, dVar, dC, dBin, dUn, dFun, dNot, chain_eq, dTup, dLst, dLstM, and_eq, or_eq, dIf, tVal, tAnd2, tOr2, tNot1, dCall, dCons, dNil, gAdd, gAddM, gSub, gMod, gPow, gMul, gNeg, gLt, gLe, gGt, gGe, gInt, gInt0, gIx, dSl, oNo, oSome, gSl, gLen, gInt1, gList, gListM, seqOf, gTuple, gMin2, gMax2, gRepr, dIsi, dTyEq, dAppend, dRev, dDict0, dRaise, dTry, catching, inSuite, dFld, vw, allD, gSumL, itemsD, iZipX, gRepT, dSortSet, dSortSetM, gMaxL, dGetK, dPutK, gDictP, dExtend, dPopAt, gIn, iRange2, gMulM, dSortI, gSumT, iEnumX, dGlob, Nat.reduceAdd, iRange1, startD, ends, wipeD, lcTurn, noX, iTupD, iLst, iEnumD, tAll, dLc, dLcM, dFor, gEqC, gNeC, gBools, boolsOf, List.map_cons, List.map_nil, List.length_cons, List.length_nil, List.replicate, List.cons_append, List.nil_append, List.getElem?_cons_zero, List.getElem?_cons_succ, List.set_cons_zero, List.set_cons_succ, Option.map_some, Option.map_none, dIsO, dIsB, dXf, dXnew, dXmk, dLstX, iXl, allX, List.zip_cons_cons, List.zip_nil_left, List.reverse_cons, List.reverse_nil, if_true, Bool.false_eq_true, if_false, List.lookup_cons_self, look_ir, str_same]
    refine ⟨p60, call_draw hp2 (by decide) (by decide +kernel) fun i M3 h0 h1 s3 => ?_⟩
    try simp only [dSeq, dNext, dRet, dRetN, dIfS, dDrop, dAsg, dPar, dPut, dSet1, setT, setAll, dVar, dC, dBin, dUn, dFun, dNot, chain_eq, dTup, dLst, dLstM, and_eq, or_eq, dIf, tVal, tAnd2, tOr2, tNot1, dCall, dCons, dNil, gAdd, gAddM, gSub, gMod, gPow, gMul, gNeg, gLt, gLe, gGt, gGe, gInt, gInt0, gIx, dSl, oNo, oSome, gSl, gLen, gInt1, gList, gListM, seqOf, gTuple, gMin2, gMax2, gRepr, dIsi, dTyEq, dAppend, dRev, dDict0, dRaise, dTry, catching, inSuite, dFld, vw, allD, gSumL, itemsD, iZipX, gRepT, dSortSet, dSortSetM, gMaxL, dGetK, dPutK, gDictP, dExtend, dPopAt, gIn, iRange2, gMulM, dSortI, gSumT, iEnumX, dGlob, Nat.reduceAdd, iRange1, startD, ends, wipeD, lcTurn, noX, iTupD, iLst, iEnumD, tAll, dLc, dLcM, dFor, gEqC, gNeC, gBools, boolsOf, List.map_cons, List.map_nil, List.length_cons, List.length_nil, List.replicate, List.cons_append, List.nil_append, List.getElem?_cons_zero, List.getElem?_cons_succ, List.set_cons_zero, List.set_cons_succ, Option.map_some, Option.map_none, dIsO, dIsB, dXf, dXnew, dXmk, dLstX, iXl, allX, List.zip_cons_cons, List.zip_nil_left, List.reverse_cons, List.reverse_nil, if_true, Bool.false_eq_true, if_false, List.lookup_cons_self, look_ir, str_same]
    refine ⟨by decide, call_one_of s3.1 (by simp) (by simp) fun d M4 hd s4 => ?_⟩
    obtain ⟨n, rfl, hc⟩ := cnt_of h0 h1 hd
    try simp only [dSeq, dNext, dRet, dRetN, dIfS, dDrop, dAsg, dPar, dPut, dSet1, setT, setAll, dVar, dC, dBin, dUn, dFun, dNot, chain_eq, dTup, dLst, dLstM, and_eq, or_eq, dIf, tVal, tAnd2, tOr2, tNot1, dCall, dCons, dNil, gAdd, gAddM, gSub, gMod, gPow, gMul, gNeg, gLt, gLe, gGt, gGe, gInt, gInt0, gIx, dSl, oNo, oSome, gSl, gLen, gInt1, gList, gListM, seqOf, gTuple, gMin2, gMax2, gRepr, dIsi, dTyEq, dAppend, dRev, dDict0, dRaise, dTry, catching, inSuite, dFld, vw, allD, gSumL, itemsD, iZipX, gRepT, dSortSet, dSortSetM, gMaxL, dGetK, dPutK, gDictP, dExtend, dPopAt, gIn, iRange2, gMulM, dSortI, gSumT, iEnumX, dGlob, Nat.reduceAdd, iRange1, startD, ends, wipeD, lcTurn, noX, iTupD, iLst, iEnumD, tAll, dLc, dLcM, dFor, gEqC, gNeC, gBools, boolsOf, List.map_cons, List.map_nil, List.length_cons, List.length_nil, List.replicate, List.cons_append, List.nil_append, List.getElem?_cons_zero, List.getElem?_cons_succ, List.set_cons_zero, List.set_cons_succ, Option.map_some, Option.map_none, dIsO, dIsB, dXf, dXnew, dXmk, dLstX, iXl, allX, List.zip_cons_cons, List.zip_nil_left, List.reverse_cons, List.reverse_nil, if_true, Bool.false_eq_true, if_false, List.lookup_cons_self, look_ir, str_same]
    refine ⟨by decide, by decide, by decide, call_one_of s4.1 (by simp) (by simp) fun y M5 hy s5 => ?_⟩
    try simp only [dSeq, dNext, dRet, dRetN, dIfS, dDrop, dAsg, dPar, dPut, dSet1, setT, setAll, dVar, dC, dBin, dUn, dFun, dNot, chain_eq, dTup, dLst, dLstM, and_eq, or_eq, dIf, tVal, tAnd2, tOr2, tNot1, dCall, dCons, dNil, gAdd, gAddM, gSub, gMod, gPow, gMul, gNeg, gLt, gLe, gGt, gGe, gInt, gInt0, gIx, dSl, oNo, oSome, gSl, gLen, gInt1, gList, gListM, seqOf, gTuple, gMin2, gMax2, gRepr, dIsi, dTyEq, dAppend, dRev, dDict0, dRaise, dTry, catching, inSuite, dFld, vw, allD, gSumL, itemsD, iZipX, gRepT, dSortSet, dSortSetM, gMaxL, dGetK, dPutK, gDictP, dExtend, dPopAt, gIn, iRange2, gMulM, dSortI, gSumT, iEnumX, dGlob, Nat.reduceAdd, iRange1, startD, ends, wipeD, lcTurn, noX, iTupD, iLst, iEnumD, tAll, dLc, dLcM, dFor, gEqC, gNeC, gBools, boolsOf, List.map_cons, List.map_nil, List.length_cons, List.length_nil, List.replicate, List.cons_append, List.nil_append, List.getElem?_cons_zero, List.getElem?_cons_succ, List.set_cons_zero, List.set_cons_succ, Option.map_some, Option.map_none, dIsO, dIsB, dXf, dXnew, dXmk, dLstX, iXl, allX, List.zip_cons_cons, List.zip_nil_left, List.reverse_cons, List.reverse_nil, if_true, Bool.false_eq_true, if_false, List.lookup_cons_self, look_ir, str_same]
    refine ⟨⟨n, rfl, hc⟩, ?_, fun _ _ _ q => q.elim⟩
    rintro x4 M6 ⟨s6, rfl⟩
    try simp only [dSeq, dNext, dRet, dRetN, dIfS, dDrop, dAsg, dPar, dPut, dSet1, setT, setAll, dVar, dC, dBin, dUn, dFun, dNot, chain_eq, dTup, dLst, dLstM, and_eq, or_eq, dIf, tVal, tAnd2, tOr2, tNot1, dCall, dCons, dNil, gAdd, gAddM, gSub, gMod, gPow, gMul, gNeg, gLt, gLe, gGt, gGe, gInt, gInt0, gIx, dSl, oNo, oSome, gSl, gLen, gInt1, gList, gListM, seqOf, gTuple, gMin2, gMax2, gRepr, dIsi, dTyEq, dAppend, dRev, dDict0, dRaise, dTry, catching, inSuite, dFld, vw, allD, gSumL, itemsD, iZipX, gRepT, dSortSet, dSortSetM, gMaxL, dGetK, dPutK, gDictP, dExtend, dPopAt, gIn, iRange2, gMulM, dSortI, gSumT, iEnumX, dGlob, Nat.reduceAdd, iRange1, startD, ends, wipeD, lcTurn, noX, iTupD, iLst, iEnumD, tAll, dLc, dLcM, dFor, gEqC, gNeC, gBools, boolsOf, List.map_cons, List.map_nil, List.length_cons, List.length_nil, List.replicate, List.cons_append, List.nil_append, List.getElem?_cons_zero, List.getElem?_cons_succ, List.set_cons_zero, List.set_cons_succ, Option.map_some, Option.map_none, dIsO, dIsB, dXf, dXnew, dXmk, dLstX, iXl, allX, List.zip_cons_cons, List.zip_nil_left, List.reverse_cons, List.reverse_nil, if_true, Bool.false_eq_true, if_false, List.lookup_cons_self, look_ir, str_same]
    refine ⟨⟨n, y, rfl, hc, thing_shows hc hy⟩, ?_, fun _ _ _ q => q.elim⟩
    rintro x5 M7 ⟨s7, rfl⟩
    exact hn _ _ ⟨⟨_, _, _, rfl⟩, (s5.1.sub s6).sub s7⟩
  · rintro ρ M2 ⟨⟨y2, y3, y4, rfl⟩, _⟩
    try simp only [dSeq, dNext, dRet, dRetN, dIfS, dDrop, dAsg, dPar, dPut, dSet1, setT, setAll, dVar, dC, dBin, dUn, dFun, dNot, chain_eq, dTup, dLst, dLstM, and_eq, or_eq, dIf, tVal, tAnd2, tOr2, tNot1, dCall, dCons, dNil, gAdd, gAddM, gSub, gMod, gPow, gMul, gNeg, gLt, gLe, gGt, gGe, gInt, gInt0, gIx, dSl, oNo, oSome, gSl, gLen, gInt1, gList, gListM, seqOf, gTuple, gMin2, gMax2, gRepr, dIsi, dTyEq, dAppend, dRev, dDict0, dRaise, dTry, catching, inSuite, dFld, vw, allD, gSumL, itemsD, iZipX, gRepT, dSortSet, dSortSetM, gMaxL, dGetK, dPutK, gDictP, dExtend, dPopAt, gIn, iRange2, gMulM, dSortI, gSumT, iEnumX, dGlob, Nat.reduceAdd, iRange1, startD, ends, wipeD, lcTurn, noX, iTupD, iLst, iEnumD, tAll, dLc, dLcM, dFor, gEqC, gNeC, gBools, boolsOf, List.map_cons, List.map_nil, List.length_cons, List.length_nil, List.replicate, List.cons_append, List.nil_append, List.getElem?_cons_zero, List.getElem?_cons_succ, List.set_cons_zero, List.set_cons_succ, Option.map_some, Option.map_none, dIsO, dIsB, dXf, dXnew, dXmk, dLstX, iXl, allX, List.zip_cons_cons, List.zip_nil_left, List.reverse_cons, List.reverse_nil, if_true, Bool.false_eq_true, if_false, List.lookup_cons_self, look_ir, str_same]

    refine fun nd => ⟨trivial, fun a d ha => ⟨by decide, fun q hq => call_right (i := 4) (by decide) nd (by simp) one_ea rfl rfl fun M2 s2 => ?_⟩⟩
    try simp only [dSeq, dNext, dRet, dRetN, dIfS, dDrop, dAsg, dPar, dPut, dSet1, setT, setAll, dVar, dC, dBin, dUn, dFun, dNot, chain_eq, dTup, dLst, dLstM, and_eq, or_eq, dIf, tVal, tAnd2, tOr2, tNot1, dCall, dCons, dNil, gAdd, gAddM, gSub, gMod, gPow, gMul, gNeg, gLt, gLe, gGt, gGe, gInt, gInt0, gIx, dSl, oNo, oSome, gSl, gLen, gInt1, gList, gListM, seqOf, gTuple, gMin2, gMax2, gRepr, dIsi, dTyEq, dAppend, dRev, dDict0, dRaise, dTry, catching, inSuite, dFld, vw, allD, gSumL, itemsD, iZipX, gRepT, dSortSet, dSortSetM, gMaxL, dGetK, dPutK, gDictP, dExtend, dPopAt, gIn, iRange2, gMulM, dSortI, gSumT, iEnumX, dGlob, Nat.reduceAdd, iRange1, startD, ends, wipeD, lcTurn, noX, iTupD, iLst, iEnumD, tAll, dLc, dLcM, dFor, gEqC, gNeC, gBools, boolsOf, List.map_cons, List.map_nil, List.length_cons, List.length_nil, List.replicate, List.cons_append, List.nil_append, List.getElem?_cons_zero, List.getElem?_cons_succ, List.set_cons_zero, List.set_cons_succ, Option.map_some, Option.map_none, dIsO, dIsB, dXf, dXnew, dXmk, dLstX, iXl, allX, List.zip_cons_cons, List.zip_nil_left, List.reverse_cons, List.reverse_nil, if_true, Bool.false_eq_true, if_false, List.lookup_cons_self, look_ir, str_same]

    refine fun nd => ⟨trivial, fun a d ha => ⟨by decide, fun q hq => call_right (i := 6) (by decide) nd (by simp) one_ea rfl rfl fun M2 s2 => ?_⟩⟩
    try simp only [dSeq, dNext, dRet, dRetN, dIfS, dDrop, dAsg, dPar, dPut, dSet1, setT, setAll, dVar, dC, dBin, dUn, dFun, dNot, chain_eq, dTup, dLst, dLstM, and_eq, or_eq, dIf, tVal, tAnd2, tOr2, tNot1, dCall, dCons, dNil, gAdd, gAddM, gSub, gMod, gPow, gMul, gNeg, gLt, gLe, gGt, gGe, gInt, gInt0, gIx, dSl, oNo, oSome, gSl, gLen, gInt1, gList, gListM, seqOf, gTuple, gMin2, gMax2, gRepr, dIsi, dTyEq, dAppend, dRev, dDict0, dRaise, dTry, catching, inSuite, dFld, vw, allD, gSumL, itemsD, iZipX, gRepT, dSortSet, dSortSetM, gMaxL, dGetK, dPutK, gDictP, dExtend, dPopAt, gIn, iRange2, gMulM, dSortI, gSumT, iEnumX, dGlob, Nat.reduceAdd, iRange1, startD, ends, wipeD, lcTurn, noX, iTupD, iLst, iEnumD, tAll, dLc, dLcM, dFor, gEqC, gNeC, gBools, boolsOf, List.map_cons, List.map_nil, List.length_cons, List.length_nil, List.replicate, List.cons_append, List.nil_append, List.getElem?_cons_zero, List.getElem?_cons_succ, List.set_cons_zero, List.set_cons_succ, Option.map_some, Option.map_none, dIsO, dIsB, dXf, dXnew, dXmk, dLstX, iXl, allX, List.zip_cons_cons, List.zip_nil_left, List.reverse_cons, List.reverse_nil, if_true, Bool.false_eq_true, if_false, List.lookup_cons_self, look_ir, str_same]

    refine fun nd => ⟨trivial, fun a d ha => ⟨by decide, fun q hq => call_right (i := 10) (by decide) nd (by simp) one_ea rfl rfl fun M2 s2 => ?_⟩⟩
    try simp only [dSeq, dNext, dRet, dRetN, dIfS, dDrop, dAsg, dPar, dPut, dSet1, setT, setAll, dVar, dC, dBin, dUn, dFun, dNot, chain_eq, dTup, dLst, dLstM, and_eq, or_eq, dIf, tVal, tAnd2, tOr2, tNot1, dCall, dCons, dNil, gAdd, gAddM, gSub, gMod, gPow, gMul, gNeg, gLt, gLe, gGt, gGe, gInt, gInt0, gIx, dSl, oNo, oSome, gSl, gLen, gInt1, gList, gListM, seqOf, gTuple, gMin2, gMax2, gRepr, dIsi, dTyEq, dAppend, dRev, dDict0, dRaise, dTry, catching, inSuite, dFld, vw, allD, gSumL, itemsD, iZipX, gRepT, dSortSet, dSortSetM, gMaxL, dGetK, dPutK, gDictP, dExtend, dPopAt, gIn, iRange2, gMulM, dSortI, gSumT, iEnumX, dGlob, Nat.reduceAdd, iRange1, startD, ends, wipeD, lcTurn, noX, iTupD, iLst, iEnumD, tAll, dLc, dLcM, dFor, gEqC, gNeC, gBools, boolsOf, List.map_cons, List.map_nil, List.length_cons, List.length_nil, List.replicate, List.cons_append, List.nil_append, List.getElem?_cons_zero, List.getElem?_cons_succ, List.set_cons_zero, List.set_cons_succ, Option.map_some, Option.map_none, dIsO, dIsB, dXf, dXnew, dXmk, dLstX, iXl, allX, List.zip_cons_cons, List.zip_nil_left, List.reverse_cons, List.reverse_nil, if_true, Bool.false_eq_true, if_false, List.lookup_cons_self, look_ir, str_same]

    refine fun nd => ⟨trivial, fun a d ha => ⟨by decide, fun q hq => call_right (i := 11) (by decide) nd (by simp) one_ea rfl rfl fun M2 s2 => ?_⟩⟩
    try simp only [dSeq, dNext, dRet, dRetN, dIfS, dDrop, dAsg, dPar, dPut, dSet1, setT, setAll, dVar, dC, dBin, dUn, dFun, dNot, chain_eq, dTup, dLst, dLstM, and_eq, or_eq, dIf, tVal, tAnd2, tOr2, tNot1, dCall, dCons, dNil, gAdd, gAddM, gSub, gMod, gPow, gMul, gNeg, gLt, gLe, gGt, gGe, gInt, gInt0, gIx, dSl, oNo, oSome, gSl, gLen, gInt1, gList, gListM, seqOf, gTuple, gMin2, gMax2, gRepr, dIsi, dTyEq, dAppend, dRev, dDict0, dRaise, dTry, catching, inSuite, dFld, vw, allD, gSumL, itemsD, iZipX, gRepT, dSortSet, dSortSetM, gMaxL, dGetK, dPutK, gDictP, dExtend, dPopAt, gIn, iRange2, gMulM, dSortI, gSumT, iEnumX, dGlob, Nat.reduceAdd, iRange1, startD, ends, wipeD, lcTurn, noX, iTupD, iLst, iEnumD, tAll, dLc, dLcM, dFor, gEqC, gNeC, gBools, boolsOf, List.map_cons, List.map_nil, List.length_cons, List.length_nil, List.replicate, List.cons_append, List.nil_append, List.getElem?_cons_zero, List.getElem?_cons_succ, List.set_cons_zero, List.set_cons_succ, Option.map_some, Option.map_none, dIsO, dIsB, dXf, dXnew, dXmk, dLstX, iXl, allX, List.zip_cons_cons, List.zip_nil_left, List.reverse_cons, List.reverse_nil, if_true, Bool.false_eq_true, if_false, List.lookup_cons_self, look_ir, str_same]

    refine fun nd => ⟨trivial, fun a d ha => ⟨by decide, fun q hq => call_right (i := 13) (by decide) nd (by simp) one_ea rfl rfl fun M2 s2 => ?_⟩⟩
    try simp only [dSeq, dNext, dRet, dRetN, dIfS, dDrop, dAsg, dPar, dPut, dSet1, setT, setAll, dVar, dC, dBin, dUn, dFun, dNot, chain_eq, dTup, dLst, dLstM, and_eq, or_eq, dIf, tVal, tAnd2, tOr2, tNot1, dCall, dCons, dNil, gAdd, gAddM, gSub, gMod, gPow, gMul, gNeg, gLt, gLe, gGt, gGe, gInt, gInt0, gIx, dSl, oNo, oSome, gSl, gLen, gInt1, gList, gListM, seqOf, gTuple, gMin2, gMax2, gRepr, dIsi, dTyEq, dAppend, dRev, dDict0, dRaise, dTry, catching, inSuite, dFld, vw, allD, gSumL, itemsD, iZipX, gRepT, dSortSet, dSortSetM, gMaxL, dGetK, dPutK, gDictP, dExtend, dPopAt, gIn, iRange2, gMulM, dSortI, gSumT, iEnumX, dGlob, Nat.reduceAdd, iRange1, startD, ends, wipeD, lcTurn, noX, iTupD, iLst, iEnumD, tAll, dLc, dLcM, dFor, gEqC, gNeC, gBools, boolsOf, List.map_cons, List.map_nil, List.length_cons, List.length_nil, List.replicate, List.cons_append, List.nil_append, List.getElem?_cons_zero, List.getElem?_cons_succ, List.set_cons_zero, List.set_cons_succ, Option.map_some, Option.map_none, dIsO, dIsB, dXf, dXnew, dXmk, dLstX, iXl, allX, List.zip_cons_cons, List.zip_nil_left, List.reverse_cons, List.reverse_nil, if_true, Bool.false_eq_true, if_false, List.lookup_cons_self, look_ir, str_same]

    rfl

end K86

namespace K86
open PySem PySem.Spec PyProof.Rows L2 HD

theorem sc_init_InvalidResilience : FnScope ["self", "index"] ["self", "index"] (defScope s_InvalidResilience) := ⟨rfl, rfl, rfl, by decide +kernel, rfl, by decide +kernel, by decide +kernel⟩
theorem ok_init_InvalidResilience {P : Program} {w : World} {K : PySem.W.Frag} {mg : Str → Option Value} {base : Heap} {C f : Addr} {fd : FuncData} (F : Fun K "__init__" "InvalidResilience.__init__" s_InvalidResilience f fd) : FnOk P w K mg base CX0 1 f fd ((("self" : Str)) :: ["index"]) (spN K C ["index"]) := by
  refine F.ok sc_init_InvalidResilience (fun vs H Q E h => ?_) (fun cdv A outer s H vs Q E hr h => ⟨tErS K "index" (tVar 0) (tVar 1), pss_one (ps_erS (pv 0) (pv 1)), ?_⟩)
  · obtain ⟨a, ws, rfl, h1, _⟩ := h
    rw [List.length_cons, h1]; rfl
  · obtain ⟨a, ws, rfl, h1, T, no, ha, _, h2⟩ := h
    match ws, h1 with
    | [v], _ =>
      refine ⟨v, rfl, .ref a, rfl, a, C, rfl, T, no _ List.mem_cons_self, .inl ⟨ha, fun dx hdx n => ?_⟩⟩
      exact h2 (by simp) dx hdx n
theorem sc_init_InvalidProtocol : FnScope ["self", "part"] ["self", "part"] (defScope s_InvalidProtocol) := ⟨rfl, rfl, rfl, by decide +kernel, rfl, by decide +kernel, by decide +kernel⟩
theorem ok_init_InvalidProtocol {P : Program} {w : World} {K : PySem.W.Frag} {mg : Str → Option Value} {base : Heap} {C f : Addr} {fd : FuncData} (F : Fun K "__init__" "InvalidProtocol.__init__" s_InvalidProtocol f fd) : FnOk P w K mg base CX0 1 f fd ((("self" : Str)) :: ["part"]) (spN K C ["part"]) := by
  refine F.ok sc_init_InvalidProtocol (fun vs H Q E h => ?_) (fun cdv A outer s H vs Q E hr h => ⟨tErS K "part" (tVar 0) (tVar 1), pss_one (ps_erS (pv 0) (pv 1)), ?_⟩)
  · obtain ⟨a, ws, rfl, h1, _⟩ := h
    rw [List.length_cons, h1]; rfl
  · obtain ⟨a, ws, rfl, h1, T, no, ha, _, h2⟩ := h
    match ws, h1 with
    | [v], _ =>
      refine ⟨v, rfl, .ref a, rfl, a, C, rfl, T, no _ List.mem_cons_self, .inl ⟨ha, fun dx hdx n => ?_⟩⟩
      exact h2 (by simp) dx hdx n
theorem sc_init_InvalidSituation : FnScope ["self", "index"] ["self", "index"] (defScope s_InvalidSituation) := ⟨rfl, rfl, rfl, by decide +kernel, rfl, by decide +kernel, by decide +kernel⟩
theorem ok_init_InvalidSituation {P : Program} {w : World} {K : PySem.W.Frag} {mg : Str → Option Value} {base : Heap} {C f : Addr} {fd : FuncData} (F : Fun K "__init__" "InvalidSituation.__init__" s_InvalidSituation f fd) : FnOk P w K mg base CX0 1 f fd ((("self" : Str)) :: ["index"]) (spN K C ["index"]) := by
  refine F.ok sc_init_InvalidSituation (fun vs H Q E h => ?_) (fun cdv A outer s H vs Q E hr h => ⟨tErS K "index" (tVar 0) (tVar 1), pss_one (ps_erS (pv 0) (pv 1)), ?_⟩)
  · obtain ⟨a, ws, rfl, h1, _⟩ := h
    rw [List.length_cons, h1]; rfl
  · obtain ⟨a, ws, rfl, h1, T, no, ha, _, h2⟩ := h
    match ws, h1 with
    | [v], _ =>
      refine ⟨v, rfl, .ref a, rfl, a, C, rfl, T, no _ List.mem_cons_self, .inl ⟨ha, fun dx hdx n => ?_⟩⟩
      exact h2 (by simp) dx hdx n
theorem sc_init_InvalidOptions : FnScope ["self", "index"] ["self", "index"] (defScope s_InvalidOptions) := ⟨rfl, rfl, rfl, by decide +kernel, rfl, by decide +kernel, by decide +kernel⟩
theorem ok_init_InvalidOptions {P : Program} {w : World} {K : PySem.W.Frag} {mg : Str → Option Value} {base : Heap} {C f : Addr} {fd : FuncData} (F : Fun K "__init__" "InvalidOptions.__init__" s_InvalidOptions f fd) : FnOk P w K mg base CX0 1 f fd ((("self" : Str)) :: ["index"]) (spN K C ["index"]) := by
  refine F.ok sc_init_InvalidOptions (fun vs H Q E h => ?_) (fun cdv A outer s H vs Q E hr h => ⟨tErS K "index" (tVar 0) (tVar 1), pss_one (ps_erS (pv 0) (pv 1)), ?_⟩)
  · obtain ⟨a, ws, rfl, h1, _⟩ := h
    rw [List.length_cons, h1]; rfl
  · obtain ⟨a, ws, rfl, h1, T, no, ha, _, h2⟩ := h
    match ws, h1 with
    | [v], _ =>
      refine ⟨v, rfl, .ref a, rfl, a, C, rfl, T, no _ List.mem_cons_self, .inl ⟨ha, fun dx hdx n => ?_⟩⟩
      exact h2 (by simp) dx hdx n
theorem sc_init_InvalidNumbers : FnScope ["self"] ["self"] (defScope s_InvalidNumbers) := ⟨rfl, rfl, rfl, by decide +kernel, rfl, by decide +kernel, by decide +kernel⟩
theorem ok_init_InvalidNumbers {P : Program} {w : World} {K : PySem.W.Frag} {mg : Str → Option Value} {base : Heap} {C f : Addr} {fd : FuncData} (F : Fun K "__init__" "InvalidNumbers.__init__" s_InvalidNumbers f fd) : FnOk P w K mg base CX0 1 f fd ((("self" : Str)) :: []) (spN K C []) := by
  refine F.ok sc_init_InvalidNumbers (fun vs H Q E h => ?_) (fun cdv A outer s H vs Q E hr h => ⟨_, pss_one ps_pass, ?_⟩)
  · obtain ⟨a, ws, rfl, h1, _⟩ := h
    rw [List.length_cons, h1]; rfl
  · obtain ⟨a, ws, rfl, h1, T, no, ha, h0, _⟩ := h
    exact h0 rfl
theorem sc_init_InvalidStarts : FnScope ["self", "index"] ["self", "index"] (defScope s_InvalidStarts) := ⟨rfl, rfl, rfl, by decide +kernel, rfl, by decide +kernel, by decide +kernel⟩
theorem ok_init_InvalidStarts {P : Program} {w : World} {K : PySem.W.Frag} {mg : Str → Option Value} {base : Heap} {C f : Addr} {fd : FuncData} (F : Fun K "__init__" "InvalidStarts.__init__" s_InvalidStarts f fd) : FnOk P w K mg base CX0 1 f fd ((("self" : Str)) :: ["index"]) (spN K C ["index"]) := by
  refine F.ok sc_init_InvalidStarts (fun vs H Q E h => ?_) (fun cdv A outer s H vs Q E hr h => ⟨tErS K "index" (tVar 0) (tVar 1), pss_one (ps_erS (pv 0) (pv 1)), ?_⟩)
  · obtain ⟨a, ws, rfl, h1, _⟩ := h
    rw [List.length_cons, h1]; rfl
  · obtain ⟨a, ws, rfl, h1, T, no, ha, _, h2⟩ := h
    match ws, h1 with
    | [v], _ =>
      refine ⟨v, rfl, .ref a, rfl, a, C, rfl, T, no _ List.mem_cons_self, .inl ⟨ha, fun dx hdx n => ?_⟩⟩
      exact h2 (by simp) dx hdx n
theorem sc_init_InvalidClaim : FnScope ["self"] ["self"] (defScope s_InvalidClaim) := ⟨rfl, rfl, rfl, by decide +kernel, rfl, by decide +kernel, by decide +kernel⟩
theorem ok_init_InvalidClaim {P : Program} {w : World} {K : PySem.W.Frag} {mg : Str → Option Value} {base : Heap} {C f : Addr} {fd : FuncData} (F : Fun K "__init__" "InvalidClaim.__init__" s_InvalidClaim f fd) : FnOk P w K mg base CX0 1 f fd ((("self" : Str)) :: []) (spN K C []) := by
  refine F.ok sc_init_InvalidClaim (fun vs H Q E h => ?_) (fun cdv A outer s H vs Q E hr h => ⟨_, pss_one ps_pass, ?_⟩)
  · obtain ⟨a, ws, rfl, h1, _⟩ := h
    rw [List.length_cons, h1]; rfl
  · obtain ⟨a, ws, rfl, h1, T, no, ha, h0, _⟩ := h
    exact h0 rfl
theorem sc_init_ParseError : FnScope ["self", "line"] ["self", "line"] (defScope s_ParseError) := ⟨rfl, rfl, rfl, by decide +kernel, rfl, by decide +kernel, by decide +kernel⟩
theorem ok_init_ParseError {P : Program} {w : World} {K : PySem.W.Frag} {mg : Str → Option Value} {base : Heap} {C f : Addr} {fd : FuncData} (F : Fun K "__init__" "ParseError.__init__" s_ParseError f fd) : FnOk P w K mg base CX0 1 f fd ((("self" : Str)) :: ["line"]) (spN K C ["line"]) := by
  refine F.ok sc_init_ParseError (fun vs H Q E h => ?_) (fun cdv A outer s H vs Q E hr h => ⟨tErS K "line" (tVar 0) (tVar 1), pss_one (ps_erS (pv 0) (pv 1)), ?_⟩)
  · obtain ⟨a, ws, rfl, h1, _⟩ := h
    rw [List.length_cons, h1]; rfl
  · obtain ⟨a, ws, rfl, h1, T, no, ha, _, h2⟩ := h
    match ws, h1 with
    | [v], _ =>
      refine ⟨v, rfl, .ref a, rfl, a, C, rfl, T, no _ List.mem_cons_self, .inl ⟨ha, fun dx hdx n => ?_⟩⟩
      exact h2 (by simp) dx hdx n
theorem sc_init_UnknownMember : FnScope ["self", "value"] ["self", "value"] (defScope s_UnknownMember) := ⟨rfl, rfl, rfl, by decide +kernel, rfl, by decide +kernel, by decide +kernel⟩
theorem ok_init_UnknownMember {P : Program} {w : World} {K : PySem.W.Frag} {mg : Str → Option Value} {base : Heap} {C f : Addr} {fd : FuncData} (F : Fun K "__init__" "UnknownMember.__init__" s_UnknownMember f fd) : FnOk P w K mg base CX0 1 f fd ((("self" : Str)) :: ["value"]) (spN K C ["value"]) := by
  refine F.ok sc_init_UnknownMember (fun vs H Q E h => ?_) (fun cdv A outer s H vs Q E hr h => ⟨tErS K "value" (tVar 0) (tVar 1), pss_one (ps_erS (pv 0) (pv 1)), ?_⟩)
  · obtain ⟨a, ws, rfl, h1, _⟩ := h
    rw [List.length_cons, h1]; rfl
  · obtain ⟨a, ws, rfl, h1, T, no, ha, _, h2⟩ := h
    match ws, h1 with
    | [v], _ =>
      refine ⟨v, rfl, .ref a, rfl, a, C, rfl, T, no _ List.mem_cons_self, .inl ⟨ha, fun dx hdx n => ?_⟩⟩
      exact h2 (by simp) dx hdx n
theorem sc_init_CannotTake : FnScope ["self", "index"] ["self", "index"] (defScope s_CannotTake) := ⟨rfl, rfl, rfl, by decide +kernel, rfl, by decide +kernel, by decide +kernel⟩
theorem ok_init_CannotTake {P : Program} {w : World} {K : PySem.W.Frag} {mg : Str → Option Value} {base : Heap} {C f : Addr} {fd : FuncData} (F : Fun K "__init__" "CannotTake.__init__" s_CannotTake f fd) : FnOk P w K mg base CX0 1 f fd ((("self" : Str)) :: ["index"]) (spN K C ["index"]) := by
  refine F.ok sc_init_CannotTake (fun vs H Q E h => ?_) (fun cdv A outer s H vs Q E hr h => ⟨tErS K "index" (tVar 0) (tVar 1), pss_one (ps_erS (pv 0) (pv 1)), ?_⟩)
  · obtain ⟨a, ws, rfl, h1, _⟩ := h
    rw [List.length_cons, h1]; rfl
  · obtain ⟨a, ws, rfl, h1, T, no, ha, _, h2⟩ := h
    match ws, h1 with
    | [v], _ =>
      refine ⟨v, rfl, .ref a, rfl, a, C, rfl, T, no _ List.mem_cons_self, .inl ⟨ha, fun dx hdx n => ?_⟩⟩
      exact h2 (by simp) dx hdx n
theorem sc_init_CannotAct : FnScope ["self"] ["self"] (defScope s_CannotAct) := ⟨rfl, rfl, rfl, by decide +kernel, rfl, by decide +kernel, by decide +kernel⟩
theorem ok_init_CannotAct {P : Program} {w : World} {K : PySem.W.Frag} {mg : Str → Option Value} {base : Heap} {C f : Addr} {fd : FuncData} (F : Fun K "__init__" "CannotAct.__init__" s_CannotAct f fd) : FnOk P w K mg base CX0 1 f fd ((("self" : Str)) :: []) (spN K C []) := by
  refine F.ok sc_init_CannotAct (fun vs H Q E h => ?_) (fun cdv A outer s H vs Q E hr h => ⟨_, pss_one ps_pass, ?_⟩)
  · obtain ⟨a, ws, rfl, h1, _⟩ := h
    rw [List.length_cons, h1]; rfl
  · obtain ⟨a, ws, rfl, h1, T, no, ha, h0, _⟩ := h
    exact h0 rfl
theorem sc_init_CannotDeliver : FnScope ["self"] ["self"] (defScope s_CannotDeliver) := ⟨rfl, rfl, rfl, by decide +kernel, rfl, by decide +kernel, by decide +kernel⟩
theorem ok_init_CannotDeliver {P : Program} {w : World} {K : PySem.W.Frag} {mg : Str → Option Value} {base : Heap} {C f : Addr} {fd : FuncData} (F : Fun K "__init__" "CannotDeliver.__init__" s_CannotDeliver f fd) : FnOk P w K mg base CX0 1 f fd ((("self" : Str)) :: []) (spN K C []) := by
  refine F.ok sc_init_CannotDeliver (fun vs H Q E h => ?_) (fun cdv A outer s H vs Q E hr h => ⟨_, pss_one ps_pass, ?_⟩)
  · obtain ⟨a, ws, rfl, h1, _⟩ := h
    rw [List.length_cons, h1]; rfl
  · obtain ⟨a, ws, rfl, h1, T, no, ha, h0, _⟩ := h
    exact h0 rfl
theorem sc_init_Refused : FnScope ["self", "index", "reason"] ["self", "index", "reason"] (defScope s_Refused) := ⟨rfl, rfl, rfl, by decide +kernel, rfl, by decide +kernel, by decide +kernel⟩
theorem ok_init_Refused {P : Program} {w : World} {K : PySem.W.Frag} {mg : Str → Option Value} {base : Heap} {C f : Addr} {fd : FuncData} (F : Fun K "__init__" "Refused.__init__" s_Refused f fd) : FnOk P w K mg base CX0 1 f fd ((("self" : Str)) :: ["index", "reason"]) (spN K C ["index", "reason"]) := by
  refine F.ok sc_init_Refused (fun vs H Q E h => ?_) (fun cdv A outer s H vs Q E hr h => ⟨_, pss_cons (ps_erS (pv 0) (pv 1)) (pss_one (ps_erS (pv 0) (pv 2))), ?_⟩)
  · obtain ⟨a, ws, rfl, h1, _⟩ := h
    rw [List.length_cons, h1]; rfl
  · obtain ⟨a, ws, rfl, h1, T, no, ha, _, h2⟩ := h
    match ws, h1 with
    | [v, v2], _ =>
      refine ⟨v, rfl, .ref a, rfl, a, C, rfl, T, no _ (by simp), .inl ⟨ha, fun dx hdx n => ?_⟩⟩
      refine ⟨v2, rfl, .ref a, rfl, a, C, rfl, T, no _ (by simp), .inr ⟨dx, [("index", v)], upd_same, ?_, by simp, ?_⟩⟩
      · rw [upd_ne n, upd_same]
      · have q := h2 (by simp) dx hdx n
        have e : upd (upd (upd H dx (exd dx [(("index" : Str), v)])) a (exo a C (some dx))) dx (exd dx [(("reason" : Str), v2), (("index" : Str), v)]) = upd (upd H dx (exd dx (List.zip (["index", "reason"] : List Str) [v, v2]).reverse)) a (exo a C (some dx)) := by
          funext b
          by_cases z : b = dx
          · subst z; rw [upd_same, upd_ne n, upd_same]; rfl
          · rw [upd_ne z]
            by_cases z2 : b = a
            · subst z2; rw [upd_same, upd_same]
            · rw [upd_ne z2, upd_ne z, upd_ne z2, upd_ne z]
        show Q _ _
        rw [e]
        exact q
theorem sc_init_NothingDone : FnScope ["self"] ["self"] (defScope s_NothingDone) := ⟨rfl, rfl, rfl, by decide +kernel, rfl, by decide +kernel, by decide +kernel⟩
theorem ok_init_NothingDone {P : Program} {w : World} {K : PySem.W.Frag} {mg : Str → Option Value} {base : Heap} {C f : Addr} {fd : FuncData} (F : Fun K "__init__" "NothingDone.__init__" s_NothingDone f fd) : FnOk P w K mg base CX0 1 f fd ((("self" : Str)) :: []) (spN K C []) := by
  refine F.ok sc_init_NothingDone (fun vs H Q E h => ?_) (fun cdv A outer s H vs Q E hr h => ⟨_, pss_one ps_pass, ?_⟩)
  · obtain ⟨a, ws, rfl, h1, _⟩ := h
    rw [List.length_cons, h1]; rfl
  · obtain ⟨a, ws, rfl, h1, T, no, ha, h0, _⟩ := h
    exact h0 rfl
theorem sc_init_LimitExceeded : FnScope ["self", "limit"] ["self", "limit"] (defScope s_LimitExceeded) := ⟨rfl, rfl, rfl, by decide +kernel, rfl, by decide +kernel, by decide +kernel⟩
theorem ok_init_LimitExceeded {P : Program} {w : World} {K : PySem.W.Frag} {mg : Str → Option Value} {base : Heap} {C f : Addr} {fd : FuncData} (F : Fun K "__init__" "LimitExceeded.__init__" s_LimitExceeded f fd) : FnOk P w K mg base CX0 1 f fd ((("self" : Str)) :: ["limit"]) (spN K C ["limit"]) := by
  refine F.ok sc_init_LimitExceeded (fun vs H Q E h => ?_) (fun cdv A outer s H vs Q E hr h => ⟨tErS K "limit" (tVar 0) (tVar 1), pss_one (ps_erS (pv 0) (pv 1)), ?_⟩)
  · obtain ⟨a, ws, rfl, h1, _⟩ := h
    rw [List.length_cons, h1]; rfl
  · obtain ⟨a, ws, rfl, h1, T, no, ha, _, h2⟩ := h
    match ws, h1 with
    | [v], _ =>
      refine ⟨v, rfl, .ref a, rfl, a, C, rfl, T, no _ List.mem_cons_self, .inl ⟨ha, fun dx hdx n => ?_⟩⟩
      exact h2 (by simp) dx hdx n
theorem ok__law_pen {P : Program} {w : World} {K : PySem.W.Frag} {mg : Str → Option Value} {base : Heap} (hsys : ∃ o, base.get? sysModules = some o) (T : Txt K mg)
    {f__law_pen : Addr} {fd__law_pen : FuncData} (D__law_pen : Def K mg "_law_pen" s__law_pen ["script"] f__law_pen fd__law_pen) :
    FnG P w K mg base 1 f__law_pen fd__law_pen ["script"] (c__law_pen.sp K) :=
  FnG.data D__law_pen.fn sc__law_pen hsys len__law_pen (fun cdv A outer s H E cx => (css_one (cs_ret (ce_lstM (ca_cons (ce_callTy cd_list (by rfl) T.n_list (by decide +kernel) (ca_cons (ce_slice (ce_var (i := 0) rfl (by first | exact .inl rfl | exact .inr (.inl rfl) | exact .inr (.inr rfl))) co_none (co_some ce_int)) ca_nil)) (ca_cons ce_int (ca_cons ce_int ca_nil))))))) (sp__law_pen)
theorem ok__law_fresh {P : Program} {w : World} {K : PySem.W.Frag} {mg : Str → Option Value} {base : Heap} (hsys : ∃ o, base.get? sysModules = some o) (T : Txt K mg)
    {f__law_fresh : Addr} {fd__law_fresh : FuncData} (D__law_fresh : Def K mg "_law_fresh" s__law_fresh ["pen"] f__law_fresh fd__law_fresh) :
    FnG P w K mg base 1 f__law_fresh fd__law_fresh ["pen"] (c__law_fresh.sp K) :=
  FnG.data D__law_fresh.fn sc__law_fresh hsys len__law_fresh (fun cdv A outer s H E cx => (css_cons (cs_par (i := 1) (j := 2) cx.toCxe.calm cx.toCxe.nd rfl rfl (by decide) (ca_cons (ce_sub (ce_var (i := 0) rfl (by first | exact .inl rfl | exact .inr (.inl rfl) | exact .inr (.inr rfl))) ce_int) (ca_cons (ce_sub (ce_var (i := 0) rfl (by first | exact .inl rfl | exact .inr (.inl rfl) | exact .inr (.inr rfl))) ce_int) ca_nil)))
    (css_cons (cs_put (ce_bin opd_add (ce_var (i := 1) rfl (by first | exact .inl rfl | exact .inr (.inl rfl) | exact .inr (.inr rfl))) ce_int) (ce_var (i := 0) rfl (by first | exact .inl rfl | exact .inr (.inl rfl) | exact .inr (.inr rfl))) ce_int)
    (css_cons (cs_set (i := 3) cx.toCxe.nd rfl (ce_if (ct_cmp (opd_neC (hu64 cx.toCxe)) (ce_var (i := 2) rfl (by first | exact .inl rfl | exact .inr (.inl rfl) | exact .inr (.inr rfl))) (ce_lst ca_nil)) (ce_sub (ce_var (i := 2) rfl (by first | exact .inl rfl | exact .inr (.inl rfl) | exact .inr (.inr rfl))) (ce_bin opd_mod (ce_callTy cd_int (by rfl) T.n_int (by decide +kernel) (ca_cons (ce_var (i := 1) rfl (by first | exact .inl rfl | exact .inr (.inl rfl) | exact .inr (.inr rfl))) ca_nil)) (ce_callB cd_len (by rfl) T.n_len (by decide +kernel) (ca_cons (ce_var (i := 2) rfl (by first | exact .inl rfl | exact .inr (.inl rfl) | exact .inr (.inr rfl))) ca_nil)))) ce_int))
    (css_cons (cs_if (CW.ct (cw_and (ct_cmp opd_lt (ce_var (i := 1) rfl (by first | exact .inl rfl | exact .inr (.inl rfl) | exact .inr (.inr rfl))) (ce_callB cd_len (by rfl) T.n_len (by decide +kernel) (ca_cons (ce_var (i := 2) rfl (by first | exact .inl rfl | exact .inr (.inl rfl) | exact .inr (.inr rfl))) ca_nil))) (cw_and1 (ct_cmp opd_ge (ce_var (i := 3) rfl (by first | exact .inl rfl | exact .inr (.inl rfl) | exact .inr (.inr rfl))) (ce_bin opd_pow ce_int ce_int))))) (css_one (cs_ret (ce_bin opd_sub (ce_var (i := 3) rfl (by first | exact .inl rfl | exact .inr (.inl rfl) | exact .inr (.inr rfl))) (ce_bin opd_pow ce_int ce_int)))) css_nil)
    (css_cons (cs_set (i := 4) cx.toCxe.nd rfl ce_int)
    (css_cons (cs_set (i := 5) cx.toCxe.nd rfl (ce_bin opd_mod (ce_callTy cd_int (by rfl) T.n_int (by decide +kernel) (ca_cons (ce_bin opd_add (ce_bin opd_add (ce_bin opd_mul (ce_var (i := 3) rfl (by first | exact .inl rfl | exact .inr (.inl rfl) | exact .inr (.inr rfl))) ce_int) (ce_bin opd_mul ce_int (ce_var (i := 1) rfl (by first | exact .inl rfl | exact .inr (.inl rfl) | exact .inr (.inr rfl))))) ce_int) ca_nil)) (ce_var (i := 4) rfl (by first | exact .inl rfl | exact .inr (.inl rfl) | exact .inr (.inr rfl)))))
    (css_cons (cs_set (i := 6) cx.toCxe.nd rfl (ce_var (i := 5) rfl (by first | exact .inl rfl | exact .inr (.inl rfl) | exact .inr (.inr rfl))))
    (css_cons (cs_for cx (ci_range1 (by rfl) T.n_range (ca_cons ce_int ca_nil)) (cg_one (i := 7) cx.toCxe.nd rfl) (css_cons (cs_set (i := 5) cx.toCxe.nd rfl (ce_bin opd_mod (ce_callTy cd_int (by rfl) T.n_int (by decide +kernel) (ca_cons (ce_bin opd_add (ce_bin opd_add (ce_bin opd_mul (ce_var (i := 5) rfl (by first | exact .inl rfl | exact .inr (.inl rfl) | exact .inr (.inr rfl))) (ce_var (i := 5) rfl (by first | exact .inl rfl | exact .inr (.inl rfl) | exact .inr (.inr rfl)))) (ce_bin opd_mul (ce_bin opd_mul ce_int (ce_bin opd_add (ce_var (i := 7) rfl (by first | exact .inl rfl | exact .inr (.inl rfl) | exact .inr (.inr rfl))) ce_int)) (ce_bin opd_add (ce_var (i := 1) rfl (by first | exact .inl rfl | exact .inr (.inl rfl) | exact .inr (.inr rfl))) ce_int))) (ce_var (i := 3) rfl (by first | exact .inl rfl | exact .inr (.inl rfl) | exact .inr (.inr rfl)))) ca_nil)) (ce_var (i := 4) rfl (by first | exact .inl rfl | exact .inr (.inl rfl) | exact .inr (.inr rfl)))))
    (css_one (cs_set (i := 6) cx.toCxe.nd rfl (ce_bin opd_add (ce_bin opd_mul (ce_var (i := 6) rfl (by first | exact .inl rfl | exact .inr (.inl rfl) | exact .inr (.inr rfl))) (ce_var (i := 4) rfl (by first | exact .inl rfl | exact .inr (.inl rfl) | exact .inr (.inr rfl)))) (ce_var (i := 5) rfl (by first | exact .inl rfl | exact .inr (.inl rfl) | exact .inr (.inr rfl))))))))
    (css_one (cs_ret (ce_var (i := 6) rfl (by first | exact .inl rfl | exact .inr (.inl rfl) | exact .inr (.inr rfl)))))))))))))) (sp__law_fresh)
theorem ok__law_draw {P : Program} {w : World} {K : PySem.W.Frag} {mg : Str → Option Value} {base : Heap} (hsys : ∃ o, base.get? sysModules = some o) (T : Txt K mg)
    {f__law_draw : Addr} {fd__law_draw : FuncData} (D__law_draw : Def K mg "_law_draw" s__law_draw ["pen", "bound"] f__law_draw fd__law_draw)
    {f__law_fresh : Addr} {fd__law_fresh : FuncData} (D__law_fresh : Def K mg "_law_fresh" s__law_fresh ["pen"] f__law_fresh fd__law_fresh)
    (F__law_fresh : FnG P w K mg base 1 f__law_fresh fd__law_fresh ["pen"] (c__law_fresh.sp K)) :
    FnG P w K mg base 2 f__law_draw fd__law_draw ["pen", "bound"] (c__law_draw.sp K) :=
  FnG.data D__law_draw.fn sc__law_draw hsys len__law_draw (fun cdv A outer s H E cx => (css_cons (cs_if (ct_cmp opd_lt (ce_sub (ce_var (i := 0) rfl (by first | exact .inl rfl | exact .inr (.inl rfl) | exact .inr (.inr rfl))) ce_int) (ce_var (i := 1) rfl (by first | exact .inl rfl | exact .inr (.inl rfl) | exact .inr (.inr rfl)))) (css_one (cs_put (ce_call F__law_fresh cx.toCxe (by decide) (by rfl) D__law_fresh.g D__law_fresh.fn.kp D__law_fresh.b (ca_cons (ce_var (i := 0) rfl (by first | exact .inl rfl | exact .inr (.inl rfl) | exact .inr (.inr rfl))) ca_nil)) (ce_var (i := 0) rfl (by first | exact .inl rfl | exact .inr (.inl rfl) | exact .inr (.inr rfl))) ce_int)) css_nil)
    (css_cons (cs_set (i := 2) cx.toCxe.nd rfl (ce_bin opd_mod (ce_callTy cd_int (by rfl) T.n_int (by decide +kernel) (ca_cons (ce_sub (ce_var (i := 0) rfl (by first | exact .inl rfl | exact .inr (.inl rfl) | exact .inr (.inr rfl))) ce_int) ca_nil)) (ce_var (i := 1) rfl (by first | exact .inl rfl | exact .inr (.inl rfl) | exact .inr (.inr rfl)))))
    (css_cons (cs_put (ce_bin opd_fdiv (ce_callTy cd_int (by rfl) T.n_int (by decide +kernel) (ca_cons (ce_sub (ce_var (i := 0) rfl (by first | exact .inl rfl | exact .inr (.inl rfl) | exact .inr (.inr rfl))) ce_int) ca_nil)) (ce_var (i := 1) rfl (by first | exact .inl rfl | exact .inr (.inl rfl) | exact .inr (.inr rfl)))) (ce_var (i := 0) rfl (by first | exact .inl rfl | exact .inr (.inl rfl) | exact .inr (.inr rfl))) ce_int)
    (css_one (cs_ret (ce_var (i := 2) rfl (by first | exact .inl rfl | exact .inr (.inl rfl) | exact .inr (.inr rfl))))))))) (sp__law_draw)
theorem ok__law_one_of {P : Program} {w : World} {K : PySem.W.Frag} {mg : Str → Option Value} {base : Heap} (hsys : ∃ o, base.get? sysModules = some o) (T : Txt K mg)
    {f__law_one_of : Addr} {fd__law_one_of : FuncData} (D__law_one_of : Def K mg "_law_one_of" s__law_one_of ["pen", "some"] f__law_one_of fd__law_one_of)
    {f__law_draw : Addr} {fd__law_draw : FuncData} (D__law_draw : Def K mg "_law_draw" s__law_draw ["pen", "bound"] f__law_draw fd__law_draw)
    (F__law_draw : FnG P w K mg base 2 f__law_draw fd__law_draw ["pen", "bound"] (c__law_draw.sp K)) :
    FnG P w K mg base 3 f__law_one_of fd__law_one_of ["pen", "some"] (c__law_one_of.sp K) :=
  FnG.data D__law_one_of.fn sc__law_one_of hsys len__law_one_of (fun cdv A outer s H E cx => (css_one (cs_ret (ce_sub (ce_var (i := 1) rfl (by first | exact .inl rfl | exact .inr (.inl rfl) | exact .inr (.inr rfl))) (ce_call F__law_draw cx.toCxe (by decide) (by rfl) D__law_draw.g D__law_draw.fn.kp D__law_draw.b (ca_cons (ce_var (i := 0) rfl (by first | exact .inl rfl | exact .inr (.inl rfl) | exact .inr (.inr rfl))) (ca_cons (ce_callB cd_len (by rfl) T.n_len (by decide +kernel) (ca_cons (ce_var (i := 1) rfl (by first | exact .inl rfl | exact .inr (.inl rfl) | exact .inr (.inr rfl))) ca_nil)) ca_nil))))))) (sp__law_one_of)
theorem ok__law_which {P : Program} {w : World} {K : PySem.W.Frag} {mg : Str → Option Value} {base : Heap} (hsys : ∃ o, base.get? sysModules = some o) (T : Txt K mg)
    {f__law_which : Addr} {fd__law_which : FuncData} (D__law_which : Def K mg "_law_which" s__law_which ["e"] f__law_which fd__law_which)
    {f__law_last : Addr} {fd__law_last : FuncData} (D__law_last : Def K mg "_law_last" s__law_last ["e"] f__law_last fd__law_last)
    {ea : Nat → Addr} (cl : Cls P w K mg base ea)
    (F__law_last : FnG P w K mg base 1 f__law_last fd__law_last ["e"] ((c__law_last ea).sp K)) :
    FnG P w K mg base 2 f__law_which fd__law_which ["e"] ((c__law_which ea).sp K) :=
  FnG.data D__law_which.fn sc__law_which hsys len__law_which (fun cdv A outer s H E cx => (css_cons (cs_set (i := 1) cx.toCxe.nd rfl (ce_lst (ca_cons (ce_isOx (i := 0) cl (by decide) (by rfl) (by rfl) T.n_isinstance (by rfl) (ce_var (i := 0) rfl (by first | exact .inl rfl | exact .inr (.inl rfl) | exact .inr (.inr rfl)))) (ca_cons (ce_isOx (i := 1) cl (by decide) (by rfl) (by rfl) T.n_isinstance (by rfl) (ce_var (i := 0) rfl (by first | exact .inl rfl | exact .inr (.inl rfl) | exact .inr (.inr rfl)))) (ca_cons (ce_isOx (i := 2) cl (by decide) (by rfl) (by rfl) T.n_isinstance (by rfl) (ce_var (i := 0) rfl (by first | exact .inl rfl | exact .inr (.inl rfl) | exact .inr (.inr rfl)))) ca_nil)))))
    (css_cons (cs_set (i := 1) cx.toCxe.nd rfl (ce_bin opd_add (ce_var (i := 1) rfl (by first | exact .inl rfl | exact .inr (.inl rfl) | exact .inr (.inr rfl))) (ce_lst (ca_cons (ce_isOx (i := 3) cl (by decide) (by rfl) (by rfl) T.n_isinstance (by rfl) (ce_var (i := 0) rfl (by first | exact .inl rfl | exact .inr (.inl rfl) | exact .inr (.inr rfl)))) (ca_cons (ce_isOx (i := 4) cl (by decide) (by rfl) (by rfl) T.n_isinstance (by rfl) (ce_var (i := 0) rfl (by first | exact .inl rfl | exact .inr (.inl rfl) | exact .inr (.inr rfl)))) (ca_cons (ce_isOx (i := 5) cl (by decide) (by rfl) (by rfl) T.n_isinstance (by rfl) (ce_var (i := 0) rfl (by first | exact .inl rfl | exact .inr (.inl rfl) | exact .inr (.inr rfl)))) ca_nil))))))
    (css_cons (cs_set (i := 1) cx.toCxe.nd rfl (ce_bin opd_add (ce_var (i := 1) rfl (by first | exact .inl rfl | exact .inr (.inl rfl) | exact .inr (.inr rfl))) (ce_lst (ca_cons (ce_isOx (i := 6) cl (by decide) (by rfl) (by rfl) T.n_isinstance (by rfl) (ce_var (i := 0) rfl (by first | exact .inl rfl | exact .inr (.inl rfl) | exact .inr (.inr rfl)))) (ca_cons (ce_isOx (i := 7) cl (by decide) (by rfl) (by rfl) T.n_isinstance (by rfl) (ce_var (i := 0) rfl (by first | exact .inl rfl | exact .inr (.inl rfl) | exact .inr (.inr rfl)))) (ca_cons (ce_isOx (i := 8) cl (by decide) (by rfl) (by rfl) T.n_isinstance (by rfl) (ce_var (i := 0) rfl (by first | exact .inl rfl | exact .inr (.inl rfl) | exact .inr (.inr rfl)))) ca_nil))))))
    (css_cons (cs_set (i := 1) cx.toCxe.nd rfl (ce_bin opd_add (ce_var (i := 1) rfl (by first | exact .inl rfl | exact .inr (.inl rfl) | exact .inr (.inr rfl))) (ce_lst (ca_cons (ce_isOx (i := 9) cl (by decide) (by rfl) (by rfl) T.n_isinstance (by rfl) (ce_var (i := 0) rfl (by first | exact .inl rfl | exact .inr (.inl rfl) | exact .inr (.inr rfl)))) (ca_cons (ce_isOx (i := 10) cl (by decide) (by rfl) (by rfl) T.n_isinstance (by rfl) (ce_var (i := 0) rfl (by first | exact .inl rfl | exact .inr (.inl rfl) | exact .inr (.inr rfl)))) (ca_cons (ce_isOx (i := 11) cl (by decide) (by rfl) (by rfl) T.n_isinstance (by rfl) (ce_var (i := 0) rfl (by first | exact .inl rfl | exact .inr (.inl rfl) | exact .inr (.inr rfl)))) ca_nil))))))
    (css_one (cs_ret (ce_lc (own := [("seat", 2), ("is_it", 3)]) cx.toCxe (ci_enum (by rfl) T.n_enumerate (ca_cons (ce_bin opd_add (ce_var (i := 1) rfl (by first | exact .inl rfl | exact .inr (.inl rfl) | exact .inr (.inr rfl))) (ce_call F__law_last cx.toCxe (by decide) (by rfl) D__law_last.g D__law_last.fn.kp D__law_last.b (ca_cons (ce_var (i := 0) rfl (by first | exact .inl rfl | exact .inr (.inl rfl) | exact .inr (.inr rfl))) ca_nil))) ca_nil)) (by show blkC ["e", "found", "seat", "is_it"] (defScope s__law_which) _ _ = true; decide +kernel) (fun s H C cl fp => (cg_many (cx.toCxe.blk).calm (cgs_cons (i := 2) (cx.toCxe.blk).nd rfl (cgs_cons (i := 3) (cx.toCxe.blk).nd rfl cgs_nil)))) (fun s H C cl fp => (cts_one (ct_val (ce_var (i := 3) rfl (by first | exact .inl rfl | exact .inr (.inl rfl) | exact .inr (.inr rfl)))))) (fun s H C cl fp => (ce_var (i := 2) rfl (by first | exact .inl rfl | exact .inr (.inl rfl) | exact .inr (.inr rfl)))))))))))) (sp__law_which ea)
theorem ok__law_last {P : Program} {w : World} {K : PySem.W.Frag} {mg : Str → Option Value} {base : Heap} (hsys : ∃ o, base.get? sysModules = some o) (T : Txt K mg)
    {f__law_last : Addr} {fd__law_last : FuncData} (D__law_last : Def K mg "_law_last" s__law_last ["e"] f__law_last fd__law_last)
    {ea : Nat → Addr} (cl : Cls P w K mg base ea) :
    FnG P w K mg base 1 f__law_last fd__law_last ["e"] ((c__law_last ea).sp K) :=
  FnG.data D__law_last.fn sc__law_last hsys len__law_last (fun cdv A outer s H E cx => (css_one (cs_ret (ce_lst (ca_cons (ce_isOx (i := 12) cl (by decide) (by rfl) (by rfl) T.n_isinstance (by rfl) (ce_var (i := 0) rfl (by first | exact .inl rfl | exact .inr (.inl rfl) | exact .inr (.inr rfl)))) (ca_cons (ce_isOx (i := 13) cl (by decide) (by rfl) (by rfl) T.n_isinstance (by rfl) (ce_var (i := 0) rfl (by first | exact .inl rfl | exact .inr (.inl rfl) | exact .inr (.inr rfl)))) (ca_cons (ce_isOx (i := 14) cl (by decide) (by rfl) (by rfl) T.n_isinstance (by rfl) (ce_var (i := 0) rfl (by first | exact .inl rfl | exact .inr (.inl rfl) | exact .inr (.inr rfl)))) ca_nil))))))) (sp__law_last ea)
theorem ok__law_base {P : Program} {w : World} {K : PySem.W.Frag} {mg : Str → Option Value} {base : Heap} (hsys : ∃ o, base.get? sysModules = some o) (T : Txt K mg)
    {f__law_base : Addr} {fd__law_base : FuncData} (D__law_base : Def K mg "_law_base" s__law_base ["e"] f__law_base fd__law_base)
    {ea : Nat → Addr} (cl : Cls P w K mg base ea) :
    FnG P w K mg base 1 f__law_base fd__law_base ["e"] ((c__law_base ea).sp K) :=
  FnG.data D__law_base.fn sc__law_base hsys len__law_base (fun cdv A outer s H E cx => (css_cons (cs_set (i := 1) cx.toCxe.nd rfl (ce_lstM (ca_cons (ce_isBx cl (by decide +kernel) (by rfl) T.n_isinstance (by rfl) T.n_ValueError (by decide +kernel) (ce_var (i := 0) rfl (by first | exact .inl rfl | exact .inr (.inl rfl) | exact .inr (.inr rfl)))) (ca_cons (ce_isBx cl (by decide +kernel) (by rfl) T.n_isinstance (by rfl) T.n_LookupError (by decide +kernel) (ce_var (i := 0) rfl (by first | exact .inl rfl | exact .inr (.inl rfl) | exact .inr (.inr rfl)))) (ca_cons (ce_isBx cl (by decide +kernel) (by rfl) T.n_isinstance (by rfl) T.n_RuntimeError (by decide +kernel) (ce_var (i := 0) rfl (by first | exact .inl rfl | exact .inr (.inl rfl) | exact .inr (.inr rfl)))) ca_nil)))))
    (css_cons (cs_set (i := 1) cx.toCxe.nd rfl (ce_bin opd_addM (ce_var (i := 1) rfl (by first | exact .inl rfl | exact .inr (.inl rfl) | exact .inr (.inr rfl))) (ce_lst (ca_cons (ce_isBx cl (by decide +kernel) (by rfl) T.n_isinstance (by rfl) T.n_OverflowError (by decide +kernel) (ce_var (i := 0) rfl (by first | exact .inl rfl | exact .inr (.inl rfl) | exact .inr (.inr rfl)))) (ca_cons (ce_isBx cl (by decide +kernel) (by rfl) T.n_isinstance (by rfl) T.n_KeyError (by decide +kernel) (ce_var (i := 0) rfl (by first | exact .inl rfl | exact .inr (.inl rfl) | exact .inr (.inr rfl)))) (ca_cons (ce_isBx cl (by decide +kernel) (by rfl) T.n_isinstance (by rfl) T.n_IndexError (by decide +kernel) (ce_var (i := 0) rfl (by first | exact .inl rfl | exact .inr (.inl rfl) | exact .inr (.inr rfl)))) ca_nil))))))
    (css_cons (cs_expr (ce_append (ce_var (i := 1) rfl (by first | exact .inl rfl | exact .inr (.inl rfl) | exact .inr (.inr rfl))) (ce_isBx cl (by decide +kernel) (by rfl) T.n_isinstance (by rfl) T.n_NotImplementedError (by decide +kernel) (ce_var (i := 0) rfl (by first | exact .inl rfl | exact .inr (.inl rfl) | exact .inr (.inr rfl))))))
    (css_one (cs_ret (ce_lc (own := [("seat", 2), ("is_it", 3)]) cx.toCxe (ci_enumX (by rfl) T.n_enumerate (ca_cons (ce_var (i := 1) rfl (by first | exact .inl rfl | exact .inr (.inl rfl) | exact .inr (.inr rfl))) ca_nil)) (by show blkC ["e", "found", "seat", "is_it"] (defScope s__law_base) _ _ = true; decide +kernel) (fun s H C cl fp => (cg_many (cx.toCxe.blk).calm (cgs_cons (i := 2) (cx.toCxe.blk).nd rfl (cgs_cons (i := 3) (cx.toCxe.blk).nd rfl cgs_nil)))) (fun s H C cl fp => (cts_one (ct_val (ce_var (i := 3) rfl (by first | exact .inl rfl | exact .inr (.inl rfl) | exact .inr (.inr rfl)))))) (fun s H C cl fp => (ce_var (i := 2) rfl (by first | exact .inl rfl | exact .inr (.inl rfl) | exact .inr (.inr rfl))))))))))) (sp__law_base ea)
theorem ok__law_right {P : Program} {w : World} {K : PySem.W.Frag} {mg : Str → Option Value} {base : Heap} (hsys : ∃ o, base.get? sysModules = some o) (T : Txt K mg)
    {f__law_right : Addr} {fd__law_right : FuncData} (D__law_right : Def K mg "_law_right" s__law_right ["seat", "base", "made"] f__law_right fd__law_right)
    {f__law_which : Addr} {fd__law_which : FuncData} (D__law_which : Def K mg "_law_which" s__law_which ["e"] f__law_which fd__law_which)
    {f__law_base : Addr} {fd__law_base : FuncData} (D__law_base : Def K mg "_law_base" s__law_base ["e"] f__law_base fd__law_base)
    {ea : Nat → Addr} (cl : Cls P w K mg base ea)
    (F__law_which : FnG P w K mg base 2 f__law_which fd__law_which ["e"] ((c__law_which ea).sp K))
    (F__law_base : FnG P w K mg base 1 f__law_base fd__law_base ["e"] ((c__law_base ea).sp K)) :
    FnG P w K mg base 3 f__law_right fd__law_right ["seat", "base", "made"] ((c__law_right ea).sp K) :=
  FnG.data D__law_right.fn sc__law_right hsys len__law_right (fun cdv A outer s H E cx => (css_one (cs_ret (ce_cmp (opd_eqC (hu64 cx.toCxe)) (ce_lc (own := [("e", 3)]) cx.toCxe (ci_xl (ce_var (i := 2) rfl (by first | exact .inl rfl | exact .inr (.inl rfl) | exact .inr (.inr rfl)))) (by show blkC ["seat", "base", "made", "e"] (defScope s__law_right) _ _ = true; decide +kernel) (fun s H C cl fp => (cg_one (i := 3) (cx.toCxe.blk).nd rfl)) (fun s H C cl fp => (cts_one (CW.ct (cw_or (ct_cmp (opd_neC (hu64 (cx.toCxe.blk))) (ce_call F__law_which (cx.toCxe.blk) (by decide) (by rfl) D__law_which.g D__law_which.fn.kp D__law_which.b (ca_cons (ce_var (i := 3) rfl (by first | exact .inl rfl | exact .inr (.inl rfl) | exact .inr (.inr rfl))) ca_nil)) (ce_lst (ca_cons (ce_var (i := 0) rfl (by first | exact .inl rfl | exact .inr (.inl rfl) | exact .inr (.inr rfl))) ca_nil))) (cw_or1 (ct_cmp (opd_neC (hu64 (cx.toCxe.blk))) (ce_call F__law_base (cx.toCxe.blk) (by decide) (by rfl) D__law_base.g D__law_base.fn.kp D__law_base.b (ca_cons (ce_var (i := 3) rfl (by first | exact .inl rfl | exact .inr (.inl rfl) | exact .inr (.inr rfl))) ca_nil)) (ce_lst (ca_cons (ce_var (i := 1) rfl (by first | exact .inl rfl | exact .inr (.inl rfl) | exact .inr (.inr rfl))) ca_nil)))))))) (fun s H C cl fp => (ce_var (i := 3) rfl (by first | exact .inl rfl | exact .inr (.inl rfl) | exact .inr (.inr rfl))))) (ce_lst ca_nil))))) (sp__law_right ea)
theorem ok__law_indexed {P : Program} {w : World} {K : PySem.W.Frag} {mg : Str → Option Value} {base : Heap} (hsys : ∃ o, base.get? sysModules = some o) (T : Txt K mg)
    {f__law_indexed : Addr} {fd__law_indexed : FuncData} (D__law_indexed : Def K mg "_law_indexed" s__law_indexed ["count"] f__law_indexed fd__law_indexed)
    {f__law_right : Addr} {fd__law_right : FuncData} (D__law_right : Def K mg "_law_right" s__law_right ["seat", "base", "made"] f__law_right fd__law_right)
    {ea : Nat → Addr} (cl : Cls P w K mg base ea)
    (F__law_right : FnG P w K mg base 3 f__law_right fd__law_right ["seat", "base", "made"] ((c__law_right ea).sp K)) :
    FnG P w K mg base 4 f__law_indexed fd__law_indexed ["count"] ((c__law_indexed ea).sp K) :=
  FnG.data D__law_indexed.fn sc__law_indexed hsys len__law_indexed (fun cdv A outer s H E cx => (css_cons (cs_par (i := 1) (j := 2) cx.toCxe.calm cx.toCxe.nd rfl rfl (by decide) (ca_cons (ce_newP (i := 0) cl (by decide) (by rfl) (by rfl) cx.toCxe (by decide) (by decide) (by rfl) (ca_cons (ce_var (i := 0) rfl (by first | exact .inl rfl | exact .inr (.inl rfl) | exact .inr (.inr rfl))) ca_nil)) (ca_cons (ce_newK (i := 0) cl (by decide) (by rfl) (by rfl) cx.toCxe (by decide) (by rfl) (ck_cons ce_non ck_nil)) ca_nil)))
    (css_cons (cs_set (i := 3) cx.toCxe.nd rfl (ce_and (ce_call F__law_right cx.toCxe (by decide) (by rfl) D__law_right.g D__law_right.fn.kp D__law_right.b (ca_cons ce_int (ca_cons ce_int (ca_cons (ce_lstX (ca_cons (ce_var (i := 1) rfl (by first | exact .inl rfl | exact .inr (.inl rfl) | exact .inr (.inr rfl))) (ca_cons (ce_var (i := 2) rfl (by first | exact .inl rfl | exact .inr (.inl rfl) | exact .inr (.inr rfl))) ca_nil))) ca_nil)))) (ce_one (ce_cmp (opd_eqC (hu64 cx.toCxe)) (ce_callB (cd_repr cx.toCxe.gd cx.toCxe.sys (hu64 cx.toCxe)) (by rfl) T.n_repr (by decide +kernel) (ca_cons (ce_lst (ca_cons (ce_xfx cl (ce_var (i := 1) rfl (by first | exact .inl rfl | exact .inr (.inl rfl) | exact .inr (.inr rfl)))) (ca_cons (ce_xfx cl (ce_var (i := 2) rfl (by first | exact .inl rfl | exact .inr (.inl rfl) | exact .inr (.inr rfl)))) ca_nil))) ca_nil)) (ce_callB (cd_repr cx.toCxe.gd cx.toCxe.sys (hu64 cx.toCxe)) (by rfl) T.n_repr (by decide +kernel) (ca_cons (ce_lst (ca_cons (ce_var (i := 0) rfl (by first | exact .inl rfl | exact .inr (.inl rfl) | exact .inr (.inr rfl))) (ca_cons ce_non ca_nil))) ca_nil))))))
    (css_cons (cs_par (i := 1) (j := 2) cx.toCxe.calm cx.toCxe.nd rfl rfl (by decide) (ca_cons (ce_newP (i := 2) cl (by decide) (by rfl) (by rfl) cx.toCxe (by decide) (by decide) (by rfl) (ca_cons (ce_var (i := 0) rfl (by first | exact .inl rfl | exact .inr (.inl rfl) | exact .inr (.inr rfl))) ca_nil)) (ca_cons (ce_newK (i := 2) cl (by decide) (by rfl) (by rfl) cx.toCxe (by decide) (by rfl) (ck_cons ce_non ck_nil)) ca_nil)))
    (css_cons (cs_set (i := 3) cx.toCxe.nd rfl (ce_and (ce_var (i := 3) rfl (by first | exact .inl rfl | exact .inr (.inl rfl) | exact .inr (.inr rfl))) (ce_and (ce_call F__law_right cx.toCxe (by decide) (by rfl) D__law_right.g D__law_right.fn.kp D__law_right.b (ca_cons ce_int (ca_cons ce_int (ca_cons (ce_lstX (ca_cons (ce_var (i := 1) rfl (by first | exact .inl rfl | exact .inr (.inl rfl) | exact .inr (.inr rfl))) (ca_cons (ce_var (i := 2) rfl (by first | exact .inl rfl | exact .inr (.inl rfl) | exact .inr (.inr rfl))) ca_nil))) ca_nil)))) (ce_one (ce_cmp (opd_eqC (hu64 cx.toCxe)) (ce_callB (cd_repr cx.toCxe.gd cx.toCxe.sys (hu64 cx.toCxe)) (by rfl) T.n_repr (by decide +kernel) (ca_cons (ce_lst (ca_cons (ce_xfx cl (ce_var (i := 1) rfl (by first | exact .inl rfl | exact .inr (.inl rfl) | exact .inr (.inr rfl)))) (ca_cons (ce_xfx cl (ce_var (i := 2) rfl (by first | exact .inl rfl | exact .inr (.inl rfl) | exact .inr (.inr rfl)))) ca_nil))) ca_nil)) (ce_callB (cd_repr cx.toCxe.gd cx.toCxe.sys (hu64 cx.toCxe)) (by rfl) T.n_repr (by decide +kernel) (ca_cons (ce_lst (ca_cons (ce_var (i := 0) rfl (by first | exact .inl rfl | exact .inr (.inl rfl) | exact .inr (.inr rfl))) (ca_cons ce_non ca_nil))) ca_nil)))))))
    (css_cons (cs_par (i := 1) (j := 2) cx.toCxe.calm cx.toCxe.nd rfl rfl (by decide) (ca_cons (ce_newP (i := 3) cl (by decide) (by rfl) (by rfl) cx.toCxe (by decide) (by decide) (by rfl) (ca_cons (ce_var (i := 0) rfl (by first | exact .inl rfl | exact .inr (.inl rfl) | exact .inr (.inr rfl))) ca_nil)) (ca_cons (ce_newK (i := 3) cl (by decide) (by rfl) (by rfl) cx.toCxe (by decide) (by rfl) (ck_cons ce_non ck_nil)) ca_nil)))
    (css_cons (cs_set (i := 3) cx.toCxe.nd rfl (ce_and (ce_var (i := 3) rfl (by first | exact .inl rfl | exact .inr (.inl rfl) | exact .inr (.inr rfl))) (ce_and (ce_call F__law_right cx.toCxe (by decide) (by rfl) D__law_right.g D__law_right.fn.kp D__law_right.b (ca_cons ce_int (ca_cons ce_int (ca_cons (ce_lstX (ca_cons (ce_var (i := 1) rfl (by first | exact .inl rfl | exact .inr (.inl rfl) | exact .inr (.inr rfl))) (ca_cons (ce_var (i := 2) rfl (by first | exact .inl rfl | exact .inr (.inl rfl) | exact .inr (.inr rfl))) ca_nil))) ca_nil)))) (ce_one (ce_cmp (opd_eqC (hu64 cx.toCxe)) (ce_callB (cd_repr cx.toCxe.gd cx.toCxe.sys (hu64 cx.toCxe)) (by rfl) T.n_repr (by decide +kernel) (ca_cons (ce_lst (ca_cons (ce_xfx cl (ce_var (i := 1) rfl (by first | exact .inl rfl | exact .inr (.inl rfl) | exact .inr (.inr rfl)))) (ca_cons (ce_xfx cl (ce_var (i := 2) rfl (by first | exact .inl rfl | exact .inr (.inl rfl) | exact .inr (.inr rfl)))) ca_nil))) ca_nil)) (ce_callB (cd_repr cx.toCxe.gd cx.toCxe.sys (hu64 cx.toCxe)) (by rfl) T.n_repr (by decide +kernel) (ca_cons (ce_lst (ca_cons (ce_var (i := 0) rfl (by first | exact .inl rfl | exact .inr (.inl rfl) | exact .inr (.inr rfl))) (ca_cons ce_non ca_nil))) ca_nil)))))))
    (css_cons (cs_par (i := 1) (j := 2) cx.toCxe.calm cx.toCxe.nd rfl rfl (by decide) (ca_cons (ce_newP (i := 5) cl (by decide) (by rfl) (by rfl) cx.toCxe (by decide) (by decide) (by rfl) (ca_cons (ce_var (i := 0) rfl (by first | exact .inl rfl | exact .inr (.inl rfl) | exact .inr (.inr rfl))) ca_nil)) (ca_cons (ce_newK (i := 5) cl (by decide) (by rfl) (by rfl) cx.toCxe (by decide) (by rfl) (ck_cons ce_non ck_nil)) ca_nil)))
    (css_cons (cs_set (i := 3) cx.toCxe.nd rfl (ce_and (ce_var (i := 3) rfl (by first | exact .inl rfl | exact .inr (.inl rfl) | exact .inr (.inr rfl))) (ce_and (ce_call F__law_right cx.toCxe (by decide) (by rfl) D__law_right.g D__law_right.fn.kp D__law_right.b (ca_cons ce_int (ca_cons ce_int (ca_cons (ce_lstX (ca_cons (ce_var (i := 1) rfl (by first | exact .inl rfl | exact .inr (.inl rfl) | exact .inr (.inr rfl))) (ca_cons (ce_var (i := 2) rfl (by first | exact .inl rfl | exact .inr (.inl rfl) | exact .inr (.inr rfl))) ca_nil))) ca_nil)))) (ce_one (ce_cmp (opd_eqC (hu64 cx.toCxe)) (ce_callB (cd_repr cx.toCxe.gd cx.toCxe.sys (hu64 cx.toCxe)) (by rfl) T.n_repr (by decide +kernel) (ca_cons (ce_lst (ca_cons (ce_xfx cl (ce_var (i := 1) rfl (by first | exact .inl rfl | exact .inr (.inl rfl) | exact .inr (.inr rfl)))) (ca_cons (ce_xfx cl (ce_var (i := 2) rfl (by first | exact .inl rfl | exact .inr (.inl rfl) | exact .inr (.inr rfl)))) ca_nil))) ca_nil)) (ce_callB (cd_repr cx.toCxe.gd cx.toCxe.sys (hu64 cx.toCxe)) (by rfl) T.n_repr (by decide +kernel) (ca_cons (ce_lst (ca_cons (ce_var (i := 0) rfl (by first | exact .inl rfl | exact .inr (.inl rfl) | exact .inr (.inr rfl))) (ca_cons ce_non ca_nil))) ca_nil)))))))
    (css_cons (cs_par (i := 1) (j := 2) cx.toCxe.calm cx.toCxe.nd rfl rfl (by decide) (ca_cons (ce_newP (i := 9) cl (by decide) (by rfl) (by rfl) cx.toCxe (by decide) (by decide) (by rfl) (ca_cons (ce_var (i := 0) rfl (by first | exact .inl rfl | exact .inr (.inl rfl) | exact .inr (.inr rfl))) ca_nil)) (ca_cons (ce_newK (i := 9) cl (by decide) (by rfl) (by rfl) cx.toCxe (by decide) (by rfl) (ck_cons ce_int ck_nil)) ca_nil)))
    (css_one (cs_ret (ce_and (ce_var (i := 3) rfl (by first | exact .inl rfl | exact .inr (.inl rfl) | exact .inr (.inr rfl))) (ce_and (ce_call F__law_right cx.toCxe (by decide) (by rfl) D__law_right.g D__law_right.fn.kp D__law_right.b (ca_cons ce_int (ca_cons ce_int (ca_cons (ce_lstX (ca_cons (ce_var (i := 1) rfl (by first | exact .inl rfl | exact .inr (.inl rfl) | exact .inr (.inr rfl))) (ca_cons (ce_var (i := 2) rfl (by first | exact .inl rfl | exact .inr (.inl rfl) | exact .inr (.inr rfl))) ca_nil))) ca_nil)))) (ce_one (ce_cmp (opd_eqC (hu64 cx.toCxe)) (ce_callB (cd_repr cx.toCxe.gd cx.toCxe.sys (hu64 cx.toCxe)) (by rfl) T.n_repr (by decide +kernel) (ca_cons (ce_lst (ca_cons (ce_xfx cl (ce_var (i := 1) rfl (by first | exact .inl rfl | exact .inr (.inl rfl) | exact .inr (.inr rfl)))) (ca_cons (ce_xfx cl (ce_var (i := 2) rfl (by first | exact .inl rfl | exact .inr (.inl rfl) | exact .inr (.inr rfl)))) ca_nil))) ca_nil)) (ce_callB (cd_repr cx.toCxe.gd cx.toCxe.sys (hu64 cx.toCxe)) (by rfl) T.n_repr (by decide +kernel) (ca_cons (ce_lst (ca_cons (ce_var (i := 0) rfl (by first | exact .inl rfl | exact .inr (.inl rfl) | exact .inr (.inr rfl))) (ca_cons ce_int ca_nil))) ca_nil)))))))))))))))))) (sp__law_indexed ea)
theorem ok__law_others {P : Program} {w : World} {K : PySem.W.Frag} {mg : Str → Option Value} {base : Heap} (hsys : ∃ o, base.get? sysModules = some o) (T : Txt K mg)
    {f__law_others : Addr} {fd__law_others : FuncData} (D__law_others : Def K mg "_law_others" s__law_others ["count", "thing"] f__law_others fd__law_others)
    {f__law_right : Addr} {fd__law_right : FuncData} (D__law_right : Def K mg "_law_right" s__law_right ["seat", "base", "made"] f__law_right fd__law_right)
    {ea : Nat → Addr} (cl : Cls P w K mg base ea)
    (F__law_right : FnG P w K mg base 3 f__law_right fd__law_right ["seat", "base", "made"] ((c__law_right ea).sp K)) :
    FnG P w K mg base 4 f__law_others fd__law_others ["count", "thing"] ((c__law_others ea).sp K) :=
  FnG.data D__law_others.fn sc__law_others hsys len__law_others (fun cdv A outer s H E cx => (css_cons (cs_par (i := 2) (j := 3) cx.toCxe.calm cx.toCxe.nd rfl rfl (by decide) (ca_cons (ce_newP (i := 1) cl (by decide) (by rfl) (by rfl) cx.toCxe (by decide) (by decide) (by rfl) (ca_cons (ce_tup (ca_cons ce_str (ca_cons (ce_var (i := 0) rfl (by first | exact .inl rfl | exact .inr (.inl rfl) | exact .inr (.inr rfl))) ca_nil))) ca_nil)) (ca_cons (ce_newK (i := 1) cl (by decide) (by rfl) (by rfl) cx.toCxe (by decide) (by rfl) (ck_cons ce_non ck_nil)) ca_nil)))
    (css_cons (cs_set (i := 4) cx.toCxe.nd rfl (ce_and (ce_call F__law_right cx.toCxe (by decide) (by rfl) D__law_right.g D__law_right.fn.kp D__law_right.b (ca_cons ce_int (ca_cons ce_int (ca_cons (ce_lstX (ca_cons (ce_var (i := 2) rfl (by first | exact .inl rfl | exact .inr (.inl rfl) | exact .inr (.inr rfl))) (ca_cons (ce_var (i := 3) rfl (by first | exact .inl rfl | exact .inr (.inl rfl) | exact .inr (.inr rfl))) ca_nil))) ca_nil)))) (ce_one (ce_cmp (opd_eqC (hu64 cx.toCxe)) (ce_callB (cd_repr cx.toCxe.gd cx.toCxe.sys (hu64 cx.toCxe)) (by rfl) T.n_repr (by decide +kernel) (ca_cons (ce_lst (ca_cons (ce_xfx cl (ce_var (i := 2) rfl (by first | exact .inl rfl | exact .inr (.inl rfl) | exact .inr (.inr rfl)))) (ca_cons (ce_xfx cl (ce_var (i := 3) rfl (by first | exact .inl rfl | exact .inr (.inl rfl) | exact .inr (.inr rfl)))) ca_nil))) ca_nil)) (ce_callB (cd_repr cx.toCxe.gd cx.toCxe.sys (hu64 cx.toCxe)) (by rfl) T.n_repr (by decide +kernel) (ca_cons (ce_lst (ca_cons (ce_tup (ca_cons ce_str (ca_cons (ce_var (i := 0) rfl (by first | exact .inl rfl | exact .inr (.inl rfl) | exact .inr (.inr rfl))) ca_nil))) (ca_cons ce_non ca_nil))) ca_nil))))))
    (css_cons (cs_par (i := 2) (j := 3) cx.toCxe.calm cx.toCxe.nd rfl rfl (by decide) (ca_cons (ce_newP (i := 7) cl (by decide) (by rfl) (by rfl) cx.toCxe (by decide) (by decide) (by rfl) (ca_cons (ce_var (i := 0) rfl (by first | exact .inl rfl | exact .inr (.inl rfl) | exact .inr (.inr rfl))) ca_nil)) (ca_cons (ce_newK (i := 7) cl (by decide) (by rfl) (by rfl) cx.toCxe (by decide) (by rfl) (ck_cons (ce_var (i := 0) rfl (by first | exact .inl rfl | exact .inr (.inl rfl) | exact .inr (.inr rfl))) ck_nil)) ca_nil)))
    (css_cons (cs_set (i := 4) cx.toCxe.nd rfl (ce_and (ce_var (i := 4) rfl (by first | exact .inl rfl | exact .inr (.inl rfl) | exact .inr (.inr rfl))) (ce_and (ce_call F__law_right cx.toCxe (by decide) (by rfl) D__law_right.g D__law_right.fn.kp D__law_right.b (ca_cons ce_int (ca_cons ce_int (ca_cons (ce_lstX (ca_cons (ce_var (i := 2) rfl (by first | exact .inl rfl | exact .inr (.inl rfl) | exact .inr (.inr rfl))) (ca_cons (ce_var (i := 3) rfl (by first | exact .inl rfl | exact .inr (.inl rfl) | exact .inr (.inr rfl))) ca_nil))) ca_nil)))) (ce_one (ce_cmp (opd_eqC (hu64 cx.toCxe)) (ce_callB (cd_repr cx.toCxe.gd cx.toCxe.sys (hu64 cx.toCxe)) (by rfl) T.n_repr (by decide +kernel) (ca_cons (ce_lst (ca_cons (ce_xfx cl (ce_var (i := 2) rfl (by first | exact .inl rfl | exact .inr (.inl rfl) | exact .inr (.inr rfl)))) (ca_cons (ce_xfx cl (ce_var (i := 3) rfl (by first | exact .inl rfl | exact .inr (.inl rfl) | exact .inr (.inr rfl)))) ca_nil))) ca_nil)) (ce_callB (cd_repr cx.toCxe.gd cx.toCxe.sys (hu64 cx.toCxe)) (by rfl) T.n_repr (by decide +kernel) (ca_cons (ce_lst (ca_cons (ce_var (i := 0) rfl (by first | exact .inl rfl | exact .inr (.inl rfl) | exact .inr (.inr rfl))) (ca_cons (ce_var (i := 0) rfl (by first | exact .inl rfl | exact .inr (.inl rfl) | exact .inr (.inr rfl))) ca_nil))) ca_nil)))))))
    (css_cons (cs_par (i := 2) (j := 3) cx.toCxe.calm cx.toCxe.nd rfl rfl (by decide) (ca_cons (ce_newP (i := 8) cl (by decide) (by rfl) (by rfl) cx.toCxe (by decide) (by decide) (by rfl) (ca_cons (ce_var (i := 1) rfl (by first | exact .inl rfl | exact .inr (.inl rfl) | exact .inr (.inr rfl))) ca_nil)) (ca_cons (ce_newK (i := 8) cl (by decide) (by rfl) (by rfl) cx.toCxe (by decide) (by rfl) (ck_cons (ce_var (i := 1) rfl (by first | exact .inl rfl | exact .inr (.inl rfl) | exact .inr (.inr rfl))) ck_nil)) ca_nil)))
    (css_cons (cs_set (i := 4) cx.toCxe.nd rfl (ce_and (ce_var (i := 4) rfl (by first | exact .inl rfl | exact .inr (.inl rfl) | exact .inr (.inr rfl))) (ce_and (ce_call F__law_right cx.toCxe (by decide) (by rfl) D__law_right.g D__law_right.fn.kp D__law_right.b (ca_cons ce_int (ca_cons ce_int (ca_cons (ce_lstX (ca_cons (ce_var (i := 2) rfl (by first | exact .inl rfl | exact .inr (.inl rfl) | exact .inr (.inr rfl))) (ca_cons (ce_var (i := 3) rfl (by first | exact .inl rfl | exact .inr (.inl rfl) | exact .inr (.inr rfl))) ca_nil))) ca_nil)))) (ce_one (ce_cmp (opd_eqC (hu64 cx.toCxe)) (ce_callB (cd_repr cx.toCxe.gd cx.toCxe.sys (hu64 cx.toCxe)) (by rfl) T.n_repr (by decide +kernel) (ca_cons (ce_lst (ca_cons (ce_xfx cl (ce_var (i := 2) rfl (by first | exact .inl rfl | exact .inr (.inl rfl) | exact .inr (.inr rfl)))) (ca_cons (ce_xfx cl (ce_var (i := 3) rfl (by first | exact .inl rfl | exact .inr (.inl rfl) | exact .inr (.inr rfl)))) ca_nil))) ca_nil)) (ce_callB (cd_repr cx.toCxe.gd cx.toCxe.sys (hu64 cx.toCxe)) (by rfl) T.n_repr (by decide +kernel) (ca_cons (ce_lst (ca_cons (ce_var (i := 1) rfl (by first | exact .inl rfl | exact .inr (.inl rfl) | exact .inr (.inr rfl))) (ca_cons (ce_var (i := 1) rfl (by first | exact .inl rfl | exact .inr (.inl rfl) | exact .inr (.inr rfl))) ca_nil))) ca_nil)))))))
    (css_cons (cs_par (i := 2) (j := 3) cx.toCxe.calm cx.toCxe.nd rfl rfl (by decide) (ca_cons (ce_newP (i := 12) cl (by decide) (by rfl) (by rfl) cx.toCxe (by decide) (by decide) (by rfl) (ca_cons (ce_var (i := 0) rfl (by first | exact .inl rfl | exact .inr (.inl rfl) | exact .inr (.inr rfl))) (ca_cons ce_str ca_nil))) (ca_cons (ce_newK (i := 12) cl (by decide) (by rfl) (by rfl) cx.toCxe (by decide) (by rfl) (ck_cons ce_non (ck_cons (ce_un und_neg ce_int) ck_nil))) ca_nil)))
    (css_cons (cs_set (i := 4) cx.toCxe.nd rfl (ce_and (ce_var (i := 4) rfl (by first | exact .inl rfl | exact .inr (.inl rfl) | exact .inr (.inr rfl))) (ce_and (ce_call F__law_right cx.toCxe (by decide) (by rfl) D__law_right.g D__law_right.fn.kp D__law_right.b (ca_cons ce_int (ca_cons ce_int (ca_cons (ce_lstX (ca_cons (ce_var (i := 2) rfl (by first | exact .inl rfl | exact .inr (.inl rfl) | exact .inr (.inr rfl))) (ca_cons (ce_var (i := 3) rfl (by first | exact .inl rfl | exact .inr (.inl rfl) | exact .inr (.inr rfl))) ca_nil))) ca_nil)))) (ce_one (ce_cmp (opd_eqC (hu64 cx.toCxe)) (ce_callB (cd_repr cx.toCxe.gd cx.toCxe.sys (hu64 cx.toCxe)) (by rfl) T.n_repr (by decide +kernel) (ca_cons (ce_lst (ca_cons (ce_xfx cl (ce_var (i := 2) rfl (by first | exact .inl rfl | exact .inr (.inl rfl) | exact .inr (.inr rfl)))) (ca_cons (ce_xfx cl (ce_var (i := 3) rfl (by first | exact .inl rfl | exact .inr (.inl rfl) | exact .inr (.inr rfl)))) ca_nil))) ca_nil)) (ce_callB (cd_repr cx.toCxe.gd cx.toCxe.sys (hu64 cx.toCxe)) (by rfl) T.n_repr (by decide +kernel) (ca_cons (ce_lst (ca_cons (ce_var (i := 0) rfl (by first | exact .inl rfl | exact .inr (.inl rfl) | exact .inr (.inr rfl))) (ca_cons (ce_un und_neg ce_int) ca_nil))) ca_nil)))))))
    (css_cons (cs_set (i := 4) cx.toCxe.nd rfl (ce_and (ce_var (i := 4) rfl (by first | exact .inl rfl | exact .inr (.inl rfl) | exact .inr (.inr rfl))) (ce_one (ce_cmp (opd_eqC (hu64 cx.toCxe)) (ce_callB (cd_repr cx.toCxe.gd cx.toCxe.sys (hu64 cx.toCxe)) (by rfl) T.n_repr (by decide +kernel) (ca_cons (ce_lst (ca_cons (ce_xfx cl (ce_var (i := 2) rfl (by first | exact .inl rfl | exact .inr (.inl rfl) | exact .inr (.inr rfl)))) (ca_cons (ce_xfx cl (ce_var (i := 3) rfl (by first | exact .inl rfl | exact .inr (.inl rfl) | exact .inr (.inr rfl)))) ca_nil))) ca_nil)) (ce_callB (cd_repr cx.toCxe.gd cx.toCxe.sys (hu64 cx.toCxe)) (by rfl) T.n_repr (by decide +kernel) (ca_cons (ce_lst (ca_cons ce_str (ca_cons ce_non ca_nil))) ca_nil))))))
    (css_cons (cs_par (i := 2) (j := 3) cx.toCxe.calm cx.toCxe.nd rfl rfl (by decide) (ca_cons (ce_newP (i := 14) cl (by decide) (by rfl) (by rfl) cx.toCxe (by decide) (by decide) (by rfl) (ca_cons (ce_var (i := 0) rfl (by first | exact .inl rfl | exact .inr (.inl rfl) | exact .inr (.inr rfl))) ca_nil)) (ca_cons (ce_newK (i := 14) cl (by decide) (by rfl) (by rfl) cx.toCxe (by decide) (by rfl) (ck_cons ce_int ck_nil)) ca_nil)))
    (css_one (cs_ret (ce_and (ce_var (i := 4) rfl (by first | exact .inl rfl | exact .inr (.inl rfl) | exact .inr (.inr rfl))) (ce_and (ce_call F__law_right cx.toCxe (by decide) (by rfl) D__law_right.g D__law_right.fn.kp D__law_right.b (ca_cons ce_int (ca_cons ce_int (ca_cons (ce_lstX (ca_cons (ce_var (i := 2) rfl (by first | exact .inl rfl | exact .inr (.inl rfl) | exact .inr (.inr rfl))) (ca_cons (ce_var (i := 3) rfl (by first | exact .inl rfl | exact .inr (.inl rfl) | exact .inr (.inr rfl))) ca_nil))) ca_nil)))) (ce_one (ce_cmp (opd_eqC (hu64 cx.toCxe)) (ce_callB (cd_repr cx.toCxe.gd cx.toCxe.sys (hu64 cx.toCxe)) (by rfl) T.n_repr (by decide +kernel) (ca_cons (ce_lst (ca_cons (ce_xfx cl (ce_var (i := 2) rfl (by first | exact .inl rfl | exact .inr (.inl rfl) | exact .inr (.inr rfl)))) (ca_cons (ce_xfx cl (ce_var (i := 3) rfl (by first | exact .inl rfl | exact .inr (.inl rfl) | exact .inr (.inr rfl)))) ca_nil))) ca_nil)) (ce_callB (cd_repr cx.toCxe.gd cx.toCxe.sys (hu64 cx.toCxe)) (by rfl) T.n_repr (by decide +kernel) (ca_cons (ce_lst (ca_cons (ce_var (i := 0) rfl (by first | exact .inl rfl | exact .inr (.inl rfl) | exact .inr (.inr rfl))) (ca_cons ce_int ca_nil))) ca_nil))))))))))))))))))) (sp__law_others ea)
theorem ok_law {P : Program} {w : World} {K : PySem.W.Frag} {mg : Str → Option Value} {base : Heap} (hsys : ∃ o, base.get? sysModules = some o) (T : Txt K mg)
    {f_law : Addr} {fd_law : FuncData} (D_law : Def K mg "law" s_law ["script"] f_law fd_law)
    {f__law_pen : Addr} {fd__law_pen : FuncData} (D__law_pen : Def K mg "_law_pen" s__law_pen ["script"] f__law_pen fd__law_pen)
    {f__law_one_of : Addr} {fd__law_one_of : FuncData} (D__law_one_of : Def K mg "_law_one_of" s__law_one_of ["pen", "some"] f__law_one_of fd__law_one_of)
    {f__law_draw : Addr} {fd__law_draw : FuncData} (D__law_draw : Def K mg "_law_draw" s__law_draw ["pen", "bound"] f__law_draw fd__law_draw)
    {f__law_indexed : Addr} {fd__law_indexed : FuncData} (D__law_indexed : Def K mg "_law_indexed" s__law_indexed ["count"] f__law_indexed fd__law_indexed)
    {f__law_others : Addr} {fd__law_others : FuncData} (D__law_others : Def K mg "_law_others" s__law_others ["count", "thing"] f__law_others fd__law_others)
    {f__law_right : Addr} {fd__law_right : FuncData} (D__law_right : Def K mg "_law_right" s__law_right ["seat", "base", "made"] f__law_right fd__law_right)
    {ea : Nat → Addr} (cl : Cls P w K mg base ea)
    (F__law_pen : FnG P w K mg base 1 f__law_pen fd__law_pen ["script"] (c__law_pen.sp K))
    (F__law_one_of : FnG P w K mg base 3 f__law_one_of fd__law_one_of ["pen", "some"] (c__law_one_of.sp K))
    (F__law_draw : FnG P w K mg base 2 f__law_draw fd__law_draw ["pen", "bound"] (c__law_draw.sp K))
    (F__law_indexed : FnG P w K mg base 4 f__law_indexed fd__law_indexed ["count"] ((c__law_indexed ea).sp K))
    (F__law_others : FnG P w K mg base 4 f__law_others fd__law_others ["count", "thing"] ((c__law_others ea).sp K))
    (F__law_right : FnG P w K mg base 3 f__law_right fd__law_right ["seat", "base", "made"] ((c__law_right ea).sp K)) :
    FnG P w K mg base 5 f_law fd_law ["script"] (c_law.sp K) :=
  FnG.data D_law.fn sc_law hsys len_law (fun cdv A outer s H E cx => (css_cons (cs_set (i := 1) cx.toCxe.nd rfl (ce_call F__law_pen cx.toCxe (by decide) (by rfl) D__law_pen.g D__law_pen.fn.kp D__law_pen.b (ca_cons (ce_var (i := 0) rfl (by first | exact .inl rfl | exact .inr (.inl rfl) | exact .inr (.inr rfl))) ca_nil)))
    (css_cons (cs_for cx (ci_range1 (by rfl) T.n_range (ca_cons ce_int ca_nil)) (cg_one (i := 2) cx.toCxe.nd rfl) (css_cons (cs_set (i := 3) cx.toCxe.nd rfl (ce_call F__law_one_of cx.toCxe (by decide) (by rfl) D__law_one_of.g D__law_one_of.fn.kp D__law_one_of.b (ca_cons (ce_var (i := 1) rfl (by first | exact .inl rfl | exact .inr (.inl rfl) | exact .inr (.inr rfl))) (ca_cons (ce_lst (ca_cons ce_int (ca_cons ce_int (ca_cons ce_int (ca_cons (ce_call F__law_draw cx.toCxe (by decide) (by rfl) D__law_draw.g D__law_draw.fn.kp D__law_draw.b (ca_cons (ce_var (i := 1) rfl (by first | exact .inl rfl | exact .inr (.inl rfl) | exact .inr (.inr rfl))) (ca_cons (ce_bin opd_pow ce_int ce_int) ca_nil))) ca_nil))))) ca_nil))))
    (css_cons (cs_set (i := 4) cx.toCxe.nd rfl (ce_call F__law_one_of cx.toCxe (by decide) (by rfl) D__law_one_of.g D__law_one_of.fn.kp D__law_one_of.b (ca_cons (ce_var (i := 1) rfl (by first | exact .inl rfl | exact .inr (.inl rfl) | exact .inr (.inr rfl))) (ca_cons (ce_lst (ca_cons ce_non (ca_cons ce_bl (ca_cons ce_str (ca_cons (ce_tup (ca_cons ce_int (ca_cons ce_int ca_nil))) (ca_cons (ce_lst ca_nil) (ca_cons ce_dict0 (ca_cons (ce_var (i := 3) rfl (by first | exact .inl rfl | exact .inr (.inl rfl) | exact .inr (.inr rfl))) (ca_cons (ce_un und_neg ce_int) ca_nil))))))))) ca_nil))))
    (css_one (cs_if (CW.ct (cw_or (ct_not (ct_val (ce_call F__law_indexed cx.toCxe (by decide) (by rfl) D__law_indexed.g D__law_indexed.fn.kp D__law_indexed.b (ca_cons (ce_var (i := 3) rfl (by first | exact .inl rfl | exact .inr (.inl rfl) | exact .inr (.inr rfl))) ca_nil)))) (cw_or1 (ct_not (ct_val (ce_call F__law_others cx.toCxe (by decide) (by rfl) D__law_others.g D__law_others.fn.kp D__law_others.b (ca_cons (ce_var (i := 3) rfl (by first | exact .inl rfl | exact .inr (.inl rfl) | exact .inr (.inr rfl))) (ca_cons (ce_var (i := 4) rfl (by first | exact .inl rfl | exact .inr (.inl rfl) | exact .inr (.inr rfl))) ca_nil)))))))) (css_one (cs_ret ce_bl)) css_nil)))))
    (css_cons (cs_if (CW.ct (cw_or (ct_not (ct_val (ce_call F__law_right cx.toCxe (by decide) (by rfl) D__law_right.g D__law_right.fn.kp D__law_right.b (ca_cons ce_int (ca_cons ce_int (ca_cons (ce_lstX (ca_cons (ce_new0 (i := 4) cl (by decide) (by rfl) (by rfl) cx.toCxe (by decide) (by rfl)) ca_nil)) ca_nil)))))) (cw_or1 (ct_not (ct_val (ce_call F__law_right cx.toCxe (by decide) (by rfl) D__law_right.g D__law_right.fn.kp D__law_right.b (ca_cons ce_int (ca_cons ce_int (ca_cons (ce_lstX (ca_cons (ce_new0 (i := 6) cl (by decide) (by rfl) (by rfl) cx.toCxe (by decide) (by rfl)) ca_nil)) ca_nil))))))))) (css_one (cs_ret ce_bl)) css_nil)
    (css_cons (cs_if (CW.ct (cw_or (ct_not (ct_val (ce_call F__law_right cx.toCxe (by decide) (by rfl) D__law_right.g D__law_right.fn.kp D__law_right.b (ca_cons ce_int (ca_cons ce_int (ca_cons (ce_lstX (ca_cons (ce_new0 (i := 10) cl (by decide) (by rfl) (by rfl) cx.toCxe (by decide) (by rfl)) ca_nil)) ca_nil)))))) (cw_or1 (ct_not (ct_val (ce_call F__law_right cx.toCxe (by decide) (by rfl) D__law_right.g D__law_right.fn.kp D__law_right.b (ca_cons ce_int (ca_cons ce_int (ca_cons (ce_lstX (ca_cons (ce_new0 (i := 11) cl (by decide) (by rfl) (by rfl) cx.toCxe (by decide) (by rfl)) ca_nil)) ca_nil))))))))) (css_one (cs_ret ce_bl)) css_nil)
    (css_one (cs_ret (ce_call F__law_right cx.toCxe (by decide) (by rfl) D__law_right.g D__law_right.fn.kp D__law_right.b (ca_cons ce_int (ca_cons ce_int (ca_cons (ce_lstX (ca_cons (ce_new0 (i := 13) cl (by decide) (by rfl) (by rfl) cx.toCxe (by decide) (by rfl)) ca_nil)) ca_nil))))))))))) (sp_law ea)
theorem nd_of {l : List Addr} (h : l.Nodup) (hl : l.length = 15) : Nd fun i => l.getD i 0 := by
  intro i j hi hj e
  have e1 : l.getD i 0 = l[i]'(by omega) := by simp [hl, hi]
  have e2 : l.getD j 0 = l[j]'(by omega) := by simp [hl, hj]
  have e3 : l[i]'(by omega) = l[j]'(by omega) := by rw [← e1, ← e2]; exact e
  exact (List.getElem_inj h).mp e3
theorem all_mk {P : Program} {w : World} {K : PySem.W.Frag} {h : Heap} {mg : Str → Option Value} {fa f__law_pen f__law_fresh f__law_draw f__law_one_of f__law_which f__law_last f__law_base f__law_right f__law_indexed f__law_others f_law : Addr} (X : K.In h) (G : h.Ns mainGlobals mg) (hfa : mg "law" = some (.ref fa))
    {nm0 q0 : Str} {C0 fI0 N0 : Addr} {bs0 : List Value} {sn0 : List Str} {sub0 : List Value} {ab0 : Bool} {col0 : Option Bool} {dd0 : Option Addr} {m0_0 m1_0 m2_0 m3_0 m5_0 : Option Value} {nm1 q1 : Str} {C1 fI1 N1 : Addr} {bs1 : List Value} {sn1 : List Str} {sub1 : List Value} {ab1 : Bool} {col1 : Option Bool} {dd1 : Option Addr} {m0_1 m1_1 m2_1 m3_1 m5_1 : Option Value} {nm2 q2 : Str} {C2 fI2 N2 : Addr} {bs2 : List Value} {sn2 : List Str} {sub2 : List Value} {ab2 : Bool} {col2 : Option Bool} {dd2 : Option Addr} {m0_2 m1_2 m2_2 m3_2 m5_2 : Option Value} {nm3 q3 : Str} {C3 fI3 N3 : Addr} {bs3 : List Value} {sn3 : List Str} {sub3 : List Value} {ab3 : Bool} {col3 : Option Bool} {dd3 : Option Addr} {m0_3 m1_3 m2_3 m3_3 m5_3 : Option Value} {nm4 q4 : Str} {C4 fI4 N4 : Addr} {bs4 : List Value} {sn4 : List Str} {sub4 : List Value} {ab4 : Bool} {col4 : Option Bool} {dd4 : Option Addr} {m0_4 m1_4 m2_4 m3_4 m5_4 : Option Value} {nm5 q5 : Str} {C5 fI5 N5 : Addr} {bs5 : List Value} {sn5 : List Str} {sub5 : List Value} {ab5 : Bool} {col5 : Option Bool} {dd5 : Option Addr} {m0_5 m1_5 m2_5 m3_5 m5_5 : Option Value} {nm6 q6 : Str} {C6 fI6 N6 : Addr} {bs6 : List Value} {sn6 : List Str} {sub6 : List Value} {ab6 : Bool} {col6 : Option Bool} {dd6 : Option Addr} {m0_6 m1_6 m2_6 m3_6 m5_6 : Option Value} {nm7 q7 : Str} {C7 fI7 N7 : Addr} {bs7 : List Value} {sn7 : List Str} {sub7 : List Value} {ab7 : Bool} {col7 : Option Bool} {dd7 : Option Addr} {m0_7 m1_7 m2_7 m3_7 m5_7 : Option Value} {nm8 q8 : Str} {C8 fI8 N8 : Addr} {bs8 : List Value} {sn8 : List Str} {sub8 : List Value} {ab8 : Bool} {col8 : Option Bool} {dd8 : Option Addr} {m0_8 m1_8 m2_8 m3_8 m5_8 : Option Value} {nm9 q9 : Str} {C9 fI9 N9 : Addr} {bs9 : List Value} {sn9 : List Str} {sub9 : List Value} {ab9 : Bool} {col9 : Option Bool} {dd9 : Option Addr} {m0_9 m1_9 m2_9 m3_9 m5_9 : Option Value} {nm10 q10 : Str} {C10 fI10 N10 : Addr} {bs10 : List Value} {sn10 : List Str} {sub10 : List Value} {ab10 : Bool} {col10 : Option Bool} {dd10 : Option Addr} {m0_10 m1_10 m2_10 m3_10 m5_10 : Option Value} {nm11 q11 : Str} {C11 fI11 N11 : Addr} {bs11 : List Value} {sn11 : List Str} {sub11 : List Value} {ab11 : Bool} {col11 : Option Bool} {dd11 : Option Addr} {m0_11 m1_11 m2_11 m3_11 m5_11 : Option Value} {nm12 q12 : Str} {C12 fI12 N12 : Addr} {bs12 : List Value} {sn12 : List Str} {sub12 : List Value} {ab12 : Bool} {col12 : Option Bool} {dd12 : Option Addr} {m0_12 m1_12 m2_12 m3_12 m5_12 : Option Value} {nm13 q13 : Str} {C13 fI13 N13 : Addr} {bs13 : List Value} {sn13 : List Str} {sub13 : List Value} {ab13 : Bool} {col13 : Option Bool} {dd13 : Option Addr} {m0_13 m1_13 m2_13 m3_13 m5_13 : Option Value} {nm14 q14 : Str} {C14 fI14 N14 : Addr} {bs14 : List Value} {sn14 : List Str} {sub14 : List Value} {ab14 : Bool} {col14 : Option Bool} {dd14 : Option Addr} {m0_14 m1_14 m2_14 m3_14 m5_14 : Option Value}
    {od0 an0 od1 an1 od2 an2 od3 an3 od4 an4 od5 an5 od6 an6 od7 an7 od8 an8 od9 an9 od10 an10 od11 an11 od12 an12 od13 an13 od14 an14 od15 an15 od16 an16 od17 an17 od18 an18 od19 an19 od20 an20 od21 an21 od22 an22 od23 an23 od24 an24 od25 an25 : Option Addr} {sl0 sl1 sl2 sl3 sl4 sl5 sl6 sl7 sl8 sl9 sl10 sl11 sl12 sl13 sl14 sl15 sl16 sl17 sl18 sl19 sl20 sl21 sl22 sl23 sl24 sl25 : Array (Option Value)} {oc0 kV0 dc0 pm0 cd0 ct0 oc1 kV1 dc1 pm1 cd1 ct1 oc2 kV2 dc2 pm2 cd2 ct2 oc3 kV3 dc3 pm3 cd3 ct3 oc4 kV4 dc4 pm4 cd4 ct4 oc5 kV5 dc5 pm5 cd5 ct5 oc6 kV6 dc6 pm6 cd6 ct6 oc7 kV7 dc7 pm7 cd7 ct7 oc8 kV8 dc8 pm8 cd8 ct8 oc9 kV9 dc9 pm9 cd9 ct9 oc10 kV10 dc10 pm10 cd10 ct10 oc11 kV11 dc11 pm11 cd11 ct11 oc12 kV12 dc12 pm12 cd12 ct12 oc13 kV13 dc13 pm13 cd13 ct13 oc14 kV14 dc14 pm14 cd14 ct14 oc15 kV15 dc15 pm15 cd15 ct15 oc16 kV16 dc16 pm16 cd16 ct16 oc17 kV17 dc17 pm17 cd17 ct17 oc18 kV18 dc18 pm18 cd18 ct18 oc19 kV19 dc19 pm19 cd19 ct19 oc20 kV20 dc20 pm20 cd20 ct20 oc21 kV21 dc21 pm21 cd21 ct21 oc22 kV22 dc22 pm22 cd22 ct22 oc23 kV23 dc23 pm23 cd23 ct23 oc24 kV24 dc24 pm24 cd24 ct24 oc25 kV25 dc25 pm25 cd25 ct25 : Value}
    (a0 : PySem.W.nsIn K mainGlobals "_law_pen" = some (some (.ref f__law_pen)))
    (l0 : K.lookup f__law_pen = some ⟨oc0, od0, .func (PySem.W.fnOf "_law_pen" "_law_pen" (defArgs s__law_pen) (defBody s__law_pen) (defScope s__law_pen) .none kV0 dc0 pm0 an0 cd0 ct0), sl0⟩)
    (c0 : PySem.W.codeIn K cd0 "_law_pen" = true)
    (k0 : PySem.W.keepIn K (.ref f__law_pen) = true)
    (a1 : PySem.W.nsIn K mainGlobals "_law_fresh" = some (some (.ref f__law_fresh)))
    (l1 : K.lookup f__law_fresh = some ⟨oc1, od1, .func (PySem.W.fnOf "_law_fresh" "_law_fresh" (defArgs s__law_fresh) (defBody s__law_fresh) (defScope s__law_fresh) .none kV1 dc1 pm1 an1 cd1 ct1), sl1⟩)
    (c1 : PySem.W.codeIn K cd1 "_law_fresh" = true)
    (k1 : PySem.W.keepIn K (.ref f__law_fresh) = true)
    (a2 : PySem.W.nsIn K mainGlobals "_law_draw" = some (some (.ref f__law_draw)))
    (l2 : K.lookup f__law_draw = some ⟨oc2, od2, .func (PySem.W.fnOf "_law_draw" "_law_draw" (defArgs s__law_draw) (defBody s__law_draw) (defScope s__law_draw) .none kV2 dc2 pm2 an2 cd2 ct2), sl2⟩)
    (c2 : PySem.W.codeIn K cd2 "_law_draw" = true)
    (k2 : PySem.W.keepIn K (.ref f__law_draw) = true)
    (a3 : PySem.W.nsIn K mainGlobals "_law_one_of" = some (some (.ref f__law_one_of)))
    (l3 : K.lookup f__law_one_of = some ⟨oc3, od3, .func (PySem.W.fnOf "_law_one_of" "_law_one_of" (defArgs s__law_one_of) (defBody s__law_one_of) (defScope s__law_one_of) .none kV3 dc3 pm3 an3 cd3 ct3), sl3⟩)
    (c3 : PySem.W.codeIn K cd3 "_law_one_of" = true)
    (k3 : PySem.W.keepIn K (.ref f__law_one_of) = true)
    (a4 : PySem.W.nsIn K mainGlobals "_law_which" = some (some (.ref f__law_which)))
    (l4 : K.lookup f__law_which = some ⟨oc4, od4, .func (PySem.W.fnOf "_law_which" "_law_which" (defArgs s__law_which) (defBody s__law_which) (defScope s__law_which) .none kV4 dc4 pm4 an4 cd4 ct4), sl4⟩)
    (c4 : PySem.W.codeIn K cd4 "_law_which" = true)
    (k4 : PySem.W.keepIn K (.ref f__law_which) = true)
    (a5 : PySem.W.nsIn K mainGlobals "_law_last" = some (some (.ref f__law_last)))
    (l5 : K.lookup f__law_last = some ⟨oc5, od5, .func (PySem.W.fnOf "_law_last" "_law_last" (defArgs s__law_last) (defBody s__law_last) (defScope s__law_last) .none kV5 dc5 pm5 an5 cd5 ct5), sl5⟩)
    (c5 : PySem.W.codeIn K cd5 "_law_last" = true)
    (k5 : PySem.W.keepIn K (.ref f__law_last) = true)
    (a6 : PySem.W.nsIn K mainGlobals "_law_base" = some (some (.ref f__law_base)))
    (l6 : K.lookup f__law_base = some ⟨oc6, od6, .func (PySem.W.fnOf "_law_base" "_law_base" (defArgs s__law_base) (defBody s__law_base) (defScope s__law_base) .none kV6 dc6 pm6 an6 cd6 ct6), sl6⟩)
    (c6 : PySem.W.codeIn K cd6 "_law_base" = true)
    (k6 : PySem.W.keepIn K (.ref f__law_base) = true)
    (a7 : PySem.W.nsIn K mainGlobals "_law_right" = some (some (.ref f__law_right)))
    (l7 : K.lookup f__law_right = some ⟨oc7, od7, .func (PySem.W.fnOf "_law_right" "_law_right" (defArgs s__law_right) (defBody s__law_right) (defScope s__law_right) .none kV7 dc7 pm7 an7 cd7 ct7), sl7⟩)
    (c7 : PySem.W.codeIn K cd7 "_law_right" = true)
    (k7 : PySem.W.keepIn K (.ref f__law_right) = true)
    (a8 : PySem.W.nsIn K mainGlobals "_law_indexed" = some (some (.ref f__law_indexed)))
    (l8 : K.lookup f__law_indexed = some ⟨oc8, od8, .func (PySem.W.fnOf "_law_indexed" "_law_indexed" (defArgs s__law_indexed) (defBody s__law_indexed) (defScope s__law_indexed) .none kV8 dc8 pm8 an8 cd8 ct8), sl8⟩)
    (c8 : PySem.W.codeIn K cd8 "_law_indexed" = true)
    (k8 : PySem.W.keepIn K (.ref f__law_indexed) = true)
    (a9 : PySem.W.nsIn K mainGlobals "_law_others" = some (some (.ref f__law_others)))
    (l9 : K.lookup f__law_others = some ⟨oc9, od9, .func (PySem.W.fnOf "_law_others" "_law_others" (defArgs s__law_others) (defBody s__law_others) (defScope s__law_others) .none kV9 dc9 pm9 an9 cd9 ct9), sl9⟩)
    (c9 : PySem.W.codeIn K cd9 "_law_others" = true)
    (k9 : PySem.W.keepIn K (.ref f__law_others) = true)
    (a10 : PySem.W.nsIn K mainGlobals "law" = some (some (.ref f_law)))
    (l10 : K.lookup f_law = some ⟨oc10, od10, .func (PySem.W.fnOf "law" "law" (defArgs s_law) (defBody s_law) (defScope s_law) .none kV10 dc10 pm10 an10 cd10 ct10), sl10⟩)
    (c10 : PySem.W.codeIn K cd10 "law" = true)
    (k10 : PySem.W.keepIn K (.ref f_law) = true)
    (aC0 : PySem.W.nsIn K mainGlobals "InvalidResilience" = some (some (.ref C0)))
    (xL0 : K.lookup C0 = some (excClassObj nm0 q0 C0 N0 bs0 [.type "ValueError", .type "Exception", .type "BaseException", .type "object"] true sn0 sub0 ab0 col0 dd0 m0_0 m1_0 m2_0 m3_0 m5_0 "ValueError.__new__"))
    (sa0 : PySem.W.findIn K (.ref C0) "__setattr__" = some (some (.builtin "object.__setattr__")))
    (ga0 : PySem.W.findIn K (.ref C0) "__getattribute__" = some (some (.builtin "BaseException.__getattribute__")))
    (gg0 : PySem.W.findIn K (.ref C0) "__getattr__" = some none)
    (ca0 : PySem.W.findIn K (.ref C0) "__class__" = some (some (.builtin "object.__class__")))
    (nb0_0 : PySem.W.findIn K (.ref C0) "index" = some none)
    (iI0 : PySem.W.findIn K (.ref C0) "__init__" = some (some (.ref fI0)))
    (tI0 : PySem.W.typeIn K (.ref fI0) = some (.type "function"))
    (lI0 : K.lookup fI0 = some ⟨oc11, od11, .func (PySem.W.fnOf "__init__" "InvalidResilience.__init__" (defArgs s_InvalidResilience) (defBody s_InvalidResilience) (defScope s_InvalidResilience) .none kV11 dc11 pm11 an11 cd11 ct11), sl11⟩)
    (cI0 : PySem.W.codeIn K cd11 "InvalidResilience.__init__" = true)
    (kI0 : PySem.W.keepIn K (.ref fI0) = true)
    (kC0 : PySem.W.keepIn K (.ref C0) = true)
    (eC0 : PySem.W.subIn K (.ref C0) (.type "BaseException") = some true)
    (tC0 : PySem.W.typeIn K (.ref C0) = some (.type "type"))
    (aC1 : PySem.W.nsIn K mainGlobals "InvalidProtocol" = some (some (.ref C1)))
    (xL1 : K.lookup C1 = some (excClassObj nm1 q1 C1 N1 bs1 [.type "ValueError", .type "Exception", .type "BaseException", .type "object"] true sn1 sub1 ab1 col1 dd1 m0_1 m1_1 m2_1 m3_1 m5_1 "ValueError.__new__"))
    (sa1 : PySem.W.findIn K (.ref C1) "__setattr__" = some (some (.builtin "object.__setattr__")))
    (ga1 : PySem.W.findIn K (.ref C1) "__getattribute__" = some (some (.builtin "BaseException.__getattribute__")))
    (gg1 : PySem.W.findIn K (.ref C1) "__getattr__" = some none)
    (ca1 : PySem.W.findIn K (.ref C1) "__class__" = some (some (.builtin "object.__class__")))
    (nb0_1 : PySem.W.findIn K (.ref C1) "part" = some none)
    (iI1 : PySem.W.findIn K (.ref C1) "__init__" = some (some (.ref fI1)))
    (tI1 : PySem.W.typeIn K (.ref fI1) = some (.type "function"))
    (lI1 : K.lookup fI1 = some ⟨oc12, od12, .func (PySem.W.fnOf "__init__" "InvalidProtocol.__init__" (defArgs s_InvalidProtocol) (defBody s_InvalidProtocol) (defScope s_InvalidProtocol) .none kV12 dc12 pm12 an12 cd12 ct12), sl12⟩)
    (cI1 : PySem.W.codeIn K cd12 "InvalidProtocol.__init__" = true)
    (kI1 : PySem.W.keepIn K (.ref fI1) = true)
    (kC1 : PySem.W.keepIn K (.ref C1) = true)
    (eC1 : PySem.W.subIn K (.ref C1) (.type "BaseException") = some true)
    (tC1 : PySem.W.typeIn K (.ref C1) = some (.type "type"))
    (aC2 : PySem.W.nsIn K mainGlobals "InvalidSituation" = some (some (.ref C2)))
    (xL2 : K.lookup C2 = some (excClassObj nm2 q2 C2 N2 bs2 [.type "ValueError", .type "Exception", .type "BaseException", .type "object"] true sn2 sub2 ab2 col2 dd2 m0_2 m1_2 m2_2 m3_2 m5_2 "ValueError.__new__"))
    (sa2 : PySem.W.findIn K (.ref C2) "__setattr__" = some (some (.builtin "object.__setattr__")))
    (ga2 : PySem.W.findIn K (.ref C2) "__getattribute__" = some (some (.builtin "BaseException.__getattribute__")))
    (gg2 : PySem.W.findIn K (.ref C2) "__getattr__" = some none)
    (ca2 : PySem.W.findIn K (.ref C2) "__class__" = some (some (.builtin "object.__class__")))
    (nb0_2 : PySem.W.findIn K (.ref C2) "index" = some none)
    (iI2 : PySem.W.findIn K (.ref C2) "__init__" = some (some (.ref fI2)))
    (tI2 : PySem.W.typeIn K (.ref fI2) = some (.type "function"))
    (lI2 : K.lookup fI2 = some ⟨oc13, od13, .func (PySem.W.fnOf "__init__" "InvalidSituation.__init__" (defArgs s_InvalidSituation) (defBody s_InvalidSituation) (defScope s_InvalidSituation) .none kV13 dc13 pm13 an13 cd13 ct13), sl13⟩)
    (cI2 : PySem.W.codeIn K cd13 "InvalidSituation.__init__" = true)
    (kI2 : PySem.W.keepIn K (.ref fI2) = true)
    (kC2 : PySem.W.keepIn K (.ref C2) = true)
    (eC2 : PySem.W.subIn K (.ref C2) (.type "BaseException") = some true)
    (tC2 : PySem.W.typeIn K (.ref C2) = some (.type "type"))
    (aC3 : PySem.W.nsIn K mainGlobals "InvalidOptions" = some (some (.ref C3)))
    (xL3 : K.lookup C3 = some (excClassObj nm3 q3 C3 N3 bs3 [.type "ValueError", .type "Exception", .type "BaseException", .type "object"] true sn3 sub3 ab3 col3 dd3 m0_3 m1_3 m2_3 m3_3 m5_3 "ValueError.__new__"))
    (sa3 : PySem.W.findIn K (.ref C3) "__setattr__" = some (some (.builtin "object.__setattr__")))
    (ga3 : PySem.W.findIn K (.ref C3) "__getattribute__" = some (some (.builtin "BaseException.__getattribute__")))
    (gg3 : PySem.W.findIn K (.ref C3) "__getattr__" = some none)
    (ca3 : PySem.W.findIn K (.ref C3) "__class__" = some (some (.builtin "object.__class__")))
    (nb0_3 : PySem.W.findIn K (.ref C3) "index" = some none)
    (iI3 : PySem.W.findIn K (.ref C3) "__init__" = some (some (.ref fI3)))
    (tI3 : PySem.W.typeIn K (.ref fI3) = some (.type "function"))
    (lI3 : K.lookup fI3 = some ⟨oc14, od14, .func (PySem.W.fnOf "__init__" "InvalidOptions.__init__" (defArgs s_InvalidOptions) (defBody s_InvalidOptions) (defScope s_InvalidOptions) .none kV14 dc14 pm14 an14 cd14 ct14), sl14⟩)
    (cI3 : PySem.W.codeIn K cd14 "InvalidOptions.__init__" = true)
    (kI3 : PySem.W.keepIn K (.ref fI3) = true)
    (kC3 : PySem.W.keepIn K (.ref C3) = true)
    (eC3 : PySem.W.subIn K (.ref C3) (.type "BaseException") = some true)
    (tC3 : PySem.W.typeIn K (.ref C3) = some (.type "type"))
    (aC4 : PySem.W.nsIn K mainGlobals "InvalidNumbers" = some (some (.ref C4)))
    (xL4 : K.lookup C4 = some (excClassObj nm4 q4 C4 N4 bs4 [.type "ValueError", .type "Exception", .type "BaseException", .type "object"] true sn4 sub4 ab4 col4 dd4 m0_4 m1_4 m2_4 m3_4 m5_4 "ValueError.__new__"))
    (sa4 : PySem.W.findIn K (.ref C4) "__setattr__" = some (some (.builtin "object.__setattr__")))
    (ga4 : PySem.W.findIn K (.ref C4) "__getattribute__" = some (some (.builtin "BaseException.__getattribute__")))
    (gg4 : PySem.W.findIn K (.ref C4) "__getattr__" = some none)
    (ca4 : PySem.W.findIn K (.ref C4) "__class__" = some (some (.builtin "object.__class__")))
    (iI4 : PySem.W.findIn K (.ref C4) "__init__" = some (some (.ref fI4)))
    (tI4 : PySem.W.typeIn K (.ref fI4) = some (.type "function"))
    (lI4 : K.lookup fI4 = some ⟨oc15, od15, .func (PySem.W.fnOf "__init__" "InvalidNumbers.__init__" (defArgs s_InvalidNumbers) (defBody s_InvalidNumbers) (defScope s_InvalidNumbers) .none kV15 dc15 pm15 an15 cd15 ct15), sl15⟩)
    (cI4 : PySem.W.codeIn K cd15 "InvalidNumbers.__init__" = true)
    (kI4 : PySem.W.keepIn K (.ref fI4) = true)
    (kC4 : PySem.W.keepIn K (.ref C4) = true)
    (eC4 : PySem.W.subIn K (.ref C4) (.type "BaseException") = some true)
    (tC4 : PySem.W.typeIn K (.ref C4) = some (.type "type"))
    (aC5 : PySem.W.nsIn K mainGlobals "InvalidStarts" = some (some (.ref C5)))
    (xL5 : K.lookup C5 = some (excClassObj nm5 q5 C5 N5 bs5 [.type "ValueError", .type "Exception", .type "BaseException", .type "object"] true sn5 sub5 ab5 col5 dd5 m0_5 m1_5 m2_5 m3_5 m5_5 "ValueError.__new__"))
    (sa5 : PySem.W.findIn K (.ref C5) "__setattr__" = some (some (.builtin "object.__setattr__")))
    (ga5 : PySem.W.findIn K (.ref C5) "__getattribute__" = some (some (.builtin "BaseException.__getattribute__")))
    (gg5 : PySem.W.findIn K (.ref C5) "__getattr__" = some none)
    (ca5 : PySem.W.findIn K (.ref C5) "__class__" = some (some (.builtin "object.__class__")))
    (nb0_5 : PySem.W.findIn K (.ref C5) "index" = some none)
    (iI5 : PySem.W.findIn K (.ref C5) "__init__" = some (some (.ref fI5)))
    (tI5 : PySem.W.typeIn K (.ref fI5) = some (.type "function"))
    (lI5 : K.lookup fI5 = some ⟨oc16, od16, .func (PySem.W.fnOf "__init__" "InvalidStarts.__init__" (defArgs s_InvalidStarts) (defBody s_InvalidStarts) (defScope s_InvalidStarts) .none kV16 dc16 pm16 an16 cd16 ct16), sl16⟩)
    (cI5 : PySem.W.codeIn K cd16 "InvalidStarts.__init__" = true)
    (kI5 : PySem.W.keepIn K (.ref fI5) = true)
    (kC5 : PySem.W.keepIn K (.ref C5) = true)
    (eC5 : PySem.W.subIn K (.ref C5) (.type "BaseException") = some true)
    (tC5 : PySem.W.typeIn K (.ref C5) = some (.type "type"))
    (aC6 : PySem.W.nsIn K mainGlobals "InvalidClaim" = some (some (.ref C6)))
    (xL6 : K.lookup C6 = some (excClassObj nm6 q6 C6 N6 bs6 [.type "ValueError", .type "Exception", .type "BaseException", .type "object"] true sn6 sub6 ab6 col6 dd6 m0_6 m1_6 m2_6 m3_6 m5_6 "ValueError.__new__"))
    (sa6 : PySem.W.findIn K (.ref C6) "__setattr__" = some (some (.builtin "object.__setattr__")))
    (ga6 : PySem.W.findIn K (.ref C6) "__getattribute__" = some (some (.builtin "BaseException.__getattribute__")))
    (gg6 : PySem.W.findIn K (.ref C6) "__getattr__" = some none)
    (ca6 : PySem.W.findIn K (.ref C6) "__class__" = some (some (.builtin "object.__class__")))
    (iI6 : PySem.W.findIn K (.ref C6) "__init__" = some (some (.ref fI6)))
    (tI6 : PySem.W.typeIn K (.ref fI6) = some (.type "function"))
    (lI6 : K.lookup fI6 = some ⟨oc17, od17, .func (PySem.W.fnOf "__init__" "InvalidClaim.__init__" (defArgs s_InvalidClaim) (defBody s_InvalidClaim) (defScope s_InvalidClaim) .none kV17 dc17 pm17 an17 cd17 ct17), sl17⟩)
    (cI6 : PySem.W.codeIn K cd17 "InvalidClaim.__init__" = true)
    (kI6 : PySem.W.keepIn K (.ref fI6) = true)
    (kC6 : PySem.W.keepIn K (.ref C6) = true)
    (eC6 : PySem.W.subIn K (.ref C6) (.type "BaseException") = some true)
    (tC6 : PySem.W.typeIn K (.ref C6) = some (.type "type"))
    (aC7 : PySem.W.nsIn K mainGlobals "ParseError" = some (some (.ref C7)))
    (xL7 : K.lookup C7 = some (excClassObj nm7 q7 C7 N7 bs7 [.type "ValueError", .type "Exception", .type "BaseException", .type "object"] true sn7 sub7 ab7 col7 dd7 m0_7 m1_7 m2_7 m3_7 m5_7 "ValueError.__new__"))
    (sa7 : PySem.W.findIn K (.ref C7) "__setattr__" = some (some (.builtin "object.__setattr__")))
    (ga7 : PySem.W.findIn K (.ref C7) "__getattribute__" = some (some (.builtin "BaseException.__getattribute__")))
    (gg7 : PySem.W.findIn K (.ref C7) "__getattr__" = some none)
    (ca7 : PySem.W.findIn K (.ref C7) "__class__" = some (some (.builtin "object.__class__")))
    (nb0_7 : PySem.W.findIn K (.ref C7) "line" = some none)
    (iI7 : PySem.W.findIn K (.ref C7) "__init__" = some (some (.ref fI7)))
    (tI7 : PySem.W.typeIn K (.ref fI7) = some (.type "function"))
    (lI7 : K.lookup fI7 = some ⟨oc18, od18, .func (PySem.W.fnOf "__init__" "ParseError.__init__" (defArgs s_ParseError) (defBody s_ParseError) (defScope s_ParseError) .none kV18 dc18 pm18 an18 cd18 ct18), sl18⟩)
    (cI7 : PySem.W.codeIn K cd18 "ParseError.__init__" = true)
    (kI7 : PySem.W.keepIn K (.ref fI7) = true)
    (kC7 : PySem.W.keepIn K (.ref C7) = true)
    (eC7 : PySem.W.subIn K (.ref C7) (.type "BaseException") = some true)
    (tC7 : PySem.W.typeIn K (.ref C7) = some (.type "type"))
    (aC8 : PySem.W.nsIn K mainGlobals "UnknownMember" = some (some (.ref C8)))
    (xL8 : K.lookup C8 = some (excClassObj nm8 q8 C8 N8 bs8 [.type "LookupError", .type "Exception", .type "BaseException", .type "object"] true sn8 sub8 ab8 col8 dd8 m0_8 m1_8 m2_8 m3_8 m5_8 "LookupError.__new__"))
    (sa8 : PySem.W.findIn K (.ref C8) "__setattr__" = some (some (.builtin "object.__setattr__")))
    (ga8 : PySem.W.findIn K (.ref C8) "__getattribute__" = some (some (.builtin "BaseException.__getattribute__")))
    (gg8 : PySem.W.findIn K (.ref C8) "__getattr__" = some none)
    (ca8 : PySem.W.findIn K (.ref C8) "__class__" = some (some (.builtin "object.__class__")))
    (nb0_8 : PySem.W.findIn K (.ref C8) "value" = some none)
    (iI8 : PySem.W.findIn K (.ref C8) "__init__" = some (some (.ref fI8)))
    (tI8 : PySem.W.typeIn K (.ref fI8) = some (.type "function"))
    (lI8 : K.lookup fI8 = some ⟨oc19, od19, .func (PySem.W.fnOf "__init__" "UnknownMember.__init__" (defArgs s_UnknownMember) (defBody s_UnknownMember) (defScope s_UnknownMember) .none kV19 dc19 pm19 an19 cd19 ct19), sl19⟩)
    (cI8 : PySem.W.codeIn K cd19 "UnknownMember.__init__" = true)
    (kI8 : PySem.W.keepIn K (.ref fI8) = true)
    (kC8 : PySem.W.keepIn K (.ref C8) = true)
    (eC8 : PySem.W.subIn K (.ref C8) (.type "BaseException") = some true)
    (tC8 : PySem.W.typeIn K (.ref C8) = some (.type "type"))
    (aC9 : PySem.W.nsIn K mainGlobals "CannotTake" = some (some (.ref C9)))
    (xL9 : K.lookup C9 = some (excClassObj nm9 q9 C9 N9 bs9 [.type "RuntimeError", .type "Exception", .type "BaseException", .type "object"] true sn9 sub9 ab9 col9 dd9 m0_9 m1_9 m2_9 m3_9 m5_9 "RuntimeError.__new__"))
    (sa9 : PySem.W.findIn K (.ref C9) "__setattr__" = some (some (.builtin "object.__setattr__")))
    (ga9 : PySem.W.findIn K (.ref C9) "__getattribute__" = some (some (.builtin "BaseException.__getattribute__")))
    (gg9 : PySem.W.findIn K (.ref C9) "__getattr__" = some none)
    (ca9 : PySem.W.findIn K (.ref C9) "__class__" = some (some (.builtin "object.__class__")))
    (nb0_9 : PySem.W.findIn K (.ref C9) "index" = some none)
    (iI9 : PySem.W.findIn K (.ref C9) "__init__" = some (some (.ref fI9)))
    (tI9 : PySem.W.typeIn K (.ref fI9) = some (.type "function"))
    (lI9 : K.lookup fI9 = some ⟨oc20, od20, .func (PySem.W.fnOf "__init__" "CannotTake.__init__" (defArgs s_CannotTake) (defBody s_CannotTake) (defScope s_CannotTake) .none kV20 dc20 pm20 an20 cd20 ct20), sl20⟩)
    (cI9 : PySem.W.codeIn K cd20 "CannotTake.__init__" = true)
    (kI9 : PySem.W.keepIn K (.ref fI9) = true)
    (kC9 : PySem.W.keepIn K (.ref C9) = true)
    (eC9 : PySem.W.subIn K (.ref C9) (.type "BaseException") = some true)
    (tC9 : PySem.W.typeIn K (.ref C9) = some (.type "type"))
    (aC10 : PySem.W.nsIn K mainGlobals "CannotAct" = some (some (.ref C10)))
    (xL10 : K.lookup C10 = some (excClassObj nm10 q10 C10 N10 bs10 [.type "RuntimeError", .type "Exception", .type "BaseException", .type "object"] true sn10 sub10 ab10 col10 dd10 m0_10 m1_10 m2_10 m3_10 m5_10 "RuntimeError.__new__"))
    (sa10 : PySem.W.findIn K (.ref C10) "__setattr__" = some (some (.builtin "object.__setattr__")))
    (ga10 : PySem.W.findIn K (.ref C10) "__getattribute__" = some (some (.builtin "BaseException.__getattribute__")))
    (gg10 : PySem.W.findIn K (.ref C10) "__getattr__" = some none)
    (ca10 : PySem.W.findIn K (.ref C10) "__class__" = some (some (.builtin "object.__class__")))
    (iI10 : PySem.W.findIn K (.ref C10) "__init__" = some (some (.ref fI10)))
    (tI10 : PySem.W.typeIn K (.ref fI10) = some (.type "function"))
    (lI10 : K.lookup fI10 = some ⟨oc21, od21, .func (PySem.W.fnOf "__init__" "CannotAct.__init__" (defArgs s_CannotAct) (defBody s_CannotAct) (defScope s_CannotAct) .none kV21 dc21 pm21 an21 cd21 ct21), sl21⟩)
    (cI10 : PySem.W.codeIn K cd21 "CannotAct.__init__" = true)
    (kI10 : PySem.W.keepIn K (.ref fI10) = true)
    (kC10 : PySem.W.keepIn K (.ref C10) = true)
    (eC10 : PySem.W.subIn K (.ref C10) (.type "BaseException") = some true)
    (tC10 : PySem.W.typeIn K (.ref C10) = some (.type "type"))
    (aC11 : PySem.W.nsIn K mainGlobals "CannotDeliver" = some (some (.ref C11)))
    (xL11 : K.lookup C11 = some (excClassObj nm11 q11 C11 N11 bs11 [.type "RuntimeError", .type "Exception", .type "BaseException", .type "object"] true sn11 sub11 ab11 col11 dd11 m0_11 m1_11 m2_11 m3_11 m5_11 "RuntimeError.__new__"))
    (sa11 : PySem.W.findIn K (.ref C11) "__setattr__" = some (some (.builtin "object.__setattr__")))
    (ga11 : PySem.W.findIn K (.ref C11) "__getattribute__" = some (some (.builtin "BaseException.__getattribute__")))
    (gg11 : PySem.W.findIn K (.ref C11) "__getattr__" = some none)
    (ca11 : PySem.W.findIn K (.ref C11) "__class__" = some (some (.builtin "object.__class__")))
    (iI11 : PySem.W.findIn K (.ref C11) "__init__" = some (some (.ref fI11)))
    (tI11 : PySem.W.typeIn K (.ref fI11) = some (.type "function"))
    (lI11 : K.lookup fI11 = some ⟨oc22, od22, .func (PySem.W.fnOf "__init__" "CannotDeliver.__init__" (defArgs s_CannotDeliver) (defBody s_CannotDeliver) (defScope s_CannotDeliver) .none kV22 dc22 pm22 an22 cd22 ct22), sl22⟩)
    (cI11 : PySem.W.codeIn K cd22 "CannotDeliver.__init__" = true)
    (kI11 : PySem.W.keepIn K (.ref fI11) = true)
    (kC11 : PySem.W.keepIn K (.ref C11) = true)
    (eC11 : PySem.W.subIn K (.ref C11) (.type "BaseException") = some true)
    (tC11 : PySem.W.typeIn K (.ref C11) = some (.type "type"))
    (aC12 : PySem.W.nsIn K mainGlobals "Refused" = some (some (.ref C12)))
    (xL12 : K.lookup C12 = some (excClassObj nm12 q12 C12 N12 bs12 [.type "RuntimeError", .type "Exception", .type "BaseException", .type "object"] true sn12 sub12 ab12 col12 dd12 m0_12 m1_12 m2_12 m3_12 m5_12 "RuntimeError.__new__"))
    (sa12 : PySem.W.findIn K (.ref C12) "__setattr__" = some (some (.builtin "object.__setattr__")))
    (ga12 : PySem.W.findIn K (.ref C12) "__getattribute__" = some (some (.builtin "BaseException.__getattribute__")))
    (gg12 : PySem.W.findIn K (.ref C12) "__getattr__" = some none)
    (ca12 : PySem.W.findIn K (.ref C12) "__class__" = some (some (.builtin "object.__class__")))
    (nb0_12 : PySem.W.findIn K (.ref C12) "index" = some none)
    (nb1_12 : PySem.W.findIn K (.ref C12) "reason" = some none)
    (iI12 : PySem.W.findIn K (.ref C12) "__init__" = some (some (.ref fI12)))
    (tI12 : PySem.W.typeIn K (.ref fI12) = some (.type "function"))
    (lI12 : K.lookup fI12 = some ⟨oc23, od23, .func (PySem.W.fnOf "__init__" "Refused.__init__" (defArgs s_Refused) (defBody s_Refused) (defScope s_Refused) .none kV23 dc23 pm23 an23 cd23 ct23), sl23⟩)
    (cI12 : PySem.W.codeIn K cd23 "Refused.__init__" = true)
    (kI12 : PySem.W.keepIn K (.ref fI12) = true)
    (kC12 : PySem.W.keepIn K (.ref C12) = true)
    (eC12 : PySem.W.subIn K (.ref C12) (.type "BaseException") = some true)
    (tC12 : PySem.W.typeIn K (.ref C12) = some (.type "type"))
    (aC13 : PySem.W.nsIn K mainGlobals "NothingDone" = some (some (.ref C13)))
    (xL13 : K.lookup C13 = some (excClassObj nm13 q13 C13 N13 bs13 [.type "RuntimeError", .type "Exception", .type "BaseException", .type "object"] true sn13 sub13 ab13 col13 dd13 m0_13 m1_13 m2_13 m3_13 m5_13 "RuntimeError.__new__"))
    (sa13 : PySem.W.findIn K (.ref C13) "__setattr__" = some (some (.builtin "object.__setattr__")))
    (ga13 : PySem.W.findIn K (.ref C13) "__getattribute__" = some (some (.builtin "BaseException.__getattribute__")))
    (gg13 : PySem.W.findIn K (.ref C13) "__getattr__" = some none)
    (ca13 : PySem.W.findIn K (.ref C13) "__class__" = some (some (.builtin "object.__class__")))
    (iI13 : PySem.W.findIn K (.ref C13) "__init__" = some (some (.ref fI13)))
    (tI13 : PySem.W.typeIn K (.ref fI13) = some (.type "function"))
    (lI13 : K.lookup fI13 = some ⟨oc24, od24, .func (PySem.W.fnOf "__init__" "NothingDone.__init__" (defArgs s_NothingDone) (defBody s_NothingDone) (defScope s_NothingDone) .none kV24 dc24 pm24 an24 cd24 ct24), sl24⟩)
    (cI13 : PySem.W.codeIn K cd24 "NothingDone.__init__" = true)
    (kI13 : PySem.W.keepIn K (.ref fI13) = true)
    (kC13 : PySem.W.keepIn K (.ref C13) = true)
    (eC13 : PySem.W.subIn K (.ref C13) (.type "BaseException") = some true)
    (tC13 : PySem.W.typeIn K (.ref C13) = some (.type "type"))
    (aC14 : PySem.W.nsIn K mainGlobals "LimitExceeded" = some (some (.ref C14)))
    (xL14 : K.lookup C14 = some (excClassObj nm14 q14 C14 N14 bs14 [.type "OverflowError", .type "ArithmeticError", .type "Exception", .type "BaseException", .type "object"] true sn14 sub14 ab14 col14 dd14 m0_14 m1_14 m2_14 m3_14 m5_14 "OverflowError.__new__"))
    (sa14 : PySem.W.findIn K (.ref C14) "__setattr__" = some (some (.builtin "object.__setattr__")))
    (ga14 : PySem.W.findIn K (.ref C14) "__getattribute__" = some (some (.builtin "BaseException.__getattribute__")))
    (gg14 : PySem.W.findIn K (.ref C14) "__getattr__" = some none)
    (ca14 : PySem.W.findIn K (.ref C14) "__class__" = some (some (.builtin "object.__class__")))
    (nb0_14 : PySem.W.findIn K (.ref C14) "limit" = some none)
    (iI14 : PySem.W.findIn K (.ref C14) "__init__" = some (some (.ref fI14)))
    (tI14 : PySem.W.typeIn K (.ref fI14) = some (.type "function"))
    (lI14 : K.lookup fI14 = some ⟨oc25, od25, .func (PySem.W.fnOf "__init__" "LimitExceeded.__init__" (defArgs s_LimitExceeded) (defBody s_LimitExceeded) (defScope s_LimitExceeded) .none kV25 dc25 pm25 an25 cd25 ct25), sl25⟩)
    (cI14 : PySem.W.codeIn K cd25 "LimitExceeded.__init__" = true)
    (kI14 : PySem.W.keepIn K (.ref fI14) = true)
    (kC14 : PySem.W.keepIn K (.ref C14) = true)
    (eC14 : PySem.W.subIn K (.ref C14) (.type "BaseException") = some true)
    (tC14 : PySem.W.typeIn K (.ref C14) = some (.type "type"))
    (cnG : PySem.W.specialIn K (.builtin "object.__class__") "__get__" = some (some (.builtin "getset_descriptor.__get__")))
    (ctG : PySem.W.takesIn K (.builtin "object.__class__") = some true)
    (hnd : List.Nodup [C0, C1, C2, C3, C4, C5, C6, C7, C8, C9, C10, C11, C12, C13, C14])
    (z_IndexError : PySem.W.nsIn K mainGlobals "IndexError" = some none)
    (z_KeyError : PySem.W.nsIn K mainGlobals "KeyError" = some none)
    (z_LookupError : PySem.W.nsIn K mainGlobals "LookupError" = some none)
    (z_NotImplementedError : PySem.W.nsIn K mainGlobals "NotImplementedError" = some none)
    (z_OverflowError : PySem.W.nsIn K mainGlobals "OverflowError" = some none)
    (z_RuntimeError : PySem.W.nsIn K mainGlobals "RuntimeError" = some none)
    (z_ValueError : PySem.W.nsIn K mainGlobals "ValueError" = some none)
    (z_enumerate : PySem.W.nsIn K mainGlobals "enumerate" = some none)
    (z_int : PySem.W.nsIn K mainGlobals "int" = some none)
    (z_isinstance : PySem.W.nsIn K mainGlobals "isinstance" = some none)
    (z_len : PySem.W.nsIn K mainGlobals "len" = some none)
    (z_list : PySem.W.nsIn K mainGlobals "list" = some none)
    (z_range : PySem.W.nsIn K mainGlobals "range" = some none)
    (z_repr : PySem.W.nsIn K mainGlobals "repr" = some none)
    : ∃ fd : FuncData, (∀ (s : Shared) (u : Value), BindsTo s fd ⟨[u], []⟩ [("script", u)]) ∧ ∀ base : Heap, K.In base → base.Ns mainGlobals mg → (∃ o, base.get? sysModules = some o) → FnG P w K mg base 5 fa fd ["script"] (c_law.sp K) := by
  have e := hfa.symm.trans (PySem.W.mg_of X G a10)
  cases e
  have T : Txt K mg := ⟨PySem.W.mg_none_of X G z_IndexError, PySem.W.mg_none_of X G z_KeyError, PySem.W.mg_none_of X G z_LookupError, PySem.W.mg_none_of X G z_NotImplementedError, PySem.W.mg_none_of X G z_OverflowError, PySem.W.mg_none_of X G z_RuntimeError, PySem.W.mg_none_of X G z_ValueError, PySem.W.mg_none_of X G z_enumerate, PySem.W.mg_none_of X G z_int, PySem.W.mg_none_of X G z_isinstance, PySem.W.mg_none_of X G z_len, PySem.W.mg_none_of X G z_list, PySem.W.mg_none_of X G z_range, PySem.W.mg_none_of X G z_repr⟩
  have D__law_pen : Def K mg "_law_pen" s__law_pen ["script"] f__law_pen _ := Def.mk' X G a0 l0 c0 k0 fun us hl => match us, hl with | [_], _ => rfl
  have D__law_fresh : Def K mg "_law_fresh" s__law_fresh ["pen"] f__law_fresh _ := Def.mk' X G a1 l1 c1 k1 fun us hl => match us, hl with | [_], _ => rfl
  have D__law_draw : Def K mg "_law_draw" s__law_draw ["pen", "bound"] f__law_draw _ := Def.mk' X G a2 l2 c2 k2 fun us hl => match us, hl with | [_, _], _ => rfl
  have D__law_one_of : Def K mg "_law_one_of" s__law_one_of ["pen", "some"] f__law_one_of _ := Def.mk' X G a3 l3 c3 k3 fun us hl => match us, hl with | [_, _], _ => rfl
  have D__law_which : Def K mg "_law_which" s__law_which ["e"] f__law_which _ := Def.mk' X G a4 l4 c4 k4 fun us hl => match us, hl with | [_], _ => rfl
  have D__law_last : Def K mg "_law_last" s__law_last ["e"] f__law_last _ := Def.mk' X G a5 l5 c5 k5 fun us hl => match us, hl with | [_], _ => rfl
  have D__law_base : Def K mg "_law_base" s__law_base ["e"] f__law_base _ := Def.mk' X G a6 l6 c6 k6 fun us hl => match us, hl with | [_], _ => rfl
  have D__law_right : Def K mg "_law_right" s__law_right ["seat", "base", "made"] f__law_right _ := Def.mk' X G a7 l7 c7 k7 fun us hl => match us, hl with | [_, _, _], _ => rfl
  have D__law_indexed : Def K mg "_law_indexed" s__law_indexed ["count"] f__law_indexed _ := Def.mk' X G a8 l8 c8 k8 fun us hl => match us, hl with | [_], _ => rfl
  have D__law_others : Def K mg "_law_others" s__law_others ["count", "thing"] f__law_others _ := Def.mk' X G a9 l9 c9 k9 fun us hl => match us, hl with | [_, _], _ => rfl
  have D_law : Def K mg "law" s_law ["script"] fa _ := Def.mk' X G a10 l10 c10 k10 fun us hl => match us, hl with | [_], _ => rfl
  have FI0 := fun_mk (st := s_InvalidResilience) lI0 cI0 kI0
  have E0 : XEr K mg "InvalidResilience" ["index"] C0 fI0 (PySem.W.fnOf "__init__" "InvalidResilience.__init__" (defArgs s_InvalidResilience) (defBody s_InvalidResilience) (defScope s_InvalidResilience) .none kV11 dc11 pm11 an11 cd11 ct11) := ⟨⟨⟨nm0, q0, N0, bs0, _, sn0, sub0, ab0, col0, dd0, m0_0, m1_0, m2_0, m3_0, m5_0, _, _, xL0, over_Value⟩, sa0, eC0, tC0, kC0⟩, iI0, tI0, PySem.W.mg_of X G aC0, fun f hf => List.mem_singleton.mp hf ▸ nb0_0, fun s u ws hl => match ws, hl with | [_], _ => .of_eq rfl, fun s u ws hl => match ws, hl with | [_], _ => .of_eq rfl⟩
  have X0 : XCl K C0 VE := ⟨⟨nm0, q0, N0, bs0, sn0, sub0, ab0, col0, dd0, m0_0, m1_0, m2_0, m3_0, m5_0, _, xL0⟩, fun _ => rfl, by decide +kernel, by decide +kernel, tC0, ga0, gg0, ca0, cnG, ctG⟩
  have FI1 := fun_mk (st := s_InvalidProtocol) lI1 cI1 kI1
  have E1 : XEr K mg "InvalidProtocol" ["part"] C1 fI1 (PySem.W.fnOf "__init__" "InvalidProtocol.__init__" (defArgs s_InvalidProtocol) (defBody s_InvalidProtocol) (defScope s_InvalidProtocol) .none kV12 dc12 pm12 an12 cd12 ct12) := ⟨⟨⟨nm1, q1, N1, bs1, _, sn1, sub1, ab1, col1, dd1, m0_1, m1_1, m2_1, m3_1, m5_1, _, _, xL1, over_Value⟩, sa1, eC1, tC1, kC1⟩, iI1, tI1, PySem.W.mg_of X G aC1, fun f hf => List.mem_singleton.mp hf ▸ nb0_1, fun s u ws hl => match ws, hl with | [_], _ => .of_eq rfl, fun s u ws hl => match ws, hl with | [_], _ => .of_eq rfl⟩
  have X1 : XCl K C1 VE := ⟨⟨nm1, q1, N1, bs1, sn1, sub1, ab1, col1, dd1, m0_1, m1_1, m2_1, m3_1, m5_1, _, xL1⟩, fun _ => rfl, by decide +kernel, by decide +kernel, tC1, ga1, gg1, ca1, cnG, ctG⟩
  have FI2 := fun_mk (st := s_InvalidSituation) lI2 cI2 kI2
  have E2 : XEr K mg "InvalidSituation" ["index"] C2 fI2 (PySem.W.fnOf "__init__" "InvalidSituation.__init__" (defArgs s_InvalidSituation) (defBody s_InvalidSituation) (defScope s_InvalidSituation) .none kV13 dc13 pm13 an13 cd13 ct13) := ⟨⟨⟨nm2, q2, N2, bs2, _, sn2, sub2, ab2, col2, dd2, m0_2, m1_2, m2_2, m3_2, m5_2, _, _, xL2, over_Value⟩, sa2, eC2, tC2, kC2⟩, iI2, tI2, PySem.W.mg_of X G aC2, fun f hf => List.mem_singleton.mp hf ▸ nb0_2, fun s u ws hl => match ws, hl with | [_], _ => .of_eq rfl, fun s u ws hl => match ws, hl with | [_], _ => .of_eq rfl⟩
  have X2 : XCl K C2 VE := ⟨⟨nm2, q2, N2, bs2, sn2, sub2, ab2, col2, dd2, m0_2, m1_2, m2_2, m3_2, m5_2, _, xL2⟩, fun _ => rfl, by decide +kernel, by decide +kernel, tC2, ga2, gg2, ca2, cnG, ctG⟩
  have FI3 := fun_mk (st := s_InvalidOptions) lI3 cI3 kI3
  have E3 : XEr K mg "InvalidOptions" ["index"] C3 fI3 (PySem.W.fnOf "__init__" "InvalidOptions.__init__" (defArgs s_InvalidOptions) (defBody s_InvalidOptions) (defScope s_InvalidOptions) .none kV14 dc14 pm14 an14 cd14 ct14) := ⟨⟨⟨nm3, q3, N3, bs3, _, sn3, sub3, ab3, col3, dd3, m0_3, m1_3, m2_3, m3_3, m5_3, _, _, xL3, over_Value⟩, sa3, eC3, tC3, kC3⟩, iI3, tI3, PySem.W.mg_of X G aC3, fun f hf => List.mem_singleton.mp hf ▸ nb0_3, fun s u ws hl => match ws, hl with | [_], _ => .of_eq rfl, fun s u ws hl => match ws, hl with | [_], _ => .of_eq rfl⟩
  have X3 : XCl K C3 VE := ⟨⟨nm3, q3, N3, bs3, sn3, sub3, ab3, col3, dd3, m0_3, m1_3, m2_3, m3_3, m5_3, _, xL3⟩, fun _ => rfl, by decide +kernel, by decide +kernel, tC3, ga3, gg3, ca3, cnG, ctG⟩
  have FI4 := fun_mk (st := s_InvalidNumbers) lI4 cI4 kI4
  have E4 : XEr K mg "InvalidNumbers" [] C4 fI4 (PySem.W.fnOf "__init__" "InvalidNumbers.__init__" (defArgs s_InvalidNumbers) (defBody s_InvalidNumbers) (defScope s_InvalidNumbers) .none kV15 dc15 pm15 an15 cd15 ct15) := ⟨⟨⟨nm4, q4, N4, bs4, _, sn4, sub4, ab4, col4, dd4, m0_4, m1_4, m2_4, m3_4, m5_4, _, _, xL4, over_Value⟩, sa4, eC4, tC4, kC4⟩, iI4, tI4, PySem.W.mg_of X G aC4, (fun f hf => nomatch hf), fun s u ws hl => match ws, hl with | [], _ => .of_eq rfl, fun s u ws hl => match ws, hl with | [], _ => .of_eq rfl⟩
  have X4 : XCl K C4 VE := ⟨⟨nm4, q4, N4, bs4, sn4, sub4, ab4, col4, dd4, m0_4, m1_4, m2_4, m3_4, m5_4, _, xL4⟩, fun _ => rfl, by decide +kernel, by decide +kernel, tC4, ga4, gg4, ca4, cnG, ctG⟩
  have FI5 := fun_mk (st := s_InvalidStarts) lI5 cI5 kI5
  have E5 : XEr K mg "InvalidStarts" ["index"] C5 fI5 (PySem.W.fnOf "__init__" "InvalidStarts.__init__" (defArgs s_InvalidStarts) (defBody s_InvalidStarts) (defScope s_InvalidStarts) .none kV16 dc16 pm16 an16 cd16 ct16) := ⟨⟨⟨nm5, q5, N5, bs5, _, sn5, sub5, ab5, col5, dd5, m0_5, m1_5, m2_5, m3_5, m5_5, _, _, xL5, over_Value⟩, sa5, eC5, tC5, kC5⟩, iI5, tI5, PySem.W.mg_of X G aC5, fun f hf => List.mem_singleton.mp hf ▸ nb0_5, fun s u ws hl => match ws, hl with | [_], _ => .of_eq rfl, fun s u ws hl => match ws, hl with | [_], _ => .of_eq rfl⟩
  have X5 : XCl K C5 VE := ⟨⟨nm5, q5, N5, bs5, sn5, sub5, ab5, col5, dd5, m0_5, m1_5, m2_5, m3_5, m5_5, _, xL5⟩, fun _ => rfl, by decide +kernel, by decide +kernel, tC5, ga5, gg5, ca5, cnG, ctG⟩
  have FI6 := fun_mk (st := s_InvalidClaim) lI6 cI6 kI6
  have E6 : XEr K mg "InvalidClaim" [] C6 fI6 (PySem.W.fnOf "__init__" "InvalidClaim.__init__" (defArgs s_InvalidClaim) (defBody s_InvalidClaim) (defScope s_InvalidClaim) .none kV17 dc17 pm17 an17 cd17 ct17) := ⟨⟨⟨nm6, q6, N6, bs6, _, sn6, sub6, ab6, col6, dd6, m0_6, m1_6, m2_6, m3_6, m5_6, _, _, xL6, over_Value⟩, sa6, eC6, tC6, kC6⟩, iI6, tI6, PySem.W.mg_of X G aC6, (fun f hf => nomatch hf), fun s u ws hl => match ws, hl with | [], _ => .of_eq rfl, fun s u ws hl => match ws, hl with | [], _ => .of_eq rfl⟩
  have X6 : XCl K C6 VE := ⟨⟨nm6, q6, N6, bs6, sn6, sub6, ab6, col6, dd6, m0_6, m1_6, m2_6, m3_6, m5_6, _, xL6⟩, fun _ => rfl, by decide +kernel, by decide +kernel, tC6, ga6, gg6, ca6, cnG, ctG⟩
  have FI7 := fun_mk (st := s_ParseError) lI7 cI7 kI7
  have E7 : XEr K mg "ParseError" ["line"] C7 fI7 (PySem.W.fnOf "__init__" "ParseError.__init__" (defArgs s_ParseError) (defBody s_ParseError) (defScope s_ParseError) .none kV18 dc18 pm18 an18 cd18 ct18) := ⟨⟨⟨nm7, q7, N7, bs7, _, sn7, sub7, ab7, col7, dd7, m0_7, m1_7, m2_7, m3_7, m5_7, _, _, xL7, over_Value⟩, sa7, eC7, tC7, kC7⟩, iI7, tI7, PySem.W.mg_of X G aC7, fun f hf => List.mem_singleton.mp hf ▸ nb0_7, fun s u ws hl => match ws, hl with | [_], _ => .of_eq rfl, fun s u ws hl => match ws, hl with | [_], _ => .of_eq rfl⟩
  have X7 : XCl K C7 VE := ⟨⟨nm7, q7, N7, bs7, sn7, sub7, ab7, col7, dd7, m0_7, m1_7, m2_7, m3_7, m5_7, _, xL7⟩, fun _ => rfl, by decide +kernel, by decide +kernel, tC7, ga7, gg7, ca7, cnG, ctG⟩
  have FI8 := fun_mk (st := s_UnknownMember) lI8 cI8 kI8
  have E8 : XEr K mg "UnknownMember" ["value"] C8 fI8 (PySem.W.fnOf "__init__" "UnknownMember.__init__" (defArgs s_UnknownMember) (defBody s_UnknownMember) (defScope s_UnknownMember) .none kV19 dc19 pm19 an19 cd19 ct19) := ⟨⟨⟨nm8, q8, N8, bs8, _, sn8, sub8, ab8, col8, dd8, m0_8, m1_8, m2_8, m3_8, m5_8, _, _, xL8, over_Lookup⟩, sa8, eC8, tC8, kC8⟩, iI8, tI8, PySem.W.mg_of X G aC8, fun f hf => List.mem_singleton.mp hf ▸ nb0_8, fun s u ws hl => match ws, hl with | [_], _ => .of_eq rfl, fun s u ws hl => match ws, hl with | [_], _ => .of_eq rfl⟩
  have X8 : XCl K C8 LE := ⟨⟨nm8, q8, N8, bs8, sn8, sub8, ab8, col8, dd8, m0_8, m1_8, m2_8, m3_8, m5_8, _, xL8⟩, fun _ => rfl, by decide +kernel, by decide +kernel, tC8, ga8, gg8, ca8, cnG, ctG⟩
  have FI9 := fun_mk (st := s_CannotTake) lI9 cI9 kI9
  have E9 : XEr K mg "CannotTake" ["index"] C9 fI9 (PySem.W.fnOf "__init__" "CannotTake.__init__" (defArgs s_CannotTake) (defBody s_CannotTake) (defScope s_CannotTake) .none kV20 dc20 pm20 an20 cd20 ct20) := ⟨⟨⟨nm9, q9, N9, bs9, _, sn9, sub9, ab9, col9, dd9, m0_9, m1_9, m2_9, m3_9, m5_9, _, _, xL9, over_Runtime⟩, sa9, eC9, tC9, kC9⟩, iI9, tI9, PySem.W.mg_of X G aC9, fun f hf => List.mem_singleton.mp hf ▸ nb0_9, fun s u ws hl => match ws, hl with | [_], _ => .of_eq rfl, fun s u ws hl => match ws, hl with | [_], _ => .of_eq rfl⟩
  have X9 : XCl K C9 RE := ⟨⟨nm9, q9, N9, bs9, sn9, sub9, ab9, col9, dd9, m0_9, m1_9, m2_9, m3_9, m5_9, _, xL9⟩, fun _ => rfl, by decide +kernel, by decide +kernel, tC9, ga9, gg9, ca9, cnG, ctG⟩
  have FI10 := fun_mk (st := s_CannotAct) lI10 cI10 kI10
  have E10 : XEr K mg "CannotAct" [] C10 fI10 (PySem.W.fnOf "__init__" "CannotAct.__init__" (defArgs s_CannotAct) (defBody s_CannotAct) (defScope s_CannotAct) .none kV21 dc21 pm21 an21 cd21 ct21) := ⟨⟨⟨nm10, q10, N10, bs10, _, sn10, sub10, ab10, col10, dd10, m0_10, m1_10, m2_10, m3_10, m5_10, _, _, xL10, over_Runtime⟩, sa10, eC10, tC10, kC10⟩, iI10, tI10, PySem.W.mg_of X G aC10, (fun f hf => nomatch hf), fun s u ws hl => match ws, hl with | [], _ => .of_eq rfl, fun s u ws hl => match ws, hl with | [], _ => .of_eq rfl⟩
  have X10 : XCl K C10 RE := ⟨⟨nm10, q10, N10, bs10, sn10, sub10, ab10, col10, dd10, m0_10, m1_10, m2_10, m3_10, m5_10, _, xL10⟩, fun _ => rfl, by decide +kernel, by decide +kernel, tC10, ga10, gg10, ca10, cnG, ctG⟩
  have FI11 := fun_mk (st := s_CannotDeliver) lI11 cI11 kI11
  have E11 : XEr K mg "CannotDeliver" [] C11 fI11 (PySem.W.fnOf "__init__" "CannotDeliver.__init__" (defArgs s_CannotDeliver) (defBody s_CannotDeliver) (defScope s_CannotDeliver) .none kV22 dc22 pm22 an22 cd22 ct22) := ⟨⟨⟨nm11, q11, N11, bs11, _, sn11, sub11, ab11, col11, dd11, m0_11, m1_11, m2_11, m3_11, m5_11, _, _, xL11, over_Runtime⟩, sa11, eC11, tC11, kC11⟩, iI11, tI11, PySem.W.mg_of X G aC11, (fun f hf => nomatch hf), fun s u ws hl => match ws, hl with | [], _ => .of_eq rfl, fun s u ws hl => match ws, hl with | [], _ => .of_eq rfl⟩
  have X11 : XCl K C11 RE := ⟨⟨nm11, q11, N11, bs11, sn11, sub11, ab11, col11, dd11, m0_11, m1_11, m2_11, m3_11, m5_11, _, xL11⟩, fun _ => rfl, by decide +kernel, by decide +kernel, tC11, ga11, gg11, ca11, cnG, ctG⟩
  have FI12 := fun_mk (st := s_Refused) lI12 cI12 kI12
  have E12 : XEr K mg "Refused" ["index", "reason"] C12 fI12 (PySem.W.fnOf "__init__" "Refused.__init__" (defArgs s_Refused) (defBody s_Refused) (defScope s_Refused) .none kV23 dc23 pm23 an23 cd23 ct23) := ⟨⟨⟨nm12, q12, N12, bs12, _, sn12, sub12, ab12, col12, dd12, m0_12, m1_12, m2_12, m3_12, m5_12, _, _, xL12, over_Runtime⟩, sa12, eC12, tC12, kC12⟩, iI12, tI12, PySem.W.mg_of X G aC12, fun f hf => (List.mem_cons.mp hf).elim (fun q => q ▸ nb0_12) (fun q => List.mem_singleton.mp q ▸ nb1_12), fun s u ws hl => match ws, hl with | [_, _], _ => .of_eq rfl, fun s u ws hl => match ws, hl with | [_, _], _ => .of_eq rfl⟩
  have X12 : XCl K C12 RE := ⟨⟨nm12, q12, N12, bs12, sn12, sub12, ab12, col12, dd12, m0_12, m1_12, m2_12, m3_12, m5_12, _, xL12⟩, fun _ => rfl, by decide +kernel, by decide +kernel, tC12, ga12, gg12, ca12, cnG, ctG⟩
  have FI13 := fun_mk (st := s_NothingDone) lI13 cI13 kI13
  have E13 : XEr K mg "NothingDone" [] C13 fI13 (PySem.W.fnOf "__init__" "NothingDone.__init__" (defArgs s_NothingDone) (defBody s_NothingDone) (defScope s_NothingDone) .none kV24 dc24 pm24 an24 cd24 ct24) := ⟨⟨⟨nm13, q13, N13, bs13, _, sn13, sub13, ab13, col13, dd13, m0_13, m1_13, m2_13, m3_13, m5_13, _, _, xL13, over_Runtime⟩, sa13, eC13, tC13, kC13⟩, iI13, tI13, PySem.W.mg_of X G aC13, (fun f hf => nomatch hf), fun s u ws hl => match ws, hl with | [], _ => .of_eq rfl, fun s u ws hl => match ws, hl with | [], _ => .of_eq rfl⟩
  have X13 : XCl K C13 RE := ⟨⟨nm13, q13, N13, bs13, sn13, sub13, ab13, col13, dd13, m0_13, m1_13, m2_13, m3_13, m5_13, _, xL13⟩, fun _ => rfl, by decide +kernel, by decide +kernel, tC13, ga13, gg13, ca13, cnG, ctG⟩
  have FI14 := fun_mk (st := s_LimitExceeded) lI14 cI14 kI14
  have E14 : XEr K mg "LimitExceeded" ["limit"] C14 fI14 (PySem.W.fnOf "__init__" "LimitExceeded.__init__" (defArgs s_LimitExceeded) (defBody s_LimitExceeded) (defScope s_LimitExceeded) .none kV25 dc25 pm25 an25 cd25 ct25) := ⟨⟨⟨nm14, q14, N14, bs14, _, sn14, sub14, ab14, col14, dd14, m0_14, m1_14, m2_14, m3_14, m5_14, _, _, xL14, over_Overflow⟩, sa14, eC14, tC14, kC14⟩, iI14, tI14, PySem.W.mg_of X G aC14, fun f hf => List.mem_singleton.mp hf ▸ nb0_14, fun s u ws hl => match ws, hl with | [_], _ => .of_eq rfl, fun s u ws hl => match ws, hl with | [_], _ => .of_eq rfl⟩
  have X14 : XCl K C14 OE := ⟨⟨nm14, q14, N14, bs14, sn14, sub14, ab14, col14, dd14, m0_14, m1_14, m2_14, m3_14, m5_14, _, xL14⟩, fun _ => rfl, by decide +kernel, by decide +kernel, tC14, ga14, gg14, ca14, cnG, ctG⟩
  refine ⟨PySem.W.fnOf "law" "law" (defArgs s_law) (defBody s_law) (defScope s_law) .none kV10 dc10 pm10 an10 cd10 ct10, fun s u => .of_eq rfl, fun base _ _ hsys => ?_⟩
  have cl : Cls P w K mg base fun i => List.getD [C0, C1, C2, C3, C4, C5, C6, C7, C8, C9, C10, C11, C12, C13, C14] i 0 := ⟨fun i hi => match i, hi with
    | 0, _ => ⟨_, _, E0, ok_init_InvalidResilience FI0⟩
    | 1, _ => ⟨_, _, E1, ok_init_InvalidProtocol FI1⟩
    | 2, _ => ⟨_, _, E2, ok_init_InvalidSituation FI2⟩
    | 3, _ => ⟨_, _, E3, ok_init_InvalidOptions FI3⟩
    | 4, _ => ⟨_, _, E4, ok_init_InvalidNumbers FI4⟩
    | 5, _ => ⟨_, _, E5, ok_init_InvalidStarts FI5⟩
    | 6, _ => ⟨_, _, E6, ok_init_InvalidClaim FI6⟩
    | 7, _ => ⟨_, _, E7, ok_init_ParseError FI7⟩
    | 8, _ => ⟨_, _, E8, ok_init_UnknownMember FI8⟩
    | 9, _ => ⟨_, _, E9, ok_init_CannotTake FI9⟩
    | 10, _ => ⟨_, _, E10, ok_init_CannotAct FI10⟩
    | 11, _ => ⟨_, _, E11, ok_init_CannotDeliver FI11⟩
    | 12, _ => ⟨_, _, E12, ok_init_Refused FI12⟩
    | 13, _ => ⟨_, _, E13, ok_init_NothingDone FI13⟩
    | 14, _ => ⟨_, _, E14, ok_init_LimitExceeded FI14⟩
    , fun i hi => match i, hi with
    | 0, _ => X0
    | 1, _ => X1
    | 2, _ => X2
    | 3, _ => X3
    | 4, _ => X4
    | 5, _ => X5
    | 6, _ => X6
    | 7, _ => X7
    | 8, _ => X8
    | 9, _ => X9
    | 10, _ => X10
    | 11, _ => X11
    | 12, _ => X12
    | 13, _ => X13
    | 14, _ => X14
    , nd_of hnd rfl⟩
  have F__law_pen := ok__law_pen (P := P) (w := w) (base := base) hsys T D__law_pen
  have F__law_fresh := ok__law_fresh (P := P) (w := w) (base := base) hsys T D__law_fresh
  have F__law_draw := ok__law_draw (P := P) (w := w) (base := base) hsys T D__law_draw D__law_fresh F__law_fresh
  have F__law_one_of := ok__law_one_of (P := P) (w := w) (base := base) hsys T D__law_one_of D__law_draw F__law_draw
  have F__law_last := ok__law_last (P := P) (w := w) (base := base) hsys T D__law_last cl
  have F__law_base := ok__law_base (P := P) (w := w) (base := base) hsys T D__law_base cl
  have F__law_which := ok__law_which (P := P) (w := w) (base := base) hsys T D__law_which D__law_last cl F__law_last
  have F__law_right := ok__law_right (P := P) (w := w) (base := base) hsys T D__law_right D__law_which D__law_base cl F__law_which F__law_base
  have F__law_indexed := ok__law_indexed (P := P) (w := w) (base := base) hsys T D__law_indexed D__law_right cl F__law_right
  have F__law_others := ok__law_others (P := P) (w := w) (base := base) hsys T D__law_others D__law_right cl F__law_right
  exact ok_law (P := P) (w := w) (base := base) hsys T D_law D__law_pen D__law_one_of D__law_draw D__law_indexed D__law_others D__law_right cl F__law_pen F__law_one_of F__law_draw F__law_indexed F__law_others F__law_right
end K86
open PySem PySem.W PyProof.Rows
set_option maxRecDepth 100000 in
set_option maxHeartbeats 0 in
theorem PySem.Challenge.cw_enoughheard_k86_errors_required_holds : PySem.Challenge.rw_enoughheard_k86_errors_required.Holds := by
  w_on; o_law; k_head; (case hw => w_witness2)
  k_fill
  refine HD.walk_G (l := PySem.Challenge.rw_enoughheard_k86_errors_required) (n := 63) (k := 5) (x := "script") (c := fun _ => K86.c_law) rfl (by decide) rfl ⟨rfl, by decide, by decide⟩ ?S (fun w h Y => PySem.W.kIn_of Y) ?F (fun _ a ns _ _ => ⟨a, ns, rfl⟩) (fun _ _ _ _ _ h => h) (fun _ _ _ _ _ _ h => h)
  case S => first | rfl | decide +kernel
  case F =>
    intro w mg fa h KX G hmg
    refine' K86.all_mk KX G hmg ?a0 ?l0 ?c0 ?k0 ?a1 ?l1 ?c1 ?k1 ?a2 ?l2 ?c2 ?k2 ?a3 ?l3 ?c3 ?k3 ?a4 ?l4 ?c4 ?k4 ?a5 ?l5 ?c5 ?k5 ?a6 ?l6 ?c6 ?k6 ?a7 ?l7 ?c7 ?k7 ?a8 ?l8 ?c8 ?k8 ?a9 ?l9 ?c9 ?k9 ?a10 ?l10 ?c10 ?k10 ?aC0 ?xL0 ?sa0 ?ga0 ?gg0 ?ca0 ?nb0_0 ?iI0 ?tI0 ?lI0 ?cI0 ?kI0 ?kC0 ?eC0 ?tC0 ?aC1 ?xL1 ?sa1 ?ga1 ?gg1 ?ca1 ?nb0_1 ?iI1 ?tI1 ?lI1 ?cI1 ?kI1 ?kC1 ?eC1 ?tC1 ?aC2 ?xL2 ?sa2 ?ga2 ?gg2 ?ca2 ?nb0_2 ?iI2 ?tI2 ?lI2 ?cI2 ?kI2 ?kC2 ?eC2 ?tC2 ?aC3 ?xL3 ?sa3 ?ga3 ?gg3 ?ca3 ?nb0_3 ?iI3 ?tI3 ?lI3 ?cI3 ?kI3 ?kC3 ?eC3 ?tC3 ?aC4 ?xL4 ?sa4 ?ga4 ?gg4 ?ca4 ?iI4 ?tI4 ?lI4 ?cI4 ?kI4 ?kC4 ?eC4 ?tC4 ?aC5 ?xL5 ?sa5 ?ga5 ?gg5 ?ca5 ?nb0_5 ?iI5 ?tI5 ?lI5 ?cI5 ?kI5 ?kC5 ?eC5 ?tC5 ?aC6 ?xL6 ?sa6 ?ga6 ?gg6 ?ca6 ?iI6 ?tI6 ?lI6 ?cI6 ?kI6 ?kC6 ?eC6 ?tC6 ?aC7 ?xL7 ?sa7 ?ga7 ?gg7 ?ca7 ?nb0_7 ?iI7 ?tI7 ?lI7 ?cI7 ?kI7 ?kC7 ?eC7 ?tC7 ?aC8 ?xL8 ?sa8 ?ga8 ?gg8 ?ca8 ?nb0_8 ?iI8 ?tI8 ?lI8 ?cI8 ?kI8 ?kC8 ?eC8 ?tC8 ?aC9 ?xL9 ?sa9 ?ga9 ?gg9 ?ca9 ?nb0_9 ?iI9 ?tI9 ?lI9 ?cI9 ?kI9 ?kC9 ?eC9 ?tC9 ?aC10 ?xL10 ?sa10 ?ga10 ?gg10 ?ca10 ?iI10 ?tI10 ?lI10 ?cI10 ?kI10 ?kC10 ?eC10 ?tC10 ?aC11 ?xL11 ?sa11 ?ga11 ?gg11 ?ca11 ?iI11 ?tI11 ?lI11 ?cI11 ?kI11 ?kC11 ?eC11 ?tC11 ?aC12 ?xL12 ?sa12 ?ga12 ?gg12 ?ca12 ?nb0_12 ?nb1_12 ?iI12 ?tI12 ?lI12 ?cI12 ?kI12 ?kC12 ?eC12 ?tC12 ?aC13 ?xL13 ?sa13 ?ga13 ?gg13 ?ca13 ?iI13 ?tI13 ?lI13 ?cI13 ?kI13 ?kC13 ?eC13 ?tC13 ?aC14 ?xL14 ?sa14 ?ga14 ?gg14 ?ca14 ?nb0_14 ?iI14 ?tI14 ?lI14 ?cI14 ?kI14 ?kC14 ?eC14 ?tC14 ?cnG ?ctG ?hnd ?z_IndexError ?z_KeyError ?z_LookupError ?z_NotImplementedError ?z_OverflowError ?z_RuntimeError ?z_ValueError ?z_enumerate ?z_int ?z_isinstance ?z_len ?z_list ?z_range ?z_repr
    (case a0 => k_is)
    (case l0 => k_is)
    (case c0 => k_is)
    (case k0 => k_is)
    (case a1 => k_is)
    (case l1 => k_is)
    (case c1 => k_is)
    (case k1 => k_is)
    (case a2 => k_is)
    (case l2 => k_is)
    (case c2 => k_is)
    (case k2 => k_is)
    (case a3 => k_is)
    (case l3 => k_is)
    (case c3 => k_is)
    (case k3 => k_is)
    (case a4 => k_is)
    (case l4 => k_is)
    (case c4 => k_is)
    (case k4 => k_is)
    (case a5 => k_is)
    (case l5 => k_is)
    (case c5 => k_is)
    (case k5 => k_is)
    (case a6 => k_is)
    (case l6 => k_is)
    (case c6 => k_is)
    (case k6 => k_is)
    (case a7 => k_is)
    (case l7 => k_is)
    (case c7 => k_is)
    (case k7 => k_is)
    (case a8 => k_is)
    (case l8 => k_is)
    (case c8 => k_is)
    (case k8 => k_is)
    (case a9 => k_is)
    (case l9 => k_is)
    (case c9 => k_is)
    (case k9 => k_is)
    (case a10 => k_is)
    (case l10 => k_is)
    (case c10 => k_is)
    (case k10 => k_is)
    (case aC0 => k_is)
    (case xL0 => k_is)
    (case sa0 => k_is)
    (case ga0 => k_is)
    (case gg0 => k_is)
    (case ca0 => k_is)
    (case nb0_0 => k_is)
    (case iI0 => k_is)
    (case tI0 => k_is)
    (case lI0 => k_is)
    (case cI0 => k_is)
    (case kI0 => k_is)
    (case kC0 => k_is)
    (case eC0 => k_is)
    (case tC0 => k_is)
    (case aC1 => k_is)
    (case xL1 => k_is)
    (case sa1 => k_is)
    (case ga1 => k_is)
    (case gg1 => k_is)
    (case ca1 => k_is)
    (case nb0_1 => k_is)
    (case iI1 => k_is)
    (case tI1 => k_is)
    (case lI1 => k_is)
    (case cI1 => k_is)
    (case kI1 => k_is)
    (case kC1 => k_is)
    (case eC1 => k_is)
    (case tC1 => k_is)
    (case aC2 => k_is)
    (case xL2 => k_is)
    (case sa2 => k_is)
    (case ga2 => k_is)
    (case gg2 => k_is)
    (case ca2 => k_is)
    (case nb0_2 => k_is)
    (case iI2 => k_is)
    (case tI2 => k_is)
    (case lI2 => k_is)
    (case cI2 => k_is)
    (case kI2 => k_is)
    (case kC2 => k_is)
    (case eC2 => k_is)
    (case tC2 => k_is)
    (case aC3 => k_is)
    (case xL3 => k_is)
    (case sa3 => k_is)
    (case ga3 => k_is)
    (case gg3 => k_is)
    (case ca3 => k_is)
    (case nb0_3 => k_is)
    (case iI3 => k_is)
    (case tI3 => k_is)
    (case lI3 => k_is)
    (case cI3 => k_is)
    (case kI3 => k_is)
    (case kC3 => k_is)
    (case eC3 => k_is)
    (case tC3 => k_is)
    (case aC4 => k_is)
    (case xL4 => k_is)
    (case sa4 => k_is)
    (case ga4 => k_is)
    (case gg4 => k_is)
    (case ca4 => k_is)
    (case iI4 => k_is)
    (case tI4 => k_is)
    (case lI4 => k_is)
    (case cI4 => k_is)
    (case kI4 => k_is)
    (case kC4 => k_is)
    (case eC4 => k_is)
    (case tC4 => k_is)
    (case aC5 => k_is)
    (case xL5 => k_is)
    (case sa5 => k_is)
    (case ga5 => k_is)
    (case gg5 => k_is)
    (case ca5 => k_is)
    (case nb0_5 => k_is)
    (case iI5 => k_is)
    (case tI5 => k_is)
    (case lI5 => k_is)
    (case cI5 => k_is)
    (case kI5 => k_is)
    (case kC5 => k_is)
    (case eC5 => k_is)
    (case tC5 => k_is)
    (case aC6 => k_is)
    (case xL6 => k_is)
    (case sa6 => k_is)
    (case ga6 => k_is)
    (case gg6 => k_is)
    (case ca6 => k_is)
    (case iI6 => k_is)
    (case tI6 => k_is)
    (case lI6 => k_is)
    (case cI6 => k_is)
    (case kI6 => k_is)
    (case kC6 => k_is)
    (case eC6 => k_is)
    (case tC6 => k_is)
    (case aC7 => k_is)
    (case xL7 => k_is)
    (case sa7 => k_is)
    (case ga7 => k_is)
    (case gg7 => k_is)
    (case ca7 => k_is)
    (case nb0_7 => k_is)
    (case iI7 => k_is)
    (case tI7 => k_is)
    (case lI7 => k_is)
    (case cI7 => k_is)
    (case kI7 => k_is)
    (case kC7 => k_is)
    (case eC7 => k_is)
    (case tC7 => k_is)
    (case aC8 => k_is)
    (case xL8 => k_is)
    (case sa8 => k_is)
    (case ga8 => k_is)
    (case gg8 => k_is)
    (case ca8 => k_is)
    (case nb0_8 => k_is)
    (case iI8 => k_is)
    (case tI8 => k_is)
    (case lI8 => k_is)
    (case cI8 => k_is)
    (case kI8 => k_is)
    (case kC8 => k_is)
    (case eC8 => k_is)
    (case tC8 => k_is)
    (case aC9 => k_is)
    (case xL9 => k_is)
    (case sa9 => k_is)
    (case ga9 => k_is)
    (case gg9 => k_is)
    (case ca9 => k_is)
    (case nb0_9 => k_is)
    (case iI9 => k_is)
    (case tI9 => k_is)
    (case lI9 => k_is)
    (case cI9 => k_is)
    (case kI9 => k_is)
    (case kC9 => k_is)
    (case eC9 => k_is)
    (case tC9 => k_is)
    (case aC10 => k_is)
    (case xL10 => k_is)
    (case sa10 => k_is)
    (case ga10 => k_is)
    (case gg10 => k_is)
    (case ca10 => k_is)
    (case iI10 => k_is)
    (case tI10 => k_is)
    (case lI10 => k_is)
    (case cI10 => k_is)
    (case kI10 => k_is)
    (case kC10 => k_is)
    (case eC10 => k_is)
    (case tC10 => k_is)
    (case aC11 => k_is)
    (case xL11 => k_is)
    (case sa11 => k_is)
    (case ga11 => k_is)
    (case gg11 => k_is)
    (case ca11 => k_is)
    (case iI11 => k_is)
    (case tI11 => k_is)
    (case lI11 => k_is)
    (case cI11 => k_is)
    (case kI11 => k_is)
    (case kC11 => k_is)
    (case eC11 => k_is)
    (case tC11 => k_is)
    (case aC12 => k_is)
    (case xL12 => k_is)
    (case sa12 => k_is)
    (case ga12 => k_is)
    (case gg12 => k_is)
    (case ca12 => k_is)
    (case nb0_12 => k_is)
    (case nb1_12 => k_is)
    (case iI12 => k_is)
    (case tI12 => k_is)
    (case lI12 => k_is)
    (case cI12 => k_is)
    (case kI12 => k_is)
    (case kC12 => k_is)
    (case eC12 => k_is)
    (case tC12 => k_is)
    (case aC13 => k_is)
    (case xL13 => k_is)
    (case sa13 => k_is)
    (case ga13 => k_is)
    (case gg13 => k_is)
    (case ca13 => k_is)
    (case iI13 => k_is)
    (case tI13 => k_is)
    (case lI13 => k_is)
    (case cI13 => k_is)
    (case kI13 => k_is)
    (case kC13 => k_is)
    (case eC13 => k_is)
    (case tC13 => k_is)
    (case aC14 => k_is)
    (case xL14 => k_is)
    (case sa14 => k_is)
    (case ga14 => k_is)
    (case gg14 => k_is)
    (case ca14 => k_is)
    (case nb0_14 => k_is)
    (case iI14 => k_is)
    (case tI14 => k_is)
    (case lI14 => k_is)
    (case cI14 => k_is)
    (case kI14 => k_is)
    (case kC14 => k_is)
    (case eC14 => k_is)
    (case tC14 => k_is)
    (case cnG => k_is)
    (case ctG => k_is)
    (case hnd => decide)
    (case z_IndexError => k_is)
    (case z_KeyError => k_is)
    (case z_LookupError => k_is)
    (case z_NotImplementedError => k_is)
    (case z_OverflowError => k_is)
    (case z_RuntimeError => k_is)
    (case z_ValueError => k_is)
    (case z_enumerate => k_is)
    (case z_int => k_is)
    (case z_isinstance => k_is)
    (case z_len => k_is)
    (case z_list => k_is)
    (case z_range => k_is)
    (case z_repr => k_is)
