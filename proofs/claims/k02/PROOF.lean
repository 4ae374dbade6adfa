import PyProof.Rows.All
import Wide.All
import OpenK.AllK
import Wide.FinOn
import HandS.Base
import HandS.Exc
import HandS.Lambda
import HandS.ForMost
import HandS.Wide
import HandS.Gcd
import HandS.IsInst
import HandS.More
import HandS.Conv
import HandS.SetFor
import HandS.Zip
import KE.GoesMore
import KE.GoesZip
import KE.KDictZip
import HandS.Sort
import HandS.Defaults
import PyProof.EnumMake
import HandS.SortInts
import PyProof.EqAt
import PyProof.EqKinds
import PyProof.TupleCall
import KE.KExcSuper
import KE.KSuper
import HandS.Call
import HandS.List
import HandS.Ends
import HandS.ExcInit
import HandS.ExcValue
import HandS.MakeKwOnly
import HandS.WordsExc
import HandS.ExcOwn
import KE.KExcIs
import HandS.HotCalls
import HandS.Comp
import HandS.ExcIs
import HandS.ExcField
import HandS.EndTab
import KE.SortKeyHeap
import HandS.Style
import HandS.ExcCtx
import HandS.Codes
import PyProof.ReprLen
import PyProof.FitsInt
import HandS.Text
import HandS.FStr
import HandS.StrMore
import PyProof.StrOps2
import PyProof.Rows.ReprOcc
import PySem.Challenge.RW_flapwater_k02_rows_refused
set_option Elab.async false
set_option linter.all false
set_option maxRecDepth 100000
set_option maxHeartbeats 16000000
section
/-! an exception of an own class, tracked -/
namespace L2
open PySem PySem.Spec PyProof.Rows
/-- at a: an exception of the class cls, its dict at d -/
def exk (a : Addr) (cls : Value) (d : Option Addr) : HO := .ext fun h => ∃ (oe : Obj) (vs : Array Value), h.get? a = some oe ∧ oe.data = .fields vs ∧ Zc cls d oe
theorem exk_ok {P : Program} {w : World} {H : Hp} {h : Heap} {a : Addr} {cls : Value} {d : Option Addr} {oe : Obj} (he : h.get? a = some oe) (hf : ∃ vs, oe.data = .fields vs) (hz : Zc cls d oe) : ObjOk P w H h a (exk a cls d) := by
  obtain ⟨vs, hv⟩ := hf
  exact ⟨⟨oe, vs, he, hv, hz⟩, ⟨oe, he⟩, fun h1 h2 ⟨o, vs, e, r⟩ k => ⟨o, vs, k o e, r⟩⟩
theorem exk_at {P : Program} {w : World} {H : Hp} {h : Heap} {a : Addr} {cls : Value} {d : Option Addr} (hok : HOk P w H h) (he : H a = some (exk a cls d)) : ∃ (oe : Obj) (vs : Array Value), h.get? a = some oe ∧ oe.data = .fields vs ∧ Zc cls d oe :=
  (hok a _ he).1
/-- it is no code object -/
theorem exk_code {a c : Addr} {cls : Value} {d : Option Addr} {q : Str} : exk a cls d ≠ LamX.CodeO c q := by
  intro e
  unfold exk LamX.CodeO at e
  obtain ⟨oe, ho⟩ : ∃ oe : Obj, oe = { cls := cls, dict := d, data := .fields #[], slots := #[] } := ⟨_, rfl⟩
  obtain ⟨fr, hfr⟩ : ∃ fr : Obj, fr = { cls := .none, data := .freed } := ⟨_, rfl⟩
  obtain ⟨h, hh⟩ : ∃ h : Heap, h = { objs := (Array.replicate a fr).push oe } := ⟨_, rfl⟩
  have g1 : h.get? a = some oe := by
    have e1 : ((Array.replicate a fr).push oe)[a]? = some oe := by
      have := Array.getElem?_push_size (xs := Array.replicate a fr) (x := oe)
      rw [Array.size_replicate] at this
      exact this
    rw [hh]
    unfold Heap.get?
    simp only [e1]
    rw [ho]
  have g2 : ∀ b, b ≠ a → h.get? b = none := fun b hb => by
    rw [hh]
    unfold Heap.get?
    by_cases hl : b < a
    · simp [Array.getElem?_push, hfr, hl, hb]
    · simp [Array.getElem?_push, hb, hl]
  injection e with e
  have p : ∃ (oe : Obj) (vs : Array Value), h.get? a = some oe ∧ oe.data = .fields vs ∧ Zc cls d oe := ⟨oe, #[], g1, by rw [ho], by rw [ho]; exact ⟨rfl, rfl⟩⟩
  have r := (congrFun e h).mp p
  obtain ⟨oc, vs, t, h1, h2, h3⟩ := r
  by_cases hc : c = a
  · subst hc
    rw [g1] at h1
    cases h1
    rw [ho] at h2
    simp only at h2
    cases h2
    simp at h3
  · rw [g2 c hc] at h1
    cases h1
theorem exk_tbl {a : Addr} {cls : Value} {d : Option Addr} {ps : Array Value} : exk a cls d ≠ .tbl ps := by
  unfold exk
  intro z
  cases z
end L2
end
section
/-! a layer of data over the hand layer: lists that may change stand in a store, all else are plain trees -/
namespace DL
open PySem L2

inductive DV where
  | non
  | bl (b : Bool)
  | int (i : Int)
  | str (s : Str)
  | ty (n : String)
  | tup (ds : List DV)
  | lst (ds : List DV)
  | rls (ds : List DV)
  | ptr (n : Nat)
inductive MO where
  | ml (ds : List DV)
  | ins (c : Str) (fs : List (Str × DV))
  | dct (fs : List (Str × DV))
  | num (x : List (Int × DV) ⊕ ((Str × DV) ⊕ Str))
abbrev MO.exn (c : Str) (w : DV) : MO := .num (.inr (.inl (c, w)))
abbrev MO.bare (c : Str) : MO := .num (.inr (.inr c))
abbrev Sto := List MO
abbrev Sl := List (Option DV)
/-- the tables of code objects that a law may write: that of the def bounds -/
noncomputable def tabAt (K : PySem.W.Frag) (fd : FuncData) : Value → List (Addr × Str)
  | Value.ref c => (match K.lookup c with
    | some ⟨_, _, Data.fields vs, _⟩ => (match (vs[11]? : Option Value) with
      | some (Value.ref P) => [(P, (fd.qualname ++ ".<locals>.") ++ "<lambda>")]
      | _ => [])
    | _ => [])
  | _ => []
noncomputable def tabsOf (K : PySem.W.Frag) (mg : Str → Option Value) : List (Addr × Str) := match mg "bounds" with
  | some (Value.ref f) => (match K.lookup f with
    | some ⟨_, _, Data.func fd, _⟩ => tabAt K fd fd.code
    | _ => [])
  | _ => []
structure Wd where
  P : Addr → Prop
  α : List Addr
  H : Hp

section
variable (K : PySem.W.Frag) (W : Wd)
mutual
def Den : DV → V → Prop
  | .non, v => v = .non
  | .bl b, v => v = .bl b
  | .int i, v => v = .int i
  | .str s, v => v = .str s
  | .ty n, v => v = .ty n
  | .tup ds, v => ∃ a vs, v = .ref a ∧ (SqT K W.H a vs ∧ (W.P a ∨ ∀ H', SqT K H' a vs)) ∧ Dens ds vs
  | .lst ds, v => ∃ a vs, v = .ref a ∧ (W.P a ∧ W.H a = some (.lst vs)) ∧ Dens ds vs
  | .rls ds, v => ∃ a vs, v = .ref a ∧ (SqL K W.H a vs ∧ (W.P a ∨ ∀ H', SqL K H' a vs)) ∧ Dens ds vs
  | .ptr n, v => ∃ a, W.α[n]? = some a ∧ v = .ref a
def Dens : List DV → List V → Prop
  | [], vs => vs = []
  | d :: ds, vs => ∃ v r, vs = v :: r ∧ Den d v ∧ Dens ds r
end
end

/-- what data leans on stands -/
structure Ex0 (W W' : Wd) : Prop where
  p : ∀ a, W.P a → W'.P a
  al : W.α <+: W'.α
  hp : ∀ a o, W.P a → W.H a = some o → W'.H a = some o
structure Ext (W W' : Wd) : Prop extends Ex0 W W' where
  pn : ∀ a, W'.P a → W.P a ∨ W.H a = none
  an : ∀ a, a ∈ W'.α → a ∈ W.α ∨ W.H a = none
  h : ∀ a o, a ∉ W.α → (∀ ps, o ≠ .tbl ps) → W.H a = some o → W'.H a = some o
  dom : ∀ a, W'.H a = none → W.H a = none
theorem Ext.refl (W : Wd) : Ext W W where
  p := fun _ h => h
  pn := fun _ h => .inl h
  al := List.prefix_refl _
  an := fun _ h => .inl h
  hp := fun _ _ _ h => h
  h := fun _ _ _ _ h => h
  dom := fun _ h => h
theorem Ext.trans {W W1 W2 : Wd} (a : Ext W W1) (b : Ext W1 W2) : Ext W W2 where
  p := fun x h => b.p x (a.p x h)
  pn := fun x h => by
    rcases b.pn x h with h | h
    · exact a.pn x h
    · exact .inr (a.dom x h)
  al := a.al.trans b.al
  an := fun x h => by
    rcases b.an x h with h | h
    · exact a.an x h
    · exact .inr (a.dom x h)
  hp := fun x o h e => b.hp x o (a.p x h) (a.hp x o h e)
  h := fun x o h n e => b.h x o (fun z => by
    rcases a.an x z with z | z
    · exact h z
    · rw [e] at z; cases z) n (a.h x o h n e)
  dom := fun x h => a.dom x (b.dom x h)
/-- the tables stay where what is no table and no code is changed -/
theorem tabs_upd {T : List (Addr × Str)} {H : Hp} {a : Addr} {o : HO} (t : LamX.Tabs T H) (h1 : ∀ ps, H a ≠ some (.tbl ps)) (h2 : ∀ c q, H a ≠ some (LamX.CodeO c q)) : LamX.Tabs T (upd H a o) := by
  intro p hp
  obtain ⟨ps, e1, e2, e3⟩ := t p hp
  refine ⟨ps, (upd_ne fun z => h1 ps (by rw [← z]; exact e1)).trans e1, e2, fun pos cv hc => ?_⟩
  obtain ⟨c, e4, e5⟩ := e3 pos cv hc
  exact ⟨c, e4, (upd_ne fun z => h2 c p.2 (by rw [← z]; exact e5)).trans e5⟩
theorem tabs_new {T : List (Addr × Str)} {H : Hp} {a : Addr} {o : HO} (t : LamX.Tabs T H) (h : H a = none) : LamX.Tabs T (upd H a o) :=
  tabs_upd t (fun ps z => by rw [h] at z; cases z) fun c q z => by rw [h] at z; cases z

section
variable {K : PySem.W.Frag} {W W' : Wd}
theorem rd_ext0 {a : Addr} {u : HO} (e : Ex0 W W') (p : W.P a) (h : Rd W.H a u) : Rd W'.H a u := by
  rcases h with h | ⟨o, h⟩
  · exact .inl (e.hp a _ p h)
  · exact .inr ⟨o, e.hp a _ p h⟩
theorem sql_ext0 {a : Addr} {vs : List V} (e : Ex0 W W') (h : SqL K W.H a vs ∧ (W.P a ∨ ∀ H', SqL K H' a vs)) : SqL K W'.H a vs ∧ (W'.P a ∨ ∀ H', SqL K H' a vs) := by
  obtain ⟨h, p | p⟩ := h
  · refine ⟨?_, .inl (e.p a p)⟩
    rcases h with h | h
    · exact .inl (rd_ext0 e p h)
    · exact .inr h
  · exact ⟨p _, .inr p⟩
theorem sqt_ext0 {a : Addr} {vs : List V} (e : Ex0 W W') (h : SqT K W.H a vs ∧ (W.P a ∨ ∀ H', SqT K H' a vs)) : SqT K W'.H a vs ∧ (W'.P a ∨ ∀ H', SqT K H' a vs) := by
  obtain ⟨h, p | p⟩ := h
  · refine ⟨?_, .inl (e.p a p)⟩
    rcases h with h | h
    · exact .inl (rd_ext0 e p h)
    · exact .inr h
  · exact ⟨p _, .inr p⟩
mutual
theorem Den.ext0 (e : Ex0 W W') : ∀ (d : DV) (v : V), Den K W d v → Den K W' d v
  | .non, _, h => h
  | .bl _, _, h => h
  | .int _, _, h => h
  | .str _, _, h => h
  | .ty _, _, h => h
  | .tup ds, _, h => by
    obtain ⟨a, vs, rfl, s, h⟩ := h
    exact ⟨a, vs, rfl, sqt_ext0 e s, Dens.ext0 e ds vs h⟩
  | .lst ds, _, h => by
    obtain ⟨a, vs, rfl, s, h⟩ := h
    exact ⟨a, vs, rfl, ⟨e.p a s.1, e.hp a _ s.1 s.2⟩, Dens.ext0 e ds vs h⟩
  | .rls ds, _, h => by
    obtain ⟨a, vs, rfl, s, h⟩ := h
    exact ⟨a, vs, rfl, sql_ext0 e s, Dens.ext0 e ds vs h⟩
  | .ptr n, _, h => by
    obtain ⟨a, h, rfl⟩ := h
    obtain ⟨t, ht⟩ := e.al
    refine ⟨a, ?_, rfl⟩
    rw [← ht, List.getElem?_append_left (List.getElem?_eq_some_iff.mp h).1]
    exact h
theorem Dens.ext0 (e : Ex0 W W') : ∀ (ds : List DV) (vs : List V), Dens K W ds vs → Dens K W' ds vs
  | [], _, h => h
  | d :: ds, _, h => by
    obtain ⟨v, r, rfl, h1, h2⟩ := h
    exact ⟨v, r, rfl, Den.ext0 e d v h1, Dens.ext0 e ds r h2⟩
end
theorem Den.ext (e : Ext W W') (d : DV) (v : V) (h : Den K W d v) : Den K W' d v := Den.ext0 e.toEx0 d v h
theorem Dens.ext (e : Ext W W') (ds : List DV) (vs : List V) (h : Dens K W ds vs) : Dens K W' ds vs := Dens.ext0 e.toEx0 ds vs h
theorem Dens.len : ∀ {ds : List DV} {vs : List V}, Dens K W ds vs → vs.length = ds.length
  | [], _, h => by
    cases (show _ = [] from h)
    rfl
  | d :: ds, _, h => by
    obtain ⟨v, r, rfl, _, h2⟩ := h
    simp [Dens.len h2]
theorem Dens.get : ∀ {ds : List DV} {vs : List V} {i : Nat} {d : DV}, Dens K W ds vs → ds[i]? = some d → ∃ v, vs[i]? = some v ∧ Den K W d v
  | [], _, _, _, _, e => by simp at e
  | d :: ds, _, 0, _, h, e => by
    obtain ⟨v, r, rfl, h1, _⟩ := h
    simp at e
    subst e
    exact ⟨v, rfl, h1⟩
  | d :: ds, _, i + 1, x, h, e => by
    obtain ⟨v, r, rfl, _, h2⟩ := h
    obtain ⟨u, e1, e2⟩ := Dens.get (i := i) (d := x) h2 (by simpa using e)
    exact ⟨u, by simpa using e1, e2⟩
theorem Dens.app : ∀ {ds es : List DV} {vs us : List V}, Dens K W ds vs → Dens K W es us → Dens K W (ds ++ es) (vs ++ us)
  | [], _, _, _, h, h' => by
    cases (show _ = [] from h)
    exact h'
  | d :: ds, _, _, _, h, h' => by
    obtain ⟨v, r, rfl, h1, h2⟩ := h
    exact ⟨v, _, rfl, h1, Dens.app h2 h'⟩
theorem Dens.one {d : DV} {v : V} (h : Den K W d v) : Dens K W [d] [v] := ⟨v, [], rfl, h, rfl⟩
theorem Dens.set : ∀ {ds : List DV} {vs : List V} {d : DV} {v : V} (i : Nat), Dens K W ds vs → Den K W d v → Dens K W (ds.set i d) (vs.set i v)
  | [], _, _, _, _, h, _ => by
    cases (show _ = [] from h)
    simp [Dens]
  | d :: ds, _, _, _, 0, h, h' => by
    obtain ⟨v, r, rfl, h1, h2⟩ := h
    exact ⟨_, r, rfl, h', h2⟩
  | d :: ds, _, _, _, i + 1, h, h' => by
    obtain ⟨v, r, rfl, h1, h2⟩ := h
    exact ⟨v, _, rfl, h1, Dens.set i h2 h'⟩
theorem Dens.take : ∀ {ds : List DV} {vs : List V} (n : Nat), Dens K W ds vs → Dens K W (ds.take n) (vs.take n)
  | _, _, 0, _ => by simp [Dens]
  | [], _, _ + 1, h => by
    cases (show _ = [] from h)
    simp [Dens]
  | d :: ds, _, n + 1, h => by
    obtain ⟨v, r, rfl, h1, h2⟩ := h
    exact ⟨v, _, rfl, h1, Dens.take n h2⟩
theorem Dens.drop : ∀ {ds : List DV} {vs : List V} (n : Nat), Dens K W ds vs → Dens K W (ds.drop n) (vs.drop n)
  | _, _, 0, h => h
  | [], _, _ + 1, h => by
    cases (show _ = [] from h)
    simp [Dens]
  | d :: ds, _, n + 1, h => by
    obtain ⟨v, r, rfl, h1, h2⟩ := h
    exact Dens.drop n h2
theorem Dens.erase : ∀ {ds : List DV} {vs : List V} (i : Nat), Dens K W ds vs → Dens K W (ds.eraseIdx i) (vs.eraseIdx i)
  | [], _, _, h => by
    cases (show _ = [] from h)
    simp [Dens]
  | d :: ds, _, 0, h => by
    obtain ⟨v, r, rfl, h1, h2⟩ := h
    exact h2
  | d :: ds, _, i + 1, h => by
    obtain ⟨v, r, rfl, h1, h2⟩ := h
    exact ⟨v, _, rfl, h1, Dens.erase i h2⟩
theorem Dens.ints : ∀ {ns : List Int} {vs : List V}, Dens K W (ns.map DV.int) vs → vs = ns.map V.int
  | [], _, h => h
  | n :: ns, _, h => by
    obtain ⟨v, r, rfl, h1, h2⟩ := h
    rw [Dens.ints h2]
    cases (show v = V.int n from h1)
    rfl
theorem dens_ints : ∀ (ns : List Int), Dens K W (ns.map DV.int) (ns.map V.int)
  | [] => rfl
  | n :: ns => ⟨_, _, rfl, rfl, dens_ints ns⟩
end

/-! ### the store is held -/
section
variable (K : PySem.W.Frag) (mg : Str → Option Value)
def FsR (W : Wd) : List (Str × DV) → List (Str × V) → Prop
  | [], vs => vs = []
  | p :: fs, vs => ∃ v r, vs = (p.1, v) :: r ∧ Den K W p.2 v ∧ FsR W fs r
def DkR (W : Wd) : List (Str × DV) → List (Key × V) → Prop
  | [], vs => vs = []
  | p :: fs, vs => ∃ v r, vs = ((Sum.inr p.1 : Key), v) :: r ∧ Den K W p.2 v ∧ DkR W fs r
def DiR (W : Wd) : List (Int × DV) → List (Key × V) → Prop
  | [], vs => vs = []
  | p :: fs, vs => ∃ v r, vs = ((Sum.inl p.1 : Key), v) :: r ∧ Den K W p.2 v ∧ DiR W fs r
def ObjR (W : Wd) (a : Addr) : MO → Prop
  | .ml ds => ∃ vs, W.H a = some (.lst vs) ∧ Dens K W ds vs
  | .ins c fs => ∃ C dx vfs, mg c = some (.ref C) ∧ W.H a = some (.ins C dx vfs) ∧ FsR K W fs vfs
  | .dct fs => ∃ kvs, W.H a = some (.dK kvs) ∧ DkR K W fs kvs
  | .num (.inl fs) => ∃ kvs, W.H a = some (.dK kvs) ∧ DiR K W fs kvs
  | .num (.inr (.inl (c, w))) => ∃ C dx v, mg c = some (.ref C) ∧ W.H a = some (exk a (.ref C) (some dx)) ∧ W.P dx ∧ W.H dx = some (.xd [(("what" : Str), v)]) ∧ Den K W w v
  | .num (.inr (.inr c)) => ∃ C, mg c = some (.ref C) ∧ W.H a = some (exk a (.ref C) none)
structure Rep (W : Wd) (S : Sto) : Prop where
  len : W.α.length = S.length
  nd : W.α.Nodup
  dj : ∀ a, a ∈ W.α → ¬ W.P a
  al : ∀ a, W.P a → W.H a ≠ none
  ob : ∀ (n : Nat) (mo : MO) (a : Addr), S[n]? = some mo → W.α[n]? = some a → ObjR K mg W a mo
  tb : LamX.Tabs (tabsOf K mg) W.H
  tp : ∀ p ∈ tabsOf K mg, ¬ W.P p.1
def Slo (W : Wd) (σ : St) (s : Sl) : Prop := σ.length = s.length ∧ ∀ (i : Nat) (d : DV), s[i]? = some (some d) → ∃ v, σ[i]? = some (some v) ∧ Den K W d v
end
section
variable {K : PySem.W.Frag} {mg : Str → Option Value} {W W' : Wd} {S : Sto}
theorem FsR.ext0 (e : Ex0 W W') : ∀ {fs : List (Str × DV)} {vs : List (Str × V)}, FsR K W fs vs → FsR K W' fs vs
  | [], _, h => h
  | p :: fs, _, h => by
    obtain ⟨v, r, rfl, h1, h2⟩ := h
    exact ⟨v, r, rfl, Den.ext0 e _ _ h1, FsR.ext0 e h2⟩
theorem DkR.ext0 (e : Ex0 W W') : ∀ {fs : List (Str × DV)} {vs : List (Key × V)}, DkR K W fs vs → DkR K W' fs vs
  | [], _, h => h
  | p :: fs, _, h => by
    obtain ⟨v, r, rfl, h1, h2⟩ := h
    exact ⟨v, r, rfl, Den.ext0 e _ _ h1, DkR.ext0 e h2⟩
theorem DiR.ext0 (e : Ex0 W W') : ∀ {fs : List (Int × DV)} {vs : List (Key × V)}, DiR K W fs vs → DiR K W' fs vs
  | [], _, h => h
  | p :: fs, _, h => by
    obtain ⟨v, r, rfl, h1, h2⟩ := h
    exact ⟨v, r, rfl, Den.ext0 e _ _ h1, DiR.ext0 e h2⟩
theorem Slo.ext {σ : St} {s : Sl} (e : Ext W W') (h : Slo K W σ s) : Slo K W' σ s := ⟨h.1, fun i d q => by
  obtain ⟨v, h1, h2⟩ := h.2 i d q
  exact ⟨v, h1, Den.ext e d v h2⟩⟩
theorem Slo.set {σ : St} {s : Sl} {d : DV} {v : V} (i : Nat) (h : Slo K W σ s) (hd : Den K W d v) : Slo K W (σ.set i (some v)) (s.set i (some d)) := by
  refine ⟨by simp [h.1], fun j e q => ?_⟩
  by_cases hj : i = j
  · subst hj
    rw [List.getElem?_set] at q
    rw [List.getElem?_set]
    by_cases hl : i < s.length
    · rw [if_pos rfl, if_pos hl] at q
      cases q
      exact ⟨v, by rw [if_pos rfl, if_pos (by rw [h.1]; exact hl)], hd⟩
    · rw [if_pos rfl, if_neg hl] at q
      cases q
  · rw [List.getElem?_set_ne hj] at q ⊢
    exact h.2 j e q
theorem Rep.there (R : Rep K mg W S) {a : Addr} (h : a ∈ W.α) : W.H a ≠ none := by
  obtain ⟨n, hn, rfl⟩ := List.getElem_of_mem h
  have hl : n < S.length := by rw [← R.len]; exact hn
  have o := R.ob n S[n] W.α[n] (List.getElem?_eq_getElem hl) (List.getElem?_eq_getElem hn)
  intro z
  cases q : S[n] with
  | ml ds =>
    rw [q] at o
    obtain ⟨vs, e, _⟩ := o
    rw [z] at e
    cases e
  | ins c fs =>
    rw [q] at o
    obtain ⟨C, dx, vfs, _, e, _⟩ := o
    rw [z] at e
    cases e
  | dct fs =>
    rw [q] at o
    obtain ⟨kvs, e, _⟩ := o
    rw [z] at e
    cases e
  | num x => cases x with
    | inl fs =>
      rw [q] at o
      obtain ⟨kvs, e, _⟩ := o
      rw [z] at e
      cases e
    | inr y => cases y with
      | inl p =>
        rw [q] at o
        obtain ⟨C, dx, v, _, e, _⟩ := o
        rw [z] at e
        cases e
      | inr c =>
        rw [q] at o
        obtain ⟨C, _, e⟩ := o
        rw [z] at e
        cases e
theorem Rep.some (R : Rep K mg W S) {n : Nat} {mo : MO} (h : S[n]? = some mo) : ∃ a, W.α[n]? = .some a ∧ a ∈ W.α ∧ ObjR K mg W a mo := by
  have hl : n < W.α.length := by rw [R.len]; exact (List.getElem?_eq_some_iff.mp h).1
  exact ⟨W.α[n], List.getElem?_eq_getElem hl, List.getElem_mem hl, R.ob n mo _ h (List.getElem?_eq_getElem hl)⟩
theorem ObjR.ext0 (e : Ex0 W W') {a : Addr} {mo : MO} (h : ObjR K mg W a mo) (hk : W'.H a = W.H a) : ObjR K mg W' a mo := by
  cases mo with
  | ml ds =>
    obtain ⟨vs, h1, h2⟩ := h
    exact ⟨vs, hk.trans h1, Dens.ext0 e _ _ h2⟩
  | ins c fs =>
    obtain ⟨C, dx, vfs, h0, h1, h2⟩ := h
    exact ⟨C, dx, vfs, h0, hk.trans h1, FsR.ext0 e h2⟩
  | dct fs =>
    obtain ⟨kvs, h1, h2⟩ := h
    exact ⟨kvs, hk.trans h1, DkR.ext0 e h2⟩
  | num x => cases x with
    | inl fs =>
      obtain ⟨kvs, h1, h2⟩ := h
      exact ⟨kvs, hk.trans h1, DiR.ext0 e h2⟩
    | inr y => cases y with
      | inl p =>
        obtain ⟨C, dx, v, h0, h1, h2, h3, h4⟩ := h
        exact ⟨C, dx, v, h0, hk.trans h1, e.p _ h2, e.hp _ _ h2 h3, Den.ext0 e _ _ h4⟩
      | inr c =>
        obtain ⟨C, h0, h1⟩ := h
        exact ⟨C, h0, hk.trans h1⟩
theorem ObjR.ext (e : Ext W W') {a : Addr} {mo : MO} (h : ObjR K mg W a mo) (hk : W'.H a = W.H a) : ObjR K mg W' a mo := ObjR.ext0 e.toEx0 h hk
/-- a new object, never changed -/
def Wd.froz (W : Wd) (p : Addr) (o : HO) : Wd := ⟨fun a => W.P a ∨ a = p, W.α, upd W.H p o⟩
theorem ext_froz {p : Addr} {o : HO} (hp : W.H p = none) : Ext W (W.froz p o) where
  p := fun a h => .inl h
  pn := fun a h => by
    rcases h with h | rfl
    · exact .inl h
    · exact .inr hp
  al := List.prefix_refl _
  an := fun _ h => .inl h
  hp := fun a u _ e => (upd_ne (ne_of_none e hp)).trans e
  h := fun a u _ _ e => (upd_ne (ne_of_none e hp)).trans e
  dom := fun a h => by
    by_cases e : a = p
    · subst e; exact hp
    · have z : upd W.H p o a = none := h
      rw [upd_ne e] at z
      exact z
theorem rep_froz {p : Addr} {o : HO} (R : Rep K mg W S) (hp : W.H p = none) : Rep K mg (W.froz p o) S where
  len := R.len
  nd := R.nd
  dj := fun a h q => by
    rcases q with q | rfl
    · exact R.dj a h q
    · exact R.there h hp
  al := fun a h => by
    show upd W.H p o a ≠ none
    by_cases e : a = p
    · subst e; rw [upd_same]; exact fun z => by cases z
    · rw [upd_ne e]
      rcases h with h | h
      · exact R.al a h
      · exact absurd h e
  ob := fun n mo a h1 h2 => by
    have ha : a ≠ p := fun z => by
      subst z
      exact R.there (List.mem_of_getElem? h2) hp
    exact (R.ob n mo a h1 h2).ext (ext_froz hp) (upd_ne ha)
  tb := tabs_new R.tb hp
  tp := fun t ht q => by
    rcases q with q | q
    · exact R.tp t ht q
    · obtain ⟨ps, e, _⟩ := R.tb t ht
      rw [q, hp] at e
      cases e
/-- a new object of the store -/
def Wd.more (W : Wd) (p : Addr) (o : HO) : Wd := ⟨W.P, W.α ++ [p], upd W.H p o⟩
theorem ext_more {p : Addr} {o : HO} (hp : W.H p = none) : Ext W (W.more p o) where
  p := fun a h => h
  pn := fun a h => .inl h
  al := List.prefix_append _ _
  an := fun a h => by
    rcases List.mem_append.mp h with h | h
    · exact .inl h
    · cases List.mem_singleton.mp h
      exact .inr hp
  hp := fun a u _ e => (upd_ne (ne_of_none e hp)).trans e
  h := fun a u _ _ e => (upd_ne (ne_of_none e hp)).trans e
  dom := fun a h => by
    by_cases e : a = p
    · subst e; exact hp
    · have z : upd W.H p o a = none := h
      rw [upd_ne e] at z
      exact z
theorem rep_more {p : Addr} {o : HO} {mo : MO} (R : Rep K mg W S) (hp : W.H p = none) (new : ObjR K mg (W.more p o) p mo) : Rep K mg (W.more p o) (S ++ [mo]) where
  len := by
    show (W.α ++ [p]).length = _
    simp [R.len]
  nd := by
    show (W.α ++ [p]).Nodup
    refine List.nodup_append.mpr ⟨R.nd, by simp, fun a ha b hb => ?_⟩
    cases List.mem_singleton.mp hb
    exact fun z => R.there ha (by rw [z]; exact hp)
  dj := fun a h q => by
    rcases List.mem_append.mp h with h | h
    · exact R.dj a h q
    · cases List.mem_singleton.mp h
      exact R.al p q hp
  al := fun a h => by
    show upd W.H p o a ≠ none
    by_cases e : a = p
    · subst e; rw [upd_same]; exact fun z => by cases z
    · rw [upd_ne e]
      exact R.al a h
  ob := fun n m a h1 h2 => by
    have h2 : (W.α ++ [p])[n]? = some a := h2
    by_cases hn : n < S.length
    · rw [List.getElem?_append_left hn] at h1
      rw [List.getElem?_append_left (by rw [R.len]; exact hn)] at h2
      have h3 : W.α[n]? = some a := h2
      have ha : a ≠ p := fun z => R.there (List.mem_of_getElem? h3) (z ▸ hp)
      exact (R.ob n m a h1 h3).ext (ext_more hp) (upd_ne ha)
    · have hl : n < (S ++ [mo]).length := (List.getElem?_eq_some_iff.mp h1).1
      have e : n = S.length := by
        rw [List.length_append, List.length_singleton] at hl
        omega
      subst e
      rw [List.getElem?_concat_length] at h1
      rw [← R.len, List.getElem?_concat_length] at h2
      cases h1
      cases h2
      exact new
  tb := tabs_new R.tb hp
  tp := R.tp
/-- an object of the store is changed -/
def Wd.put (W : Wd) (a : Addr) (o : HO) : Wd := ⟨W.P, W.α, upd W.H a o⟩
theorem ext_put {a : Addr} {o : HO} (R : Rep K mg W S) (ha : a ∈ W.α) : Ext W (W.put a o) where
  p := fun _ h => h
  pn := fun _ h => .inl h
  al := List.prefix_refl _
  an := fun _ h => .inl h
  hp := fun b u h e => (upd_ne (fun z => R.dj a ha (by rw [← z]; exact h))).trans e
  h := fun b u h _ e => (upd_ne (fun z => h (by rw [z]; exact ha))).trans e
  dom := fun b h => by
    have z : upd W.H a o b = none := h
    by_cases e : b = a
    · subst e; rw [upd_same] at z; cases z
    · rw [upd_ne e] at z
      exact z
theorem ObjR.plain {a : Addr} {mo : MO} (h : ObjR K mg W a mo) : (∀ ps, W.H a ≠ some (.tbl ps)) ∧ ∀ c q, W.H a ≠ some (LamX.CodeO c q) := by
  cases mo with
  | ml ds =>
    obtain ⟨vs, e, _⟩ := h
    rw [e]
    exact ⟨fun ps z => (by cases z), fun c q z => (by unfold LamX.CodeO at z; cases z)⟩
  | ins c fs =>
    obtain ⟨C, dx, vfs, _, e, _⟩ := h
    rw [e]
    exact ⟨fun ps z => (by cases z), fun c q z => (by unfold LamX.CodeO at z; cases z)⟩
  | dct fs =>
    obtain ⟨kvs, e, _⟩ := h
    rw [e]
    exact ⟨fun ps z => (by cases z), fun c q z => (by unfold LamX.CodeO at z; cases z)⟩
  | num x => cases x with
    | inl fs =>
      obtain ⟨kvs, e, _⟩ := h
      rw [e]
      exact ⟨fun ps z => (by cases z), fun c q z => (by unfold LamX.CodeO at z; cases z)⟩
    | inr y => cases y with
      | inl p =>
        obtain ⟨C, dx, v, _, e, _⟩ := h
        rw [e]
        exact ⟨fun ps z => exk_tbl (Option.some.inj z), fun c q z => exk_code (Option.some.inj z)⟩
      | inr c =>
        obtain ⟨C, _, e⟩ := h
        rw [e]
        exact ⟨fun ps z => exk_tbl (Option.some.inj z), fun c q z => exk_code (Option.some.inj z)⟩
theorem rep_put {a : Addr} {o : HO} {n : Nat} {mo : MO} (R : Rep K mg W S) (hn : W.α[n]? = some a) (new : ObjR K mg (W.put a o) a mo) : Rep K mg (W.put a o) (S.set n mo) where
  len := by
    show W.α.length = _
    simp [R.len]
  nd := R.nd
  dj := R.dj
  al := fun b h => by
    show upd W.H a o b ≠ none
    by_cases e : b = a
    · subst e; rw [upd_same]; exact fun z => by cases z
    · rw [upd_ne e]
      exact R.al b h
  ob := fun m mo' b h1 h2 => by
    by_cases hm : n = m
    · subst hm
      have hl : n < S.length := by rw [← R.len]; exact (List.getElem?_eq_some_iff.mp hn).1
      rw [List.getElem?_set_self hl] at h1
      cases h1
      have h3 : W.α[n]? = some b := h2
      rw [hn] at h3
      cases h3
      exact new
    · rw [List.getElem?_set_ne hm] at h1
      have hb : b ≠ a := fun z => by
        subst z
        exact hm (nd_ix R.nd hn h2)
      exact (R.ob m mo' b h1 h2).ext (ext_put R (List.mem_of_getElem? hn)) (upd_ne hb)
  tb := by
    have hl : n < S.length := by rw [← R.len]; exact (List.getElem?_eq_some_iff.mp hn).1
    have o1 := (R.ob n S[n] a (List.getElem?_eq_getElem hl) hn).plain
    exact tabs_upd R.tb o1.1 o1.2
  tp := R.tp
end

/-! ### making and reading lists -/
/-- m: a list that may change -/
def newL (m : Bool) (ds : List DV) (S : Sto) : DV × Sto := if m then (.ptr S.length, S ++ [.ml ds]) else (.lst ds, S)
/-- what list is it (any that can be read; one that is tracked) -/
def rdL (S : Sto) : DV → Option (List DV)
  | .lst ds => some ds
  | .rls ds => some ds
  | .ptr n => match S[n]? with
    | some (.ml ds) => some ds
    | _ => none
  | _ => none
def trL (S : Sto) : DV → Option (List DV)
  | .lst ds => some ds
  | .ptr n => match S[n]? with
    | some (.ml ds) => some ds
    | _ => none
  | _ => none
def rdT : DV → Option (List DV)
  | .tup ds => some ds
  | _ => none
section
variable {K : PySem.W.Frag} {mg : Str → Option Value} {W W' : Wd} {S : Sto}
theorem newL_ok {m : Bool} {ds : List DV} {vs : List V} {d : DV} {S' : Sto} {p : Addr} (R : Rep K mg W S) (hp : W.H p = none) (h : Dens K W ds vs) (e : newL m ds S = (d, S')) :
    ∃ W', W'.H = upd W.H p (.lst vs) ∧ Ext W W' ∧ Rep K mg W' S' ∧ Den K W' d (.ref p) := by
  unfold newL at e
  cases m with
  | true =>
    cases e
    exact ⟨W.more p (.lst vs), rfl, ext_more hp, rep_more R hp ⟨vs, upd_same, Dens.ext (ext_more hp) _ _ h⟩, p, by
      show (W.α ++ [p])[S.length]? = some p
      rw [← R.len, List.getElem?_concat_length], rfl⟩
  | false =>
    cases e
    exact ⟨W.froz p (.lst vs), rfl, ext_froz hp, rep_froz R hp, p, vs, rfl, ⟨.inr rfl, upd_same⟩, Dens.ext (ext_froz hp) _ _ h⟩
theorem newT_ok {ds : List DV} {vs : List V} {p : Addr} (R : Rep K mg W S) (hp : W.H p = none) (h : Dens K W ds vs) :
    ∃ W', W'.H = upd W.H p (.tup vs) ∧ Ext W W' ∧ Rep K mg W' S ∧ Den K W' (.tup ds) (.ref p) :=
  ⟨W.froz p (.tup vs), rfl, ext_froz hp, rep_froz R hp, p, vs, rfl, ⟨SqT.of upd_same, .inl (.inr rfl)⟩, Dens.ext (ext_froz hp) _ _ h⟩
theorem rdL_ok {d : DV} {v : V} {ds : List DV} (R : Rep K mg W S) (h : Den K W d v) (e : rdL S d = some ds) : ∃ a vs, v = .ref a ∧ SqL K W.H a vs ∧ Dens K W ds vs := by
  cases d with
  | lst es =>
    obtain ⟨a, vs, rfl, s, h⟩ := h
    cases e
    exact ⟨a, vs, rfl, SqL.of s.2, h⟩
  | rls es =>
    obtain ⟨a, vs, rfl, s, h⟩ := h
    cases e
    exact ⟨a, vs, rfl, s.1, h⟩
  | ptr n =>
    obtain ⟨a, ha, rfl⟩ := h
    unfold rdL at e
    simp only at e
    split at e
    · rename_i es q
      cases e
      obtain ⟨vs, h1, h2⟩ := R.ob n _ a q ha
      exact ⟨a, vs, rfl, SqL.of h1, h2⟩
    · cases e
  | _ => cases e
theorem trL_ok {d : DV} {v : V} {ds : List DV} (R : Rep K mg W S) (h : Den K W d v) (e : trL S d = some ds) : ∃ a vs, v = .ref a ∧ W.H a = some (.lst vs) ∧ Dens K W ds vs := by
  cases d with
  | lst es =>
    obtain ⟨a, vs, rfl, s, h⟩ := h
    cases e
    exact ⟨a, vs, rfl, s.2, h⟩
  | ptr n =>
    obtain ⟨a, ha, rfl⟩ := h
    unfold trL at e
    simp only at e
    split at e
    · rename_i es q
      cases e
      obtain ⟨vs, h1, h2⟩ := R.ob n _ a q ha
      exact ⟨a, vs, rfl, h1, h2⟩
    · cases e
  | _ => cases e
theorem rdT_ok {d : DV} {v : V} {ds : List DV} (h : Den K W d v) (e : rdT d = some ds) : ∃ a vs, v = .ref a ∧ SqT K W.H a vs ∧ Dens K W ds vs := by
  cases d with
  | tup es =>
    obtain ⟨a, vs, rfl, s, h⟩ := h
    cases e
    exact ⟨a, vs, rfl, s.1, h⟩
  | _ => cases e
theorem ptr_ok {n : Nat} {v : V} {mo : MO} (R : Rep K mg W S) (h : Den K W (.ptr n) v) (e : S[n]? = some mo) : ∃ a, v = .ref a ∧ W.α[n]? = some a ∧ a ∈ W.α ∧ ObjR K mg W a mo := by
  obtain ⟨a, ha, rfl⟩ := h
  exact ⟨a, rfl, ha, List.mem_of_getElem? ha, R.ob n _ a e ha⟩
end
end DL
end
section
namespace DL
open PySem L2

/-! ### what a reading does to data -/
abbrev DE := Sl → Sto → Option (DV × Sto)
abbrev DA := Sl → Sto → Option (List DV × Sto)
abbrev DT := Sl → Sto → Option (Bool × Sto)
abbrev DG := DV → Sl → Sto → Option (Sl × Sto)
abbrev DGs := List DV → Sl → Sto → Option (Sl × Sto)
inductive Res where
  | nx (s : Sl) (S : Sto)
  | rt (d : DV) (S : Sto)
  | bk (s : Sl) (S : Sto)
  | ct (s : Sl) (S : Sto)
abbrev DS := Sl → Sto → Option Res
def bnd {α β : Type} (o : Option (α × Sto)) (k : α → Sto → Option β) : Option β := match o with
  | none => none
  | some p => k p.1 p.2
theorem bnd_inv {α β : Type} {o : Option (α × Sto)} {k : α → Sto → Option β} {r : β} (h : bnd o k = some r) : ∃ a S, o = some (a, S) ∧ k a S = some r := by
  cases o with
  | none => cases h
  | some p => exact ⟨p.1, p.2, rfl, h⟩
section
variable (K : PySem.W.Frag) (mg : Str → Option Value)
def RE (te : TE) (f : DE) : Prop := ∀ (W : Wd) (σ : St) (s : Sl) (S : Sto) (d : DV) (S' : Sto) (Q : VK), Rep K mg W S → Slo K W σ s → f s S = some (d, S') →
  (∀ v W', Ext W W' → Rep K mg W' S' → Den K W' d v → Q v W'.H) → te σ W.H Q
def RA (ta : TA) (f : DA) : Prop := ∀ (W : Wd) (σ : St) (s : Sl) (S : Sto) (ds : List DV) (S' : Sto) (Q : List V → Hp → Prop), Rep K mg W S → Slo K W σ s → f s S = some (ds, S') →
  (∀ vs W', Ext W W' → Rep K mg W' S' → Dens K W' ds vs → Q vs W'.H) → ta σ W.H Q
def RT (tt : TT) (f : DT) : Prop := ∀ (W : Wd) (σ : St) (s : Sl) (S : Sto) (b : Bool) (S' : Sto) (Q : Bool → Hp → Prop), Rep K mg W S → Slo K W σ s → f s S = some (b, S') →
  (∀ W', Ext W W' → Rep K mg W' S' → Q b W'.H) → tt σ W.H Q
def RG (g : TG) (f : DG) : Prop := ∀ (W : Wd) (σ : St) (s : Sl) (S : Sto) (d : DV) (v : V) (s' : Sl) (S' : Sto) (Q : St → Hp → Prop), Rep K mg W S → Slo K W σ s → Den K W d v → f d s S = some (s', S') →
  (∀ σ' W', Ext W W' → Rep K mg W' S' → Slo K W' σ' s' → Q σ' W'.H) → g v σ W.H Q
def RGs (g : TGs) (f : DGs) : Prop := ∀ (W : Wd) (σ : St) (s : Sl) (S : Sto) (ds : List DV) (vs : List V) (s' : Sl) (S' : Sto) (Q : St → Hp → Prop), Rep K mg W S → Slo K W σ s → Dens K W ds vs → f ds s S = some (s', S') →
  (∀ σ' W', Ext W W' → Rep K mg W' S' → Slo K W' σ' s' → Q σ' W'.H) → g vs σ W.H Q
/-- two places, one place, an argument list: by values -/
def RO (r : R2) (g : DV → DV → Sto → Option (DV × Sto)) : Prop := ∀ (W : Wd) (S : Sto) (x y : DV) (v u : V) (d : DV) (S' : Sto) (Q : VK), Rep K mg W S → Den K W x v → Den K W y u → g x y S = some (d, S') →
  (∀ z W', Ext W W' → Rep K mg W' S' → Den K W' d z → Q z W'.H) → r v u W.H Q
def RU (r : V → Hp → VK → Prop) (g : DV → Sto → Option (DV × Sto)) : Prop := ∀ (W : Wd) (S : Sto) (x : DV) (v : V) (d : DV) (S' : Sto) (Q : VK), Rep K mg W S → Den K W x v → g x S = some (d, S') →
  (∀ z W', Ext W W' → Rep K mg W' S' → Den K W' d z → Q z W'.H) → r v W.H Q
def RC (r : List V → Hp → VK → Prop) (g : List DV → Sto → Option (DV × Sto)) : Prop := ∀ (W : Wd) (S : Sto) (xs : List DV) (vs : List V) (d : DV) (S' : Sto) (Q : VK), Rep K mg W S → Dens K W xs vs → g xs S = some (d, S') →
  (∀ z W', Ext W W' → Rep K mg W' S' → Den K W' d z → Q z W'.H) → r vs W.H Q
def RM (r : V → List V → Hp → VK → Prop) (g : DV → List DV → Sto → Option (DV × Sto)) : Prop := ∀ (W : Wd) (S : Sto) (x : DV) (xs : List DV) (v : V) (vs : List V) (d : DV) (S' : Sto) (Q : VK), Rep K mg W S → Den K W x v → Dens K W xs vs → g x xs S = some (d, S') →
  (∀ z W', Ext W W' → Rep K mg W' S' → Den K W' d z → Q z W'.H) → r v vs W.H Q
def Post (W : Wd) (D : Ends) : Res → Prop
  | .nx s S => ∀ σ' W', Ext W W' → Rep K mg W' S → Slo K W' σ' s → D.nx σ' W'.H
  | .rt d S => ∀ v W', Ext W W' → Rep K mg W' S → Den K W' d v → D.rt v W'.H
  | .bk s S => ∀ σ' W', Ext W W' → Rep K mg W' S → Slo K W' σ' s → D.bk σ' W'.H
  | .ct s S => ∀ σ' W', Ext W W' → Rep K mg W' S → Slo K W' σ' s → D.ct σ' W'.H
def RS (ts : TS) (f : DS) : Prop := ∀ (W : Wd) (σ : St) (s : Sl) (S : Sto) (r : Res) (D : Ends), Rep K mg W S → Slo K W σ s → f s S = some r → Post K mg W D r → ts D σ W.H
end
section
variable {K : PySem.W.Frag} {mg : Str → Option Value}
theorem Post.ext {W W' : Wd} {D : Ends} {r : Res} (e : Ext W W') (h : Post K mg W D r) : Post K mg W' D r := by
  cases r with
  | nx s S => exact fun σ' W'' e' => h σ' W'' (e.trans e')
  | rt d S => exact fun v W'' e' => h v W'' (e.trans e')
  | bk s S => exact fun σ' W'' e' => h σ' W'' (e.trans e')
  | ct s S => exact fun σ' W'' e' => h σ' W'' (e.trans e')

/-! ### expressions -/
variable {ta tb te tc : TE} {fa fb fc : DE} {taa : TA} {faa : DA} {tt tu : TT} {ft fu : DT} {i : Nat}
@[simp] def dVar (i : Nat) : DE := fun s S => match s[i]? with
  | some (some d) => some (d, S)
  | _ => none
theorem re_var : RE K mg (tVar i) (dVar i) := by
  intro W σ s S d S' Q R L h q
  unfold dVar at h
  split at h
  · rename_i d' e
    cases h
    obtain ⟨v, e1, e2⟩ := L.2 i _ e
    exact ⟨v, e1, q v W (Ext.refl W) R e2⟩
  · cases h
@[simp] def dC (d : DV) : DE := fun _ S => some (d, S)
theorem re_c {d : DV} {v : V} (hd : ∀ W, Den K W d v) : RE K mg (tC v) (dC d) := by
  intro W σ s S d S' Q R L h q
  cases h
  exact q v W (Ext.refl W) R (hd W)
theorem re_int {i : Int} : RE K mg (tC (.int i)) (dC (.int i)) := re_c fun _ => rfl
theorem re_bl {b : Bool} : RE K mg (tC (.bl b)) (dC (.bl b)) := re_c fun _ => rfl
theorem re_non : RE K mg (tC .non) (dC .non) := re_c fun _ => rfl
theorem re_str {x : Str} : RE K mg (tC (.str x)) (dC (.str x)) := re_c fun _ => rfl
@[simp] def dOp (g : DV → DV → Sto → Option (DV × Sto)) (f1 f2 : DE) : DE := fun s S => bnd (f1 s S) fun x S1 => bnd (f2 s S1) fun y S2 => g x y S2
theorem re_op {r : R2} {g : DV → DV → Sto → Option (DV × Sto)} (hr : RO K mg r g) (ha : RE K mg ta fa) (hb : RE K mg tb fb) : RE K mg (tOp r ta tb) (dOp g fa fb) := by
  intro W σ s S d S' Q R L h q
  obtain ⟨x, S1, e1, h⟩ := bnd_inv h
  obtain ⟨y, S2, e2, h⟩ := bnd_inv h
  refine ha W σ s S x S1 _ R L e1 fun v W1 x1 R1 d1 => ?_
  refine hb W1 σ s S1 y S2 _ R1 (L.ext x1) e2 fun u W2 x2 R2 d2 => ?_
  exact hr W2 S2 x y v u d S' Q R2 (d1.ext x2) d2 h fun z W3 x3 R3 d3 => q z W3 ((x1.trans x2).trans x3) R3 d3
@[simp] def dUn (g : DV → Sto → Option (DV × Sto)) (f : DE) : DE := fun s S => bnd (f s S) g
theorem re_un {r : V → Hp → VK → Prop} {g : DV → Sto → Option (DV × Sto)} (hr : RU K mg r g) (ha : RE K mg ta fa) : RE K mg (tUn r ta) (dUn g fa) := by
  intro W σ s S d S' Q R L h q
  obtain ⟨x, S1, e1, h⟩ := bnd_inv h
  refine ha W σ s S x S1 _ R L e1 fun v W1 x1 R1 d1 => ?_
  exact hr W1 S1 x v d S' Q R1 d1 h fun z W3 x3 R3 d3 => q z W3 (x1.trans x3) R3 d3
@[simp] def dNil : DA := fun _ S => some ([], S)
@[simp] def dCons (f : DE) (g : DA) : DA := fun s S => bnd (f s S) fun x S1 => bnd (g s S1) fun xs S2 => some (x :: xs, S2)
theorem ra_nil : RA K mg tNil dNil := by
  intro W σ s S ds S' Q R L h q
  cases h
  exact q [] W (Ext.refl W) R rfl
theorem ra_cons (ha : RE K mg ta fa) (hr : RA K mg taa faa) : RA K mg (tCons ta taa) (dCons fa faa) := by
  intro W σ s S ds S' Q R L h q
  obtain ⟨x, S1, e1, h⟩ := bnd_inv h
  obtain ⟨xs, S2, e2, h⟩ := bnd_inv h
  cases h
  refine ha W σ s S x S1 _ R L e1 fun v W1 x1 R1 d1 => ?_
  refine hr W1 σ s _ xs _ _ R1 (L.ext x1) e2 fun vs W2 x2 R2 d2 => ?_
  exact q (v :: vs) W2 (x1.trans x2) R2 ⟨v, vs, rfl, d1.ext x2, d2⟩
theorem lim_le {n : Nat} (h : n ≤ 100000) : n ≤ sizeLine := by rw [sizeLine_eq]; omega
theorem lim_lt {n : Nat} (h : n < 100000) : n < sizeLine := by rw [sizeLine_eq]; omega
open Classical in
/-- only where p holds -/
@[irreducible] noncomputable def gate {α : Type} (p : Prop) (k : Option α) : Option α := if p then k else none
theorem gate_inv {α : Type} {p : Prop} {k : Option α} {r : α} (h : gate p k = some r) : p ∧ k = some r := by
  unfold gate at h
  split at h
  · rename_i hp
    exact ⟨hp, h⟩
  · cases h
@[simp] theorem gate_ok {α : Type} {p : Prop} {k : Option α} (h : p) : gate p k = k := by
  unfold gate
  rw [if_pos h]
@[simp] noncomputable def dTup (f : DA) : DE := fun s S => bnd (f s S) fun xs S1 => gate (xs.length ≤ 100000) (some (.tup xs, S1))
theorem re_tup (h : RA K mg taa faa) : RE K mg (tTup taa) (dTup faa) := by
  intro W σ s S d S' Q R L e q
  obtain ⟨xs, S1, e1, e⟩ := bnd_inv e
  obtain ⟨hl, e⟩ := gate_inv e
  cases e
  refine h W σ s S xs _ _ R L e1 fun vs W1 x1 R1 d1 => ⟨by rw [d1.len]; exact lim_le hl, fun p hp => ?_⟩
  obtain ⟨W2, e2, x2, R2, d2⟩ := newT_ok R1 hp d1
  rw [← e2]
  exact q _ W2 (x1.trans x2) R2 d2
@[simp] noncomputable def dLst (m : Bool) (f : DA) : DE := fun s S => bnd (f s S) fun xs S1 => gate (xs.length ≤ 100000) (some (newL m xs S1))
theorem re_lst {m : Bool} (h : RA K mg taa faa) : RE K mg (tLst taa) (dLst m faa) := by
  intro W σ s S d S' Q R L e q
  obtain ⟨xs, S1, e1, e⟩ := bnd_inv e
  obtain ⟨hl, e⟩ := gate_inv e
  refine h W σ s S xs S1 _ R L e1 fun vs W1 x1 R1 d1 => ⟨by rw [d1.len]; exact lim_le hl, fun p hp => ?_⟩
  obtain ⟨W2, e2, x2, R2, d2⟩ := newL_ok R1 hp d1 (Option.some.inj e)
  rw [← e2]
  exact q _ W2 (x1.trans x2) R2 d2

/-! ### tests -/
@[simp] def dTest (f : DE) : DT := fun s S => bnd (f s S) fun x S1 => match x with
  | .bl b => some (b, S1)
  | _ => none
theorem rt_test (h : RE K mg te fa) : RT K mg (tTest te) (dTest fa) := by
  intro W σ s S b S' Q R L e q
  obtain ⟨x, S1, e1, e⟩ := bnd_inv e
  split at e
  · cases e
    exact h W σ s S _ _ _ R L e1 fun v W1 x1 R1 d1 => ⟨_, (show v = _ from d1), q W1 x1 R1⟩
  · cases e
theorem rt_B (h : RE K mg te fa) : RT K mg (tB te) (dTest fa) := rt_test h
@[simp] def dAnd (f g : DT) : DT := fun s S => bnd (f s S) fun b S1 => if b then g s S1 else some (false, S1)
@[simp] def dOr (f g : DT) : DT := fun s S => bnd (f s S) fun b S1 => if b then some (true, S1) else g s S1
@[simp] def dNot (f : DT) : DT := fun s S => bnd (f s S) fun b S1 => some (!b, S1)
theorem rt_and (h1 : RT K mg tt ft) (h2 : RT K mg tu fu) : RT K mg (tAnd tt tu) (dAnd ft fu) := by
  intro W σ s S b S' Q R L e q
  obtain ⟨x, S1, e1, e⟩ := bnd_inv e
  refine h1 W σ s S x S1 _ R L e1 fun W1 x1 R1 => ?_
  cases x with
  | true => exact iteT (h2 W1 σ s S1 b S' _ R1 (L.ext x1) e fun W2 x2 R2 => q W2 (x1.trans x2) R2)
  | false =>
    cases e
    exact iteF (q W1 x1 R1)
theorem rt_or (h1 : RT K mg tt ft) (h2 : RT K mg tu fu) : RT K mg (tOr tt tu) (dOr ft fu) := by
  intro W σ s S b S' Q R L e q
  obtain ⟨x, S1, e1, e⟩ := bnd_inv e
  refine h1 W σ s S x S1 _ R L e1 fun W1 x1 R1 => ?_
  cases x with
  | false => exact iteF (h2 W1 σ s S1 b S' _ R1 (L.ext x1) e fun W2 x2 R2 => q W2 (x1.trans x2) R2)
  | true =>
    cases e
    exact iteT (q W1 x1 R1)
theorem rt_not (h1 : RT K mg tt ft) : RT K mg (tNot tt) (dNot ft) := by
  intro W σ s S b S' Q R L e q
  obtain ⟨x, S1, e1, e⟩ := bnd_inv e
  cases e
  exact h1 W σ s S x _ _ R L e1 fun W1 x1 R1 => q W1 x1 R1
@[simp] def dAndV (f g : DE) : DE := fun s S => bnd (f s S) fun x S1 => match x with
  | .bl true => g s S1
  | .bl false => some (.bl false, S1)
  | _ => none
@[simp] def dOrV (f g : DE) : DE := fun s S => bnd (f s S) fun x S1 => match x with
  | .bl true => some (.bl true, S1)
  | .bl false => g s S1
  | _ => none
@[simp] def dNotV (f : DE) : DE := fun s S => bnd (f s S) fun x S1 => match x with
  | .bl b => some (.bl (!b), S1)
  | _ => none
theorem re_andV (ha : RE K mg ta fa) (hb : RE K mg tb fb) : RE K mg (tAndV ta tb) (dAndV fa fb) := by
  intro W σ s S d S' Q R L e q
  obtain ⟨x, S1, e1, e⟩ := bnd_inv e
  refine ha W σ s S x S1 _ R L e1 fun v W1 x1 R1 d1 => ?_
  split at e
  · exact ⟨true, d1, iteT (hb W1 σ s S1 d S' _ R1 (L.ext x1) e fun z W2 x2 R2 d2 => q z W2 (x1.trans x2) R2 d2)⟩
  · cases e
    exact ⟨false, d1, iteF (q _ W1 x1 R1 rfl)⟩
  · cases e
theorem re_notV (ha : RE K mg ta fa) : RE K mg (tNotV ta) (dNotV fa) := by
  intro W σ s S d S' Q R L e q
  obtain ⟨x, S1, e1, e⟩ := bnd_inv e
  refine ha W σ s S x S1 _ R L e1 fun v W1 x1 R1 d1 => ?_
  split at e
  · rename_i b
    cases e
    exact ⟨b, d1, q _ W1 x1 R1 rfl⟩
  · cases e
@[simp] def dIf (t : DT) (f g : DE) : DE := fun s S => bnd (t s S) fun b S1 => if b then f s S1 else g s S1
theorem re_if (ht : RT K mg tt ft) (ha : RE K mg ta fa) (hb : RE K mg tb fb) : RE K mg (tIf tt ta tb) (dIf ft fa fb) := by
  intro W σ s S d S' Q R L e q
  obtain ⟨b, S1, e1, e⟩ := bnd_inv e
  refine ht W σ s S b S1 _ R L e1 fun W1 x1 R1 => ?_
  cases b with
  | true => exact iteT (ha W1 σ s S1 d S' _ R1 (L.ext x1) e fun z W2 x2 R2 d2 => q z W2 (x1.trans x2) R2 d2)
  | false => exact iteF (hb W1 σ s S1 d S' _ R1 (L.ext x1) e fun z W2 x2 R2 d2 => q z W2 (x1.trans x2) R2 d2)
/-- a chain of two comparisons -/
@[simp] def dChain (g g' : DV → DV → Sto → Option (DV × Sto)) (f1 f2 f3 : DE) : DE := fun s S => bnd (f1 s S) fun x S1 => bnd (f2 s S1) fun y S2 => bnd (g x y S2) fun z S3 => match z with
  | .bl true => bnd (f3 s S3) fun w S4 => g' y w S4
  | .bl false => some (.bl false, S3)
  | _ => none
theorem re_chain {r r' : R2} {g g' : DV → DV → Sto → Option (DV × Sto)} (hr : RO K mg r g) (hr' : RO K mg r' g') (ha : RE K mg ta fa) (hb : RE K mg tb fb) (hc : RE K mg tc fc) : RE K mg (tChain r r' ta tb tc) (dChain g g' fa fb fc) := by
  intro W σ s S d S' Q R L h q
  obtain ⟨x, S1, e1, h⟩ := bnd_inv h
  obtain ⟨y, S2, e2, h⟩ := bnd_inv h
  obtain ⟨z, S3, e3, h⟩ := bnd_inv h
  refine ha W σ s S x S1 _ R L e1 fun v W1 x1 R1 d1 => ?_
  refine hb W1 σ s S1 y S2 _ R1 (L.ext x1) e2 fun u W2 x2 R2 d2 => ?_
  refine hr W2 S2 x y v u z S3 _ R2 (d1.ext x2) d2 e3 fun w W3 x3 R3 d3 => ?_
  split at h
  · obtain ⟨y', S4, e4, h⟩ := bnd_inv h
    refine ⟨true, d3, iteT ?_⟩
    refine hc W3 σ s S3 y' S4 _ R3 (L.ext ((x1.trans x2).trans x3)) e4 fun u' W4 x4 R4 d4 => ?_
    exact hr' W4 S4 y y' u u' d S' Q R4 (d2.ext (x3.trans x4)) d4 h fun z W5 x5 R5 d5 => q z W5 ((((x1.trans x2).trans x3).trans x4).trans x5) R5 d5
  · cases h
    exact ⟨false, d3, iteF (q _ W3 ((x1.trans x2).trans x3) R3 rfl)⟩
  · cases h

/-! ### calls by values -/
@[simp] def dCB (g : List DV → Sto → Option (DV × Sto)) (f : DA) : DE := fun s S => bnd (f s S) g
theorem re_CB {r : List V → Hp → VK → Prop} {g : List DV → Sto → Option (DV × Sto)} (hr : RC K mg r g) (h : RA K mg taa faa) : RE K mg (tCB r taa) (dCB g faa) := by
  intro W σ s S d S' Q R L e q
  obtain ⟨xs, S1, e1, e⟩ := bnd_inv e
  refine h W σ s S xs S1 _ R L e1 fun vs W1 x1 R1 d1 => ?_
  exact hr W1 S1 xs vs d S' Q R1 d1 e fun z W3 x3 R3 d3 => q z W3 (x1.trans x3) R3 d3
/-- a method of a built-in type -/
@[simp] def dBM (T : String) (g : DV → List DV → Sto → Option (DV × Sto)) (f : DE) (fs : DA) : DE := fun s S => bnd (f s S) fun x S1 =>
  if T = "list" ∧ (rdL S1 x).isSome = true then bnd (fs s S1) fun xs S2 => g x xs S2 else none
theorem re_BM {r : V → List V → Hp → VK → Prop} {g : DV → List DV → Sto → Option (DV × Sto)} {T : String} (hr : RM K mg r g) (ho : RE K mg te fa) (h : RA K mg taa faa) : RE K mg (tBM K T r te taa) (dBM T g fa faa) := by
  intro W σ s S d S' Q R L e q
  obtain ⟨x, S1, e1, e⟩ := bnd_inv e
  split at e
  · rename_i hT
    obtain ⟨xs, S2, e2, e⟩ := bnd_inv e
    refine ho W σ s S x S1 _ R L e1 fun v W1 x1 R1 d1 => ⟨?_, ?_⟩
    · obtain ⟨ds, hd⟩ := Option.isSome_iff_exists.mp hT.2
      obtain ⟨a, vs, rfl, h1, _⟩ := rdL_ok R1 d1 hd
      exact .inl ⟨hT.1, vs, h1⟩
    · refine h W1 σ s S1 xs S2 _ R1 (L.ext x1) e2 fun vs W2 x2 R2 d2 => ?_
      exact hr W2 S2 x xs v vs d S' Q R2 (d1.ext x2) d2 e fun z W3 x3 R3 d3 => q z W3 ((x1.trans x2).trans x3) R3 d3
  · cases e
@[simp] def dBM0 (T : String) (g : DV → List DV → Sto → Option (DV × Sto)) (f : DE) : DE := fun s S => bnd (f s S) fun x S1 =>
  if T = "list" ∧ (rdL S1 x).isSome = true then g x [] S1 else none
theorem re_BM0 {r : V → List V → Hp → VK → Prop} {g : DV → List DV → Sto → Option (DV × Sto)} {T : String} (hr : RM K mg r g) (ho : RE K mg te fa) : RE K mg (tBM0 K T r te) (dBM0 T g fa) := by
  intro W σ s S d S' Q R L e q
  obtain ⟨x, S1, e1, e⟩ := bnd_inv e
  split at e
  · rename_i hT
    refine ho W σ s S x S1 _ R L e1 fun v W1 x1 R1 d1 => ⟨?_, ?_⟩
    · obtain ⟨ds, hd⟩ := Option.isSome_iff_exists.mp hT.2
      obtain ⟨a, vs, rfl, h1, _⟩ := rdL_ok R1 d1 hd
      exact .inl ⟨hT.1, vs, h1⟩
    · exact hr W1 S1 x [] v [] d S' Q R1 d1 rfl e fun z W3 x3 R3 d3 => q z W3 (x1.trans x3) R3 d3
  · cases e

/-! ### a def's promise -/
def spF (K : PySem.W.Frag) (mg : Str → Option Value) (n : Nat) (g : List DV → Sto → Option (DV × Sto)) : Sp := fun vs H Q _ => vs.length = n ∧ ∃ (W : Wd) (S : Sto) (ds : List DV) (d : DV) (S' : Sto), W.H = H ∧ Rep K mg W S ∧ Dens K W ds vs ∧ g ds S = some (d, S') ∧
  ∀ v W', Ext W W' → Rep K mg W' S' → Den K W' d v → Q v W'.H
/-- a call: the defaults behind -/
@[simp] def dCall (n : Nat) (g : List DV → Sto → Option (DV × Sto)) (dd : List DV) (f : DA) : DE := fun s S => bnd (f s S) fun xs S1 => if (xs ++ dd).length = n then g (xs ++ dd) S1 else none
theorem re_call {n : Nat} {g : List DV → Sto → Option (DV × Sto)} {dd : List DV} {dvs : List V} {E : XK} (hd : ∀ W, Dens K W dd dvs) (h : RA K mg taa faa) : RE K mg (tCall (spF K mg n g) dvs E taa) (dCall n g dd faa) := by
  intro W σ s S d S' Q R L e q
  obtain ⟨xs, S1, e1, e⟩ := bnd_inv e
  split at e
  · rename_i hl
    refine h W σ s S xs S1 _ R L e1 fun vs W1 x1 R1 d1 => ?_
    have da := d1.app (hd W1)
    exact ⟨by rw [da.len]; exact hl, W1, S1, _, d, S', rfl, R1, da, e, fun v W' x' R' d' => q v W' (x1.trans x') R' d'⟩
  · cases e
theorem re_call0 {n : Nat} {g : List DV → Sto → Option (DV × Sto)} {E : XK} (h : RA K mg taa faa) : RE K mg (tCall (spF K mg n g) [] E taa) (dCall n g [] faa) := re_call (fun _ => rfl) h
/-- with keywords: G tells the order -/
@[simp] def dCallK (n : Nat) (g : List DV → Sto → Option (DV × Sto)) (G : List DV → List DV → List DV) (f fk : DA) : DE := fun s S => bnd (f s S) fun xs S1 => bnd (fk s S1) fun ys S2 => if (G xs ys).length = n then g (G xs ys) S2 else none
end

/-! ### statements -/
@[simp] def kNx (r : Res) (g : DS) : Option Res := match r with
  | .nx s S => g s S
  | r => some r
@[simp] def dSeq (f g : DS) : DS := fun s S => match f s S with
  | none => none
  | some r => kNx r g
@[simp] def dNext : DS := fun s S => some (.nx s S)
@[simp] def dIfS (t : DT) (f g : DS) : DS := fun s S => bnd (t s S) fun b S1 => if b then f s S1 else g s S1
@[simp] def dRet (f : DE) : DS := fun s S => bnd (f s S) fun d S1 => some (.rt d S1)
@[simp] def dRetN : DS := fun _ S => some (.rt .non S)
@[simp] def dDrop (f : DE) : DS := fun s S => bnd (f s S) fun _ S1 => some (.nx s S1)
@[simp] def dBreak : DS := fun s S => some (.bk s S)
@[simp] def dCont : DS := fun s S => some (.ct s S)
@[simp] def dNever : DS := fun _ _ => none
@[simp] def dName (i : Nat) : DG := fun d s S => some (s.set i (some d), S)
@[simp] def dGNil : DGs := fun ds s S => match ds with
  | [] => some (s, S)
  | _ => none
@[simp] def dGCons (f : DG) (g : DGs) : DGs := fun ds s S => match ds with
  | [] => none
  | d :: r => match f d s S with
    | none => none
    | some p => g r p.1 p.2
@[simp] def dGTup (n : Nat) (g : DGs) : DG := fun d s S => match d with
  | .tup ds => if ds.length = n then g ds s S else none
  | _ => none
@[simp] def dAsg (f : DE) (g : DG) : DS := fun s S => bnd (f s S) fun d S1 => match g d s S1 with
  | none => none
  | some p => some (.nx p.1 p.2)
@[simp] def dPar (i j : Nat) (f : DA) : DS := fun s S => bnd (f s S) fun ds S1 => match ds with
  | [d, e] => some (.nx ((s.set i (some d)).set j (some e)) S1)
  | _ => none
@[simp] def dAug (i : Nat) (f : DE) (g : DV → DV → Sto → Option (DV × Sto)) : DS := fun s S => match s[i]? with
  | some (some x) => bnd (f s S) fun y S1 => bnd (g x y S1) fun z S2 => some (.nx (s.set i (some z)) S2)
  | _ => none
def setL (o i v : DV) (S : Sto) : Option Sto := match o, i with
  | .ptr n, .int k => match S[n]? with
    | some (.ml ds) => match ixN ds.length k with
      | some j => some (S.set n (.ml (ds.set j v)))
      | none => none
    | _ => none
  | _, _ => none
@[simp] def dSub (f g : DE) : DG := fun v s S => bnd (f s S) fun o S1 => bnd (g s S1) fun i S2 => match setL o i v S2 with
  | none => none
  | some S3 => some (s, S3)
section
variable {K : PySem.W.Frag} {mg : Str → Option Value}
variable {te ta tb : TE} {fe fa fb : DE} {tt : TT} {ft : DT} {t u : TS} {f g : DS} {taa : TA} {faa : DA} {i j n : Nat} {tg : TG} {fg : DG} {tgs : TGs} {fgs : DGs}
theorem rs_seq (h1 : RS K mg t f) (h2 : RS K mg u g) : RS K mg (tSeq t u) (dSeq f g) := by
  intro W σ s S r D R L e P
  unfold dSeq at e
  split at e
  · cases e
  · rename_i r1 e1
    refine h1 W σ s S r1 { D with nx := u D } R L e1 ?_
    cases r1 with
    | nx s1 S1 => exact fun σ1 W1 x1 R1 L1 => h2 W1 σ1 s1 S1 r D R1 L1 e (P.ext x1)
    | rt d S1 =>
      cases e
      exact P
    | bk s1 S1 =>
      cases e
      exact P
    | ct s1 S1 =>
      cases e
      exact P
theorem rs_next : RS K mg tNext dNext := by
  intro W σ s S r D R L e P
  cases e
  exact P σ W (Ext.refl W) R L
theorem rs_if (ht : RT K mg tt ft) (h1 : RS K mg t f) (h2 : RS K mg u g) : RS K mg (tIfS tt t u) (dIfS ft f g) := by
  intro W σ s S r D R L e P
  obtain ⟨b, S1, e1, e⟩ := bnd_inv e
  refine ht W σ s S b S1 _ R L e1 fun W1 x1 R1 => ?_
  cases b with
  | true => exact iteT (h1 W1 σ s S1 r D R1 (L.ext x1) e (P.ext x1))
  | false => exact iteF (h2 W1 σ s S1 r D R1 (L.ext x1) e (P.ext x1))
theorem rs_ret (h : RE K mg te fe) : RS K mg (tRet te) (dRet fe) := by
  intro W σ s S r D R L e P
  obtain ⟨d, S1, e1, e⟩ := bnd_inv e
  cases e
  exact h W σ s S d S1 _ R L e1 fun v W1 x1 R1 d1 => P v W1 x1 R1 d1
theorem rs_drop (h : RE K mg te fe) : RS K mg (tDrop te) (dDrop fe) := by
  intro W σ s S r D R L e P
  obtain ⟨d, S1, e1, e⟩ := bnd_inv e
  cases e
  exact h W σ s S d S1 _ R L e1 fun v W1 x1 R1 d1 => P σ W1 x1 R1 (L.ext x1)
theorem rg_name : RG K mg (gName i) (dName i) := by
  intro W σ s S d v s' S' Q R L hd e q
  cases e
  exact q _ W (Ext.refl W) R (L.set i hd)
theorem rgs_nil : RGs K mg gNil dGNil := by
  intro W σ s S ds vs s' S' Q R L hd e q
  unfold dGNil at e
  split at e
  · cases e
    exact ⟨hd, q σ W (Ext.refl W) R L⟩
  · cases e
theorem rgs_cons (h1 : RG K mg tg fg) (h2 : RGs K mg tgs fgs) : RGs K mg (gCons tg tgs) (dGCons fg fgs) := by
  intro W σ s S ds vs s' S' Q R L hd e q
  unfold dGCons at e
  split at e
  · cases e
  · rename_i d r
    split at e
    · cases e
    · rename_i p e1
      obtain ⟨v, us, rfl, d1, d2⟩ := hd
      refine ⟨v, us, rfl, h1 W σ s S d v p.1 p.2 _ R L d1 e1 fun σ1 W1 x1 R1 L1 => ?_⟩
      exact h2 W1 σ1 p.1 p.2 r us s' S' Q R1 L1 (Dens.ext x1 _ _ d2) e fun σ2 W2 x2 R2 L2 => q σ2 W2 (x1.trans x2) R2 L2
theorem rg_tup (h : RGs K mg tgs fgs) : RG K mg (gTup K n tgs) (dGTup n fgs) := by
  intro W σ s S d v s' S' Q R L hd e q
  unfold dGTup at e
  split at e
  · rename_i ds
    split at e
    · rename_i hl
      obtain ⟨a, vs, rfl, h1, h2⟩ := hd
      exact ⟨a, vs, rfl, h1.1, by rw [h2.len]; exact hl, h W σ s S ds vs s' S' Q R L h2 e q⟩
    · cases e
  · cases e
theorem rs_asg (h : RE K mg te fe) (hg : RG K mg tg fg) : RS K mg (tAsg te tg) (dAsg fe fg) := by
  intro W σ s S r D R L e P
  obtain ⟨d, S1, e1, e⟩ := bnd_inv e
  split at e
  · cases e
  · rename_i p e2
    cases e
    refine h W σ s S d S1 _ R L e1 fun v W1 x1 R1 d1 => ?_
    exact hg W1 σ s S1 d v p.1 p.2 _ R1 (L.ext x1) d1 e2 fun σ2 W2 x2 R2 L2 => P σ2 W2 (x1.trans x2) R2 L2
theorem rs_par (h : RA K mg taa faa) : RS K mg (tPar i j taa) (dPar i j faa) := by
  intro W σ s S r D R L e P
  obtain ⟨ds, S1, e1, e⟩ := bnd_inv e
  split at e
  · rename_i d d'
    cases e
    refine h W σ s S _ S1 _ R L e1 fun vs W1 x1 R1 h1 => ?_
    obtain ⟨v, r, rfl, d1, v', r', rfl, d2, h3⟩ := h1
    cases (show r' = [] from h3)
    exact ⟨v, v', rfl, P _ W1 x1 R1 (((L.ext x1).set i d1).set j d2)⟩
  · cases e
theorem rg_sub (ho : RE K mg ta fa) (hi : RE K mg tb fb) : RG K mg (gSub ta tb rSetL) (dSub fa fb) := by
  intro W σ s S d v s' S' Q R L hd e q
  obtain ⟨o, S1, e1, e⟩ := bnd_inv e
  obtain ⟨k, S2, e2, e⟩ := bnd_inv e
  split at e
  · cases e
  · rename_i S3 e3
    cases e
    refine ho W σ s S o S1 _ R L e1 fun ov W1 x1 R1 d1 => ?_
    refine hi W1 σ s S1 k S2 _ R1 (L.ext x1) e2 fun iv W2 x2 R2 d2 => ?_
    unfold setL at e3
    split at e3
    · rename_i n kk
      split at e3
      · rename_i ds hn
        split at e3
        · rename_i j hj
          cases e3
          obtain ⟨a, rfl, ha, hm, vs, h1, h2⟩ := ptr_ok R2 (d1.ext x2) hn
          refine ⟨a, vs, kk, j, rfl, d2, h1, by rw [h2.len]; exact hj, ?_⟩
          have xp := ext_put (o := HO.lst (vs.set j v)) R2 hm
          refine q σ (W2.put a (.lst (vs.set j v))) ((x1.trans x2).trans xp) (rep_put R2 ha ⟨vs.set j v, upd_same, Dens.set j (Dens.ext xp _ _ h2) (((hd.ext x1).ext x2).ext xp)⟩) (L.ext ((x1.trans x2).trans xp))
        · cases e3
      · cases e3
    · cases e3
end
end DL
end
section
/-! zip of three lists -/
namespace DL
open PySem PySem.Spec PyProof.Rows L2
/-- the lists at a, b, c as they stand at each turn, the items in new tuples of three; it ends where the first one does -/
def Itz3 (K : PySem.W.Frag) (a b c : Addr) : It :=
  ⟨fun i H => ∃ (xs ys zs : List V) (x y z : V), SqL K H a xs ∧ SqL K H b ys ∧ SqL K H c zs ∧ xs[i]? = some x ∧ ys[i]? = some y ∧ zs[i]? = some z,
    fun i H v H' => ∃ T x y z, v = .ref T ∧ H T = none ∧ H' = upd H T (.tup [x, y, z]) ∧ (∀ xs, SqL K H a xs → xs[i]? = some x) ∧ (∀ ys, SqL K H b ys → ys[i]? = some y) ∧ ∀ zs, SqL K H c zs → zs[i]? = some z,
    fun i H => ∃ xs ys zs : List V, SqL K H a xs ∧ SqL K H b ys ∧ SqL K H c zs ∧ i ≤ xs.length ∧ i ≤ ys.length ∧ i ≤ zs.length ∧ (i = xs.length ∨ i = ys.length ∨ i = zs.length)⟩
end DL
end
section
namespace DL
open PySem L2

/-! ### what a loop goes over -/
inductive DIt where
  | li (d : DV)
  | tu (d : DV)
  | rg (lo : Int) (n : Nat)
  | en (d : DV)
  | zp (d e : DV)
  | zt (d e : DV)
  | z3 (d e f : DV)
  | em (d : DV)
  | ki (fs : List (Int × DV))
/-- a tuple without items -/
def IteE (K : PySem.W.Frag) (a : Addr) : It := ⟨fun _ _ => False, fun _ _ _ _ => False, fun _ H => SqT K H a []⟩
def itemAt (it : DIt) (S : Sto) (i : Nat) : Option (Option DV) := match it with
  | .li d => match rdL S d with
    | some ds => some ds[i]?
    | none => none
  | .tu d => match rdT d with
    | some ds => some ds[i]?
    | none => none
  | .rg lo n => some (if i < n then some (.int (lo + i)) else none)
  | .en d => match rdL S d with
    | some ds => some (match ds[i]? with
      | some x => some (.tup [.int (i : Nat), x])
      | none => none)
    | none => none
  | .zp d e => match rdL S d, rdL S e with
    | some xs, some ys => some (match xs[i]?, ys[i]? with
      | some x, some y => some (.tup [x, y])
      | _, _ => none)
    | _, _ => none
  | .zt d e => match rdT d, rdT e with
    | some xs, some ys => some (match xs[i]?, ys[i]? with
      | some x, some y => some (.tup [x, y])
      | _, _ => none)
    | _, _ => none
  | .z3 d e f => match rdL S d, rdL S e, rdL S f with
    | some xs, some ys, some zs => if i ≤ xs.length ∧ i ≤ ys.length ∧ i ≤ zs.length then some (match xs[i]?, ys[i]?, zs[i]? with
      | some x, some y, some z => some (.tup [x, y, z])
      | _, _, _ => none) else none
    | _, _, _ => none
  | .em d => match rdT d with
    | some [] => some none
    | _ => none
  | .ki fs => some (fs[i]?.map fun p => .tup [.int p.1, p.2])
def itLen (it : DIt) (S : Sto) : Nat := match it with
  | .li d => match rdL S d with
    | some ds => ds.length
    | none => 0
  | .tu d => match rdT d with
    | some ds => ds.length
    | none => 0
  | .rg _ n => n
  | .en d => match rdL S d with
    | some ds => ds.length
    | none => 0
  | .zp d _ => match rdL S d with
    | some ds => ds.length
    | none => 0
  | .zt d _ => match rdT d with
    | some ds => ds.length
    | none => 0
  | .z3 d _ _ => match rdL S d with
    | some ds => ds.length
    | none => 0
  | .em _ => 0
  | .ki fs => fs.length
abbrev DI := Sl → Sto → Option (DIt × Sto)
section
variable (K : PySem.W.Frag) (mg : Str → Option Value)
def ItDen (W : Wd) : DIt → It → Prop
  | .li d, J => ∃ a, Den K W d (.ref a) ∧ J = Itl K a
  | .tu d, J => ∃ a, Den K W d (.ref a) ∧ J = Itt K a
  | .rg lo n, J => J = Itr lo n
  | .en d, J => ∃ a, Den K W d (.ref a) ∧ J = Ite K a
  | .zp d e, J => ∃ a b, Den K W d (.ref a) ∧ Den K W e (.ref b) ∧ J = Itz K a b
  | .zt d e, J => ∃ a b, Den K W d (.ref a) ∧ Den K W e (.ref b) ∧ J = RZ.ItzT K a b
  | .z3 d e f, J => ∃ a b c, Den K W d (.ref a) ∧ Den K W e (.ref b) ∧ Den K W f (.ref c) ∧ J = Itz3 K a b c
  | .em d, J => ∃ a, Den K W d (.ref a) ∧ J = IteE K a
  | .ki fs, J => ∃ a o kvs, W.P a ∧ W.H a = some (.frz o (.dK kvs)) ∧ DiR K W fs kvs ∧ J = Iti a o kvs
def RI (wi : TI) (f : DI) : Prop := ∀ (W : Wd) (σ : St) (s : Sl) (S : Sto) (it : DIt) (S' : Sto) (R : It → Hp → Prop), Rep K mg W S → Slo K W σ s → f s S = some (it, S') →
  (∀ J W', Ext W W' → Rep K mg W' S' → ItDen K W' it J → R J W'.H) → wi σ W.H R
end
section
variable {K : PySem.W.Frag} {mg : Str → Option Value} {W W' : Wd} {S : Sto}
theorem ItDen.ext0 (e : Ex0 W W') {it : DIt} {J : It} (h : ItDen K W it J) : ItDen K W' it J := by
  cases it with
  | li d =>
    obtain ⟨a, h, q⟩ := h
    exact ⟨a, Den.ext0 e _ _ h, q⟩
  | tu d =>
    obtain ⟨a, h, q⟩ := h
    exact ⟨a, Den.ext0 e _ _ h, q⟩
  | rg lo n => exact h
  | en d =>
    obtain ⟨a, h, q⟩ := h
    exact ⟨a, Den.ext0 e _ _ h, q⟩
  | zp d f =>
    obtain ⟨a, b, h, h', q⟩ := h
    exact ⟨a, b, Den.ext0 e _ _ h, Den.ext0 e _ _ h', q⟩
  | zt d f =>
    obtain ⟨a, b, h, h', q⟩ := h
    exact ⟨a, b, Den.ext0 e _ _ h, Den.ext0 e _ _ h', q⟩
  | z3 d f g =>
    obtain ⟨a, b, c, h, h', h'', q⟩ := h
    exact ⟨a, b, c, Den.ext0 e _ _ h, Den.ext0 e _ _ h', Den.ext0 e _ _ h'', q⟩
  | em d =>
    obtain ⟨a, h, q⟩ := h
    exact ⟨a, Den.ext0 e _ _ h, q⟩
  | ki fs =>
    obtain ⟨a, o, kvs, h1, h2, h3, q⟩ := h
    exact ⟨a, o, kvs, e.p _ h1, e.hp _ _ h1 h2, DiR.ext0 e h3, q⟩
theorem rdL_ref {d : DV} {a : Addr} {ds : List DV} (R : Rep K mg W S) (h : Den K W d (.ref a)) (e : rdL S d = some ds) : ∃ vs, SqL K W.H a vs ∧ Dens K W ds vs := by
  obtain ⟨b, vs, q, h1, h2⟩ := rdL_ok R h e
  cases q
  exact ⟨vs, h1, h2⟩
theorem rdT_ref {d : DV} {a : Addr} {ds : List DV} (h : Den K W d (.ref a)) (e : rdT d = some ds) : ∃ vs, SqT K W.H a vs ∧ Dens K W ds vs := by
  obtain ⟨b, vs, q, h1, h2⟩ := rdT_ok h e
  cases q
  exact ⟨vs, h1, h2⟩
theorem DiR.len : ∀ {fs : List (Int × DV)} {vs : List (Key × V)}, DiR K W fs vs → vs.length = fs.length
  | [], _, h => by
    cases (show _ = [] from h)
    rfl
  | p :: fs, _, h => by
    obtain ⟨u, r, rfl, _, h2⟩ := h
    simp [DiR.len h2]
theorem DiR.get {p : Int × DV} : ∀ {fs : List (Int × DV)} {vs : List (Key × V)} {i : Nat}, DiR K W fs vs → fs[i]? = some p → ∃ v, vs[i]? = some ((Sum.inl p.1 : Key), v) ∧ Den K W p.2 v
  | [], _, _, _, e => by cases e
  | q :: fs, _, 0, h, e => by
    obtain ⟨u, r, rfl, h1, _⟩ := h
    cases e
    exact ⟨u, rfl, h1⟩
  | q :: fs, _, i + 1, h, e => by
    obtain ⟨u, r, rfl, _, h2⟩ := h
    exact DiR.get (i := i) h2 e
theorem item_stop {it : DIt} {J : It} {i : Nat} (R : Rep K mg W S) (h : ItDen K W it J) (e : itemAt it S i = some none) : J.stop i W.H := by
  cases it with
  | li d =>
    obtain ⟨a, h, rfl⟩ := h
    simp only [itemAt] at e
    split at e
    · rename_i ds e1
      obtain ⟨vs, h1, h2⟩ := rdL_ref R h e1
      refine ⟨vs, h1, ?_⟩
      rw [h2.len]
      exact List.getElem?_eq_none_iff.mp (Option.some.inj e)
    · cases e
  | tu d =>
    obtain ⟨a, h, rfl⟩ := h
    simp only [itemAt] at e
    split at e
    · rename_i ds e1
      obtain ⟨vs, h1, h2⟩ := rdT_ref h e1
      refine ⟨vs, h1, ?_⟩
      rw [h2.len]
      exact List.getElem?_eq_none_iff.mp (Option.some.inj e)
    · cases e
  | rg lo n =>
    cases (show J = Itr lo n from h)
    simp only [itemAt] at e
    show n ≤ i
    by_cases hi : i < n
    · rw [if_pos hi] at e
      cases e
    · omega
  | en d =>
    obtain ⟨a, h, rfl⟩ := h
    simp only [itemAt] at e
    split at e
    · rename_i ds e1
      obtain ⟨vs, h1, h2⟩ := rdL_ref R h e1
      refine ⟨vs, h1, ?_⟩
      rw [h2.len]
      cases q : ds[i]? with
      | none => exact List.getElem?_eq_none_iff.mp q
      | some x =>
        rw [q] at e
        cases e
    · cases e
  | zp d f =>
    obtain ⟨a, b, h, h', rfl⟩ := h
    simp only [itemAt] at e
    split at e
    · rename_i xs ys e1 e2
      obtain ⟨vs, h1, h2⟩ := rdL_ref R h e1
      obtain ⟨us, h3, h4⟩ := rdL_ref R h' e2
      refine ⟨vs, us, h1, h3, ?_⟩
      rw [h2.len, h4.len]
      cases q : xs[i]? with
      | none => exact .inl (List.getElem?_eq_none_iff.mp q)
      | some x =>
        cases q' : ys[i]? with
        | none => exact .inr (List.getElem?_eq_none_iff.mp q')
        | some y =>
          rw [q, q'] at e
          cases e
    · cases e
  | z3 d f g =>
    obtain ⟨a, b, c, h, h', h'', rfl⟩ := h
    simp only [itemAt] at e
    split at e
    · rename_i xs ys zs e1 e2 e3
      obtain ⟨vs, h1, h2⟩ := rdL_ref R h e1
      obtain ⟨us, h3, h4⟩ := rdL_ref R h' e2
      obtain ⟨ws, h5, h6⟩ := rdL_ref R h'' e3
      split at e
      · rename_i hl
        refine ⟨vs, us, ws, h1, h3, h5, by rw [h2.len]; exact hl.1, by rw [h4.len]; exact hl.2.1, by rw [h6.len]; exact hl.2.2, ?_⟩
        rw [h2.len, h4.len, h6.len]
        cases q : xs[i]? with
        | none => exact .inl (Nat.le_antisymm hl.1 (List.getElem?_eq_none_iff.mp q))
        | some x =>
          cases q' : ys[i]? with
          | none => exact .inr (.inl (Nat.le_antisymm hl.2.1 (List.getElem?_eq_none_iff.mp q')))
          | some y =>
            cases q'' : zs[i]? with
            | none => exact .inr (.inr (Nat.le_antisymm hl.2.2 (List.getElem?_eq_none_iff.mp q'')))
            | some z =>
              rw [q, q', q''] at e
              cases e
      · cases e
    · cases e
  | zt d f =>
    obtain ⟨a, b, h, h', rfl⟩ := h
    simp only [itemAt] at e
    split at e
    · rename_i xs ys e1 e2
      obtain ⟨vs, h1, h2⟩ := rdT_ref h e1
      obtain ⟨us, h3, h4⟩ := rdT_ref h' e2
      refine ⟨vs, us, h1, h3, ?_⟩
      rw [h2.len, h4.len]
      cases q : xs[i]? with
      | none => exact .inl (List.getElem?_eq_none_iff.mp q)
      | some x =>
        cases q' : ys[i]? with
        | none => exact .inr (List.getElem?_eq_none_iff.mp q')
        | some y =>
          rw [q, q'] at e
          cases e
    · cases e
  | em d =>
    obtain ⟨a, h, rfl⟩ := h
    simp only [itemAt] at e
    split at e
    · rename_i e1
      obtain ⟨vs, h1, h2⟩ := rdT_ref h e1
      cases (show vs = [] from h2)
      exact h1
    · cases e
  | ki fs =>
    obtain ⟨a, o, kvs, h1, h2, h3, rfl⟩ := h
    simp only [itemAt, Option.some.injEq, Option.map_eq_none_iff] at e
    exact ⟨h2, by rw [h3.len]; exact List.getElem?_eq_none_iff.mp e⟩
theorem item_go {it : DIt} {J : It} {i : Nat} {d : DV} (R : Rep K mg W S) (h : ItDen K W it J) (e : itemAt it S i = some (some d)) :
    J.go i W.H ∧ ∀ x H', J.yld i W.H x H' → ∃ W', W'.H = H' ∧ Ext W W' ∧ Rep K mg W' S ∧ Den K W' d x := by
  cases it with
  | li d' =>
    obtain ⟨a, h, rfl⟩ := h
    simp only [itemAt] at e
    split at e
    · rename_i ds e1
      obtain ⟨vs, h1, h2⟩ := rdL_ref R h e1
      obtain ⟨v, h3, h4⟩ := h2.get (Option.some.inj e)
      refine ⟨⟨vs, v, h1, h3⟩, fun x H' y => ?_⟩
      obtain ⟨rfl, y⟩ := y
      have := (y vs h1).symm.trans h3
      cases this
      exact ⟨W, rfl, Ext.refl W, R, h4⟩
    · cases e
  | tu d' =>
    obtain ⟨a, h, rfl⟩ := h
    simp only [itemAt] at e
    split at e
    · rename_i ds e1
      obtain ⟨vs, h1, h2⟩ := rdT_ref h e1
      obtain ⟨v, h3, h4⟩ := h2.get (Option.some.inj e)
      refine ⟨⟨vs, v, h1, h3⟩, fun x H' y => ?_⟩
      obtain ⟨rfl, y⟩ := y
      have := (y vs h1).symm.trans h3
      cases this
      exact ⟨W, rfl, Ext.refl W, R, h4⟩
    · cases e
  | rg lo n =>
    cases (show J = Itr lo n from h)
    simp only [itemAt] at e
    by_cases hi : i < n
    · rw [if_pos hi] at e
      cases e
      refine ⟨hi, fun x H' y => ?_⟩
      obtain ⟨rfl, rfl⟩ := y
      exact ⟨W, rfl, Ext.refl W, R, rfl⟩
    · rw [if_neg hi] at e
      cases e
  | en d' =>
    obtain ⟨a, h, rfl⟩ := h
    simp only [itemAt] at e
    split at e
    · rename_i ds e1
      obtain ⟨vs, h1, h2⟩ := rdL_ref R h e1
      cases q : ds[i]? with
      | none =>
        rw [q] at e
        cases e
      | some x =>
        rw [q] at e
        cases e
        obtain ⟨v, h3, h4⟩ := h2.get q
        refine ⟨⟨vs, v, h1, h3⟩, fun x H' y => ?_⟩
        obtain ⟨T, u, rfl, hT, rfl, y⟩ := y
        have := (y vs h1).symm.trans h3
        cases this
        exact newT_ok R hT ⟨_, _, rfl, rfl, Dens.one h4⟩
    · cases e
  | em d' =>
    simp only [itemAt] at e
    split at e <;> cases e
  | zp d' f =>
    obtain ⟨a, b, h, h', rfl⟩ := h
    simp only [itemAt] at e
    split at e
    · rename_i xs ys e1 e2
      obtain ⟨vs, h1, h2⟩ := rdL_ref R h e1
      obtain ⟨us, h3, h4⟩ := rdL_ref R h' e2
      cases q : xs[i]? with
      | none =>
        rw [q] at e
        cases e
      | some x =>
        cases q' : ys[i]? with
        | none =>
          rw [q, q'] at e
          cases e
        | some y =>
          rw [q, q'] at e
          cases e
          obtain ⟨v, h5, h6⟩ := h2.get q
          obtain ⟨u, h7, h8⟩ := h4.get q'
          refine ⟨⟨vs, us, v, u, h1, h3, h5, h7⟩, fun x H' z => ?_⟩
          obtain ⟨T, x', y', rfl, hT, rfl, z1, z2⟩ := z
          have := (z1 vs h1).symm.trans h5
          cases this
          have := (z2 us h3).symm.trans h7
          cases this
          exact newT_ok R hT ⟨_, _, rfl, h6, Dens.one h8⟩
    · cases e
  | z3 d' f g =>
    obtain ⟨a, b, c, h, h', h'', rfl⟩ := h
    simp only [itemAt] at e
    split at e
    · rename_i xs ys zs e1 e2 e3
      obtain ⟨vs, h1, h2⟩ := rdL_ref R h e1
      obtain ⟨us, h3, h4⟩ := rdL_ref R h' e2
      obtain ⟨ws, h5, h6⟩ := rdL_ref R h'' e3
      split at e
      · cases q : xs[i]? with
        | none =>
          rw [q] at e
          cases e
        | some x =>
          cases q' : ys[i]? with
          | none =>
            rw [q, q'] at e
            cases e
          | some y =>
            cases q'' : zs[i]? with
            | none =>
              rw [q, q', q''] at e
              cases e
            | some z =>
              rw [q, q', q''] at e
              cases e
              obtain ⟨v, h7, h8⟩ := h2.get q
              obtain ⟨u, h9, h10⟩ := h4.get q'
              obtain ⟨y', h11, h12⟩ := h6.get q''
              refine ⟨⟨vs, us, ws, v, u, y', h1, h3, h5, h7, h9, h11⟩, fun x H' z => ?_⟩
              obtain ⟨T, x', y2, z2, rfl, hT, rfl, z1, z3, z4⟩ := z
              have := (z1 vs h1).symm.trans h7
              cases this
              have := (z3 us h3).symm.trans h9
              cases this
              have := (z4 ws h5).symm.trans h11
              cases this
              exact newT_ok R hT ⟨_, _, rfl, h8, _, _, rfl, h10, Dens.one h12⟩
      · cases e
    · cases e
  | zt d' f =>
    obtain ⟨a, b, h, h', rfl⟩ := h
    simp only [itemAt] at e
    split at e
    · rename_i xs ys e1 e2
      obtain ⟨vs, h1, h2⟩ := rdT_ref h e1
      obtain ⟨us, h3, h4⟩ := rdT_ref h' e2
      cases q : xs[i]? with
      | none =>
        rw [q] at e
        cases e
      | some x =>
        cases q' : ys[i]? with
        | none =>
          rw [q, q'] at e
          cases e
        | some y =>
          rw [q, q'] at e
          cases e
          obtain ⟨v, h5, h6⟩ := h2.get q
          obtain ⟨u, h7, h8⟩ := h4.get q'
          refine ⟨⟨vs, us, v, u, h1, h3, h5, h7⟩, fun x H' z => ?_⟩
          obtain ⟨T, x', y', rfl, hT, rfl, z1, z2⟩ := z
          have := (z1 vs h1).symm.trans h5
          cases this
          have := (z2 us h3).symm.trans h7
          cases this
          exact newT_ok R hT ⟨_, _, rfl, h6, Dens.one h8⟩
    · cases e
  | ki fs =>
    obtain ⟨a, o, kvs, h1, h2, h3, rfl⟩ := h
    simp only [itemAt, Option.some.injEq, Option.map_eq_some_iff] at e
    obtain ⟨p, e1, rfl⟩ := e
    obtain ⟨v, e2, e3⟩ := h3.get e1
    refine ⟨⟨h2, (List.getElem?_eq_some_iff.mp e2).1⟩, fun x H' y => ?_⟩
    obtain ⟨T, kk, u, e4, rfl, hT, rfl⟩ := y
    rw [e2] at e4
    cases e4
    exact newT_ok R hT ⟨_, _, rfl, rfl, Dens.one e3⟩

/-! ### how it begins -/
variable {tl te : TE} {fl fe : DE} {taa : TA} {faa : DA}
def diL (f : DE) : DI := fun s S => bnd (f s S) fun d S1 => if (rdL S1 d).isSome = true then some (.li d, S1) else none
theorem ri_list (h : RE K mg tl fl) : RI K mg (iList K tl) (diL fl) := by
  intro W σ s S it S' R Rp L e q
  obtain ⟨d, S1, e1, e⟩ := bnd_inv e
  split at e
  · rename_i hi
    cases e
    refine h W σ s S d _ _ Rp L e1 fun v W1 x1 R1 d1 => ?_
    obtain ⟨ds, hd⟩ := Option.isSome_iff_exists.mp hi
    obtain ⟨a, vs, rfl, h1, _⟩ := rdL_ok R1 d1 hd
    exact ⟨a, rfl, ⟨vs, h1⟩, q _ W1 x1 R1 ⟨a, d1, rfl⟩⟩
  · cases e
noncomputable def diR1 (f : DA) : DI := fun s S => bnd (f s S) fun ds S1 => match ds with
  | [.int j] => gate (-(2 ^ 62) ≤ j ∧ j < 2 ^ 62) (some (.rg 0 j.toNat, S1))
  | _ => none
theorem ri_rng1 (h : RA K mg taa faa) : RI K mg (iRng1 taa) (diR1 faa) := by
  intro W σ s S it S' R Rp L e q
  obtain ⟨d, S1, e1, e⟩ := bnd_inv e
  split at e
  · rename_i j
    obtain ⟨hj, e⟩ := gate_inv e
    cases e
    refine h W σ s S _ _ _ Rp L e1 fun vs W1 x1 R1 d1 => ?_
    obtain ⟨v, r, rfl, hv, hr⟩ := d1
    cases (show v = V.int j from hv)
    cases (show r = [] from hr)
    exact ⟨j, rfl, hj.1, hj.2, q _ W1 x1 R1 rfl⟩
  · cases e
noncomputable def diR2 (f : DA) : DI := fun s S => bnd (f s S) fun ds S1 => match ds with
  | [.int i, .int j] => gate (-(2 ^ 62) ≤ i ∧ i < 2 ^ 62 ∧ -(2 ^ 62) ≤ j ∧ j < 2 ^ 62) (some (.rg i (j - i).toNat, S1))
  | _ => none
def diEE (f : DA) : DI := fun s S => bnd (f s S) fun ds S1 => match ds with
  | [.tup []] => some (.em (.tup []), S1)
  | [d] => if (rdL S1 d).isSome = true then some (.en d, S1) else none
  | _ => none
def iEnumB (K : PySem.W.Frag) (ta : TA) : TI := fun σ H R => ta σ H fun vs H1 => ∃ a, vs = [.ref a] ∧ ((∃ xs, SqL K H1 a xs ∧ R (Ite K a) H1) ∨ (SqT K H1 a [] ∧ R (IteE K a) H1))
theorem ri_enumB (h : RA K mg taa faa) : RI K mg (iEnumB K taa) (diEE faa) := by
  intro W σ s S it S' R Rp L e q
  obtain ⟨d, S1, e1, e⟩ := bnd_inv e
  split at e
  · cases e
    refine h W σ s S _ _ _ Rp L e1 fun vs W1 x1 R1 d1 => ?_
    obtain ⟨v, r, rfl, hv, hr⟩ := d1
    cases (show r = [] from hr)
    obtain ⟨a, vs, rfl, h1, h2⟩ := rdT_ok hv rfl
    cases (show vs = [] from h2)
    exact ⟨a, rfl, .inr ⟨h1, q _ W1 x1 R1 ⟨a, hv, rfl⟩⟩⟩
  · rename_i d
    split at e
    · rename_i hi
      cases e
      refine h W σ s S _ _ _ Rp L e1 fun vs W1 x1 R1 d1 => ?_
      obtain ⟨v, r, rfl, hv, hr⟩ := d1
      cases (show r = [] from hr)
      obtain ⟨ds, hd⟩ := Option.isSome_iff_exists.mp hi
      obtain ⟨a, vs, rfl, h1, _⟩ := rdL_ok R1 hv hd
      exact ⟨a, rfl, .inl ⟨vs, h1, q _ W1 x1 R1 ⟨a, hv, rfl⟩⟩⟩
    · cases e
  · cases e
def diE (f : DA) : DI := fun s S => bnd (f s S) fun ds S1 => match ds with
  | [d] => if (rdL S1 d).isSome = true then some (.en d, S1) else none
  | _ => none
theorem ri_enum (h : RA K mg taa faa) : RI K mg (iEnum K taa) (diE faa) := by
  intro W σ s S it S' R Rp L e q
  obtain ⟨d, S1, e1, e⟩ := bnd_inv e
  split at e
  · rename_i d
    split at e
    · rename_i hi
      cases e
      refine h W σ s S _ _ _ Rp L e1 fun vs W1 x1 R1 d1 => ?_
      obtain ⟨v, r, rfl, hv, hr⟩ := d1
      cases (show r = [] from hr)
      obtain ⟨ds, hd⟩ := Option.isSome_iff_exists.mp hi
      obtain ⟨a, vs, rfl, h1, _⟩ := rdL_ok R1 hv hd
      exact ⟨a, vs, rfl, h1, q _ W1 x1 R1 ⟨a, hv, rfl⟩⟩
    · cases e
  · cases e
def diZ (f : DA) : DI := fun s S => bnd (f s S) fun ds S1 => match ds with
  | [d, d'] => if (rdL S1 d).isSome = true ∧ (rdL S1 d').isSome = true then some (.zp d d', S1) else none
  | _ => none
theorem ri_zip (h : RA K mg taa faa) : RI K mg (iZip K taa) (diZ faa) := by
  intro W σ s S it S' R Rp L e q
  obtain ⟨d, S1, e1, e⟩ := bnd_inv e
  split at e
  · rename_i d d'
    split at e
    · rename_i hi
      cases e
      refine h W σ s S _ _ _ Rp L e1 fun vs W1 x1 R1 d1 => ?_
      obtain ⟨v, r, rfl, hv, u, r', rfl, hu, hr⟩ := d1
      cases (show r' = [] from hr)
      obtain ⟨ds, hd⟩ := Option.isSome_iff_exists.mp hi.1
      obtain ⟨ds', hd'⟩ := Option.isSome_iff_exists.mp hi.2
      obtain ⟨a, vs, rfl, h1, _⟩ := rdL_ok R1 hv hd
      obtain ⟨b, us, rfl, h2, _⟩ := rdL_ok R1 hu hd'
      exact ⟨a, b, vs, us, rfl, h1, h2, q _ W1 x1 R1 ⟨a, b, hv, hu, rfl⟩⟩
    · cases e
  · cases e
end

/-! ### for, while -/
@[simp] def kLoop (r : Res) (next : DS) : Option Res := match r with
  | .nx s S => next s S
  | .ct s S => next s S
  | .bk s S => some (.nx s S)
  | .rt d S => some (.rt d S)
def forF (tgt : DG) (body : DS) (it : DIt) : Nat → Nat → DS
  | 0, _ => fun _ _ => none
  | k + 1, i => fun s S => match itemAt it S i with
    | none => none
    | some none => some (.nx s S)
    | some (some d) => match tgt d s S with
      | none => none
      | some p => match body p.1 p.2 with
        | none => none
        | some r => kLoop r (forF tgt body it k (i + 1))
def dFor (fi : DI) (tgt : DG) (body : DS) : DS := fun s S => bnd (fi s S) fun it S1 => forF tgt body it (itLen it S1 + 1) 0 s S1
def whileF (c : DT) (b : DS) : Nat → DS
  | 0 => fun _ _ => none
  | k + 1 => fun s S => bnd (c s S) fun t S1 => if t = true then (match b s S1 with
      | none => none
      | some r => kLoop r (whileF c b k)) else some (.nx s S1)
@[irreducible] def FUEL : Nat := 2 ^ 1000000
def dWhile (c : DT) (b : DS) : DS := whileF c b FUEL
section
variable {K : PySem.W.Frag} {mg : Str → Option Value} {wi : TI} {fi : DI} {tg : TG} {fg : DG} {tb : TS} {fb : DS} {tt : TT} {ft : DT}
theorem rs_for (hi : RI K mg wi fi) (hg : RG K mg tg fg) (hb : RS K mg tb fb) : RS K mg (tFor wi tg tb) (dFor fi fg fb) := by
  intro W σ s S r D R L e P
  obtain ⟨it, S1, e1, e⟩ := bnd_inv e
  refine hi W σ s S it S1 _ R L e1 fun J W1 x1 R1 hJ => ?_
  have P1 := P.ext x1
  refine ⟨fun i m σ' H' => ∃ W' s' S', W'.H = H' ∧ Ext W1 W' ∧ Rep K mg W' S' ∧ Slo K W' σ' s' ∧ forF fg fb it m i s' S' = some r,
    ⟨_, W1, s, S1, rfl, Ext.refl W1, R1, L.ext x1, e⟩, ?_⟩
  rintro i m σ2 H2 ⟨W2, s2, S2, rfl, x2, R2, L2', e2⟩
  have hJ2 := hJ.ext0 x2.toEx0
  cases m with
  | zero => cases e2
  | succ m =>
    unfold forF at e2
    split at e2
    · cases e2
    · rename_i hit
      cases e2
      exact .inl ⟨item_stop R2 hJ2 hit, P1 σ2 W2 x2 R2 L2'⟩
    · rename_i d hit
      obtain ⟨hgo, hy⟩ := item_go R2 hJ2 hit
      refine .inr ⟨hgo, fun σ' H' => ∃ W' s' S', W'.H = H' ∧ Ext W1 W' ∧ Rep K mg W' S' ∧ Slo K W' σ' s' ∧ forF fg fb it m (i + 1) s' S' = some r, fun σ' H' h => ⟨m, Nat.lt_succ_self m, h⟩, fun x H' y => ?_⟩
      obtain ⟨W3, rfl, x3, R3, d3⟩ := hy x H' y
      split at e2
      · cases e2
      · rename_i p ep
        refine hg W3 σ2 s2 S2 d x p.1 p.2 _ R3 (L2'.ext x3) d3 ep fun σ4 W4 x4 R4 L4 => ?_
        have x14 : Ext W1 W4 := (x2.trans x3).trans x4
        split at e2
        · cases e2
        · rename_i r' er
          refine hb W4 σ4 p.1 p.2 r' _ R4 L4 er ?_
          cases r' with
          | nx s5 S5 => exact fun σ5 W5 x5 R5 L5 => ⟨W5, s5, S5, rfl, x14.trans x5, R5, L5, e2⟩
          | ct s5 S5 => exact fun σ5 W5 x5 R5 L5 => ⟨W5, s5, S5, rfl, x14.trans x5, R5, L5, e2⟩
          | bk s5 S5 =>
            cases e2
            exact fun σ5 W5 x5 R5 L5 => P1 σ5 W5 (x14.trans x5) R5 L5
          | rt d5 S5 =>
            cases e2
            exact fun v W5 x5 R5 d5' => P1 v W5 (x14.trans x5) R5 d5'
theorem rs_while (hc : RT K mg tt ft) (hb : RS K mg tb fb) : RS K mg (tWhile tt tb) (dWhile ft fb) := by
  intro W σ s S r D R L e P
  refine ⟨fun m σ' H' => ∃ W' s' S', W'.H = H' ∧ Ext W W' ∧ Rep K mg W' S' ∧ Slo K W' σ' s' ∧ whileF ft fb m s' S' = some r,
    ⟨_, W, s, S, rfl, Ext.refl W, R, L, e⟩, ?_⟩
  rintro m σ2 H2 ⟨W2, s2, S2, rfl, x2, R2, L2', e2⟩
  cases m with
  | zero => cases e2
  | succ m =>
    unfold whileF at e2
    obtain ⟨t, S3, e3, e2⟩ := bnd_inv e2
    refine hc W2 σ2 s2 S2 t S3 _ R2 L2' e3 fun W3 x3 R3 => ?_
    cases t with
    | false =>
      rw [if_neg Bool.false_ne_true] at e2
      cases e2
      exact iteF (P σ2 W3 (x2.trans x3) R3 (L2'.ext x3))
    | true =>
      rw [if_pos rfl] at e2
      refine iteT ⟨fun σ' H' => ∃ W' s' S', W'.H = H' ∧ Ext W W' ∧ Rep K mg W' S' ∧ Slo K W' σ' s' ∧ whileF ft fb m s' S' = some r, fun σ' H' h => ⟨m, Nat.lt_succ_self m, h⟩, ?_⟩
      split at e2
      · cases e2
      · rename_i r' er
        refine hb W3 σ2 s2 S3 r' _ R3 (L2'.ext x3) er ?_
        have x13 : Ext W W3 := x2.trans x3
        cases r' with
        | nx s5 S5 => exact fun σ5 W5 x5 R5 L5 => ⟨W5, s5, S5, rfl, x13.trans x5, R5, L5, e2⟩
        | ct s5 S5 => exact fun σ5 W5 x5 R5 L5 => ⟨W5, s5, S5, rfl, x13.trans x5, R5, L5, e2⟩
        | bk s5 S5 =>
          cases e2
          exact fun σ5 W5 x5 R5 L5 => P σ5 W5 (x13.trans x5) R5 L5
        | rt d5 S5 =>
          cases e2
          exact fun v W5 x5 R5 d5' => P v W5 (x13.trans x5) R5 d5'
end

/-! ### list comprehensions -/
@[simp] def wipeD (s : Sl) : List Nat → Sl
  | [] => s
  | v :: vs => (wipeD s vs).set v none
theorem wipe_get (σ : St) : ∀ (vs : List Nat) (j : Nat), (wipe σ vs)[j]? = if j ∈ vs ∧ j < σ.length then some none else σ[j]?
  | [], j => by simp [wipe]
  | v :: vs, j => by
    show ((wipe σ vs).set v none)[j]? = _
    rw [List.getElem?_set, wipe_length, wipe_get σ vs j]
    by_cases h : v = j
    · subst h
      by_cases hl : v < σ.length
      · simp [hl]
      · have : σ[v]? = none := List.getElem?_eq_none (by omega)
        simp [hl, this]
    · simp only [h, if_false, List.mem_cons]
      have h' : ¬ j = v := fun e => h e.symm
      simp [h']
theorem wipeD_get (s : Sl) : ∀ (vs : List Nat) (j : Nat), (wipeD s vs)[j]? = if j ∈ vs ∧ j < s.length then some none else s[j]?
  | [], j => by simp [wipeD]
  | v :: vs, j => by
    have hlen : ∀ vs : List Nat, (wipeD s vs).length = s.length := by
      intro vs
      induction vs with
      | nil => rfl
      | cons w ws ih => simp [wipeD, ih]
    show ((wipeD s vs).set v none)[j]? = _
    rw [List.getElem?_set, hlen, wipeD_get s vs j]
    by_cases h : v = j
    · subst h
      by_cases hl : v < s.length
      · simp [hl]
      · have : s[v]? = none := List.getElem?_eq_none (by omega)
        simp [hl, this]
    · simp only [h, if_false, List.mem_cons]
      have h' : ¬ j = v := fun e => h e.symm
      simp [h']
theorem wipeD_length (s : Sl) : ∀ vs : List Nat, (wipeD s vs).length = s.length
  | [] => rfl
  | v :: vs => by simp [wipeD, wipeD_length s vs]
theorem wipe_wipe (σ : St) (vs : List Nat) : wipe (wipe σ vs) vs = wipe σ vs := by
  apply List.ext_getElem?
  intro j
  rw [wipe_get, wipe_get, wipe_length]
  split <;> rfl
theorem wipe_set (σ : St) (vs : List Nat) {i : Nat} (hi : i ∈ vs) (x : Option V) : wipe (σ.set i x) vs = wipe σ vs := by
  apply List.ext_getElem?
  intro j
  rw [wipe_get, wipe_get, List.length_set, List.getElem?_set]
  by_cases h : j ∈ vs ∧ j < σ.length
  · rw [if_pos h, if_pos h]
  · rw [if_neg h, if_neg h]
    by_cases e : i = j
    · subst e
      have : ¬ i < σ.length := fun q => h ⟨hi, q⟩
      rw [if_pos rfl, if_neg this, List.getElem?_eq_none (by omega)]
    · rw [if_neg e]
theorem Slo.wipe {K : PySem.W.Frag} {W : Wd} {σ : St} {s : Sl} (L : Slo K W σ s) (vs : List Nat) : Slo K W (L2.wipe σ vs) (wipeD s vs) := by
  refine ⟨by rw [wipe_length, wipeD_length, L.1], fun i d h => ?_⟩
  rw [wipeD_get] at h
  by_cases hv : i ∈ vs ∧ i < s.length
  · rw [if_pos hv] at h
    cases h
  · rw [if_neg hv] at h
    obtain ⟨v, h1, h2⟩ := L.2 i d h
    refine ⟨v, ?_, h2⟩
    rw [wipe_get, L.1, if_neg hv]
    exact h1
section
variable (K : PySem.W.Frag) (mg : Str → Option Value)
/-- a target whose names are the block's own -/
def RGv (vs : List Nat) (g : TG) (f : DG) : Prop := ∀ (W : Wd) (σ : St) (s : Sl) (S : Sto) (d : DV) (v : V) (s' : Sl) (S' : Sto) (Q : St → Hp → Prop), Rep K mg W S → Slo K W σ s → Den K W d v → f d s S = some (s', S') →
  (∀ σ', L2.wipe σ' vs = L2.wipe σ vs → S' = S → Slo K W σ' s' → Q σ' W.H) → g v σ W.H Q
def RGsv (ws : List Nat) (g : TGs) (f : DGs) : Prop := ∀ (W : Wd) (σ : St) (s : Sl) (S : Sto) (ds : List DV) (vs : List V) (s' : Sl) (S' : Sto) (Q : St → Hp → Prop), Rep K mg W S → Slo K W σ s → Dens K W ds vs → f ds s S = some (s', S') →
  (∀ σ', L2.wipe σ' ws = L2.wipe σ ws → S' = S → Slo K W σ' s' → Q σ' W.H) → g vs σ W.H Q
end
section
variable {K : PySem.W.Frag} {mg : Str → Option Value} {vs : List Nat} {i n : Nat} {tg : TG} {fg : DG} {tgs : TGs} {fgs : DGs}
theorem rgv_name (hi : i ∈ vs) : RGv K mg vs (gName i) (dName i) := by
  intro W σ s S d v s' S' Q R L hd e q
  cases e
  exact q _ (wipe_set σ vs hi _) rfl (L.set i hd)
theorem rgsv_nil : RGsv K mg vs gNil dGNil := by
  intro W σ s S ds us s' S' Q R L hd e q
  unfold dGNil at e
  split at e
  · cases e
    exact ⟨hd, q σ rfl rfl L⟩
  · cases e
theorem rgsv_cons (h1 : RGv K mg vs tg fg) (h2 : RGsv K mg vs tgs fgs) : RGsv K mg vs (gCons tg tgs) (dGCons fg fgs) := by
  intro W σ s S ds us s' S' Q R L hd e q
  unfold dGCons at e
  split at e
  · cases e
  · rename_i d r
    split at e
    · cases e
    · rename_i p e1
      obtain ⟨v, us, rfl, d1, d2⟩ := hd
      refine ⟨v, us, rfl, h1 W σ s S d v p.1 p.2 _ R L d1 e1 fun σ1 w1 s1 L1 => ?_⟩
      exact h2 W σ1 p.1 p.2 r us s' S' Q (s1 ▸ R) L1 d2 e fun σ2 w2 s2 L2 => q σ2 (w2.trans w1) (s2.trans s1) L2
theorem rgv_tup (h : RGsv K mg vs tgs fgs) : RGv K mg vs (gTup K n tgs) (dGTup n fgs) := by
  intro W σ s S d v s' S' Q R L hd e q
  unfold dGTup at e
  split at e
  · rename_i ds
    split at e
    · rename_i hl
      obtain ⟨a, us, rfl, h1, h2⟩ := hd
      exact ⟨a, us, rfl, h1.1, by rw [h2.len]; exact hl, h W σ s S ds us s' S' Q R L h2 e q⟩
    · cases e
  · cases e
end
@[simp] def dYes : DT := fun _ S => some (true, S)
theorem rt_yes {K : PySem.W.Frag} {mg : Str → Option Value} : RT K mg tYes dYes := by
  intro W σ s S b S' Q R L e q
  cases e
  exact q W (Ext.refl W) R
def lcF (tgt : DG) (tt : DT) (te : DE) (it : DIt) (vs : List Nat) : Nat → Nat → List DV → Sl → Sto → Option (List DV × Sto)
  | 0, _, _, _, _ => none
  | k + 1, i, acc, s, S => match itemAt it S i with
    | none => none
    | some none => some (acc, S)
    | some (some d) => match tgt d (wipeD s vs) S with
      | none => none
      | some p => bnd (tt p.1 p.2) fun b S2 => if b = true then bnd (te p.1 S2) fun y S3 => lcF tgt tt te it vs k (i + 1) (acc ++ [y]) s S3 else lcF tgt tt te it vs k (i + 1) acc s S2
noncomputable def dLc (m : Bool) (fi : DI) (tgt : DG) (tt : DT) (te : DE) (vs : List Nat) : DE := fun s S => bnd (fi s S) fun it S1 => bnd (lcF tgt tt te it vs (itLen it S1 + 1) 0 [] s S1) fun acc S2 => gate (acc.length ≤ 100000) (some (newL m acc S2))
theorem lcF_len {tgt : DG} {tt : DT} {te : DE} {it : DIt} {vs : List Nat} : ∀ (k i : Nat) (acc : List DV) (s : Sl) (S : Sto) (acc' : List DV) (S' : Sto), lcF tgt tt te it vs k i acc s S = some (acc', S') → acc.length ≤ acc'.length
  | 0, _, _, _, _, _, _, h => by cases h
  | k + 1, i, acc, s, S, acc', S', h => by
    unfold lcF at h
    split at h
    · cases h
    · cases h
      exact Nat.le_refl _
    · split at h
      · cases h
      · obtain ⟨b, S2, _, h⟩ := bnd_inv h
        split at h
        · obtain ⟨y, S3, _, h⟩ := bnd_inv h
          have := lcF_len k (i + 1) _ s S3 acc' S' h
          rw [List.length_append, List.length_singleton] at this
          omega
        · exact lcF_len k (i + 1) _ s S2 acc' S' h
section
variable {K : PySem.W.Frag} {mg : Str → Option Value} {W : Wd} {S : Sto}
/-- a list that stands alone -/
def Wd.loose (W : Wd) (p : Addr) (o : HO) : Wd := ⟨W.P, W.α, upd W.H p o⟩
theorem ex0_loose {p : Addr} {o : HO} (hp : ¬ W.P p) : Ex0 W (W.loose p o) where
  p := fun _ h => h
  al := List.prefix_refl _
  hp := fun a u h e => (upd_ne (fun z => hp (by rw [← z]; exact h))).trans e
theorem rep_loose {p : Addr} {o : HO} (R : Rep K mg W S) (hp : ¬ W.P p) (ha : p ∉ W.α) (hl : (∀ ps, W.H p ≠ some (.tbl ps)) ∧ ∀ c q, W.H p ≠ some (LamX.CodeO c q)) : Rep K mg (W.loose p o) S where
  len := R.len
  nd := R.nd
  dj := R.dj
  al := fun a h => by
    show upd W.H p o a ≠ none
    by_cases e : a = p
    · subst e; rw [upd_same]; exact fun z => by cases z
    · rw [upd_ne e]
      exact R.al a h
  ob := fun n mo a h1 h2 => by
    have h3 : W.α[n]? = some a := h2
    have hne : a ≠ p := fun z => ha (by rw [← z]; exact List.mem_of_getElem? h3)
    exact (R.ob n mo a h1 h3).ext0 (ex0_loose hp) (upd_ne hne)
  tb := tabs_upd R.tb hl.1 hl.2
  tp := R.tp
theorem plain_none {H : Hp} {p : Addr} (h : H p = none) : (∀ ps, H p ≠ some (.tbl ps)) ∧ ∀ c q, H p ≠ some (LamX.CodeO c q) := ⟨fun ps z => (by rw [h] at z; cases z), fun c q z => (by rw [h] at z; cases z)⟩
theorem plain_lst {H : Hp} {p : Addr} {vs : List V} (h : H p = some (.lst vs)) : (∀ ps, H p ≠ some (.tbl ps)) ∧ ∀ c q, H p ≠ some (LamX.CodeO c q) := ⟨fun ps z => (by rw [h] at z; cases z), fun c q z => (by rw [h] at z; unfold LamX.CodeO at z; cases z)⟩
theorem ext_loose {W0 : Wd} {p : Addr} {o : HO} (e : Ext W0 W) (h0 : W0.H p = none) (hp : ¬ W.P p) (ha : p ∉ W.α) : Ext W0 (W.loose p o) where
  p := e.p
  pn := e.pn
  al := e.al
  an := e.an
  hp := fun a u h q => (upd_ne (ne_of_none q h0)).trans (e.hp a u h q)
  h := fun a u h n q => (upd_ne (ne_of_none q h0)).trans (e.h a u h n q)
  dom := fun a h => by
    have z : upd W.H p o a = none := h
    by_cases q : a = p
    · subst q; exact h0
    · rw [upd_ne q] at z
      exact e.dom a z
/-- it is kept -/
theorem newL_at {m : Bool} {ds : List DV} {vs : List V} {d : DV} {S' : Sto} {p : Addr} (R : Rep K mg W S) (hD : W.H p = some (.lst vs)) (hp : ¬ W.P p) (ha : p ∉ W.α) (h : Dens K W ds vs) (e : newL m ds S = (d, S')) :
    ∃ W', W'.H = W.H ∧ (∀ W0, Ext W0 W → W0.H p = none → Ext W0 W') ∧ Rep K mg W' S' ∧ Den K W' d (.ref p) := by
  unfold newL at e
  cases m with
  | true =>
    cases e
    have x0 : Ex0 W ⟨W.P, W.α ++ [p], W.H⟩ := ⟨fun _ h => h, List.prefix_append _ _, fun _ _ _ h => h⟩
    refine ⟨⟨W.P, W.α ++ [p], W.H⟩, rfl, fun W0 x hn => ?_, ?_, p, ?_, rfl⟩
    · exact { p := x.p, pn := x.pn, al := x.al.trans (List.prefix_append _ _), an := fun a h => by
                rcases List.mem_append.mp h with h | h
                · exact x.an a h
                · cases List.mem_singleton.mp h
                  exact .inr hn
              hp := x.hp, h := x.h, dom := x.dom }
    · refine ⟨by simp [R.len], ?_, fun a h q => ?_, R.al, fun n mo a h1 h2 => ?_, R.tb, R.tp⟩
      · refine List.nodup_append.mpr ⟨R.nd, by simp, fun a h b hb => ?_⟩
        cases List.mem_singleton.mp hb
        exact fun z => ha (by rw [← z]; exact h)
      · rcases List.mem_append.mp h with h | h
        · exact R.dj a h q
        · cases List.mem_singleton.mp h
          exact hp q
      · have h2 : (W.α ++ [p])[n]? = some a := h2
        by_cases hn : n < S.length
        · rw [List.getElem?_append_left hn] at h1
          rw [List.getElem?_append_left (by rw [R.len]; exact hn)] at h2
          exact (R.ob n mo a h1 h2).ext0 x0 rfl
        · have hl : n < (S ++ [MO.ml ds]).length := (List.getElem?_eq_some_iff.mp h1).1
          have e : n = S.length := by
            rw [List.length_append, List.length_singleton] at hl
            omega
          subst e
          rw [List.getElem?_concat_length] at h1
          rw [← R.len, List.getElem?_concat_length] at h2
          cases h1
          cases h2
          exact ⟨vs, hD, Dens.ext0 x0 _ _ h⟩
    · show (W.α ++ [p])[S.length]? = some p
      rw [← R.len, List.getElem?_concat_length]
  | false =>
    cases e
    have x0 : Ex0 W ⟨fun a => W.P a ∨ a = p, W.α, W.H⟩ := ⟨fun _ h => .inl h, List.prefix_refl _, fun _ _ _ h => h⟩
    refine ⟨⟨fun a => W.P a ∨ a = p, W.α, W.H⟩, rfl, fun W0 x hn => ?_, ?_, p, vs, rfl, ⟨.inr rfl, hD⟩, Dens.ext0 x0 _ _ h⟩
    · exact { p := fun a h => .inl (x.p a h), pn := fun a h => by
                rcases h with h | rfl
                · exact x.pn a h
                · exact .inr hn
              al := x.al, an := x.an, hp := x.hp, h := x.h, dom := x.dom }
    · refine ⟨R.len, R.nd, fun a h q => ?_, fun a h => ?_, fun n mo a h1 h2 => (R.ob n mo a h1 h2).ext0 x0 rfl, R.tb, fun t ht q => q.elim (R.tp t ht) fun z => by
        obtain ⟨ps, e, _⟩ := R.tb t ht
        rw [z, hD] at e
        cases e⟩
      · rcases q with q | rfl
        · exact R.dj a h q
        · exact ha h
      · rcases h with h | rfl
        · exact R.al a h
        · rw [hD]
          exact fun z => by cases z
variable {wi : TI} {fi : DI} {tg : TG} {fg : DG} {tt : TT} {ft : DT} {te : TE} {fe : DE} {vs : List Nat}
theorem re_lc {m : Bool} (hi : RI K mg wi fi) (hg : RGv K mg vs tg fg) (ht : RT K mg tt ft) (he : RE K mg te fe) : RE K mg (tLc wi tg tt te vs) (dLc m fi fg ft fe vs) := by
  intro W σ s S d S' Q R L e q
  obtain ⟨it, S1, e1, e⟩ := bnd_inv e
  obtain ⟨accE, SE, eE, e⟩ := bnd_inv e
  obtain ⟨hlim, e⟩ := gate_inv e
  have eN := Option.some.inj e
  refine hi W σ s S it S1 _ R L e1 fun J W1 x1 R1 hJ D hD => ?_
  have nP1 : ¬ W1.P D := fun h => R1.al D h hD
  have na1 : D ∉ W1.α := fun h => R1.there h hD
  refine ⟨fun i k H' => ∃ W' acc vsA S', W'.H = H' ∧ Ext W1 W' ∧ Rep K mg W' S' ∧ ¬ W'.P D ∧ D ∉ W'.α ∧ W'.H D = some (.lst vsA) ∧ Dens K W' acc vsA ∧ lcF fg ft fe it vs k i acc s S' = some (accE, SE),
    ⟨_, W1.loose D (.lst []), [], [], S1, rfl, ext_loose (Ext.refl W1) hD nP1 na1, rep_loose R1 nP1 na1 (plain_none hD), nP1, na1, upd_same, rfl, eE⟩, ?_⟩
  rintro i k H2 ⟨W2, acc, vsA, S2, rfl, x2, R2, nP2, na2, hD2, dA, e2⟩
  have hJ2 := hJ.ext0 x2.toEx0
  cases k with
  | zero => cases e2
  | succ k =>
    unfold lcF at e2
    split at e2
    · cases e2
    · rename_i hit
      cases e2
      refine .inl ⟨item_stop R2 hJ2 hit, ?_⟩
      obtain ⟨W3, h3, x3, R3, d3⟩ := newL_at R2 hD2 nP2 na2 dA eN
      rw [← h3]
      exact q _ W3 (x1.trans (x3 W1 x2 hD)) R3 d3
    · rename_i dd hit
      obtain ⟨hgo, hy⟩ := item_go R2 hJ2 hit
      refine .inr ⟨hgo, fun H' => ∃ W' acc vsA S', W'.H = H' ∧ Ext W1 W' ∧ Rep K mg W' S' ∧ ¬ W'.P D ∧ D ∉ W'.α ∧ W'.H D = some (.lst vsA) ∧ Dens K W' acc vsA ∧ lcF fg ft fe it vs k (i + 1) acc s S' = some (accE, SE), fun H' h => ⟨k, Nat.lt_succ_self k, h⟩, fun x H' y => ?_⟩
      obtain ⟨W3, rfl, x3, R3, d3⟩ := hy x H' y
      split at e2
      · cases e2
      · rename_i p ep
        obtain ⟨b, S4, e4, e2⟩ := bnd_inv e2
        refine hg W3 (L2.wipe σ vs) (wipeD s vs) S2 dd x p.1 p.2 _ R3 ((L.ext ((x1.trans x2).trans x3)).wipe vs) d3 ep fun σ4 hw hs L4 => ?_
        refine ⟨hw.trans (wipe_wipe σ vs), ?_⟩
        have R3' : Rep K mg W3 p.2 := hs ▸ R3
        refine ht W3 σ4 p.1 p.2 b S4 _ R3' L4 e4 fun W4 x4 R4 => ?_
        have x24 : Ext W2 W4 := x3.trans x4
        have nD : ∀ {W' : Wd}, Ext W2 W' → ¬ W'.P D ∧ D ∉ W'.α ∧ W'.H D = some (.lst vsA) := fun {W'} z =>
          ⟨fun h => (z.pn D h).elim nP2 fun g => (by rw [hD2] at g; cases g), fun h => (z.an D h).elim na2 fun g => (by rw [hD2] at g; cases g), z.h D _ na2 (fun _ z => by cases z) hD2⟩
        cases b with
        | false =>
          rw [if_neg Bool.false_ne_true] at e2
          obtain ⟨n1, n2, n3⟩ := nD x24
          exact iteF ⟨W4, acc, vsA, S4, rfl, x2.trans x24, R4, n1, n2, n3, Dens.ext x24 _ _ dA, e2⟩
        | true =>
          rw [if_pos rfl] at e2
          obtain ⟨yv, S5, e5, e2⟩ := bnd_inv e2
          refine iteT (he W4 σ4 p.1 S4 yv S5 _ R4 (L4.ext x4) e5 fun v5 W5 x5 R5 d5 => ?_)
          have x25 := x24.trans x5
          obtain ⟨n1, n2, n3⟩ := nD x25
          have dA5 := Dens.ext x25 _ _ dA
          have hlen := lcF_len k (i + 1) _ s S5 accE SE e2
          rw [List.length_append, List.length_singleton] at hlen
          refine ⟨vsA, n3, by rw [dA5.len]; exact lim_lt (by omega), W5.loose D (.lst (vsA ++ [v5])), acc ++ [yv], vsA ++ [v5], S5, rfl, ext_loose (x2.trans x25) hD n1 n2, rep_loose R5 n1 n2 (plain_lst n3), n1, n2, upd_same, ?_, e2⟩
          exact Dens.ext0 (ex0_loose n1) _ _ (dA5.app (Dens.one d5))
end
end DL
end
section
namespace DL
open PySem PyProof.Rows PySem.Spec L2

/-! ### a def as a function of data -/
mutual
def clo (n : Nat) : DV → Bool
  | .ptr k => decide (k < n)
  | .tup ds => clos n ds
  | .lst ds => clos n ds
  | .rls ds => clos n ds
  | _ => true
def clos (n : Nat) : List DV → Bool
  | [] => true
  | d :: ds => clo n d && clos n ds
end
def cloM (n : Nat) : MO → Bool
  | .ml ds => clos n ds
  | .ins _ fs => fs.all fun p => clo n p.2
  | .dct fs => fs.all fun p => clo n p.2
  | .num (.inl fs) => fs.all fun p => clo n p.2
  | .num (.inr (.inl (_, w))) => clo n w
  | .num (.inr (.inr _)) => true
@[simp] def startD (n : Nat) (ds : List DV) : Sl := ds.map some ++ List.replicate (n - ds.length) none
def exR (m : Bool) (n0 : Nat) (d : DV) (S' : Sto) : Option (DV × Sto) := match d with
  | .ptr n => if n < n0 then some (.ptr n, S'.take n0) else match S'[n]? with
    | some (.ml ds) => if clos n0 ds = true then some (newL m ds (S'.take n0)) else none
    | _ => none
  | d => if clo n0 d = true then some (d, S'.take n0) else none
open Classical in
noncomputable def exF1 (m : Bool) (S : Sto) (d : DV) (S' : Sto) : Option (DV × Sto) :=
  if S'.length = S.length then some (d, S')
  else if S.length < S'.length ∧ (∀ n : Nat, n < S.length → S'[n]? = S[n]? ∨ ∃ mo, S'[n]? = some mo ∧ cloM S.length mo = true) then exR m S.length d S'
  else none
/-- none: all is handed on; some false: the result is frozen, the rest forgotten; some true: the result stays a list that may change -/
noncomputable def exF (m : Option Bool) (S : Sto) (d : DV) (S' : Sto) : Option (DV × Sto) := match m with
  | none => some (d, S')
  | some m => exF1 m S d S'
noncomputable def fnF (m : Option Bool) (n : Nat) (body : DS) : List DV → Sto → Option (DV × Sto) := fun ds S => match body (startD n ds) S with
  | some (.nx _ S') => exF m S .non S'
  | some (.rt d S') => exF m S d S'
  | _ => none
section
variable {K : PySem.W.Frag} {mg : Str → Option Value} {W W' : Wd} {S : Sto}
mutual
theorem Den.clo : ∀ {d : DV} {v : V}, Den K W d v → clo W.α.length d = true
  | .non, _, _ => rfl
  | .bl _, _, _ => rfl
  | .int _, _, _ => rfl
  | .str _, _, _ => rfl
  | .ty _, _, _ => rfl
  | .tup ds, _, h => by
    obtain ⟨a, vs, _, _, h⟩ := h
    exact Dens.clos (ds := ds) h
  | .lst ds, _, h => by
    obtain ⟨a, vs, _, _, h⟩ := h
    exact Dens.clos (ds := ds) h
  | .rls ds, _, h => by
    obtain ⟨a, vs, _, _, h⟩ := h
    exact Dens.clos (ds := ds) h
  | .ptr n, _, h => by
    obtain ⟨a, h, _⟩ := h
    exact decide_eq_true (List.getElem?_eq_some_iff.mp h).1
theorem Dens.clos : ∀ {ds : List DV} {vs : List V}, Dens K W ds vs → clos W.α.length ds = true
  | [], _, _ => rfl
  | d :: ds, _, h => by
    obtain ⟨v, r, _, h1, h2⟩ := h
    show (DL.clo _ d && DL.clos _ ds) = true
    rw [Den.clo h1, Dens.clos h2]
    rfl
end
theorem FsR.clos : ∀ {fs : List (Str × DV)} {vs : List (Str × V)}, FsR K W fs vs → (fs.all fun p => clo W.α.length p.2) = true
  | [], _, _ => rfl
  | p :: fs, _, h => by
    obtain ⟨v, r, _, h1, h2⟩ := h
    rw [List.all_cons, Den.clo h1, FsR.clos h2]
    rfl
theorem DkR.clos : ∀ {fs : List (Str × DV)} {vs : List (Key × V)}, DkR K W fs vs → (fs.all fun p => DL.clo W.α.length p.2) = true
  | [], _, _ => rfl
  | p :: fs, _, h => by
    obtain ⟨v, r, _, h1, h2⟩ := h
    rw [List.all_cons, Den.clo h1, DkR.clos h2]
    rfl
theorem DiR.clos : ∀ {fs : List (Int × DV)} {vs : List (Key × V)}, DiR K W fs vs → (fs.all fun p => DL.clo W.α.length p.2) = true
  | [], _, _ => rfl
  | p :: fs, _, h => by
    obtain ⟨v, r, _, h1, h2⟩ := h
    rw [List.all_cons, Den.clo h1, DiR.clos h2]
    rfl
theorem ObjR.clo {a : Addr} {mo : MO} (h : ObjR K mg W a mo) : cloM W.α.length mo = true := by
  cases mo with
  | ml ds =>
    obtain ⟨vs, _, h⟩ := h
    exact Dens.clos h
  | ins c fs =>
    obtain ⟨_, _, vs, _, _, h⟩ := h
    exact FsR.clos h
  | dct fs =>
    obtain ⟨vs, _, h⟩ := h
    exact DkR.clos h
  | num x => cases x with
    | inl fs =>
      obtain ⟨vs, _, h⟩ := h
      exact DiR.clos h
    | inr y => cases y with
      | inl p =>
        obtain ⟨_, _, v, _, _, _, _, h⟩ := h
        exact Den.clo h
      | inr c => rfl
/-- the store cut back -/
def Wd.cut (W : Wd) (α : List Addr) : Wd := ⟨W.P, α, W.H⟩
section
variable {α : List Addr} (hα : α <+: W.α)
include hα
mutual
theorem Den.cut : ∀ {d : DV} {v : V}, DL.clo α.length d = true → Den K W d v → Den K (W.cut α) d v
  | .non, _, _, h => h
  | .bl _, _, _, h => h
  | .int _, _, _, h => h
  | .str _, _, _, h => h
  | .ty _, _, _, h => h
  | .tup ds, _, c, h => by
    obtain ⟨a, vs, e, s, h⟩ := h
    exact ⟨a, vs, e, s, Dens.cut (ds := ds) c h⟩
  | .lst ds, _, c, h => by
    obtain ⟨a, vs, e, s, h⟩ := h
    exact ⟨a, vs, e, s, Dens.cut (ds := ds) c h⟩
  | .rls ds, _, c, h => by
    obtain ⟨a, vs, e, s, h⟩ := h
    exact ⟨a, vs, e, s, Dens.cut (ds := ds) c h⟩
  | .ptr n, _, c, h => by
    obtain ⟨a, h, e⟩ := h
    refine ⟨a, ?_, e⟩
    have hn : n < α.length := of_decide_eq_true c
    obtain ⟨t, ht⟩ := hα
    rw [← ht, List.getElem?_append_left hn] at h
    exact h
theorem Dens.cut : ∀ {ds : List DV} {vs : List V}, DL.clos α.length ds = true → Dens K W ds vs → Dens K (W.cut α) ds vs
  | [], _, _, h => h
  | d :: ds, _, c, h => by
    obtain ⟨v, r, e, h1, h2⟩ := h
    have c' : (DL.clo α.length d && DL.clos α.length ds) = true := c
    rw [Bool.and_eq_true] at c'
    exact ⟨v, r, e, Den.cut c'.1 h1, Dens.cut c'.2 h2⟩
end
theorem FsR.cut : ∀ {fs : List (Str × DV)} {vs : List (Str × V)}, (fs.all fun p => DL.clo α.length p.2) = true → FsR K W fs vs → FsR K (W.cut α) fs vs
  | [], _, _, h => h
  | p :: fs, _, c, h => by
    obtain ⟨v, r, e, h1, h2⟩ := h
    rw [List.all_cons, Bool.and_eq_true] at c
    exact ⟨v, r, e, Den.cut hα c.1 h1, FsR.cut c.2 h2⟩
theorem DkR.cut : ∀ {fs : List (Str × DV)} {vs : List (Key × V)}, (fs.all fun p => DL.clo α.length p.2) = true → DkR K W fs vs → DkR K (W.cut α) fs vs
  | [], _, _, h => h
  | p :: fs, _, c, h => by
    obtain ⟨v, r, e, h1, h2⟩ := h
    rw [List.all_cons, Bool.and_eq_true] at c
    exact ⟨v, r, e, Den.cut hα c.1 h1, DkR.cut c.2 h2⟩
theorem DiR.cut : ∀ {fs : List (Int × DV)} {vs : List (Key × V)}, (fs.all fun p => DL.clo α.length p.2) = true → DiR K W fs vs → DiR K (W.cut α) fs vs
  | [], _, _, h => h
  | p :: fs, _, c, h => by
    obtain ⟨v, r, e, h1, h2⟩ := h
    rw [List.all_cons, Bool.and_eq_true] at c
    exact ⟨v, r, e, Den.cut hα c.1 h1, DiR.cut c.2 h2⟩
theorem ObjR.cut {a : Addr} {mo : MO} (c : cloM α.length mo = true) (h : ObjR K mg W a mo) : ObjR K mg (W.cut α) a mo := by
  cases mo with
  | ml ds =>
    obtain ⟨vs, e, h⟩ := h
    exact ⟨vs, e, Dens.cut hα c h⟩
  | ins cc fs =>
    obtain ⟨C, dx, vs, e1, e2, h⟩ := h
    exact ⟨C, dx, vs, e1, e2, FsR.cut hα c h⟩
  | dct ff =>
    obtain ⟨vs, e1, h⟩ := h
    exact ⟨vs, e1, DkR.cut hα c h⟩
  | num x => cases x with
    | inl ff =>
      obtain ⟨vs, e1, h⟩ := h
      exact ⟨vs, e1, DiR.cut hα c h⟩
    | inr y => cases y with
      | inl p =>
        obtain ⟨C, dx, v, e1, e2, e3, e4, h⟩ := h
        exact ⟨C, dx, v, e1, e2, e3, e4, Den.cut hα c h⟩
      | inr cc => exact h
end
theorem exF1_ok {m : Bool} {d d2 : DV} {S' S2 : Sto} {v : V} (R : Rep K mg W S) (x : Ext W W') (R' : Rep K mg W' S') (h : Den K W' d v) (e : exF1 m S d S' = some (d2, S2)) :
    ∃ W2, W2.H = W'.H ∧ Ext W W2 ∧ Rep K mg W2 S2 ∧ Den K W2 d2 v := by
  unfold exF1 at e
  split at e
  · cases e
    exact ⟨W', rfl, x, R', h⟩
  · split at e
    rotate_left
    · cases e
    rename_i hc
    obtain ⟨hlt, hcl⟩ := hc
    have xt : Ext W (W'.cut W.α) := { p := x.p, pn := x.pn, al := List.prefix_refl _, an := fun _ h => .inl h, hp := x.hp, h := x.h, dom := x.dom }
    have Rt : Rep K mg (W'.cut W.α) (S'.take S.length) := by
      refine ⟨?_, R.nd, fun a ha => R'.dj a (x.al.subset ha), R'.al, fun n mo a h1 h2 => ?_, R'.tb, R'.tp⟩
      · show W.α.length = _
        rw [R.len, List.length_take]
        omega
      · have h2 : W.α[n]? = some a := h2
        have hn : n < S.length := by rw [← R.len]; exact (List.getElem?_eq_some_iff.mp h2).1
        rw [List.getElem?_take_of_lt hn] at h1
        have h3 : W'.α[n]? = some a := by
          obtain ⟨t, ht⟩ := x.al
          rw [← ht, List.getElem?_append_left (by rw [R.len]; exact hn)]
          exact h2
        have o := R'.ob n mo a h1 h3
        refine o.cut x.al ?_
        rw [R.len]
        rcases hcl n hn with q | ⟨mo', q, c⟩
        · have o2 := R.ob n mo a (q ▸ h1) h2
          have := o2.clo
          rwa [R.len] at this
        · rw [h1] at q
          cases q
          exact c
    have hd : ∀ {d : DV} {v : V}, clo S.length d = true → Den K W' d v → Den K (W'.cut W.α) d v := fun c h => Den.cut x.al (by rw [R.len]; exact c) h
    have hds : ∀ {ds : List DV} {vs : List V}, clos S.length ds = true → Dens K W' ds vs → Dens K (W'.cut W.α) ds vs := fun c h => Dens.cut x.al (by rw [R.len]; exact c) h
    unfold exR at e
    split at e
    · rename_i n
      split at e
      · rename_i hn
        cases e
        exact ⟨W'.cut W.α, rfl, xt, Rt, hd (decide_eq_true hn) h⟩
      · rename_i hn
        split at e
        · rename_i ds hS
          split at e
          · rename_i hcd
            obtain ⟨a, rfl, ha, hm, vs, hv, hdv⟩ := ptr_ok R' h hS
            have na : a ∉ W.α := fun z => by
              obtain ⟨k, hk⟩ := List.mem_iff_getElem?.mp z
              have hk2 : W'.α[k]? = some a := by
                obtain ⟨t, ht⟩ := x.al
                rw [← ht, List.getElem?_append_left (List.getElem?_eq_some_iff.mp hk).1]
                exact hk
              have := nd_ix R'.nd hk2 ha
              have hlt : k < W.α.length := (List.getElem?_eq_some_iff.mp hk).1
              rw [R.len] at hlt
              omega
            obtain ⟨W2, h2, x2, R2, d2'⟩ := newL_at Rt (p := a) (vs := vs) hv (R'.dj a hm) na (hds hcd hdv) (Option.some.inj e)
            exact ⟨W2, h2, x2 W xt ((x.an a hm).resolve_left na), R2, d2'⟩
          · cases e
        · cases e
    · split at e
      · rename_i hcd
        cases e
        exact ⟨W'.cut W.α, rfl, xt, Rt, hd hcd h⟩
      · cases e
theorem exF_ok {m : Option Bool} {d d2 : DV} {S' S2 : Sto} {v : V} (R : Rep K mg W S) (x : Ext W W') (R' : Rep K mg W' S') (h : Den K W' d v) (e : exF m S d S' = some (d2, S2)) :
    ∃ W2, W2.H = W'.H ∧ Ext W W2 ∧ Rep K mg W2 S2 ∧ Den K W2 d2 v := by
  cases m with
  | none =>
    cases e
    exact ⟨W', rfl, x, R', h⟩
  | some m => exact exF1_ok R x R' h e
theorem slo_start {N : List Str} {ds : List DV} {vs : List V} (h : Dens K W ds vs) : Slo K W (start N vs) (startD N.length ds) := by
  refine ⟨by simp [L2.start, startD, h.len], fun i d e => ?_⟩
  unfold startD at e
  by_cases hi : i < ds.length
  · rw [List.getElem?_append_left (by simpa using hi), List.getElem?_map] at e
    cases q : ds[i]? with
    | none =>
      rw [q] at e
      cases e
    | some d' =>
      rw [q] at e
      cases e
      obtain ⟨v, h1, h2⟩ := h.get q
      refine ⟨v, ?_, h2⟩
      unfold L2.start
      rw [List.getElem?_append_left (by simpa [h.len] using hi), List.getElem?_map, h1]
      rfl
  · rw [List.getElem?_append_right (by simpa using hi)] at e
    obtain ⟨_, e⟩ := List.getElem?_eq_some_iff.mp e
    rw [List.getElem_replicate] at e
    cases e
theorem fn_dl {P : Program} {w : World} {base : Heap} {x qual : Str} {st : Stmt} {f : Addr} {fd : FuncData} {N ps : List Str} {k n : Nat} {m : Option Bool} {body : DS} (F : Fun K x qual st f fd) (S : FnScope N ps (defScope st)) (hps : ps.length = n)
    (hb : ∀ (cdv : Value) (A : Around) (outer : List Env) (s : Shared) (H : Hp) (E : XK), Room k (A.deeper (envOfC qual (defScope st) s.heap.objs.size f cdv)) →
      ∃ t, PSs (cxOf CX0 P w K mg base N qual (defScope st) f cdv A outer s H E).nox (defBody st) t ∧ RS K mg t body) :
    FnOk P w K mg base CX0 (k + 1) f fd ps (spF K mg n (fnF m N.length body)) := by
  refine F.ok S (fun vs H Q E h => h.1.trans hps.symm) fun cdv A outer s H vs Q E hr h => ?_
  obtain ⟨t, ht, hR⟩ := hb cdv A outer s H E hr
  refine ⟨t, ht, ?_⟩
  obtain ⟨_, W, S, ds, d, S', rfl, R, hd, hg, q⟩ := h
  unfold fnF at hg
  split at hg
  · rename_i s1 S1 e1
    refine hR W _ _ S _ _ R (slo_start hd) e1 fun σ1 W1 x1 R1 L1 => ?_
    obtain ⟨W2, h2, x2, R2, d2⟩ := exF_ok R x1 R1 (d := .non) (v := V.non) rfl hg
    rw [← h2]
    exact q _ W2 x2 R2 d2
  · rename_i d1 S1 e1
    refine hR W _ _ S _ _ R (slo_start hd) e1 fun v1 W1 x1 R1 d1 => ?_
    obtain ⟨W2, h2, x2, R2, d2⟩ := exF_ok R x1 R1 d1 hg
    rw [← h2]
    exact q _ W2 x2 R2 d2
  · cases hg
end
end DL
end
section
namespace DL
open PySem PyProof.Rows PySem.Spec L2

abbrev D2 := DV → DV → Sto → Option (DV × Sto)
/-- how large a factor may be -/
def BITS : Nat := 400000
def Fits (i : Int) : Prop := i.natAbs < 2 ^ BITS
theorem Fits.mul {i j : Int} (h : Fits i) (g : Fits j) : CMulW i j := wide_mul h g (by decide) (by decide) (by decide)
open Classical in
noncomputable def mulD : D2 := fun x y S => match x, y with
  | .int i, .int j => if Fits i ∧ Fits j then some (.int (i * j), S) else none
  | _, _ => none
def subD : D2 := fun x y S => match x, y with
  | .int i, .int j => some (.int (i - j), S)
  | _, _ => none
noncomputable def addD (m : Bool) : D2 := fun x y S => match x, y with
  | .int i, .int j => some (.int (i + j), S)
  | x, y => match trL S x, trL S y with
    | some a, some b => gate (a.length + b.length ≤ 100000) (some (newL m (a ++ b) S))
    | _, _ => none
def DIVB : Nat := 8000
def FitsD (j : Int) : Prop := 0 < j ∧ j.natAbs < 2 ^ DIVB
open Classical in
noncomputable def fdivD : D2 := fun x y S => match x, y with
  | .int i, .int j => if FitsD j then some (.int (i / j), S) else none
  | _, _ => none
noncomputable def modD : D2 := fun x y S => match x, y with
  | .int i, .int j => gate (0 < j) (some (.int (i % j), S))
  | _, _ => none
noncomputable def powD : D2 := fun x y S => match x, y with
  | .int i, .int j => gate (0 ≤ j ∧ j ≤ 1000 ∧ i.natAbs < 2 ^ 64) (some (.int (i ^ j.toNat), S))
  | _, _ => none
def cmpD (p : Int → Int → Bool) : D2 := fun x y S => match x, y with
  | .int i, .int j => some (.bl (p i j), S)
  | _, _ => none
def ltD : D2 := cmpD fun i j => decide (i < j)
def leD : D2 := cmpD fun i j => decide (i ≤ j)
def gtD : D2 := cmpD fun i j => decide (j < i)
def geD : D2 := cmpD fun i j => decide (j ≤ i)
section
variable {K : PySem.W.Frag} {mg : Str → Option Value}
theorem ro_I {C : Int → Int → Prop} {g : Int → Int → V} {g' : D2} (h : ∀ x y S d S', g' x y S = some (d, S') → ∃ i j, x = .int i ∧ y = .int j ∧ C i j ∧ S' = S ∧ ∀ W, Den K W d (g i j)) : RO K mg (rI C g) g' := by
  intro W S x y v u d S' Q R hx hy e q
  obtain ⟨i, j, rfl, rfl, c, rfl, hd⟩ := h x y S d S' e
  exact ⟨i, j, hx, hy, c, q _ W (Ext.refl W) R (hd W)⟩
theorem ro_I0 {g : Int → Int → V} {g' : D2} (h : ∀ x y S d S', g' x y S = some (d, S') → ∃ i j, x = .int i ∧ y = .int j ∧ S' = S ∧ ∀ W, Den K W d (g i j)) : RO K mg (rI0 g) g' := by
  intro W S x y v u d S' Q R hx hy e q
  obtain ⟨i, j, rfl, rfl, rfl, hd⟩ := h x y S d S' e
  exact ⟨i, j, hx, hy, q _ W (Ext.refl W) R (hd W)⟩
theorem ro_mul : RO K mg (rI CMulW fun i j => .int (i * j)) mulD := ro_I fun x y S d S' e => by
  unfold mulD at e
  split at e
  · split at e
    · rename_i h
      cases e
      exact ⟨_, _, rfl, rfl, h.1.mul h.2, rfl, fun _ => rfl⟩
    · cases e
  · cases e
theorem ro_sub : RO K mg (rI0 fun i j => .int (i - j)) subD := ro_I0 fun x y S d S' e => by
  unfold subD at e
  split at e
  · cases e
    exact ⟨_, _, rfl, rfl, rfl, fun _ => rfl⟩
  · cases e
theorem ro_fdiv : RO K mg (rI CDivW fun i j => .int (i / j)) fdivD := ro_I fun x y S d S' e => by
  unfold fdivD at e
  split at e
  · split at e
    · rename_i h
      cases e
      exact ⟨_, _, rfl, rfl, wide_div h.1 h.2 (by decide) (by decide), rfl, fun _ => rfl⟩
    · cases e
  · cases e
theorem ro_mod : RO K mg (rI (fun _ j => 0 < j) fun i j => .int (i % j)) modD := ro_I fun x y S d S' e => by
  unfold modD at e
  split at e
  · obtain ⟨h, e⟩ := gate_inv e
    cases e
    exact ⟨_, _, rfl, rfl, h, rfl, fun _ => rfl⟩
  · cases e
theorem ro_pow : RO K mg (rI CPow fun i j => .int (i ^ j.toNat)) powD := ro_I fun x y S d S' e => by
  unfold powD at e
  split at e
  · obtain ⟨h, e⟩ := gate_inv e
    cases e
    exact ⟨_, _, rfl, rfl, ⟨h.1, by omega, h.2.2⟩, rfl, fun _ => rfl⟩
  · cases e
theorem ro_cmp {p : Int → Int → Bool} : RO K mg (rI0 fun i j => .bl (p i j)) (cmpD p) := ro_I0 fun x y S d S' e => by
  unfold cmpD at e
  split at e
  · cases e
    exact ⟨_, _, rfl, rfl, rfl, fun _ => rfl⟩
  · cases e
theorem ro_lt : RO K mg (rI0 fun i j => .bl (decide (i < j))) ltD := ro_cmp
theorem ro_gt : RO K mg (rI0 fun i j => .bl (decide (j < i))) gtD := ro_cmp
theorem ro_ge : RO K mg (rI0 fun i j => .bl (decide (j ≤ i))) geD := ro_cmp
/-- ints, or lists -/
def rAddG : R2 := fun x y H Q => (rI0 fun i j => .int (i + j)) x y H Q ∨ rCat x y H Q
theorem op_addG {X : Cx} : OpR X (binaryOp .Add) rAddG := op_add.or op_cat
theorem ro_add {m : Bool} : RO K mg rAddG (addD m) := by
  intro W S x y v u d S' Q R hx hy e q
  unfold addD at e
  split at e
  · cases e
    exact .inl ⟨_, _, hx, hy, q _ W (Ext.refl W) R rfl⟩
  · split at e
    · rename_i a b ha hb
      obtain ⟨hl, e⟩ := gate_inv e
      obtain ⟨p, vs, rfl, h1, h2⟩ := trL_ok R hx ha
      obtain ⟨p', us, rfl, h3, h4⟩ := trL_ok R hy hb
      refine .inr ⟨p, p', vs, us, rfl, rfl, h1, h3, by rw [h2.len, h4.len]; exact lim_le hl, fun z hz => ?_⟩
      obtain ⟨W2, e2, x2, R2, d2⟩ := newL_ok R hz (h2.app h4) (Option.some.inj e)
      rw [← e2]
      exact q _ W2 x2 R2 d2
    · cases e

/-! ### == over data -/
mutual
def py (r : Nat → Option PyData) : DV → Option PyData
  | .non => some .none
  | .bl b => some (.bool b)
  | .int i => some (.int i)
  | .str s => some (.str s)
  | .ty _ => none
  | .tup ds => (pys r ds).map .tuple
  | .lst ds => (pys r ds).map .list
  | .rls ds => (pys r ds).map .list
  | .ptr n => r n
def pys (r : Nat → Option PyData) : List DV → Option (List PyData)
  | [] => some []
  | d :: ds => match py r d, pys r ds with
    | some p, some ps => some (p :: ps)
    | _, _ => none
end
def pyS (S : Sto) : DV → Option PyData := py fun n => match S[n]? with
  | some (.ml ds) => (pys (fun _ => none) ds).map .list
  | _ => none
def eqD : D2 := fun x y S => match pyS S x, pyS S y with
  | some p, some q => if SeqAt.shaped p = true ∧ SeqAt.shaped q = true then some (.bl (PyData.eqv p q), S) else none
  | _, _ => none
def neD : D2 := fun x y S => match pyS S x, pyS S y with
  | some p, some q => if SeqAt.shaped p = true ∧ SeqAt.shaped q = true then some (.bl (!PyData.eqv p q), S) else none
  | _, _ => none
section
variable {W : Wd} {r : Nat → Option PyData} (hr : ∀ n q a, r n = some q → W.α[n]? = some a → Dp K W.H (.ref a) q)
include hr
mutual
theorem py_ok : ∀ {d : DV} {v : V} {p : PyData}, py r d = some p → Den K W d v → Dp K W.H v p
  | .non, _, _, e, h => by
    cases (show _ = V.non from h)
    cases e
    exact .non
  | .bl b, _, _, e, h => by
    cases (show _ = V.bl b from h)
    cases e
    exact .bl b
  | .int i, _, _, e, h => by
    cases (show _ = V.int i from h)
    cases e
    exact .int i
  | .str s, _, _, e, h => by
    cases (show _ = V.str s from h)
    cases e
    exact .str s
  | .ty n, _, _, e, _ => by cases e
  | .tup ds, _, _, e, h => by
    obtain ⟨a, vs, rfl, s, h⟩ := h
    cases q : pys r ds with
    | none =>
      simp only [py, q] at e
      cases e
    | some ps =>
      simp only [py, q, Option.map_some] at e
      cases e
      exact .tup s.1 (pys_ok q h)
  | .lst ds, _, _, e, h => by
    obtain ⟨a, vs, rfl, s, h⟩ := h
    cases q : pys r ds with
    | none =>
      simp only [py, q] at e
      cases e
    | some ps =>
      simp only [py, q, Option.map_some] at e
      cases e
      exact .lst (SqL.of s.2) (pys_ok q h)
  | .rls ds, _, _, e, h => by
    obtain ⟨a, vs, rfl, s, h⟩ := h
    cases q : pys r ds with
    | none =>
      simp only [py, q] at e
      cases e
    | some ps =>
      simp only [py, q, Option.map_some] at e
      cases e
      exact .lst s.1 (pys_ok q h)
  | .ptr n, _, _, e, h => by
    obtain ⟨a, h, rfl⟩ := h
    exact hr n _ a e h
theorem pys_ok : ∀ {ds : List DV} {vs : List V} {ps : List PyData}, pys r ds = some ps → Dens K W ds vs → DpAll K W.H vs ps
  | [], _, _, e, h => by
    cases (show _ = [] from h)
    cases e
    exact .nil
  | d :: ds, _, _, e, h => by
    obtain ⟨v, us, rfl, h1, h2⟩ := h
    cases q : py r d with
    | none =>
      simp only [pys, q] at e
      cases e
    | some p =>
      cases q' : pys r ds with
      | none =>
        simp only [pys, q, q'] at e
        cases e
      | some ps =>
        simp only [pys, q, q'] at e
        cases e
        exact .cons (py_ok q h1) (pys_ok q' h2)
end
end
theorem pyS_ok {W : Wd} {S : Sto} {d : DV} {v : V} {p : PyData} (R : Rep K mg W S) (e : pyS S d = some p) (h : Den K W d v) : Dp K W.H v p := by
  refine py_ok (fun n q a e h => ?_) e h
  split at e
  · rename_i ds hS
    obtain ⟨vs, h1, h2⟩ := R.ob n _ a hS h
    cases q' : pys (fun _ => none) ds with
    | none =>
      simp only [q'] at e
      cases e
    | some ps =>
      simp only [q', Option.map_some] at e
      cases e
      exact .lst (SqL.of h1) (pys_ok (fun _ _ _ z _ => by cases z) q' h2)
  · cases e
theorem ro_eq : RO K mg (rEqD K) eqD := by
  intro W S x y v u d S' Q R hx hy e q
  unfold eqD at e
  split at e
  · rename_i p p' h1 h2
    split at e
    · rename_i hs
      cases e
      exact ⟨p, p', pyS_ok R h1 hx, pyS_ok R h2 hy, hs.1, hs.2, q _ W (Ext.refl W) R rfl⟩
    · cases e
  · cases e
theorem ro_ne : RO K mg (rNeD K) neD := by
  intro W S x y v u d S' Q R hx hy e q
  unfold neD at e
  split at e
  · rename_i p p' h1 h2
    split at e
    · rename_i hs
      cases e
      exact ⟨p, p', pyS_ok R h1 hx, pyS_ok R h2 hy, hs.1, hs.2, q _ W (Ext.refl W) R rfl⟩
    · cases e
  · cases e

/-! ### is None, in, an item -/
@[simp] def nonB : DV → Bool
  | .non => true
  | _ => false
theorem nonB_ok {W : Wd} {d : DV} {v : V} (h : Den K W d v) : decide (v = .non) = nonB d := by
  cases d with
  | non =>
    cases (show v = V.non from h)
    rfl
  | bl b =>
    cases (show v = V.bl b from h)
    rfl
  | int i =>
    cases (show v = V.int i from h)
    rfl
  | str s =>
    cases (show v = V.str s from h)
    rfl
  | ty n =>
    cases (show v = V.ty n from h)
    rfl
  | tup ds =>
    obtain ⟨a, vs, rfl, _⟩ := h
    rfl
  | lst ds =>
    obtain ⟨a, vs, rfl, _⟩ := h
    rfl
  | rls ds =>
    obtain ⟨a, vs, rfl, _⟩ := h
    rfl
  | ptr n =>
    obtain ⟨a, _, rfl⟩ := h
    rfl
variable {ta tb te : TE} {fa fb fe : DE} {taa : TA} {faa : DA}
@[simp] def dIsN (neg : Bool) (f : DE) : DE := fun s S => bnd (f s S) fun x S1 => some (.bl (if neg then !nonB x else nonB x), S1)
theorem re_isN (h : RE K mg ta fa) : RE K mg (tIsN ta) (dIsN false fa) := by
  intro W σ s S d S' Q R L e q
  obtain ⟨x, S1, e1, e⟩ := bnd_inv e
  cases e
  refine h W σ s S x _ _ R L e1 fun v W1 x1 R1 d1 => q _ W1 x1 R1 ?_
  show V.bl (decide (v = .non)) = _
  rw [nonB_ok d1]
  rfl
def toV : DV → Option V
  | .non => some .non
  | .bl b => some (.bl b)
  | .int i => some (.int i)
  | .str s => some (.str s)
  | _ => none
def toVs : List DV → Option (List V)
  | [] => some []
  | d :: ds => match toV d, toVs ds with
    | some v, some vs => some (v :: vs)
    | _, _ => none
theorem toV_ok {W : Wd} {d : DV} {v u : V} (e : toV d = some u) (h : Den K W d v) : v = u ∧ flatV v = true := by
  cases d with
  | non =>
    cases (show v = V.non from h)
    cases e
    exact ⟨rfl, rfl⟩
  | bl b =>
    cases (show v = V.bl b from h)
    cases e
    exact ⟨rfl, rfl⟩
  | int i =>
    cases (show v = V.int i from h)
    cases e
    exact ⟨rfl, rfl⟩
  | str s =>
    cases (show v = V.str s from h)
    cases e
    exact ⟨rfl, rfl⟩
  | _ => cases e
theorem toVs_ok {W : Wd} : ∀ {ds : List DV} {vs us : List V}, toVs ds = some us → Dens K W ds vs → vs = us ∧ vs.all flatV = true
  | [], _, _, e, h => by
    cases (show _ = [] from h)
    cases e
    exact ⟨rfl, rfl⟩
  | d :: ds, _, _, e, h => by
    obtain ⟨v, r, rfl, h1, h2⟩ := h
    unfold toVs at e
    split at e
    · rename_i u us e1 e2
      cases e
      obtain ⟨rfl, f1⟩ := toV_ok e1 h1
      obtain ⟨rfl, f2⟩ := toVs_ok e2 h2
      exact ⟨rfl, by rw [List.all_cons, f1, f2]; rfl⟩
    · cases e
def inD (neg : Bool) : D2 := fun x y S => match toV x, (rdL S y).or (rdT y) with
  | some u, some ds => match toVs ds with
    | some us => some (.bl (if neg then !inV u us else inV u us), S)
    | none => none
  | _, _ => none
theorem ro_in {neg : Bool} : RO K mg (rIn K neg) (inD neg) := by
  intro W S x y v u d S' Q R hx hy e q
  unfold inD at e
  split at e
  · rename_i u' ds h1 h2
    split at e
    · rename_i us h3
      cases e
      obtain ⟨rfl, f1⟩ := toV_ok h1 hx
      cases h4 : rdL S y with
      | some es =>
        rw [h4] at h2
        cases h2
        obtain ⟨a, vs, rfl, h5, h6⟩ := rdL_ok R hy h4
        obtain ⟨rfl, f2⟩ := toVs_ok h3 h6
        exact ⟨a, vs, rfl, .inl h5, f1, f2, q _ W (Ext.refl W) R rfl⟩
      | none =>
        rw [h4] at h2
        obtain ⟨a, vs, rfl, h5, h6⟩ := rdT_ok hy h2
        obtain ⟨rfl, f2⟩ := toVs_ok h3 h6
        exact ⟨a, vs, rfl, .inr h5, f1, f2, q _ W (Ext.refl W) R rfl⟩
    · cases e
  · cases e
theorem Dens.atI {W : Wd} {ds : List DV} {vs : List V} {i : Int} {d : DV} (h : Dens K W ds vs) (e : L2.atI ds i = some d) : ∃ v, L2.atI vs i = some v ∧ Den K W d v := by
  unfold L2.atI at e ⊢
  rw [h.len]
  cases q : ixN ds.length i with
  | none =>
    rw [q] at e
    cases e
  | some j =>
    rw [q] at e
    obtain ⟨v, h1, h2⟩ := h.get (show ds[j]? = some d from e)
    exact ⟨v, h1, h2⟩
def ixD : D2 := fun x y S => match y with
  | .int i => match (rdL S x).or (rdT x) with
    | some ds => match L2.atI ds i with
      | some d => some (d, S)
      | none => none
    | none => none
  | _ => none
theorem ro_ix : RO K mg (rIx K) ixD := by
  intro W S x y v u d S' Q R hx hy e q
  unfold ixD at e
  split at e
  · rename_i i
    cases (show u = V.int i from hy)
    split at e
    · rename_i ds h2
      split at e
      · rename_i d' h3
        cases e
        cases h4 : rdL S x with
        | some es =>
          rw [h4] at h2
          cases h2
          obtain ⟨a, vs, rfl, h5, h6⟩ := rdL_ok R hx h4
          obtain ⟨w, h7, h8⟩ := h6.atI h3
          exact .inl ⟨a, vs, i, w, rfl, rfl, h5, h7, q _ W (Ext.refl W) R h8⟩
        | none =>
          rw [h4] at h2
          obtain ⟨a, vs, rfl, h5, h6⟩ := rdT_ok hx h2
          obtain ⟨w, h7, h8⟩ := h6.atI h3
          exact .inr (.inl ⟨a, vs, i, w, rfl, rfl, h5, h7, q _ W (Ext.refl W) R h8⟩)
      · cases e
    · cases e
  · cases e

/-! ### slices -/
abbrev DO := Sl → Sto → Option (Option Int × Sto)
def ROp (K : PySem.W.Frag) (mg : Str → Option Value) (to : TO) (f : DO) : Prop := ∀ (W : Wd) (σ : L2.St) (s : Sl) (S : Sto) (o : Option Int) (S' : Sto) (Q : Option Int → Hp → Prop), Rep K mg W S → Slo K W σ s → f s S = some (o, S') →
  (∀ W', Ext W W' → Rep K mg W' S' → Q o W'.H) → to σ W.H Q
@[simp] def doN : DO := fun _ S => some (none, S)
@[simp] def doS (f : DE) : DO := fun s S => bnd (f s S) fun x S1 => match x with
  | .int i => some (some i, S1)
  | _ => none
theorem ro_none : ROp K mg tNoPart doN := by
  intro W σ s S o S' Q R L e q
  cases e
  exact q W (Ext.refl W) R
theorem ro_some (h : RE K mg ta fa) : ROp K mg (tPart ta) (doS fa) := by
  intro W σ s S o S' Q R L e q
  obtain ⟨x, S1, e1, e⟩ := bnd_inv e
  split at e
  · cases e
    exact h W σ s S _ _ _ R L e1 fun v W1 x1 R1 d1 => ⟨_, d1, q W1 x1 R1⟩
  · cases e
def cutL {α : Type} (xs : List α) (lo hi : Option Int) : List α := (xs.drop (HT.sIx xs.length 0 lo)).take (HT.sIx xs.length xs.length hi - HT.sIx xs.length 0 lo)
theorem Dens.cutL {W : Wd} {ds : List DV} {vs : List V} (lo hi : Option Int) (h : Dens K W ds vs) : Dens K W (DL.cutL ds lo hi) (cutV vs lo hi) := by
  unfold DL.cutL cutV
  rw [h.len]
  exact (h.drop _).take _
def dSlL (m : Bool) (f : DE) (fl fh : DO) : DE := fun s S => bnd (f s S) fun x S1 => bnd (fl s S1) fun lo S2 => bnd (fh s S2) fun hi S3 => match rdL S3 x with
  | some ds => some (newL m (cutL ds lo hi) S3)
  | none => none
theorem re_slL {m : Bool} {tl th : TO} {fl fh : DO} (h : RE K mg ta fa) (hl : ROp K mg tl fl) (hh : ROp K mg th fh) : RE K mg (tSl (rSlL K) ta tl th) (dSlL m fa fl fh) := by
  intro W σ s S d S' Q R L e q
  obtain ⟨x, S1, e1, e⟩ := bnd_inv e
  obtain ⟨lo, S2, e2, e⟩ := bnd_inv e
  obtain ⟨hi, S3, e3, e⟩ := bnd_inv e
  split at e
  · rename_i ds hd
    refine h W σ s S x S1 _ R L e1 fun v W1 x1 R1 d1 => ?_
    refine hl W1 σ s S1 lo S2 _ R1 (L.ext x1) e2 fun W2 x2 R2 => ?_
    refine hh W2 σ s S2 hi S3 _ R2 (L.ext (x1.trans x2)) e3 fun W3 x3 R3 => ?_
    obtain ⟨a, vs, rfl, h1, h2⟩ := rdL_ok R3 (d1.ext (x2.trans x3)) hd
    refine ⟨a, vs, rfl, h1, fun p hp => ?_⟩
    obtain ⟨W4, e4, x4, R4, d4⟩ := newL_ok R3 hp (h2.cutL lo hi) (Option.some.inj e)
    rw [← e4]
    exact q _ W4 (((x1.trans x2).trans x3).trans x4) R4 d4
  · cases e
end
end DL
end
section
namespace DL
open PySem PyProof.Rows PySem.Spec L2
abbrev DC := List DV → Sto → Option (DV × Sto)
abbrev DM := DV → List DV → Sto → Option (DV × Sto)
section
variable {K : PySem.W.Frag} {mg : Str → Option Value}

/-! ### built-in calls -/
def rLen (K : PySem.W.Frag) : List V → Hp → VK → Prop := fun xs H Q => ∃ p ys, xs = [.ref p] ∧ (SqL K H p ys ∨ SqT K H p ys) ∧ Q (.int ys.length) H
theorem cr_len {X : Cx} : CallR X (.builtin "len") (rLen X.K) := call_len_seq
def lenD : DC := fun xs S => match xs with
  | [x] => match (rdL S x).or (rdT x) with
    | some ds => some (.int (ds.length : Nat), S)
    | none => none
  | _ => none
theorem rd_ok {W : Wd} {S : Sto} {x : DV} {v : V} {ds : List DV} (R : Rep K mg W S) (h : Den K W x v) (e : (rdL S x).or (rdT x) = some ds) : ∃ a vs, v = .ref a ∧ (SqL K W.H a vs ∨ SqT K W.H a vs) ∧ Dens K W ds vs := by
  cases h4 : rdL S x with
  | some es =>
    rw [h4] at e
    cases e
    obtain ⟨a, vs, rfl, h5, h6⟩ := rdL_ok R h h4
    exact ⟨a, vs, rfl, .inl h5, h6⟩
  | none =>
    rw [h4] at e
    obtain ⟨a, vs, rfl, h5, h6⟩ := rdT_ok h e
    exact ⟨a, vs, rfl, .inr h5, h6⟩
theorem dens1 {W : Wd} {x : DV} {vs : List V} (h : Dens K W [x] vs) : ∃ v, vs = [v] ∧ Den K W x v := by
  obtain ⟨v, r, rfl, h1, h2⟩ := h
  cases (show r = [] from h2)
  exact ⟨v, rfl, h1⟩
theorem dens2 {W : Wd} {x y : DV} {vs : List V} (h : Dens K W [x, y] vs) : ∃ v u, vs = [v, u] ∧ Den K W x v ∧ Den K W y u := by
  obtain ⟨v, r, rfl, h1, u, r', rfl, h2, h3⟩ := h
  cases (show r' = [] from h3)
  exact ⟨v, u, rfl, h1, h2⟩
theorem rc_len : RC K mg (rLen K) lenD := by
  intro W S xs vs d S' Q R h e q
  unfold lenD at e
  split at e
  · rename_i x
    split at e
    · rename_i ds hd
      cases e
      obtain ⟨v, rfl, hv⟩ := dens1 h
      obtain ⟨a, us, rfl, h1, h2⟩ := rd_ok R hv hd
      refine ⟨a, us, rfl, h1, q _ W (Ext.refl W) R ?_⟩
      rw [h2.len]
      rfl
    · cases e
  · cases e
def absD : DC := fun xs S => match xs with
  | [.int i] => some (.int (if i < 0 then -i else i), S)
  | _ => none
/-- the ints of a list of ints -/
def toI : DV → Option Int
  | .int i => some i
  | _ => none
def toIs : List DV → Option (List Int)
  | [] => some []
  | d :: ds => match toI d, toIs ds with
    | some i, some is => some (i :: is)
    | _, _ => none
theorem toIs_ok {W : Wd} : ∀ {ds : List DV} {vs : List V} {ns : List Int}, toIs ds = some ns → Dens K W ds vs → vs = ns.map V.int
  | [], _, _, e, h => by
    cases (show _ = [] from h)
    cases e
    rfl
  | d :: ds, _, _, e, h => by
    obtain ⟨v, r, rfl, h1, h2⟩ := h
    unfold toIs at e
    split at e
    · rename_i i is e1 e2
      cases e
      rw [toIs_ok e2 h2]
      unfold toI at e1
      split at e1
      · cases e1
        cases (show v = V.int i from h1)
        rfl
      · cases e1
    · cases e
theorem toIs_map (ns : List Int) : toIs (ns.map DV.int) = some ns := by
  induction ns with
  | nil => rfl
  | cons n ns ih => simp [toIs, toI, ih]
/-- the greater of two, the greatest of a list -/
def rMaxG (K : PySem.W.Frag) : List V → Hp → VK → Prop := fun xs H Q => (∃ i j, xs = [.int i, .int j] ∧ Q (.int (if j > i then j else i)) H) ∨ rMax K xs H Q
def rMinG (K : PySem.W.Frag) : List V → Hp → VK → Prop := fun xs H Q => (∃ i j, xs = [.int i, .int j] ∧ Q (.int (if j < i then j else i)) H) ∨ rMin K xs H Q
theorem cr_maxG {X : Cx} (hc : X.calm = true) : CallR X (.builtin "max") (rMaxG X.K) := (call_max2 hc).or (cr_max hc)
theorem cr_minG {X : Cx} (hc : X.calm = true) : CallR X (.builtin "min") (rMinG X.K) := (call_min2 hc).or (cr_min hc)
def maxI : List Int → Int
  | [] => 0
  | [n] => n
  | n :: ns => max n (maxI ns)
def minI : List Int → Int
  | [] => 0
  | [n] => n
  | n :: ns => min n (minI ns)
theorem maxI_mem : ∀ {ns : List Int}, ns ≠ [] → maxI ns ∈ ns ∧ ∀ y ∈ ns, y ≤ maxI ns
  | [], h => absurd rfl h
  | [n], _ => by simp [maxI]
  | n :: m :: ns, _ => by
    obtain ⟨h1, h2⟩ := maxI_mem (ns := m :: ns) (by simp)
    have e : maxI (n :: m :: ns) = max n (maxI (m :: ns)) := rfl
    rw [e]
    refine ⟨?_, fun y hy => ?_⟩
    · by_cases q : n ≤ maxI (m :: ns)
      · rw [show max n (maxI (m :: ns)) = maxI (m :: ns) by omega]
        exact List.mem_cons_of_mem _ h1
      · rw [show max n (maxI (m :: ns)) = n by omega]
        exact List.mem_cons_self
    · rcases List.mem_cons.mp hy with rfl | hy
      · omega
      · have := h2 y hy
        omega
theorem minI_mem : ∀ {ns : List Int}, ns ≠ [] → minI ns ∈ ns ∧ ∀ y ∈ ns, minI ns ≤ y
  | [], h => absurd rfl h
  | [n], _ => by simp [minI]
  | n :: m :: ns, _ => by
    obtain ⟨h1, h2⟩ := minI_mem (ns := m :: ns) (by simp)
    have e : minI (n :: m :: ns) = min n (minI (m :: ns)) := rfl
    rw [e]
    refine ⟨?_, fun y hy => ?_⟩
    · by_cases q : n ≤ minI (m :: ns)
      · rw [show min n (minI (m :: ns)) = n by omega]
        exact List.mem_cons_self
      · rw [show min n (minI (m :: ns)) = minI (m :: ns) by omega]
        exact List.mem_cons_of_mem _ h1
    · rcases List.mem_cons.mp hy with rfl | hy
      · omega
      · have := h2 y hy
        omega
def maxD : DC := fun xs S => match xs with
  | [.int i, .int j] => some (.int (if j > i then j else i), S)
  | [x] => match rdL S x with
    | some ds => match toIs ds with
      | some ns => if 0 < ns.length then some (.int (maxI ns), S) else none
      | none => none
    | none => none
  | _ => none
def minD : DC := fun xs S => match xs with
  | [.int i, .int j] => some (.int (if j < i then j else i), S)
  | [x] => match rdL S x with
    | some ds => match toIs ds with
      | some ns => if 0 < ns.length then some (.int (minI ns), S) else none
      | none => none
    | none => none
  | _ => none
theorem rc_max : RC K mg (rMaxG K) maxD := by
  intro W S xs vs d S' Q R h e q
  unfold maxD at e
  split at e
  · rename_i i j
    cases e
    obtain ⟨v, u, rfl, hv, hu⟩ := dens2 h
    cases (show v = V.int i from hv)
    cases (show u = V.int j from hu)
    exact .inl ⟨i, j, rfl, q _ W (Ext.refl W) R rfl⟩
  · rename_i x
    split at e
    · rename_i ds hd
      split at e
      · rename_i ns hn
        split at e
        · rename_i hl
          cases e
          obtain ⟨v, rfl, hv⟩ := dens1 h
          obtain ⟨a, us, rfl, h1, h2⟩ := rdL_ok R hv hd
          cases toIs_ok hn h2
          have hne : ns ≠ [] := by
            intro z
            subst z
            exact absurd hl (by decide)
          obtain ⟨m1, m2⟩ := maxI_mem hne
          refine .inr ⟨a, ns, rfl, h1, hl, fun m hm hle => ?_⟩
          have : m = maxI ns := by
            have := hle _ m1
            have := m2 _ hm
            omega
          exact q _ W (Ext.refl W) R (by rw [this]; rfl)
        · cases e
      · cases e
    · cases e
  · cases e
theorem rc_min : RC K mg (rMinG K) minD := by
  intro W S xs vs d S' Q R h e q
  unfold minD at e
  split at e
  · rename_i i j
    cases e
    obtain ⟨v, u, rfl, hv, hu⟩ := dens2 h
    cases (show v = V.int i from hv)
    cases (show u = V.int j from hu)
    exact .inl ⟨i, j, rfl, q _ W (Ext.refl W) R rfl⟩
  · rename_i x
    split at e
    · rename_i ds hd
      split at e
      · rename_i ns hn
        split at e
        · rename_i hl
          cases e
          obtain ⟨v, rfl, hv⟩ := dens1 h
          obtain ⟨a, us, rfl, h1, h2⟩ := rdL_ok R hv hd
          cases toIs_ok hn h2
          have hne : ns ≠ [] := by
            intro z
            subst z
            exact absurd hl (by decide)
          obtain ⟨m1, m2⟩ := minI_mem hne
          refine .inr ⟨a, ns, rfl, h1, hl, fun m hm hle => ?_⟩
          have : m = minI ns := by
            have := hle _ m1
            have := m2 _ hm
            omega
          exact q _ W (Ext.refl W) R (by rw [this]; rfl)
        · cases e
      · cases e
    · cases e
  · cases e
def sumD : DC := fun xs S => match xs with
  | [x] => match rdL S x with
    | some ds => match toIs ds with
      | some ns => some (.int ns.sum, S)
      | none => none
    | none => none
  | _ => none
theorem rc_sum : RC K mg (rSum K) sumD := by
  intro W S xs vs d S' Q R h e q
  unfold sumD at e
  split at e
  · rename_i x
    split at e
    · rename_i ds hd
      split at e
      · rename_i ns hn
        cases e
        obtain ⟨v, rfl, hv⟩ := dens1 h
        obtain ⟨a, us, rfl, h1, h2⟩ := rdL_ok R hv hd
        cases toIs_ok hn h2
        exact ⟨a, ns, rfl, h1, q _ W (Ext.refl W) R rfl⟩
      · cases e
    · cases e
  · cases e
/-- rising -/
def sortI (ns : List Int) : List Int := ns.mergeSort (fun a b => decide (a ≤ b))
theorem sortI_eq {ns ms : List Int} (h : ms.Perm ns) (s : ms.Pairwise (· ≤ ·)) : ms = sortI ns := by
  have p : (sortI ns).Perm ns := List.mergeSort_perm ns _
  have s2 : (sortI ns).Pairwise (· ≤ ·) := by
    have := List.pairwise_mergeSort (le := fun (a b : Int) => decide (a ≤ b)) (fun a b c h1 h2 => by simp at *; omega) (fun a b => by simp; omega) ns
    exact this.imp fun h => by simpa using h
  exact (h.trans p.symm).eq_of_pairwise (fun a b _ _ h1 h2 => by omega) s s2
def rListOf (K : PySem.W.Frag) : List V → Hp → VK → Prop := fun xs H Q => ∃ p ys, xs = [.ref p] ∧ (SqL K H p ys ∨ SqT K H p ys) ∧ ∀ l, H l = none → Q (.ref l) (upd H l (.lst ys))
theorem cr_listOf {X : Cx} : CallR X (.type "list") (rListOf X.K) := call_list_of
def listD (m : Bool) : DC := fun xs S => match xs with
  | [x] => match (rdL S x).or (rdT x) with
    | some ds => some (newL m ds S)
    | none => none
  | _ => none
theorem rc_list {m : Bool} : RC K mg (rListOf K) (listD m) := by
  intro W S xs vs d S' Q R h e q
  unfold listD at e
  split at e
  · rename_i x
    split at e
    · rename_i ds hd
      obtain ⟨v, rfl, hv⟩ := dens1 h
      obtain ⟨a, us, rfl, h1, h2⟩ := rd_ok R hv hd
      refine ⟨a, us, rfl, h1, fun l hl => ?_⟩
      obtain ⟨W2, e2, x2, R2, d2⟩ := newL_ok R hl h2 (Option.some.inj e)
      rw [← e2]
      exact q _ W2 x2 R2 d2
    · cases e
  · cases e
def gcdD : DC := fun xs S => match xs with
  | [.int a, .int b] => some (.int ((Nat.gcd a.natAbs b.natAbs : Nat) : Int), S)
  | _ => none
theorem rc_gcd : RC K mg rGcd gcdD := by
  intro W S xs vs d S' Q R h e q
  unfold gcdD at e
  split at e
  · rename_i a b
    cases e
    obtain ⟨v, u, rfl, hv, hu⟩ := dens2 h
    cases (show v = V.int a from hv)
    cases (show u = V.int b from hu)
    exact ⟨a, b, rfl, q _ W (Ext.refl W) R rfl⟩
  · cases e
/-! ### list(range(..)) -/
variable {ta tb te : TE} {fa fb fe : DE} {taa : TA} {faa : DA}
def rgD (a b : Int) : List DV := (List.range (b - a).toNat).map fun i => DV.int (a + (i : Nat))
theorem dens_rg {W : Wd} (a b : Int) : Dens K W (rgD a b) (rgV a b) := by
  unfold rgD rgV
  generalize List.range (b - a).toNat = l
  induction l with
  | nil => rfl
  | cons x r ih => exact ⟨_, _, rfl, rfl, ih⟩
noncomputable def dLr2 (m : Bool) (f g : DE) : DE := fun s S => bnd (f s S) fun x S1 => bnd (g s S1) fun y S2 => match x, y with
  | .int i, .int j => gate (0 ≤ i ∧ i ≤ 100000 ∧ 0 ≤ j ∧ j ≤ 100000) (some (newL m (rgD i j) S2))
  | _, _ => none
theorem re_lr2 {m : Bool} (ha : RE K mg ta fa) (hb : RE K mg tb fb) : RE K mg (tLstRg (tRg2 ta tb)) (dLr2 m fa fb) := by
  intro W σ s S d S' Q R L e q
  obtain ⟨x, S1, e1, e⟩ := bnd_inv e
  obtain ⟨y, S2, e2, e⟩ := bnd_inv e
  split at e
  · rename_i i j _
    obtain ⟨hl, e⟩ := gate_inv e
    refine ha W σ s S _ S1 _ R L e1 fun v W1 x1 R1 d1 => ?_
    refine hb W1 σ s S1 _ S2 _ R1 (L.ext x1) e2 fun u W2 x2 R2 d2 => ?_
    refine ⟨i, j, d1, d2, RgOk.of_le hl.1 (by omega) (by omega) hl.2.2.1, fun p hp => ?_⟩
    obtain ⟨W3, e3, x3, R3, d3⟩ := newL_ok R2 hp (dens_rg i j) (Option.some.inj e)
    rw [← e3]
    exact q _ W3 ((x1.trans x2).trans x3) R3 d3
  · cases e
/-! ### truth -/
def truD (S : Sto) (x : DV) : Option Bool := match x with
  | .non => some false
  | .bl b => some b
  | .int i => some (i != 0)
  | x => match (rdL S x).or (rdT x) with
    | some ds => some (!ds.isEmpty)
    | none => none
@[simp] def dTru (f : DE) : DT := fun s S => bnd (f s S) fun x S1 => match truD S1 x with
  | some b => some (b, S1)
  | none => none
theorem isEmpty_dens {W : Wd} : ∀ {ds : List DV} {vs : List V}, Dens K W ds vs → vs.isEmpty = ds.isEmpty
  | [], _, h => by
    cases (show _ = [] from h)
    rfl
  | d :: ds, _, h => by
    obtain ⟨v, r, rfl, _⟩ := h
    rfl
theorem rt_tru (h : RE K mg te fe) : RT K mg (fun σ H Q => te σ H fun x H' => ∃ k, TruV K x H' k ∧ Q k H') (dTru fe) := by
  intro W σ s S b S' Q R L e q
  obtain ⟨x, S1, e1, e⟩ := bnd_inv e
  split at e
  · rename_i b' hb
    cases e
    refine h W σ s S x _ _ R L e1 fun v W1 x1 R1 d1 => ⟨_, ?_, q W1 x1 R1⟩
    unfold truD at hb
    split at hb
    · cases hb
      cases (show v = V.non from d1)
      rfl
    · cases hb
      cases (show v = V.bl _ from d1)
      rfl
    · cases hb
      cases (show v = V.int _ from d1)
      rfl
    · split at hb
      · rename_i ds hd
        cases hb
        obtain ⟨a, vs, rfl, h1, h2⟩ := rd_ok R1 d1 hd
        rw [← isEmpty_dens h2]
        rcases h1 with h1 | h1
        · exact .inl ⟨vs, h1, rfl⟩
        · exact .inr (.inl ⟨vs, h1, rfl⟩)
      · cases hb
  · cases e

/-! ### isinstance of built-in types -/
def tyS (S : Sto) : DV → Option String
  | .non => some "NoneType"
  | .bl _ => some "bool"
  | .int _ => some "int"
  | .str _ => some "str"
  | .tup _ => some "tuple"
  | .lst _ => some "list"
  | .ptr n => match S[n]? with
    | some (.ml _) => some "list"
    | _ => none
  | _ => none
theorem tyS_ok {W : Wd} {S : Sto} {d : DV} {v : V} {t : String} (R : Rep K mg W S) (e : tyS S d = some t) (h : Den K W d v) : TyX K W.H v (.type t) := by
  cases d with
  | non =>
    cases (show v = V.non from h)
    cases e
    exact .base .non
  | bl b =>
    cases (show v = V.bl b from h)
    cases e
    exact .base (.bl b)
  | int i =>
    cases (show v = V.int i from h)
    cases e
    exact .base (.int i)
  | str s =>
    cases (show v = V.str s from h)
    cases e
    exact .base (.str s)
  | tup ds =>
    obtain ⟨a, vs, rfl, s, _⟩ := h
    cases e
    rcases s.1 with (s | ⟨o, s⟩) | ⟨o, its, n, h1, h2, _⟩
    · exact .base (.tup s)
    · exact .fTuple s
    · exact .kTuple h1 h2
  | lst ds =>
    obtain ⟨a, vs, rfl, s, _⟩ := h
    cases e
    exact .base (.lst s.2)
  | ptr n =>
    obtain ⟨a, ha, rfl⟩ := h
    unfold tyS at e
    simp only at e
    split at e
    · rename_i ds hS
      cases e
      obtain ⟨vs, h1, _⟩ := R.ob n _ a hS ha
      exact .base (.lst h1)
    · cases e
  | _ => cases e
/-- isinstance(x, T) -/
def isiD : DC := fun xs S => match xs with
  | [x, .ty T] => match tyS S x with
    | some t => match kitB t T with
      | some b => some (.bl b, S)
      | none => none
    | none => none
  | _ => none
theorem rc_isi : RC K mg (rIsi K) isiD := by
  intro W S xs vs d S' Q R h e q
  unfold isiD at e
  split at e
  · rename_i x T
    split at e
    · rename_i t ht
      split at e
      · rename_i b hb
        cases e
        obtain ⟨v, u, rfl, hv, hu⟩ := dens2 h
        cases (show u = V.ty T from hu)
        exact ⟨v, .ty T, _, _, b, rfl, .ty T, tyS_ok R ht hv, kit_ty hb, q _ W (Ext.refl W) R rfl⟩
      · cases e
    · cases e
  · cases e
/-- isinstance(x, (T1, T2)) -/
def kitsB (t : String) : List String → Option Bool
  | [] => some false
  | T :: Ts => match kitB t T with
    | some true => some true
    | some false => kitsB t Ts
    | none => none
@[simp] def dIsiT (Ts : List String) (f : DE) : DE := fun s S => bnd (f s S) fun x S1 => match tyS S1 x with
  | some t => match kitsB t Ts with
    | some b => some (.bl b, S1)
    | none => none
  | none => none
/-! ### methods of lists -/
def ptrL (S : Sto) (x : DV) : Option (Nat × List DV) := match x with
  | .ptr n => match S[n]? with
    | some (.ml ds) => some (n, ds)
    | _ => none
  | _ => none
theorem ptrL_ok {W : Wd} {S : Sto} {x : DV} {v : V} {n : Nat} {ds : List DV} (R : Rep K mg W S) (e : ptrL S x = some (n, ds)) (h : Den K W x v) :
    ∃ a vs, v = .ref a ∧ W.H a = some (.lst vs) ∧ Dens K W ds vs ∧ ∀ es us, Dens K W es us → ∃ W', W'.H = upd W.H a (.lst us) ∧ Ext W W' ∧ Rep K mg W' (S.set n (.ml es)) := by
  unfold ptrL at e
  split at e
  · split at e
    · rename_i hS
      cases e
      obtain ⟨a, rfl, ha, hm, vs, h1, h2⟩ := ptr_ok R h hS
      refine ⟨a, vs, rfl, h1, h2, fun es us he => ?_⟩
      have xp := ext_put (o := HO.lst us) R hm
      exact ⟨W.put a (.lst us), rfl, xp, rep_put R ha ⟨us, upd_same, Dens.ext xp _ _ he⟩⟩
    · cases e
  · cases e
noncomputable def appendD : DM := fun x vs S => match ptrL S x, vs with
  | some (n, ds), [y] => gate (ds.length < 100000) (some (.non, S.set n (.ml (ds ++ [y]))))
  | _, _ => none
theorem rm_append : RM K mg rAppend appendD := by
  intro W S x xs v vs d S' Q R hx hs e q
  unfold appendD at e
  split at e
  · rename_i n ds y h1
    obtain ⟨hl, e⟩ := gate_inv e
    cases e
    obtain ⟨u, rfl, hu⟩ := dens1 hs
    obtain ⟨a, us, rfl, h2, h3, h4⟩ := ptrL_ok R h1 hx
    obtain ⟨W', e1, x1, R1⟩ := h4 _ _ (h3.app (Dens.one hu))
    refine ⟨a, us, u, rfl, rfl, h2, by rw [h3.len]; exact lim_lt hl, ?_⟩
    rw [← e1]
    exact q _ W' x1 R1 rfl
  · cases e
noncomputable def extendD : DM := fun x vs S => match ptrL S x, vs with
  | some (n, ds), [y] => match trL S y with
    | some es => gate (ds.length + es.length ≤ 100000) (some (.non, S.set n (.ml (ds ++ es))))
    | none => none
  | _, _ => none
theorem rm_extend : RM K mg rExtend extendD := by
  intro W S x xs v vs d S' Q R hx hs e q
  unfold extendD at e
  split at e
  · rename_i n ds y h1
    split at e
    · rename_i es hes
      obtain ⟨hl, e⟩ := gate_inv e
      cases e
      obtain ⟨u, rfl, hu⟩ := dens1 hs
      obtain ⟨a, us, rfl, h2, h3, h4⟩ := ptrL_ok R h1 hx
      obtain ⟨b, ws, rfl, h5, h6⟩ := trL_ok R hu hes
      obtain ⟨W', e1, x1, R1⟩ := h4 _ _ (h3.app h6)
      refine ⟨a, b, us, ws, rfl, rfl, h2, h5, by rw [h3.len, h6.len]; exact lim_le hl, ?_⟩
      rw [← e1]
      exact q _ W' x1 R1 rfl
    · cases e
  · cases e
theorem Dens.dropLast {W : Wd} {ds : List DV} {vs : List V} (h : Dens K W ds vs) : Dens K W ds.dropLast vs.dropLast := by
  rw [List.dropLast_eq_take, List.dropLast_eq_take, h.len]
  exact h.take _
def popD : DM := fun x vs S => match ptrL S x, vs with
  | some (n, ds), [] => match ds[ds.length - 1]? with
    | some y => some (y, S.set n (.ml ds.dropLast))
    | none => none
  | _, _ => none
theorem rm_pop : RM K mg rPop popD := by
  intro W S x xs v vs d S' Q R hx hs e q
  unfold popD at e
  split at e
  · rename_i n ds h1
    split at e
    · rename_i y hy
      cases e
      cases (show vs = [] from hs)
      obtain ⟨a, us, rfl, h2, h3, h4⟩ := ptrL_ok R h1 hx
      obtain ⟨u, hu1, hu2⟩ := h3.get hy
      obtain ⟨W', e1, x1, R1⟩ := h4 _ _ h3.dropLast
      refine ⟨a, us, u, rfl, rfl, h2, by rw [h3.len]; exact hu1, ?_⟩
      rw [← e1]
      exact q _ W' x1 R1 (hu2.ext x1)
    · cases e
  · cases e
noncomputable def popAtD : DM := fun x vs S => match ptrL S x, vs with
  | some (n, ds), [.int i] => match ixN ds.length i with
    | some k => match ds[k]? with
      | some y => gate (ds.length ≤ 100000) (some (y, S.set n (.ml (ds.eraseIdx k))))
      | none => none
    | none => none
  | _, _ => none
theorem rm_popAt : RM K mg rPopAt popAtD := by
  intro W S x xs v vs d S' Q R hx hs e q
  unfold popAtD at e
  split at e
  · rename_i n ds i h1
    split at e
    · rename_i k hk
      split at e
      · rename_i y hy
        obtain ⟨hl, e⟩ := gate_inv e
        cases e
        obtain ⟨ui, rfl, hi⟩ := dens1 hs
        cases (show ui = V.int i from hi)
        obtain ⟨a, us, rfl, h2, h3, h4⟩ := ptrL_ok R h1 hx
        obtain ⟨u, hu1, hu2⟩ := h3.get hy
        obtain ⟨W', e1, x1, R1⟩ := h4 _ _ (h3.erase k)
        obtain ⟨k1, k2, k3, k4⟩ := ixN_seq hk
        refine ⟨a, us, i, k, u, rfl, rfl, h2, by omega, by omega, by rw [h3.len]; exact k1, hu1, ?_⟩
        rw [← e1]
        exact q _ W' x1 R1 (hu2.ext x1)
      · cases e
    · cases e
  · cases e
def clearD : DM := fun x vs S => match ptrL S x, vs with
  | some (n, _), [] => some (.non, S.set n (.ml []))
  | _, _ => none
theorem rm_clear : RM K mg rClear clearD := by
  intro W S x xs v vs d S' Q R hx hs e q
  unfold clearD at e
  split at e
  · rename_i n ds h1
    cases e
    cases (show vs = [] from hs)
    obtain ⟨a, us, rfl, h2, h3, h4⟩ := ptrL_ok R h1 hx
    obtain ⟨W', e1, x1, R1⟩ := h4 [] [] rfl
    refine ⟨a, us, rfl, rfl, h2, ?_⟩
    rw [← e1]
    exact q _ W' x1 R1 rfl
  · cases e
def rInsert : V → List V → Hp → VK → Prop := fun x vs H Q => ∃ (l : Addr) (xs : List V) (i : Int) (y : V), x = .ref l ∧ vs = [.int i, y] ∧ H l = some (.lst xs) ∧ xs.length < sizeLine ∧ 0 ≤ i ∧ i < 2 ^ 63 ∧
    Q .non (upd H l (.lst (xs.take i.toNat ++ [y] ++ xs.drop i.toNat)))
theorem mt_insertG {X : Cx} : MtR X "list.insert" rInsert := mt_insert
noncomputable def insertD : DM := fun x vs S => match ptrL S x, vs with
  | some (n, ds), [.int i, y] => gate (ds.length < 100000 ∧ 0 ≤ i ∧ i ≤ 100000) (some (.non, S.set n (.ml (ds.take i.toNat ++ [y] ++ ds.drop i.toNat))))
  | _, _ => none
theorem rm_insert : RM K mg rInsert insertD := by
  intro W S x xs v vs d S' Q R hx hs e q
  unfold insertD at e
  split at e
  · rename_i n ds i y h1
    obtain ⟨hl, e⟩ := gate_inv e
    cases e
    obtain ⟨ui, u, rfl, hi, hu⟩ := dens2 hs
    cases (show ui = V.int i from hi)
    obtain ⟨a, us, rfl, h2, h3, h4⟩ := ptrL_ok R h1 hx
    obtain ⟨W', e1, x1, R1⟩ := h4 _ _ (((h3.take i.toNat).app (Dens.one hu)).app (h3.drop i.toNat))
    refine ⟨a, us, i, u, rfl, rfl, h2, by rw [h3.len]; exact lim_lt hl.1, hl.2.1, by omega, ?_⟩
    rw [← e1]
    exact q _ W' x1 R1 rfl
  · cases e
end
end DL
end
section
namespace DL
open PySem PyProof.Rows PySem.Spec L2
/-! ### keywords -/
def pkF {α : Type} (n m : Nat) (ixs : List Nat) (us ws : List α) : List α := if us.length = n ∧ ws.length = m then ixs.filterMap fun i => (us ++ ws)[i]? else []
theorem pick_vals {vs : List V} {us : List Value} (h : Vals vs us) : ∀ ixs : List Nat, Vals (ixs.filterMap fun i => vs[i]?) (ixs.filterMap fun i => us[i]?)
  | [] => .nil
  | i :: ixs => by
    cases q : vs[i]? with
    | none =>
      have q2 := h.none_of q
      rw [List.filterMap_cons_none q, List.filterMap_cons_none q2]
      exact pick_vals h ixs
    | some v =>
      obtain ⟨u, q2, r⟩ := h.get q
      rw [List.filterMap_cons_some q, List.filterMap_cons_some q2]
      exact .cons r (pick_vals h ixs)
theorem vals_pk {n m : Nat} {ixs : List Nat} {vs zs : List V} {us ws : List Value} (h : Vals vs us) (g : Vals zs ws) : Vals (pkF n m ixs vs zs) (pkF n m ixs us ws) := by
  unfold pkF
  rw [h.length, g.length]
  split
  · exact pick_vals (h.append g) ixs
  · exact .nil
section
variable {K : PySem.W.Frag} {mg : Str → Option Value}
theorem pick_dens {W : Wd} {ds : List DV} {vs : List V} (h : Dens K W ds vs) : ∀ ixs : List Nat, Dens K W (ixs.filterMap fun i => ds[i]?) (ixs.filterMap fun i => vs[i]?)
  | [] => rfl
  | i :: ixs => by
    cases q : ds[i]? with
    | none =>
      have q2 : vs[i]? = none := by
        rw [List.getElem?_eq_none_iff] at q ⊢
        rw [h.len]
        exact q
      rw [List.filterMap_cons_none q, List.filterMap_cons_none q2]
      exact pick_dens h ixs
    | some d =>
      obtain ⟨v, q2, r⟩ := h.get q
      rw [List.filterMap_cons_some q, List.filterMap_cons_some q2]
      exact ⟨v, _, rfl, r, pick_dens h ixs⟩
theorem dens_pk {n m : Nat} {ixs : List Nat} (W : Wd) (xs ys : List DV) (vs us : List V) (h : Dens K W xs vs) (g : Dens K W ys us) : Dens K W (pkF n m ixs xs ys) (pkF n m ixs vs us) := by
  unfold pkF
  rw [h.len, g.len]
  split
  · exact pick_dens (h.app g) ixs
  · rfl
theorem kbinds_of {x qual : Str} {st : Stmt} {f : Addr} {fd : FuncData} {ps ks : List Str} {n : Nat} {ixs : List Nat} (F : Fun K x qual st f fd) (hp : ps ≠ [])
    (h : ∀ (kV doc pm : Value) (an : Option Addr) (cdv ct : Value) (us ws : List Value), us.length = n → ws.length = ks.length → bindArgs (PySem.W.fnOf x qual (defArgs st) (defBody st) (defScope st) .none kV doc pm an cdv ct) ⟨us, ks.zip ws⟩ = pure (ps.zip (pkF n ks.length ixs us ws))) :
    KBinds K fd ps ks (pkF n ks.length ixs) (pkF n ks.length ixs) := by
  obtain ⟨oc, od, kV, doc, pm, an, cdv, ct, osl, rfl, lk, hcd⟩ := F.ex
  refine ⟨fun s us ws _ hl => ?_, vals_pk⟩
  by_cases hc : us.length = n ∧ ws.length = ks.length
  · exact .of_eq (h kV doc pm an cdv ct us ws hc.1 hc.2)
  · unfold pkF at hl
    rw [if_neg hc] at hl
    cases ps with
    | nil => exact absurd rfl hp
    | cons p ps => cases hl
section
variable {X : Cx} {CX : CXT} {k : Nat} {f : Addr} {fd : FuncData} {ps ks : List Str} {sp : Sp} {E : XK} {x : Str} {p pos : Pos} {kws : List Keyword} {tk : TA} {g : List Value → List Value → List Value} {gV : List V → List V → List V}
end
/-! ### the rest -/
def negD : DV → Sto → Option (DV × Sto) := fun x S => match x with
  | .int i => some (.int (-i), S)
  | _ => none
theorem ru_neg : RU K mg (rU fun i => .int (-i)) negD := by
  intro W S x v d S' Q R hx e q
  unfold negD at e
  split at e
  · cases e
    exact ⟨_, hx, q _ W (Ext.refl W) R rfl⟩
  · cases e
/-- the start: the script and tables of code objects are tracked -/
theorem start_world {H : Hp} {a : Addr} {ns : List Int} (t : LamX.Tabs (tabsOf K mg) H) (h : SqL K H a (ns.map V.int)) : ∃ W : Wd, W.H = H ∧ Rep K mg W [] ∧ Den K W (.rls (ns.map DV.int)) (.ref a) := by
  have hd : ∀ W : Wd, Dens K W (ns.map DV.int) (ns.map V.int) := fun W => dens_ints ns
  have rep : ∀ P : Addr → Prop, (∀ b, P b → H b ≠ none) → (∀ b, P b → ∀ ps, H b ≠ some (.tbl ps)) → Rep K mg ⟨P, [], H⟩ [] := fun P hP hQ =>
    ⟨rfl, List.nodup_nil, fun b hb => (nomatch hb), hP, fun n mo b h1 _ => (by simp at h1), t, fun p hp q => by
      obtain ⟨ps, e, _⟩ := t p hp
      exact hQ p.1 q ps e⟩
  rcases h with h | h
  · refine ⟨⟨fun b => b = a, [], H⟩, rfl, rep _ (fun b hb => ?_) (fun b hb ps => ?_), a, _, rfl, ⟨.inl h, .inl rfl⟩, hd _⟩
    · rw [hb]
      rcases h with h | ⟨o, h⟩
      · rw [h]
        exact fun z => by cases z
      · rw [h]
        exact fun z => by cases z
    · rw [hb]
      rcases h with h | ⟨o, h⟩
      · rw [h]
        exact fun z => by cases z
      · rw [h]
        exact fun z => by cases z
  · exact ⟨⟨fun _ => False, [], H⟩, rfl, rep _ (fun b hb => hb.elim) (fun b hb => hb.elim), a, _, rfl, ⟨.inr h, .inr fun _ => .inr h⟩, hd _⟩
/-- a constant tuple of ints, of the written part -/
theorem den_ktup {a : Addr} {o : Obj} {its : Array Value} {n : Nat} {ns : List Int} (h1 : K.lookup a = some o) (h2 : o.cls = .type "tuple") (h3 : o.data = .seq its n) (h4 : its.size ≤ sizeLine) (h5 : Vals (ns.map V.int) its.toList) (W : Wd) :
    Den K W (.tup (ns.map DV.int)) (.ref a) := ⟨a, ns.map V.int, rfl, ⟨.inr ⟨o, its, n, h1, h2, h3, h4, h5⟩, .inr fun _ => .inr ⟨o, its, n, h1, h2, h3, h4, h5⟩⟩, dens_ints ns⟩
def spLaw (K : PySem.W.Frag) : Sp := fun vs H Q _ => ∃ (a : Addr) (ns : List Int), vs = [.ref a] ∧ SqL K H a (ns.map V.int) ∧ ns.length ≤ 63 ∧ ∀ H', Q (.bl true) H'
def spLawT (K : PySem.W.Frag) (mg : Str → Option Value) : Sp := fun vs H Q _ => LamX.Tabs (tabsOf K mg) H ∧ ∃ (a : Addr) (ns : List Int), vs = [.ref a] ∧ SqL K H a (ns.map V.int) ∧ ns.length ≤ 63 ∧ ∀ H', Q (.bl true) H'
theorem law_ofT {P : Program} {w : World} {base : Heap} {k : Nat} {f : Addr} {fd : FuncData} {ps : List Str} {g : List DV → Sto → Option (DV × Sto)} (F : FnOk P w K mg base CX0 k f fd ps (spF K mg 1 g))
    (h : ∀ ns : List Int, ns.length ≤ 63 → ∃ S', g [.rls (ns.map DV.int)] [] = some (.bl true, S')) : FnOk P w K mg base CX0 k f fd ps (spLawT K mg) := by
  refine F.imp fun vs H Q E q => ?_
  obtain ⟨t, a, ns, rfl, hS, hl, q⟩ := q
  obtain ⟨W, e, R, hd⟩ := start_world (mg := mg) t hS
  obtain ⟨S', hg⟩ := h ns hl
  refine ⟨rfl, W, [], [.rls (ns.map DV.int)], _, S', e, R, ⟨_, _, rfl, hd, rfl⟩, hg, fun v W' x R' d => ?_⟩
  cases (show v = V.bl true from d)
  exact q _
theorem law_of {P : Program} {w : World} {base : Heap} {k : Nat} {f : Addr} {fd : FuncData} {ps : List Str} {g : List DV → Sto → Option (DV × Sto)} (h0 : mg "bounds" = none) (F : FnOk P w K mg base CX0 k f fd ps (spF K mg 1 g))
    (h : ∀ ns : List Int, ns.length ≤ 63 → ∃ S', g [.rls (ns.map DV.int)] [] = some (.bl true, S')) : FnOk P w K mg base CX0 k f fd ps (spLaw K) := by
  refine (law_ofT F h).imp fun vs H Q E q => ⟨?_, q⟩
  have e : tabsOf K mg = [] := by unfold tabsOf; rw [h0]
  rw [e]
  exact fun p hp => nomatch hp
end
end DL
end
section
/-! how the functions of data are reckoned -/
namespace DL
open PySem PyProof.Rows PySem.Spec L2

section
variable {α β : Type} {s : Sl} {S S1 : Sto} {d x y : DV} {i j k n : Int}
@[simp] theorem bnd_some' {a : α} {k : α → Sto → Option β} : bnd (some (a, S)) k = k a S := rfl
@[simp] theorem bnd_none {k : α → Sto → Option β} : bnd none k = none := rfl
end
/-! ### what is gone over, as a list -/
def itemsOf : DIt → Option (List DV)
  | .li (.lst ds) => some ds
  | .li (.rls ds) => some ds
  | .tu (.tup ds) => some ds
  | .rg lo n => some ((List.range n).map fun i => DV.int (lo + (i : Nat)))
  | .en (.lst ds) => some (ds.mapIdx fun i x => DV.tup [.int (i : Nat), x])
  | .zp (.lst xs) (.lst ys) => some (List.zipWith (fun x y => DV.tup [x, y]) xs ys)
  | .em (.tup []) => some []
  | .ki fs => some (fs.map fun p => DV.tup [.int p.1, p.2])
  | _ => none
@[simp] theorem items_lst {ds : List DV} : itemsOf (.li (.lst ds)) = some ds := rfl
@[simp] theorem items_rls {ds : List DV} : itemsOf (.li (.rls ds)) = some ds := rfl
@[simp] theorem items_tup {ds : List DV} : itemsOf (.tu (.tup ds)) = some ds := rfl
@[simp] theorem items_rg {lo : Int} {n : Nat} : itemsOf (.rg lo n) = some ((List.range n).map fun i => DV.int (lo + (i : Nat))) := rfl
@[simp] theorem items_en {ds : List DV} : itemsOf (.en (.lst ds)) = some (ds.mapIdx fun i x => DV.tup [.int (i : Nat), x]) := rfl
@[simp] theorem items_zp {xs ys : List DV} : itemsOf (.zp (.lst xs) (.lst ys)) = some (List.zipWith (fun x y => DV.tup [x, y]) xs ys) := rfl
@[simp] theorem items_em : itemsOf (.em (.tup [])) = some [] := rfl
def RgS (j : Int) : Prop := -(2 ^ 62) ≤ j ∧ j < 2 ^ 62
theorem rgS_of {j : Int} (h : 0 ≤ j) (h2 : j ≤ 1000000) : RgS j := ⟨by omega, by omega⟩
noncomputable def rg1D (ds : List DV) (S : Sto) : Option (DIt × Sto) := match ds with
  | [.int j] => gate (-(2 ^ 62) ≤ j ∧ j < 2 ^ 62) (some (.rg 0 j.toNat, S))
  | _ => none
noncomputable def rg2D (ds : List DV) (S : Sto) : Option (DIt × Sto) := match ds with
  | [.int i, .int j] => gate (-(2 ^ 62) ≤ i ∧ i < 2 ^ 62 ∧ -(2 ^ 62) ≤ j ∧ j < 2 ^ 62) (some (.rg i (j - i).toNat, S))
  | _ => none
@[simp] theorem diR1_eq {f : DA} {s : Sl} {S : Sto} : diR1 f s S = bnd (f s S) rg1D := rfl
@[simp] theorem diR2_eq {f : DA} {s : Sl} {S : Sto} : diR2 f s S = bnd (f s S) rg2D := rfl
@[simp] theorem rg1_int {S : Sto} {j : Int} (h : RgS j) : rg1D [.int j] S = some (.rg 0 j.toNat, S) := by
  unfold RgS at h
  simp only [rg1D]
  rw [gate_ok h]
@[simp] theorem rg2_int {S : Sto} {i j : Int} (h : RgS i) (h' : RgS j) : rg2D [.int i, .int j] S = some (.rg i (j - i).toNat, S) := by
  unfold RgS at h h'
  simp only [rg2D]
  rw [gate_ok ⟨h.1, h.2, h'.1, h'.2⟩]
theorem items_at {it : DIt} {xs : List DV} (h : itemsOf it = some xs) (S : Sto) (i : Nat) : itemAt it S i = some xs[i]? ∧ xs.length ≤ itLen it S := by
  cases it with
  | ki fs =>
    cases h
    exact ⟨by simp [itemAt], by simp [itLen]⟩
  | li d =>
    cases d with
    | lst ds => cases h; exact ⟨rfl, Nat.le_refl _⟩
    | rls ds => cases h; exact ⟨rfl, Nat.le_refl _⟩
    | _ => cases h
  | tu d =>
    cases d with
    | tup ds => cases h; exact ⟨rfl, Nat.le_refl _⟩
    | _ => cases h
  | rg lo n =>
    cases h
    refine ⟨?_, by simp [itLen]⟩
    unfold itemAt
    by_cases hi : i < n <;> simp [hi]
  | em d =>
    cases d with
    | tup ds =>
      cases ds with
      | nil =>
        cases h
        exact ⟨rfl, Nat.le_refl _⟩
      | cons d ds => cases h
    | _ => cases h
  | en d =>
    cases d with
    | lst ds =>
      cases h
      refine ⟨?_, by simp [itLen, rdL]⟩
      simp only [itemAt, rdL, List.getElem?_mapIdx]
      cases ds[i]? <;> rfl
    | _ => cases h
  | zt d e => cases h
  | z3 d e f => cases h
  | zp d e =>
    cases d with
    | lst xs =>
      cases e with
      | lst ys =>
        cases h
        refine ⟨?_, by simp [itLen, rdL]; omega⟩
        simp only [itemAt, rdL, List.getElem?_zipWith]
        cases xs[i]? <;> cases ys[i]? <;> rfl
      | _ => cases h
    | _ => cases h
/-- a loop over a list -/
def forL (tgt : DG) (body : DS) : List DV → DS
  | [] => fun s S => some (.nx s S)
  | d :: ds => fun s S => match tgt d s S with
    | none => none
    | some p => match body p.1 p.2 with
      | none => none
      | some r => kLoop r (forL tgt body ds)
theorem forF_items {tgt : DG} {body : DS} {it : DIt} {xs : List DV} (h : itemsOf it = some xs) : ∀ (k i : Nat) (s : Sl) (S : Sto), xs.length < k + i → i ≤ xs.length → forF tgt body it k i s S = forL tgt body (xs.drop i) s S
  | 0, i, s, S, hk, hi => by omega
  | k + 1, i, s, S, hk, hi' => by
    have h1 := (items_at h S i).1
    by_cases hi : i < xs.length
    · rw [List.getElem?_eq_getElem hi] at h1
      rw [List.drop_eq_getElem_cons hi]
      simp only [forF, forL, h1]
      cases e : tgt xs[i] s S with
      | none => rfl
      | some p =>
        simp only
        cases e2 : body p.1 p.2 with
        | none => rfl
        | some r =>
          simp only
          have ih : ∀ s S, forF tgt body it k (i + 1) s S = forL tgt body (xs.drop (i + 1)) s S := fun s S => forF_items h k (i + 1) s S (by omega) (by omega)
          cases r <;> simp [kLoop, ih]
    · have hn : xs[i]? = none := List.getElem?_eq_none (by omega)
      rw [hn] at h1
      rw [List.drop_eq_nil_of_le (by omega)]
      simp only [forF, forL, h1]

theorem dFor_eq {fi : DI} {tgt : DG} {body : DS} {s : Sl} {S : Sto} : dFor fi tgt body s S = bnd (fi s S) fun it S1 => match itemsOf it with
    | some xs => forL tgt body xs s S1
    | none => forF tgt body it (itLen it S1 + 1) 0 s S1 := by
  unfold dFor
  cases e : fi s S with
  | none => rfl
  | some p =>
    obtain ⟨it, S1⟩ := p
    simp only [bnd_some']
    cases h : itemsOf it with
    | none => rfl
    | some xs =>
      simp only
      rw [forF_items h _ 0 s S1 (by have := (items_at h S1 0).2; omega) (Nat.zero_le _), List.drop_zero]
/-- a comprehension over a list -/
def lcL (tgt : DG) (tt : DT) (te : DE) (vs : List Nat) : List DV → List DV → Sl → Sto → Option (List DV × Sto)
  | [], acc, _, S => some (acc, S)
  | d :: ds, acc, s, S => match tgt d (wipeD s vs) S with
    | none => none
    | some p => bnd (tt p.1 p.2) fun b S2 => if b = true then bnd (te p.1 S2) fun y S3 => lcL tgt tt te vs ds (acc ++ [y]) s S3 else lcL tgt tt te vs ds acc s S2
theorem lcF_items {tgt : DG} {tt : DT} {te : DE} {vs : List Nat} {it : DIt} {xs : List DV} (h : itemsOf it = some xs) : ∀ (k i : Nat) (acc : List DV) (s : Sl) (S : Sto), xs.length < k + i → i ≤ xs.length → lcF tgt tt te it vs k i acc s S = lcL tgt tt te vs (xs.drop i) acc s S
  | 0, i, acc, s, S, hk, hi => by omega
  | k + 1, i, acc, s, S, hk, hi' => by
    have h1 := (items_at h S i).1
    by_cases hi : i < xs.length
    · rw [List.getElem?_eq_getElem hi] at h1
      rw [List.drop_eq_getElem_cons hi]
      simp only [lcF, lcL, h1]
      cases e : tgt xs[i] (wipeD s vs) S with
      | none => rfl
      | some p =>
        simp only
        have ih : ∀ acc s S, lcF tgt tt te it vs k (i + 1) acc s S = lcL tgt tt te vs (xs.drop (i + 1)) acc s S := fun acc s S => lcF_items h k (i + 1) acc s S (by omega) (by omega)
        simp only [ih]
    · have hn : xs[i]? = none := List.getElem?_eq_none (by omega)
      rw [hn] at h1
      rw [List.drop_eq_nil_of_le (by omega)]
      simp only [lcF, lcL, h1]
theorem dLc_eq {m : Bool} {fi : DI} {tgt : DG} {tt : DT} {te : DE} {vs : List Nat} {s : Sl} {S : Sto} : dLc m fi tgt tt te vs s S = bnd (fi s S) fun it S1 => bnd (match itemsOf it with
    | some xs => lcL tgt tt te vs xs [] s S1
    | none => lcF tgt tt te it vs (itLen it S1 + 1) 0 [] s S1) fun acc S2 => gate (acc.length ≤ 100000) (some (newL m acc S2)) := by
  unfold dLc
  cases e : fi s S with
  | none => rfl
  | some p =>
    obtain ⟨it, S1⟩ := p
    simp only [bnd_some']
    cases h : itemsOf it with
    | none => rfl
    | some xs =>
      simp only
      rw [lcF_items h _ 0 [] s S1 (by have := (items_at h S1 0).2; omega) (Nat.zero_le _), List.drop_zero]
/-- each element by a function, the store as it was -/
theorem lcL_map {tgt : DG} {tt : DT} {te : DE} {vs : List Nat} {g : DV → DV} {s : Sl} {S : Sto} : ∀ {xs acc : List DV}, (∀ x ∈ xs, ∃ s1, tgt x (wipeD s vs) S = some (s1, S) ∧ tt s1 S = some (true, S) ∧ te s1 S = some (g x, S)) →
    lcL tgt tt te vs xs acc s S = some (acc ++ xs.map g, S)
  | [], acc, _ => by simp [lcL]
  | x :: xs, acc, h => by
    obtain ⟨s1, h1, h2, h3⟩ := h x (List.mem_cons_self)
    simp only [lcL, h1, h2, h3, bnd_some', if_true]
    rw [lcL_map fun y hy => h y (List.mem_cons_of_mem _ hy)]
    simp
/-- each element with a state of the store: I holds at each turn -/
theorem lcL_inv {tgt : DG} {tt : DT} {te : DE} {vs : List Nat} {s : Sl} (I : Nat → List DV → Sto → Prop) : ∀ {xs acc : List DV} {S : Sto} {k : Nat}, I k acc S →
    (∀ (i : Nat) (x : DV) (acc : List DV) (S : Sto), xs[i]? = some x → I (k + i) acc S → ∃ s1 S1 b S2, tgt x (wipeD s vs) S = some (s1, S1) ∧ tt s1 S1 = some (b, S2) ∧ (if b = true then ∃ y S3, te s1 S2 = some (y, S3) ∧ I (k + i + 1) (acc ++ [y]) S3 else I (k + i + 1) acc S2)) →
    ∃ acc' S', lcL tgt tt te vs xs acc s S = some (acc', S') ∧ I (k + xs.length) acc' S'
  | [], acc, S, k, h0, _ => ⟨acc, S, rfl, h0⟩
  | x :: xs, acc, S, k, h0, hs => by
    obtain ⟨s1, S1, b, S2, h1, h2, h3⟩ := hs 0 x acc S rfl h0
    have step : ∀ (i : Nat) (y : DV) (acc : List DV) (S : Sto), xs[i]? = some y → I (k + 1 + i) acc S → ∃ s1 S1 b S2, tgt y (wipeD s vs) S = some (s1, S1) ∧ tt s1 S1 = some (b, S2) ∧ (if b = true then ∃ y S3, te s1 S2 = some (y, S3) ∧ I (k + 1 + i + 1) (acc ++ [y]) S3 else I (k + 1 + i + 1) acc S2) := fun i y acc S e h => by
      have := hs (i + 1) y acc S (by simpa using e) (by rw [show k + (i + 1) = k + 1 + i by omega]; exact h)
      rw [show k + (i + 1) + 1 = k + 1 + i + 1 by omega] at this
      exact this
    cases b with
    | true =>
      rw [if_pos rfl] at h3
      obtain ⟨y, S3, h4, h5⟩ := h3
      obtain ⟨acc', S', e, hI⟩ := lcL_inv I (k := k + 1) h5 step
      refine ⟨acc', S', ?_, by rw [List.length_cons, show k + (xs.length + 1) = k + 1 + xs.length by omega]; exact hI⟩
      simp only [lcL, h1, h2, h4, bnd_some', if_true]
      exact e
    | false =>
      rw [if_neg (by decide)] at h3
      obtain ⟨acc', S', e, hI⟩ := lcL_inv I (k := k + 1) h3 step
      refine ⟨acc', S', ?_, by rw [List.length_cons, show k + (xs.length + 1) = k + 1 + xs.length by omega]; exact hI⟩
      simp only [lcL, h1, h2, bnd_some', Bool.false_eq_true, if_false]
      exact e
/-- a loop that always goes on, by an invariant -/
theorem forL_inv {tgt : DG} {body : DS} (I : Nat → Sl → Sto → Prop) : ∀ {xs : List DV} {s : Sl} {S : Sto} {k : Nat}, I k s S →
    (∀ (i : Nat) (x : DV) (s : Sl) (S : Sto), xs[i]? = some x → I (k + i) s S → ∃ s1 S1 s2 S2, tgt x s S = some (s1, S1) ∧ (body s1 S1 = some (.nx s2 S2) ∨ body s1 S1 = some (.ct s2 S2)) ∧ I (k + i + 1) s2 S2) →
    ∃ s' S', forL tgt body xs s S = some (.nx s' S') ∧ I (k + xs.length) s' S'
  | [], s, S, k, h0, _ => ⟨s, S, rfl, h0⟩
  | x :: xs, s, S, k, h0, hs => by
    obtain ⟨s1, S1, s2, S2, h1, h2, h3⟩ := hs 0 x s S rfl h0
    obtain ⟨s', S', e, hI⟩ := forL_inv (tgt := tgt) (body := body) I (xs := xs) (k := k + 1) h3 fun i y s S e h => by
      have := hs (i + 1) y s S (by simpa using e) (by rw [show k + (i + 1) = k + 1 + i by omega]; exact h)
      rw [show k + (i + 1) + 1 = k + 1 + i + 1 by omega] at this
      exact this
    refine ⟨s', S', ?_, by rw [List.length_cons, show k + (xs.length + 1) = k + 1 + xs.length by omega]; exact hI⟩
    simp only [forL, h1]
    rcases h2 with h2 | h2 <;> simp only [h2, kLoop] <;> exact e
@[simp] theorem exF_same {m : Option Bool} {S : Sto} {d : DV} : exF m S d S = some (d, S) := by
  cases m with
  | none => rfl
  | some m => simp [exF, exF1]
theorem exF_len {m : Option Bool} {S S' : Sto} {d : DV} (h : S'.length = S.length) : exF m S d S' = some (d, S') := by
  cases m with
  | none => rfl
  | some m => simp [exF, exF1, h]
@[simp] theorem exF_raw {S S' : Sto} {d : DV} : exF none S d S' = some (d, S') := rfl
/-! ### operations -/
section
variable {S : Sto} {i j : Int} {x y d : DV} {ds es : List DV} {m : Bool}
@[simp] theorem subD_int : subD (.int i) (.int j) S = some (.int (i - j), S) := rfl
@[simp] theorem addD_int : addD m (.int i) (.int j) S = some (.int (i + j), S) := rfl
@[simp] theorem mulD_int (h : Fits i) (g : Fits j) : mulD (.int i) (.int j) S = some (.int (i * j), S) := by
  simp [mulD, h, g]
@[simp] theorem fdivD_int (h : FitsD j) : fdivD (.int i) (.int j) S = some (.int (i / j), S) := by
  simp [fdivD, h]
@[simp] theorem modD_int (h : 0 < j) : modD (.int i) (.int j) S = some (.int (i % j), S) := by
  simp [modD, h]
theorem powD_int (h : 0 ≤ j) (h1 : j ≤ 1000) (h2 : i.natAbs < 2 ^ 64) : powD (.int i) (.int j) S = some (.int (i ^ j.toNat), S) := by
  unfold powD
  simp only
  rw [gate_ok ⟨h, h1, h2⟩]
@[simp] theorem ltD_int : ltD (.int i) (.int j) S = some (.bl (decide (i < j)), S) := rfl
@[simp] theorem leD_int : leD (.int i) (.int j) S = some (.bl (decide (i ≤ j)), S) := rfl
@[simp] theorem gtD_int : gtD (.int i) (.int j) S = some (.bl (decide (j < i)), S) := rfl
@[simp] theorem geD_int : geD (.int i) (.int j) S = some (.bl (decide (j ≤ i)), S) := rfl
@[simp] theorem negD_int : negD (.int i) S = some (.int (-i), S) := rfl
@[simp] theorem rdL_lst : rdL S (.lst ds) = some ds := rfl
@[simp] theorem rdL_rls : rdL S (.rls ds) = some ds := rfl
@[simp] theorem rdL_tup : rdL S (.tup ds) = none := rfl
@[simp] theorem rdT_tup : rdT (.tup ds) = some ds := rfl
@[simp] theorem trL_lst : trL S (.lst ds) = some ds := rfl
@[simp] theorem addD_lst : addD m (.lst ds) (.lst es) S = gate (ds.length + es.length ≤ 100000) (some (newL m (ds ++ es) S)) := rfl
@[simp] theorem newL_f : newL false ds S = (.lst ds, S) := rfl
@[simp] theorem newL_t : newL true ds S = (.ptr S.length, S ++ [.ml ds]) := rfl
@[simp] theorem atI_0 {α : Type} {a : α} {l : List α} : L2.atI (a :: l) 0 = some a := L2.atI_nat (xs := a :: l) (j := 0) (v := a) rfl
@[simp] theorem atI_1 {α : Type} {a b : α} {l : List α} : L2.atI (a :: b :: l) 1 = some b := by
  have := L2.atI_nat (xs := a :: b :: l) (j := 1) (v := b) rfl
  exact this
@[simp] theorem gcdD_int : gcdD [.int i, .int j] S = some (.int ((Nat.gcd i.natAbs j.natAbs : Nat) : Int), S) := rfl
@[simp] theorem absD_int : absD [.int i] S = some (.int (if i < 0 then -i else i), S) := rfl
@[simp] theorem maxD_int : maxD [.int i, .int j] S = some (.int (if j > i then j else i), S) := rfl
@[simp] theorem minD_int : minD [.int i, .int j] S = some (.int (if j < i then j else i), S) := rfl
@[simp] theorem lenD_lst : lenD [.lst ds] S = some (.int (ds.length : Nat), S) := rfl
@[simp] theorem lenD_rls : lenD [.rls ds] S = some (.int (ds.length : Nat), S) := rfl
@[simp] theorem lenD_tup : lenD [.tup ds] S = some (.int (ds.length : Nat), S) := rfl
theorem ixD_lst (h : L2.atI ds i = some d) : ixD (.lst ds) (.int i) S = some (d, S) := by
  simp [ixD, h]
theorem ixD_tup (h : L2.atI ds i = some d) : ixD (.tup ds) (.int i) S = some (d, S) := by
  simp [ixD, h]
theorem at_nat {α : Type} {l : List α} {n : Nat} {a : α} {k : Int} (hk : k = (n : Int)) (h : l[n]? = some a) : L2.atI l k = some a := by
  rw [hk]
  exact L2.atI_nat h
end
theorem fits_of {i : Int} {n : Nat} (h : i.natAbs < 2 ^ n) (hn : n ≤ 400000) : Fits i := Nat.lt_of_lt_of_le h (Nat.pow_le_pow_right (by decide) hn)
theorem fitsD_of {i : Int} {n : Nat} (h0 : 0 < i) (h : i.natAbs < 2 ^ n) (hn : n ≤ 8000) : FitsD i := ⟨h0, Nat.lt_of_lt_of_le h (Nat.pow_le_pow_right (by decide) hn)⟩
theorem fits_small {i : Int} (h : i.natAbs < 2 ^ 200) : Fits i := fits_of h (by decide)
theorem fitsD_small {i : Int} (h0 : 0 < i) (h : i.natAbs < 2 ^ 200) : FitsD i := fitsD_of h0 h (by decide)
/-! ### equal data -/
def ShN (n : Nat) (p : PyData) : Prop := p.canLay0 = true ∧ p.depth ≤ n
theorem ShN.shaped {n : Nat} {p : PyData} (h : ShN n p) (hn : n ≤ 64) : SeqAt.shaped p = true := by
  unfold SeqAt.shaped
  rw [h.1, Bool.true_and]
  exact decide_eq_true (Nat.le_trans h.2 hn)
theorem shN_int {n : Nat} {i : Int} : ShN n (.int i) := ⟨rfl, Nat.zero_le _⟩
theorem shN_non {n : Nat} : ShN n .none := ⟨rfl, Nat.zero_le _⟩
theorem shN_bl {n : Nat} {b : Bool} : ShN n (.bool b) := ⟨rfl, Nat.zero_le _⟩
theorem canLay_all : ∀ {ps : List PyData}, (∀ p ∈ ps, p.canLay0 = true) → PyData.canLayAll0 ps = true
  | [], _ => rfl
  | p :: ps, h => by
    show (p.canLay0 && PyData.canLayAll0 ps) = true
    rw [h p (List.mem_cons_self), canLay_all fun q hq => h q (List.mem_cons_of_mem _ hq)]
    rfl
theorem depth_all {n : Nat} : ∀ {ps : List PyData}, (∀ p ∈ ps, p.depth ≤ n) → PyData.depthAll ps ≤ n
  | [], _ => Nat.zero_le _
  | p :: ps, h => by
    show max p.depth (PyData.depthAll ps) ≤ n
    have h1 := h p (List.mem_cons_self)
    have h2 := depth_all fun q hq => h q (List.mem_cons_of_mem _ hq)
    omega
theorem shN_list {n : Nat} {ps : List PyData} (h : ∀ p ∈ ps, ShN n p) : ShN (n + 1) (.list ps) := ⟨canLay_all fun p hp => (h p hp).1, Nat.succ_le_succ (depth_all fun p hp => (h p hp).2)⟩
theorem shN_tuple {n : Nat} {ps : List PyData} (h : ∀ p ∈ ps, ShN n p) : ShN (n + 1) (.tuple ps) := ⟨canLay_all fun p hp => (h p hp).1, Nat.succ_le_succ (depth_all fun p hp => (h p hp).2)⟩
theorem pys_map {α : Type} {r : Nat → Option PyData} {f : α → DV} {g : α → PyData} (h : ∀ x, py r (f x) = some (g x)) : ∀ xs : List α, pys r (xs.map f) = some (xs.map g)
  | [] => rfl
  | x :: xs => by simp [pys, h x, pys_map h xs]
theorem eqv_map {α : Type} [DecidableEq α] {g : α → PyData} (h : ∀ x y, PyData.eqv (g x) (g y) = decide (x = y)) : ∀ xs ys : List α, PyData.eqvAll (xs.map g) (ys.map g) = decide (xs = ys)
  | [], [] => by simp [PyData.eqvAll]
  | [], y :: ys => by simp [PyData.eqvAll]
  | x :: xs, [] => by simp [PyData.eqvAll]
  | x :: xs, y :: ys => by simp [PyData.eqvAll, h x y, eqv_map h xs ys]
theorem eqD_of {S : Sto} {x y : DV} {p q : PyData} {n : Nat} (h1 : pyS S x = some p) (h2 : pyS S y = some q) (h3 : ShN n p) (h4 : ShN n q) (hn : n ≤ 64) : eqD x y S = some (.bl (PyData.eqv p q), S) := by
  simp [eqD, h1, h2, h3.shaped hn, h4.shaped hn]
theorem neD_of {S : Sto} {x y : DV} {p q : PyData} {n : Nat} (h1 : pyS S x = some p) (h2 : pyS S y = some q) (h3 : ShN n p) (h4 : ShN n q) (hn : n ≤ 64) : neD x y S = some (.bl (!PyData.eqv p q), S) := by
  simp [neD, h1, h2, h3.shaped hn, h4.shaped hn]
@[simp] theorem eqD_int {S : Sto} {i j : Int} : eqD (.int i) (.int j) S = some (.bl (decide (i = j)), S) := by
  rw [eqD_of (n := 0) rfl rfl shN_int shN_int (by decide)]
  simp [PyData.eqv, Bool.beq_eq_decide_eq]
@[simp] theorem neD_int {S : Sto} {i j : Int} : neD (.int i) (.int j) S = some (.bl (!decide (i = j)), S) := by
  rw [neD_of (n := 0) rfl rfl shN_int shN_int (by decide)]
  simp [PyData.eqv, Bool.beq_eq_decide_eq]
/-- while: it ends -/
theorem while_step {c : DT} {b : DS} {n : Nat} {s s2 : Sl} {S S1 S2 : Sto} (h1 : c s S = some (true, S1)) (h2 : b s S1 = some (.nx s2 S2)) : whileF c b (n + 1) s S = whileF c b n s2 S2 := by
  simp [whileF, h1, h2]
theorem while_end {c : DT} {b : DS} {n : Nat} {s : Sl} {S S1 : Sto} (h1 : c s S = some (false, S1)) : whileF c b (n + 1) s S = some (.nx s S1) := by
  simp [whileF, h1]
theorem lt_fuel {n k : Nat} (h : n < 2 ^ k) (hk : k ≤ 1000000) : n < FUEL := by
  unfold FUEL
  exact Nat.lt_of_lt_of_le h (Nat.pow_le_pow_right (by decide) hk)
/-! ### a statement at a time -/
section
variable {f g : DS} {fe : DE} {s s1 : Sl} {S S1 S2 : Sto} {d : DV} {i n : Nat} {r : Option Res}
theorem seq_nx (h1 : f s S = some (.nx s1 S1)) (h2 : g s1 S1 = r) : dSeq f g s S = r := by
  simp only [dSeq, h1, kNx, h2]
theorem seq_rt (h1 : f s S = some (.rt d S1)) : dSeq f g s S = some (.rt d S1) := by
  simp only [dSeq, h1, kNx]
theorem asg_name (h : fe s S = some (d, S1)) : dAsg fe (dName i) s S = some (.nx (s.set i (some d)) S1) := by
  simp only [dAsg, h, bnd_some', dName]
theorem ret_of (h : fe s S = some (d, S1)) : dRet fe s S = some (.rt d S1) := by
  simp only [dRet, h, bnd_some']
theorem drop_of (h : fe s S = some (d, S1)) : dDrop fe s S = some (.nx s S1) := by
  simp only [dDrop, h, bnd_some']
theorem if_t {t : DT} (h : t s S = some (true, S1)) (h2 : f s S1 = r) : dIfS t f g s S = r := by
  simp only [dIfS, h, bnd_some', if_true, h2]
theorem if_f {t : DT} (h : t s S = some (false, S1)) (h2 : g s S1 = r) : dIfS t f g s S = r := by
  simp only [dIfS, h, bnd_some', Bool.false_eq_true, if_false, h2]
theorem lc_of {m : Bool} {fi : DI} {tgt : DG} {tt : DT} {te : DE} {vs : List Nat} {it : DIt} {xs acc : List DV} (h : fi s S = some (it, S1)) (hx : itemsOf it = some xs) (hl : lcL tgt tt te vs xs [] s S1 = some (acc, S2)) (hn : acc.length ≤ 100000) :
    dLc m fi tgt tt te vs s S = some (newL m acc S2) := by
  rw [dLc_eq, h, bnd_some', hx]
  simp only [hl, bnd_some', gate_ok hn]
theorem for_of {fi : DI} {tgt : DG} {body : DS} {it : DIt} {xs : List DV} (h : fi s S = some (it, S1)) (hx : itemsOf it = some xs) (hl : forL tgt body xs s S1 = r) : dFor fi tgt body s S = r := by
  rw [dFor_eq, h, bnd_some', hx]
  exact hl
theorem fn_rt {m : Option Bool} {body : DS} {ds : List DV} {r : Option (DV × Sto)} (h : body (startD n ds) S = some (.rt d S1)) (h2 : exF m S d S1 = r) : fnF m n body ds S = r := by
  simp only [fnF, h, h2]
theorem fn_nx {m : Option Bool} {body : DS} {ds : List DV} {r : Option (DV × Sto)} (h : body (startD n ds) S = some (.nx s S1)) (h2 : exF m S .non S1 = r) : fnF m n body ds S = r := by
  simp only [fnF, h, h2]
end
end DL
end
section
namespace FW
open PySem PyProof.Rows PySem.Spec L2 DL
/-! ### each def as a function of data -/
noncomputable def b_law_alike_z (rec : List DV → Sto → Option (DV × Sto)) : DS :=
    (dSeq (dIfS (dTest (dIsN false (dVar 1)))
    (dRet (dIsN false (dVar 0))) dNext)
    (dSeq (dIfS (dTest (dCB isiD (dCons (dVar 1) (dCons (dC (.ty "bool")) dNil))))
    (dRet (dAndV (dCB isiD (dCons (dVar 0) (dCons (dC (.ty "bool")) dNil))) (dOp eqD (dVar 0) (dVar 1)))) dNext)
    (dSeq (dIfS (dTest (dCB isiD (dCons (dVar 1) (dCons (dC (.ty "int")) dNil))))
    (dRet (dAndV (dCB isiD (dCons (dVar 0) (dCons (dC (.ty "int")) dNil))) (dAndV (dNotV (dCB isiD (dCons (dVar 0) (dCons (dC (.ty "bool")) dNil)))) (dOp eqD (dVar 0) (dVar 1))))) dNext)
    (dSeq (dIfS (dTest (dCB isiD (dCons (dVar 1) (dCons (dC (.ty "str")) dNil))))
    (dRet (dAndV (dCB isiD (dCons (dVar 0) (dCons (dC (.ty "str")) dNil))) (dOp eqD (dVar 0) (dVar 1)))) dNext)
    (dSeq (dIfS (dOr (dTest (dOp neD (dCB isiD (dCons (dVar 0) (dCons (dC (.ty "list")) dNil))) (dCB isiD (dCons (dVar 1) (dCons (dC (.ty "list")) dNil))))) (dTest (dOp neD (dCB isiD (dCons (dVar 0) (dCons (dC (.ty "tuple")) dNil))) (dCB isiD (dCons (dVar 1) (dCons (dC (.ty "tuple")) dNil))))))
    (dRet (dC (.bl false))) dNext)
    (dSeq (dIfS (dTest (dOp neD (dCB lenD (dCons (dVar 0) dNil)) (dCB lenD (dCons (dVar 1) dNil))))
    (dRet (dC (.bl false))) dNext)
    (dSeq (dFor (diR1 (dCons (dCB lenD (dCons (dVar 1) dNil)) dNil)) (dName 2)
    (dIfS (dNot (dTest (dCall 2 rec [] (dCons (dOp ixD (dVar 0) (dVar 2)) (dCons (dOp ixD (dVar 1) (dVar 2)) dNil)))))
    (dRet (dC (.bl false))) dNext))
    (dRet (dC (.bl true))))))))))
noncomputable def f_law_alike_z : Nat → List DV → Sto → Option (DV × Sto)
  | 0 => fun _ _ => none
  | k + 1 => fnF (some false) 3 (b_law_alike_z (f_law_alike_z k))
noncomputable def b_law_low_z : DS :=
    (dSeq (dPar 2 3 (dCons (dCB maxD (dCons (dVar 0) (dCons (dOp subD (dC (.int 0)) (dVar 0)) dNil))) (dCons (dVar 1) dNil)))
    (dSeq (dWhile (dTest (dOp gtD (dVar 2) (dC (.int 0))))
    (dPar 2 3 (dCons (dOp modD (dVar 3) (dVar 2)) (dCons (dVar 2) dNil))))
    (dRet (dTup (dCons (dOp fdivD (dVar 0) (dVar 3)) (dCons (dOp fdivD (dVar 1) (dVar 3)) dNil))))))
noncomputable def f_law_low_z : List DV → Sto → Option (DV × Sto) := fnF (some false) 4 b_law_low_z
noncomputable def b_lowest_z : DS :=
    (dSeq (dAsg (dCB gcdD (dCons (dVar 0) (dCons (dVar 1) dNil))) (dName 2))
    (dRet (dTup (dCons (dOp fdivD (dVar 0) (dVar 2)) (dCons (dOp fdivD (dVar 1) (dVar 2)) dNil)))))
noncomputable def f_lowest_z : List DV → Sto → Option (DV × Sto) := fnF (some false) 3 b_lowest_z
noncomputable def b_plus_z : DS :=
    (dSeq (dAsg (dCB gcdD (dCons (dOp ixD (dVar 0) (dC (.int 1))) (dCons (dOp ixD (dVar 1) (dC (.int 1))) dNil))) (dName 2))
    (dSeq (dAsg (dOp fdivD (dOp ixD (dVar 0) (dC (.int 1))) (dVar 2)) (dName 3))
    (dSeq (dAsg (dCall 2 f_lowest_z [] (dCons (dOp (addD false) (dOp mulD (dOp ixD (dVar 0) (dC (.int 0))) (dOp fdivD (dOp ixD (dVar 1) (dC (.int 1))) (dVar 2))) (dOp mulD (dOp ixD (dVar 1) (dC (.int 0))) (dVar 3))) (dCons (dVar 2) dNil))) (dGTup 2 (dGCons (dName 4) (dGCons (dName 5) dGNil))))
    (dRet (dTup (dCons (dVar 4) (dCons (dOp mulD (dOp mulD (dVar 5) (dVar 3)) (dOp fdivD (dOp ixD (dVar 1) (dC (.int 1))) (dVar 2))) dNil)))))))
noncomputable def f_plus_z : List DV → Sto → Option (DV × Sto) := fnF (some false) 6 b_plus_z
noncomputable def b_above_z : DS :=
    (dRet (dOp gtD (dOp mulD (dOp ixD (dVar 0) (dC (.int 0))) (dOp ixD (dVar 1) (dC (.int 1)))) (dOp mulD (dOp ixD (dVar 1) (dC (.int 0))) (dOp ixD (dVar 0) (dC (.int 1))))))
noncomputable def f_above_z : List DV → Sto → Option (DV × Sto) := fnF (some false) 2 b_above_z
noncomputable def b_check_water_z : DS :=
    (dSeq (dIfS (dTest (dOp neD (dCB lenD (dCons (dVar 1) dNil)) (dCB lenD (dCons (dVar 0) dNil))))
    dNever dNext)
    (dFor (diE (dCons (dVar 1) dNil)) (dGTup 2 (dGCons (dName 2) (dGCons (dName 3) dGNil)))
    (dIfS (dTest (dCall 2 f_above_z [] (dCons (dC (.tup [(.int 0), (.int 1)])) (dCons (dVar 3) dNil))))
    dNever dNext)))
noncomputable def f_check_water_z : List DV → Sto → Option (DV × Sto) := fnF (some false) 4 b_check_water_z
noncomputable def b_check_floors_z : DS :=
    (dSeq (dIfS (dTest (dOp eqD (dCB lenD (dCons (dVar 0) dNil)) (dC (.int 0))))
    dNever dNext)
    (dFor (diE (dCons (dVar 0) dNil)) (dGTup 2 (dGCons (dName 1) (dGCons (dName 2) dGNil)))
    (dIfS (dTest (dOp ltD (dVar 2) (dC (.int 1))))
    dNever dNext)))
noncomputable def f_check_floors_z : List DV → Sto → Option (DV × Sto) := fnF (some false) 3 b_check_floors_z
noncomputable def b_sums_z : DS :=
    (dSeq (dAsg (dLst true (dCons (dC (.tup [(.int 0), (.int 1)])) dNil)) (dName 1))
    (dSeq (dFor (diL (dVar 0)) (dName 2)
    (dDrop (dBM "list" appendD (dVar 1) (dCons (dCall 2 f_plus_z [] (dCons (dOp ixD (dVar 1) (dUn negD (dC (.int 1)))) (dCons (dVar 2) dNil))) dNil))))
    (dRet (dVar 1))))
noncomputable def f_sums_z : List DV → Sto → Option (DV × Sto) := fnF (some false) 3 b_sums_z
noncomputable def b_heaped_z : DS :=
    (dSeq (dDrop (dCall 1 f_check_floors_z [] (dCons (dVar 0) dNil)))
    (dSeq (dDrop (dCall 2 f_check_water_z [] (dCons (dVar 0) (dCons (dVar 1) dNil))))
    (dRet (dCall 1 f_sums_z [] (dCons (dVar 1) dNil)))))
noncomputable def f_heaped_z : List DV → Sto → Option (DV × Sto) := fnF (some false) 2 b_heaped_z
noncomputable def b_law_draw_z : DS :=
    (dSeq (dWhile (dAnd (dTest (dOp ltD (dOp ixD (dVar 0) (dC (.int 1))) (dC (.int 2)))) (dTest (dOp neD (dOp ixD (dVar 0) (dC (.int 0))) (dLst false dNil))))
    (dAsg (dBM "list" popAtD (dOp ixD (dVar 0) (dC (.int 0))) (dCons (dC (.int 0)) dNil)) (dSub (dVar 0) (dC (.int 1)))))
    (dSeq (dIfS (dTest (dOp geD (dOp ixD (dVar 0) (dC (.int 1))) (dC (.int 2))))
    (dSeq (dAsg (dOp modD (dOp ixD (dVar 0) (dC (.int 1))) (dVar 1)) (dName 2))
    (dSeq (dAsg (dOp fdivD (dOp ixD (dVar 0) (dC (.int 1))) (dVar 1)) (dSub (dVar 0) (dC (.int 1))))
    (dRet (dVar 2)))) dNext)
    (dSeq (dAsg (dOp (addD false) (dOp ixD (dVar 0) (dC (.int 3))) (dC (.int 1))) (dSub (dVar 0) (dC (.int 3))))
    (dSeq (dAsg (dOp modD (dOp (addD false) (dOp mulD (dOp (addD false) (dOp ixD (dVar 0) (dC (.int 2))) (dC (.int 5))) (dOp powD (dOp (addD false) (dOp ixD (dVar 0) (dC (.int 3))) (dC (.int 2))) (dC (.int 3)))) (dOp mulD (dC (.int 1000003)) (dOp ixD (dVar 0) (dC (.int 3))))) (dOp subD (dOp powD (dC (.int 2)) (dC (.int 61))) (dC (.int 1)))) (dName 3))
    (dRet (dOp modD (dOp fdivD (dOp modD (dOp powD (dVar 3) (dC (.int 5))) (dOp (addD false) (dOp powD (dC (.int 10)) (dC (.int 18))) (dC (.int 9)))) (dC (.int 64))) (dVar 1)))))))
noncomputable def f_law_draw_z : List DV → Sto → Option (DV × Sto) := fnF (some false) 4 b_law_draw_z
noncomputable def b_law_amount_z : DS :=
    (dSeq (dAsg (dLst true (dCons (dC (.int 0)) (dCons (dOp mulD (dOp mulD (dVar 1) (dVar 2)) (dCall 2 f_law_draw_z [] (dCons (dVar 0) (dCons (dC (.int 4)) dNil)))) (dCons (dCall 2 f_law_draw_z [] (dCons (dVar 0) (dCons (dC (.int 20)) dNil))) (dCons (dCall 2 f_law_draw_z [] (dCons (dVar 0) (dCons (dOp powD (dC (.int 10)) (dC (.int 4))) dNil))) dNil))))) (dName 3))
    (dSeq (dDrop (dBM "list" appendD (dVar 3) (dCons (dCall 2 f_law_draw_z [] (dCons (dVar 0) (dCons (dOp powD (dC (.int 10)) (dC (.int 12))) dNil))) dNil)))
    (dRet (dCall 2 f_law_low_z [] (dCons (dOp ixD (dVar 3) (dCall 2 f_law_draw_z [] (dCons (dVar 0) (dCons (dC (.int 5)) dNil)))) (dCons (dVar 2) dNil))))))
noncomputable def f_law_amount_z : List DV → Sto → Option (DV × Sto) := fnF (some false) 4 b_law_amount_z
noncomputable def b_law_bottom_z : DS :=
    (dRet (dOp ixD (dLst false (dCons (dC (.int 1)) (dCons (dOp (addD false) (dC (.int 1)) (dCall 2 f_law_draw_z [] (dCons (dVar 0) (dCons (dC (.int 60)) dNil)))) (dCons (dC (.int 60)) (dCons (dC (.int 0)) dNil))))) (dCall 2 f_law_draw_z [] (dCons (dVar 0) (dCons (dC (.int 4)) dNil)))))
noncomputable def f_law_bottom_z : List DV → Sto → Option (DV × Sto) := fnF (some false) 1 b_law_bottom_z
noncomputable def b_law_tray_r : DS :=
    (dSeq (dAsg (dC (.int 314159265358979)) (dName 1))
    (dSeq (dAsg (dLst true dNil) (dName 2))
    (dSeq (dFor (diL (dVar 0)) (dName 3)
    (dSeq (dAsg (dOp modD (dOp (addD false) (dOp mulD (dVar 1) (dC (.int 1000003))) (dVar 3)) (dOp subD (dOp powD (dC (.int 2)) (dC (.int 61))) (dC (.int 1)))) (dName 1))
    (dSeq (dAsg (dCB maxD (dCons (dVar 3) (dCons (dOp subD (dC (.int 0)) (dVar 3)) dNil))) (dName 4))
    (dIfS (dTest (dOp geD (dVar 4) (dOp powD (dC (.int 10)) (dC (.int 18)))))
    (dDrop (dBM "list" appendD (dVar 2) (dCons (dOp subD (dVar 4) (dOp powD (dC (.int 10)) (dC (.int 18)))) dNil))) dNext))))
    (dRet (dLst true (dCons (dVar 2) (dCons (dC (.int 0)) (dCons (dVar 1) (dCons (dC (.int 0)) dNil)))))))))
noncomputable def f_law_tray_r : List DV → Sto → Option (DV × Sto) := fnF none 5 b_law_tray_r
end FW
end
section
namespace FW
open PySem PyProof.Rows PySem.Spec L2 DL
/-! ### fractions -/
def fr (q : Rat) : DV := .tup [.int q.num, .int (q.den : Int)]
/-- how large -/
def Sz (n : Nat) (q : Rat) : Prop := q.num.natAbs < 2 ^ n ∧ q.den < 2 ^ n
theorem Sz.mono {n m : Nat} {q : Rat} (h : Sz n q) (hm : n ≤ m) : Sz m q := ⟨Nat.lt_of_lt_of_le h.1 (Nat.pow_le_pow_right (by decide) hm), Nat.lt_of_lt_of_le h.2 (Nat.pow_le_pow_right (by decide) hm)⟩
theorem Sz.fn {n : Nat} {q : Rat} (h : Sz n q) (hn : n ≤ 400000) : Fits q.num := fits_of h.1 hn
theorem Sz.fd {n : Nat} {q : Rat} (h : Sz n q) (hn : n ≤ 400000) : Fits (q.den : Int) := fits_of (by simpa using h.2) hn
theorem sz_mkRat {a : Int} {b n : Nat} (hb : 0 < b) (h1 : a.natAbs < 2 ^ n) (h2 : b < 2 ^ n) : Sz n (mkRat a b) := by
  have hb0 : ¬ b = 0 := by omega
  refine ⟨?_, ?_⟩
  · rw [Rat.num_mkRat, if_neg hb0]
    refine Nat.lt_of_le_of_lt ?_ h1
    rw [Int.natAbs_ediv_of_dvd (Int.ofNat_dvd_left.mpr (Nat.gcd_dvd_right _ _))]
    exact Nat.div_le_self _ _
  · rw [Rat.den_mkRat, if_neg hb0]
    exact Nat.lt_of_le_of_lt (Nat.div_le_self _ _) h2
theorem Sz.add {n m : Nat} {p q : Rat} (h : Sz n p) (g : Sz m q) : Sz (n + m + 1) (p + q) := by
  rw [Rat.add_def']
  have hm : ∀ a b : Nat, a < 2 ^ n → b < 2 ^ m → a * b < 2 ^ (n + m) := fun a b h1 h2 => by
    rw [Nat.pow_add]
    exact Nat.mul_lt_mul'' h1 h2
  have e : 2 ^ (n + m + 1) = 2 ^ (n + m) + 2 ^ (n + m) := by rw [Nat.pow_succ]; omega
  refine sz_mkRat (Nat.mul_pos p.den_pos q.den_pos) ?_ ?_
  · have h1 := hm _ _ h.1 g.2
    have h2 := hm _ _ h.2 g.1
    have t := Int.natAbs_add_le (p.num * q.den) (q.num * p.den)
    rw [Int.natAbs_mul, Int.natAbs_mul, Int.natAbs_natCast, Int.natAbs_natCast] at t
    rw [Nat.mul_comm q.num.natAbs] at t
    omega
  · have := hm _ _ h.2 g.2
    omega
theorem mkRat_fr {a : Int} {b : Nat} (hb : 0 < b) : DV.tup [.int (a / ((a.natAbs.gcd b : Nat) : Int)), .int ((b : Int) / ((a.natAbs.gcd b : Nat) : Int))] = fr (mkRat a b) := by
  have hb0 : ¬ b = 0 := by omega
  unfold fr
  rw [Rat.num_mkRat, Rat.den_mkRat, if_neg hb0, if_neg hb0, Nat.gcd_comm]
  simp
theorem gcd_fitsD {a b : Nat} (hb : 0 < b) (h : b < 2 ^ 8000) : FitsD ((a.gcd b : Nat) : Int) := by
  refine ⟨by have := Nat.gcd_pos_of_pos_right a hb; omega, ?_⟩
  rw [Int.natAbs_natCast]
  exact Nat.lt_of_le_of_lt (Nat.gcd_le_right a hb) h
theorem lowest_ok {a : Int} {b : Nat} {S : Sto} (hb : 0 < b) (h : b < 2 ^ 8000) : f_lowest_z [.int a, .int (b : Int)] S = some (fr (mkRat a b), S) := by
  have g : FitsD ((a.natAbs.gcd b : Nat) : Int) := gcd_fitsD hb h
  rw [← mkRat_fr hb]
  simp [f_lowest_z, fnF, b_lowest_z, startD, g]
theorem low_loop {d0 d1 : DV} {S : Sto} : ∀ (m x y : Nat), x < m → whileF (dTest (dOp gtD (dVar 2) (dC (.int 0)))) (dPar 2 3 (dCons (dOp modD (dVar 3) (dVar 2)) (dCons (dVar 2) dNil))) m [some d0, some d1, some (.int (x : Int)), some (.int (y : Int))] S =
    some (.nx [some d0, some d1, some (.int 0), some (.int ((x.gcd y : Nat) : Int))] S)
  | 0, x, y, h => by omega
  | m + 1, x, y, h => by
    by_cases hx : x = 0
    · subst hx
      rw [while_end (S1 := S) (by simp)]
      simp
    · have hx' : (0 : Int) < (x : Int) := by omega
      have hx0 : 0 < x := by omega
      rw [while_step (S1 := S) (s2 := [some d0, some d1, some (.int ((y % x : Nat) : Int)), some (.int (x : Int))]) (S2 := S) (by simp [hx0]) (by simp [hx0]), low_loop m (y % x) x (by have := Nat.mod_lt y (Nat.pos_of_ne_zero hx); omega), ← Nat.gcd_rec]
theorem law_low_ok {a : Int} {b n : Nat} {S : Sto} (hb : 0 < b) (h : b < 2 ^ 8000) (ha : a.natAbs < 2 ^ n) (hn : n ≤ 1000000) : f_law_low_z [.int a, .int (b : Int)] S = some (fr (mkRat a b), S) := by
  have g : FitsD ((a.natAbs.gcd b : Nat) : Int) := gcd_fitsD hb h
  have e : (if 0 - a > a then 0 - a else a) = ((a.natAbs : Nat) : Int) := by split <;> omega
  rw [← mkRat_fr hb]
  simp only [f_law_low_z, fnF, b_law_low_z, startD, dSeq, dPar, dCB, dCons, dNil, dVar, dOp, dC, bnd_some', subD_int, maxD_int, List.map, List.length, List.replicate, List.cons_append, List.nil_append, List.getElem?_cons_zero, List.getElem?_cons_succ, List.set, kNx, e]
  simp only [dWhile, low_loop _ _ _ (lt_fuel ha hn), kNx]
  simp [g]
theorem fr_add (p q : Rat) (g N : _) (hg : g = p.den.gcd q.den) (hN : N = p.num * ((q.den / g : Nat) : Int) + q.num * ((p.den / g : Nat) : Int)) :
   (mkRat N g).num = (p + q).num ∧ (mkRat N g).den * (p.den / g) * (q.den / g) = (p + q).den := by
  have aux := Rat.add.aux p q hg rfl rfl
  have hpd := p.den_pos
  have hqd := q.den_pos
  have hg0 : 0 < g := hg ▸ Nat.gcd_pos_of_pos_left _ hpd
  obtain ⟨p', hp'⟩ : g ∣ p.den := hg ▸ Nat.gcd_dvd_left _ _
  obtain ⟨q', hq'⟩ : g ∣ q.den := hg ▸ Nat.gcd_dvd_right _ _
  have ep : p.den / g = p' := by rw [hp']; exact Nat.mul_div_cancel_left _ hg0
  have eq : q.den / g = q' := by rw [hq']; exact Nat.mul_div_cancel_left _ hg0
  simp only at aux
  rw [ep, eq] at aux
  rw [ep, eq] at hN
  rw [ep, eq]
  rw [← hN] at aux
  have hp0 : 0 < p' := by
    rcases Nat.eq_zero_or_pos p' with h | h
    · subst h; omega
    · exact h
  have hd : 0 < p' * q.den := Nat.mul_pos hp0 hqd
  have e : p + q = mkRat N (p' * q.den) := by
    rw [Rat.add_def', Rat.mkRat_eq_iff (by exact Nat.ne_of_gt (Nat.mul_pos hpd hqd)) (by omega), hN, hp', hq']
    push_cast
    grind
  have hb0 : ¬ g = 0 := by omega
  have hb1 : ¬ p' * q.den = 0 := by omega
  rw [e]
  simp only [Rat.num_mkRat, Rat.den_mkRat, if_neg hb0, if_neg hb1]
  rw [Nat.gcd_comm g, Nat.gcd_comm (p' * q.den), ← aux]
  refine ⟨rfl, ?_⟩
  obtain ⟨m, hm⟩ : N.natAbs.gcd g ∣ g := Nat.gcd_dvd_right _ _
  have hh : 0 < N.natAbs.gcd g := Nat.gcd_pos_of_pos_right _ hg0
  generalize N.natAbs.gcd g = h at *
  subst hm
  rw [hq', Nat.mul_div_cancel_left _ hh]
  have : p' * (h * m * q') = h * (m * p' * q') := by grind
  rw [this, Nat.mul_div_cancel_left _ hh]
theorem plus_ok {p q : Rat} {n m : Nat} {S : Sto} (h : Sz n p) (g : Sz m q) (hl : n + m ≤ 7000) : f_plus_z [fr p, fr q] S = some (fr (p + q), S) := by
  have hp0 := p.den_pos
  have hq0 := q.den_pos
  have hqs : q.den < 2 ^ 8000 := Nat.lt_of_lt_of_le g.2 (Nat.pow_le_pow_right (by decide) (by omega))
  obtain ⟨c, hc⟩ : ∃ c, c = p.den.gcd q.den := ⟨_, rfl⟩
  have hc0 : 0 < c := hc ▸ Nat.gcd_pos_of_pos_left _ hp0
  have hcq : c ≤ q.den := hc ▸ Nat.gcd_le_right _ hq0
  have hcs : c < 2 ^ 8000 := by omega
  have hg : FitsD ((c : Nat) : Int) := hc ▸ gcd_fitsD hq0 hqs
  obtain ⟨e1, e2⟩ := fr_add p q c _ hc rfl
  have key := lowest_ok (a := p.num * ((q.den / c : Nat) : Int) + q.num * ((p.den / c : Nat) : Int)) (b := c) (S := S) hc0 hcs
  have zd : (mkRat (p.num * ((q.den / c : Nat) : Int) + q.num * ((p.den / c : Nat) : Int)) c).den ≤ c := by
    rw [Rat.den_mkRat, if_neg (by omega)]
    exact Nat.div_le_self _ _
  generalize hr : mkRat (p.num * ((q.den / c : Nat) : Int) + q.num * ((p.den / c : Nat) : Int)) c = r at key e1 e2 zd
  have f1 := h.fn (by omega); have f2 := h.fd (by omega); have f3 := g.fn (by omega); have f4 := g.fd (by omega)
  have lp : p.den / c ≤ p.den := Nat.div_le_self _ _
  have lq : q.den / c ≤ q.den := Nat.div_le_self _ _
  have f5 : Fits ((q.den / c : Nat) : Int) := fits_of (n := m) (by have := g.2; simp only [Int.natAbs_natCast]; omega) (by omega)
  have f6 : Fits ((p.den / c : Nat) : Int) := fits_of (n := n) (by have := h.2; simp only [Int.natAbs_natCast]; omega) (by omega)
  have f7 : Fits ((r.den : Nat) : Int) := fits_of (n := m) (by have := g.2; simp only [Int.natAbs_natCast]; omega) (by omega)
  have f8 : Fits (((r.den * (p.den / c) : Nat)) : Int) := fits_of (n := m + n) (by
    simp only [Int.natAbs_natCast]
    rw [Nat.pow_add]
    exact Nat.mul_lt_mul'' (by have := g.2; omega) (by have := h.2; omega)) (by omega)
  simp only [Int.natCast_mul, Int.natCast_ediv] at f5 f6 f8 key
  simp [f_plus_z, fnF, b_plus_z, fr, ixD, startD, ← hc, hg, f1, f2, f3, f4, f5, f6] at key ⊢
  rw [key]
  simp [f5, f6, f7, f8, hg, e1]
  rw [← e2]
  push_cast
  rfl
theorem above_ok {p q : Rat} {n m : Nat} {S : Sto} (h : Sz n p) (g : Sz m q) (hn : n ≤ 7000) (hm : m ≤ 7000) : f_above_z [fr p, fr q] S = some (.bl (decide (q < p)), S) := by
  have f1 := h.fn (by omega); have f2 := h.fd (by omega); have f3 := g.fn (by omega); have f4 := g.fd (by omega)
  simp [f_above_z, fnF, b_above_z, fr, ixD, f1, f2, f3, f4, Rat.lt_iff]
/-! ### floors, water -/
def dI (ns : List Int) : DV := .lst (ns.map DV.int)
def dF (qs : List Rat) : DV := .lst (qs.map fr)
theorem forL_same {tgt : DG} {body : DS} {S : Sto} (I : Sl → Prop) : ∀ {xs : List DV} {s : Sl}, I s → (∀ x ∈ xs, ∀ s, I s → ∃ s1 s2, tgt x s S = some (s1, S) ∧ body s1 S = some (.nx s2 S) ∧ I s2) → ∃ s', forL tgt body xs s S = some (.nx s' S) ∧ I s'
  | [], s, h, _ => ⟨s, rfl, h⟩
  | x :: xs, s, h, hs => by
    obtain ⟨s1, s2, h1, h2, h3⟩ := hs x (List.mem_cons_self) s h
    obtain ⟨s', e, hI⟩ := forL_same I (xs := xs) h3 fun y hy => hs y (List.mem_cons_of_mem _ hy)
    exact ⟨s', by simp [forL, h1, h2, e], hI⟩
end FW
end
section
namespace FW
open PySem PyProof.Rows PySem.Spec L2 DL
/-! ### the store's top -/
section
variable {S : Sto} {ds : List DV} {mo mo' : MO} {m : Bool}
@[simp] theorem top_get : (S ++ [mo])[S.length]? = some mo := List.getElem?_concat_length
@[simp] theorem top_set : (S ++ [mo]).set S.length mo' = S ++ [mo'] := by
  rw [List.set_append_right _ _ (Nat.le_refl _), Nat.sub_self]
  rfl
@[simp] theorem rdL_top : rdL (S ++ [.ml ds]) (.ptr S.length) = some ds := by
  unfold rdL
  simp
@[simp] theorem trL_top : trL (S ++ [.ml ds]) (.ptr S.length) = some ds := by
  unfold trL
  simp
@[simp] theorem ptrL_top : ptrL (S ++ [.ml ds]) (.ptr S.length) = some (S.length, ds) := by
  unfold ptrL
  simp
theorem exF_top (h : clos S.length ds = true) : exF (some m) S (.ptr S.length) (S ++ [.ml ds]) = some (newL m ds S) := by
  unfold exF exF1
  simp only
  rw [if_neg (by simp), if_pos ⟨by simp, fun n hn => .inl (by rw [List.getElem?_append_left hn])⟩]
  unfold exR
  simp only
  rw [if_neg (Nat.lt_irrefl _), top_get]
  simp only
  rw [if_pos h, List.take_left]
end
theorem clos_map {α : Type} {f : α → DV} {n : Nat} (h : ∀ x, clo n (f x) = true) : ∀ xs : List α, clos n (xs.map f) = true
  | [] => rfl
  | x :: xs => by
    show (clo n (f x) && clos n (xs.map f)) = true
    rw [h x, clos_map h xs]
    rfl
@[simp] theorem clo_fr {n : Nat} {q : Rat} : clo n (fr q) = true := rfl
@[simp] theorem clos_fr {n : Nat} {qs : List Rat} : clos n (qs.map fr) = true := clos_map (fun _ => rfl) qs
@[simp] theorem clos_int {n : Nat} {qs : List Int} : clos n (qs.map DV.int) = true := clos_map (fun _ => rfl) qs
/-! ### heaps -/
def hf : Rat → List Rat → List Rat
  | a, [] => [a]
  | a, q :: qs => a :: hf (a + q) qs
def hfI : Int → List Int → List Int
  | a, [] => [a]
  | a, q :: qs => a :: hfI (a + q) qs
theorem appendD_top {S : Sto} {ds : List DV} {d : DV} (h : ds.length < 100000) : appendD (.ptr S.length) [d] (S ++ [.ml ds]) = some (.non, S ++ [.ml (ds ++ [d])]) := by
  simp [appendD, h]
/-- each amount, and each heap, of bounded size -/
def Hz (B : Nat) (qs : List Rat) : Prop := (∀ q ∈ qs, Sz B q) ∧ ∀ x ∈ hf 0 qs, Sz B x
end FW
end
section
namespace FW
open PySem PyProof.Rows PySem.Spec L2 DL
/-! ### the tray -/
structure Tr where
  gs : List Int
  a : Int
  f : Int
  n : Int
def Tr.st (t : Tr) (G : Sto) : Sto := .ml (t.gs.map DV.int) :: .ml [.ptr 0, .int t.a, .int t.f, .int t.n] :: G
structure Tr.ok (N : Int) (t : Tr) : Prop where
  f0 : 0 ≤ t.f
  f1 : t.f < 2 ^ 61
  n0 : 0 ≤ t.n
  n1 : t.n ≤ N
  l : t.gs.length ≤ 63
theorem Tr.ok.mono {N M : Int} {t : Tr} (h : t.ok N) (hm : N ≤ M) : t.ok M := ⟨h.f0, h.f1, h.n0, Int.le_trans h.n1 hm, h.l⟩
@[simp] theorem pow2_61 {S : Sto} : powD (.int 2) (.int 61) S = some (.int 2305843009213693952, S) := powD_int (by decide) (by decide) (by decide)
@[simp] theorem pow10_18 {S : Sto} : powD (.int 10) (.int 18) S = some (.int 1000000000000000000, S) := powD_int (by decide) (by decide) (by decide)
@[simp] theorem pow10_4 {S : Sto} : powD (.int 10) (.int 4) S = some (.int 10000, S) := powD_int (by decide) (by decide) (by decide)
@[simp] theorem pow10_6 {S : Sto} : powD (.int 10) (.int 6) S = some (.int 1000000, S) := powD_int (by decide) (by decide) (by decide)
@[simp] theorem pow10_12 {S : Sto} : powD (.int 10) (.int 12) S = some (.int 1000000000000, S) := powD_int (by decide) (by decide) (by decide)
section
variable {t : Tr} {G : Sto} {i : Int} {d : DV} {ds : List DV}
@[simp] theorem tr_rd1 : rdL (t.st G) (.ptr 1) = some [.ptr 0, .int t.a, .int t.f, .int t.n] := rfl
@[simp] theorem tr_rd0 : rdL (t.st G) (.ptr 0) = some (t.gs.map DV.int) := rfl
@[simp] theorem tr_ptr0 : ptrL (t.st G) (.ptr 0) = some (0, t.gs.map DV.int) := rfl
@[simp] theorem tr_at2 {α : Type} {a b c : α} {l : List α} : L2.atI (a :: b :: c :: l) 2 = some c := L2.atI_nat (xs := a :: b :: c :: l) (j := 2) (v := c) rfl
@[simp] theorem tr_at3 {α : Type} {a b c e : α} {l : List α} : L2.atI (a :: b :: c :: e :: l) 3 = some e := L2.atI_nat (xs := a :: b :: c :: e :: l) (j := 3) (v := e) rfl
@[simp] theorem tr_ix0 : ixD (.ptr 1) (.int 0) (t.st G) = some (.ptr 0, t.st G) := by simp [ixD]
@[simp] theorem tr_ix1 : ixD (.ptr 1) (.int 1) (t.st G) = some (.int t.a, t.st G) := by simp [ixD]
@[simp] theorem tr_ix2 : ixD (.ptr 1) (.int 2) (t.st G) = some (.int t.f, t.st G) := by simp [ixD]
@[simp] theorem tr_ix3 : ixD (.ptr 1) (.int 3) (t.st G) = some (.int t.n, t.st G) := by simp [ixD]
@[simp] theorem tr_set1 : setL (.ptr 1) (.int 1) (.int i) (t.st G) = some (({ t with a := i } : Tr).st G) := rfl
@[simp] theorem tr_set3 : setL (.ptr 1) (.int 3) (.int i) (t.st G) = some (({ t with n := i } : Tr).st G) := rfl
end
theorem neD_ints {S : Sto} {x : DV} {gs : List Int} (h : pyS S x = some (.list (gs.map PyData.int))) : neD x (.lst []) S = some (.bl (!gs.isEmpty), S) := by
  rw [neD_of (n := 1) h (show pyS S (.lst []) = some (.list []) from rfl) (shN_list fun p hp => by
    obtain ⟨i, _, rfl⟩ := List.mem_map.mp hp
    exact shN_int) (shN_list fun p hp => by cases hp) (by decide)]
  cases gs <;> rfl
theorem tr_py0 {t : Tr} {G : Sto} : pyS (t.st G) (.ptr 0) = some (.list (t.gs.map PyData.int)) := by
  show (pys _ (t.gs.map DV.int)).map PyData.list = _
  rw [pys_map (g := PyData.int) fun _ => rfl]
  rfl
theorem draw_loop {d : DV} {x y : Option DV} {G : Sto} : ∀ (m : Nat) (t : Tr), t.gs.length < m → t.gs.length ≤ 63 →
    ∃ gs a, whileF (dAnd (dTest (dOp ltD (dOp ixD (dVar 0) (dC (.int 1))) (dC (.int 2)))) (dTest (dOp neD (dOp ixD (dVar 0) (dC (.int 0))) (dLst false dNil))))
    (dAsg (dBM "list" popAtD (dOp ixD (dVar 0) (dC (.int 0))) (dCons (dC (.int 0)) dNil)) (dSub (dVar 0) (dC (.int 1)))) m [some (.ptr 1), some d, x, y] (t.st G) = some (.nx [some (.ptr 1), some d, x, y] (({ t with gs := gs, a := a } : Tr).st G)) ∧ gs.length ≤ t.gs.length
  | 0, t, h, _ => by omega
  | m + 1, t, h, h63 => by
    obtain ⟨gs, a, f, n⟩ := t
    by_cases ha : a < 2
    · cases gs with
      | nil =>
        refine ⟨[], a, ?_, Nat.le_refl _⟩
        rw [while_end (S1 := (Tr.mk [] a f n).st G) (by
          simp [ha, neD_ints (tr_py0 (t := Tr.mk [] a f n) (G := G))])]
      | cons g gs =>
        obtain ⟨gs', a', e, hl⟩ := draw_loop (d := d) (x := x) (y := y) (G := G) m (Tr.mk gs g f n) (by simp at h ⊢; omega) (by simp at h63 ⊢; omega)
        refine ⟨gs', a', ?_, by simp at hl ⊢; omega⟩
        have hp : popAtD (.ptr 0) [.int 0] ((Tr.mk (g :: gs) a f n).st G) = some (.int g, (Tr.mk gs a f n).st G) := by
          have hlen : gs.length + 1 ≤ 100000 := by simp at h63; omega
          have hix : L2.ixN (gs.length + 1) 0 = some 0 := by
            unfold L2.ixN
            rw [if_pos (by decide), if_pos (by omega)]
            rfl
          simp [popAtD, hix, hlen]
          rfl
        rw [while_step (S1 := (Tr.mk (g :: gs) a f n).st G) (s2 := [some (.ptr 1), some d, x, y]) (S2 := (Tr.mk gs g f n).st G) (by
          simp [ha, neD_ints (tr_py0 (t := Tr.mk (g :: gs) a f n) (G := G))]) (by simp [hp])]
        exact e
    · refine ⟨gs, a, ?_, Nat.le_refl _⟩
      rw [while_end (S1 := (Tr.mk gs a f n).st G) (by simp [ha])]

theorem fits_lt {i : Int} (h0 : 0 ≤ i) (h : i < 2 ^ 200) : Fits i := fits_small (by omega)
theorem draw_ok {t : Tr} {G : Sto} {m N : Int} (h : t.ok N) (hN : N < 2 ^ 60) (hm : 0 < m) (hm2 : m < 2 ^ 200) :
    ∃ (r : Int) (t' : Tr), f_law_draw_z [.ptr 1, .int m] (t.st G) = some (.int r, t'.st G) ∧ 0 ≤ r ∧ r < m ∧ t'.ok (N + 1) := by
  obtain ⟨gs, a, e, hl⟩ := draw_loop (d := .int m) (x := none) (y := none) (G := G) FUEL t (lt_fuel (k := 6) (by have := h.l; omega) (by decide)) h.l
  have hf0 := h.f0; have hf1 := h.f1; have hn0 := h.n0; have hn1 := h.n1; have hl63 := h.l
  have fm : FitsD m := fitsD_small hm (by omega)
  have hlen : ∀ t' : Tr, (t'.st G).length = (t.st G).length := fun _ => rfl
  by_cases ha : a < 2
  · -- a mixed draw
    have hn3 : 0 ≤ t.n + 1 + 2 ∧ t.n + 1 + 2 < 2 ^ 62 := by omega
    have p3 : ∀ S, powD (.int (t.n + 1 + 2)) (.int 3) S = some (.int ((t.n + 1 + 2) ^ 3), S) := fun S => powD_int (by decide) (by decide) (by omega)
    have c3 : 0 ≤ (t.n + 1 + 2) ^ 3 ∧ (t.n + 1 + 2) ^ 3 < 2 ^ 186 := by
      refine ⟨Int.pow_nonneg hn3.1, ?_⟩
      have h1 : (t.n + 1 + 2).toNat ^ 3 < (2 ^ 62) ^ 3 := Nat.pow_lt_pow_left (by omega) (by decide)
      have h2 : (t.n + 1 + 2) ^ 3 = (((t.n + 1 + 2).toNat ^ 3 : Nat) : Int) := by
        rw [Int.natCast_pow, Int.toNat_of_nonneg hn3.1]
      rw [h2]
      omega
    have f1 : Fits (t.f + 5) := fits_lt (by omega) (by omega)
    have f2 : Fits ((t.n + 1 + 2) ^ 3) := fits_lt c3.1 (by omega)
    have f3 : Fits 1000003 := fits_lt (by decide) (by decide)
    have f4 : Fits (t.n + 1) := fits_lt (by omega) (by omega)
    have hx : ∃ x : Int, x = ((t.f + 5) * (t.n + 1 + 2) ^ 3 + 1000003 * (t.n + 1)) % 2305843009213693951 := ⟨_, rfl⟩
    obtain ⟨x, hx⟩ := hx
    have x0 : 0 ≤ x ∧ x < 2305843009213693951 := by
      rw [hx]
      exact ⟨Int.emod_nonneg _ (by decide), Int.emod_lt_of_pos _ (by decide)⟩
    have p5 : ∀ S, powD (.int x) (.int 5) S = some (.int (x ^ 5), S) := fun S => powD_int (by decide) (by decide) (by omega)
    have f64 : FitsD 64 := fitsD_small (by decide) (by decide)
    refine ⟨x ^ 5 % 1000000000000000009 / 64 % m, Tr.mk gs a t.f (t.n + 1), ?_, Int.emod_nonneg _ (by omega), Int.emod_lt_of_pos _ hm, ⟨hf0, hf1, by show 0 ≤ t.n + 1; omega, by show t.n + 1 ≤ N + 1; omega, by show gs.length ≤ 63; omega⟩⟩
    simp only [f_law_draw_z, fnF, b_law_draw_z, dSeq, dWhile, startD, List.map, List.length, List.replicate, List.cons_append, List.nil_append, e, kNx]
    have ha' : ¬ 2 ≤ a := by omega
    simp [ha', p3, f1, f2, f3, f4]
    rw [← hx]
    simp [p5, hm, f64]
    exact exF_len rfl
  · have ha' : 2 ≤ a := by omega
    refine ⟨a % m, Tr.mk gs (a / m) t.f t.n, ?_, Int.emod_nonneg _ (by omega), Int.emod_lt_of_pos _ hm, ⟨hf0, hf1, hn0, by show t.n ≤ N + 1; omega, by show gs.length ≤ 63; omega⟩⟩
    simp only [f_law_draw_z, fnF, b_law_draw_z, dSeq, dWhile, startD, List.map, List.length, List.replicate, List.cons_append, List.nil_append, e, kNx]
    simp [ha', hm, fm]
    exact exF_len rfl
end FW
end
section
namespace FW
open PySem PyProof.Rows PySem.Spec L2 DL
theorem map_at {α : Type} {f : α → DV} {xs : List α} {i : Nat} {d : DV} (h : (xs.map f)[i]? = some d) : ∃ x, xs[i]? = some x ∧ d = f x := by
  rw [List.getElem?_map] at h
  cases q : xs[i]? with
  | none => rw [q] at h; cases h
  | some x => rw [q] at h; cases h; exact ⟨x, rfl, rfl⟩
theorem law_tray_ok {ns : List Int} (hl : ns.length ≤ 63) : ∃ t : Tr, f_law_tray_r [.rls (ns.map DV.int)] [] = some (.ptr 1, t.st []) ∧ t.ok 0 := by
  have f3 : Fits 1000003 := fits_lt (by decide) (by decide)
  obtain ⟨s', S', e, fold, gs, y, z, rfl, rfl, h1, h2, h3⟩ := forL_inv (tgt := dName 3) (body := (dSeq (dAsg (dOp modD (dOp (addD false) (dOp mulD (dVar 1) (dC (.int 1000003))) (dVar 3)) (dOp subD (dOp powD (dC (.int 2)) (dC (.int 61))) (dC (.int 1)))) (dName 1))
    (dSeq (dAsg (dCB maxD (dCons (dVar 3) (dCons (dOp subD (dC (.int 0)) (dVar 3)) dNil))) (dName 4))
    (dIfS (dTest (dOp geD (dVar 4) (dOp powD (dC (.int 10)) (dC (.int 18)))))
    (dDrop (dBM "list" appendD (dVar 2) (dCons (dOp subD (dVar 4) (dOp powD (dC (.int 10)) (dC (.int 18)))) dNil))) dNext))))
    (xs := ns.map DV.int) (s := [some (.rls (ns.map DV.int)), some (.int 314159265358979), some (.ptr 0), none, none]) (S := [.ml []]) (k := 0)
    (fun k s S => ∃ fold gs y z, s = [some (.rls (ns.map DV.int)), some (.int fold), some (.ptr 0), y, z] ∧ S = [.ml (gs.map DV.int)] ∧ 0 ≤ fold ∧ fold < 2 ^ 61 ∧ gs.length ≤ k)
    ⟨314159265358979, [], none, none, rfl, rfl, by decide, by decide, Nat.le_refl _⟩ (by
      rintro i x s S hx ⟨fold, gs, y, z, rfl, rfl, h1, h2, h3⟩
      obtain ⟨n, hn, rfl⟩ := map_at hx
      have hi : i < ns.length := (List.getElem?_eq_some_iff.mp hn).1
      have ff : Fits fold := fits_lt h1 (by omega)
      have hgl : gs.length < 100000 := by omega
      by_cases hc : 1000000000000000000 ≤ (if 0 - n > n then 0 - n else n)
      · refine ⟨_, _, [some (.rls (ns.map DV.int)), some (.int ((fold * 1000003 + n) % 2305843009213693951)), some (.ptr 0), some (.int n), some (.int (if 0 - n > n then 0 - n else n))], [.ml ((gs ++ [(if 0 - n > n then 0 - n else n) - 1000000000000000000]).map DV.int)], rfl, .inl ?_, _, _, _, _, rfl, rfl, Int.emod_nonneg _ (by decide), by have := Int.emod_lt_of_pos (fold * 1000003 + n) (show (0 : Int) < 2305843009213693951 by decide); omega, by simp; omega⟩
        simp at hc
        simp [ff, f3, hc, rdL, appendD, ptrL, hgl]
      · refine ⟨_, _, [some (.rls (ns.map DV.int)), some (.int ((fold * 1000003 + n) % 2305843009213693951)), some (.ptr 0), some (.int n), some (.int (if 0 - n > n then 0 - n else n))], [.ml (gs.map DV.int)], rfl, .inl ?_, _, _, _, _, rfl, rfl, Int.emod_nonneg _ (by decide), by have := Int.emod_lt_of_pos (fold * 1000003 + n) (show (0 : Int) < 2305843009213693951 by decide); omega, by omega⟩
        have hc' := hc
        simp at hc'
        have hc2 := Int.not_le.mpr hc'
        simp [ff, f3, hc2])
  refine ⟨Tr.mk gs 0 fold 0, ?_, ⟨h1, h2, Int.le_refl _, Int.le_refl _, by simp at h3 ⊢; omega⟩⟩
  simp [f_law_tray_r, fnF, b_law_tray_r, dFor_eq, diL] at e ⊢
  rw [e]
  simp
  rfl
section
variable {t t' : Tr} {G : Sto} {d : DV} {ds : List DV} {mo : MO}
@[simp] theorem tr_len : (t.st G).length = G.length + 2 := rfl
@[simp] theorem tr_app {X : Sto} : t.st G ++ X = t.st (G ++ X) := rfl
theorem tr_append (h : ds.length < 100000) : appendD (.ptr (G.length + 2)) [d] (t.st (G ++ [.ml ds])) = some (.non, t.st (G ++ [.ml (ds ++ [d])])) := appendD_top (S := t.st G) h
@[simp] theorem tr_rd : rdL (t.st (G ++ [.ml ds])) (.ptr (G.length + 2)) = some ds := rdL_top (S := t.st G)
theorem exF_tray {X : Sto} {d : DV} (h : clo (G.length + 2) d = true) (hp : ∀ n, d ≠ .ptr n) : exF (some false) (t.st G) d (t'.st (G ++ X)) = some (d, t'.st G) := by
  unfold exF exF1
  simp only
  split
  · rename_i hx
    have : X = [] := by simpa using hx
    subst this
    rw [List.append_nil]
  · rename_i hx
    have hc : (t.st G).length < (t'.st (G ++ X)).length ∧ ∀ n : Nat, n < (t.st G).length → (t'.st (G ++ X))[n]? = (t.st G)[n]? ∨ ∃ mo, (t'.st (G ++ X))[n]? = some mo ∧ cloM (t.st G).length mo = true := by
      refine ⟨?_, fun n hn => ?_⟩
      · simp at hx ⊢
        have : X.length ≠ 0 := fun z => hx (List.length_eq_zero_iff.mp z)
        omega
      · match n with
        | 0 => exact .inr ⟨_, rfl, clos_int⟩
        | 1 => exact .inr ⟨_, rfl, by simp [cloM, clos, clo]⟩
        | n + 2 =>
          refine .inl ?_
          show (G ++ X)[n]? = G[n]?
          have : n < G.length := by simp at hn; omega
          rw [List.getElem?_append_left this]
    rw [if_pos hc]
    unfold exR
    split
    · exact absurd rfl (hp _)
    · rw [if_pos (by simpa using h)]
      have : (t'.st (G ++ X)).take (t.st G).length = t'.st G := List.take_left (l₁ := t'.st G) (l₂ := X)
      rw [this]
end
theorem pick3 {r : Int} {a b c : DV} (h0 : 0 ≤ r) (h : r < 3) : ∃ d, L2.atI [a, b, c] r = some d ∧ (d = a ∨ d = b ∨ d = c) := by
  have : r = 0 ∨ r = 1 ∨ r = 2 := by omega
  rcases this with rfl | rfl | rfl
  · exact ⟨a, by simp, .inl rfl⟩
  · exact ⟨b, by simp, .inr (.inl rfl)⟩
  · exact ⟨c, by simp, .inr (.inr rfl)⟩
end FW
end
section
namespace FW
open PySem PyProof.Rows PySem.Spec L2 DL
theorem pick4 {r : Int} {a b c e : DV} (h0 : 0 ≤ r) (h : r < 4) : ∃ d, L2.atI [a, b, c, e] r = some d ∧ (d = a ∨ d = b ∨ d = c ∨ d = e) := by
  have : r = 0 ∨ r = 1 ∨ r = 2 ∨ r = 3 := by omega
  rcases this with rfl | rfl | rfl | rfl
  · exact ⟨a, by simp, .inl rfl⟩
  · exact ⟨b, by simp, .inr (.inl rfl)⟩
  · exact ⟨c, by simp, .inr (.inr (.inl rfl))⟩
  · exact ⟨e, by simp, .inr (.inr (.inr rfl))⟩
theorem pick5 {r : Int} {a b c e f : DV} (h0 : 0 ≤ r) (h : r < 5) : ∃ d, L2.atI [a, b, c, e, f] r = some d ∧ (d = a ∨ d = b ∨ d = c ∨ d = e ∨ d = f) := by
  have : r = 0 ∨ r = 1 ∨ r = 2 ∨ r = 3 ∨ r = 4 := by omega
  rcases this with rfl | rfl | rfl | rfl | rfl
  · exact ⟨a, by simp, .inl rfl⟩
  · exact ⟨b, by simp, .inr (.inl rfl)⟩
  · exact ⟨c, by simp, .inr (.inr (.inl rfl))⟩
  · exact ⟨e, by simp, .inr (.inr (.inr (.inl rfl)))⟩
  · exact ⟨f, at_nat (n := 4) rfl rfl, .inr (.inr (.inr (.inr rfl)))⟩
theorem law_bottom_ok {t : Tr} {G : Sto} {N : Int} (h : t.ok N) (hN : N < 2 ^ 50) :
    ∃ (b : Int) (t' : Tr), f_law_bottom_z [.ptr 1] (t.st G) = some (.int b, t'.st G) ∧ 0 ≤ b ∧ b ≤ 60 ∧ t'.ok (N + 2) := by
  obtain ⟨r1, t1, e1, a1, b1, k1⟩ := draw_ok (G := G) (m := 60) h (by omega) (by decide) (by decide)
  obtain ⟨r2, t2, e2, a2, b2, k2⟩ := draw_ok (G := G) (m := 4) k1 (by omega) (by decide) (by decide)
  obtain ⟨d, hd, hd2⟩ := pick4 (a := .int 1) (b := .int (1 + r1)) (c := .int 60) (e := .int 0) a2 b2
  obtain ⟨wd, rfl, w0, w1⟩ : ∃ wd : Int, d = .int wd ∧ 0 ≤ wd ∧ wd ≤ 60 := by
    rcases hd2 with rfl | rfl | rfl | rfl
    · exact ⟨_, rfl, by omega, by omega⟩
    · exact ⟨_, rfl, by omega, by omega⟩
    · exact ⟨_, rfl, by omega, by omega⟩
    · exact ⟨_, rfl, by omega, by omega⟩
  refine ⟨wd, t2, ?_, w0, w1, k2.mono (by omega)⟩
  simp only [f_law_bottom_z, fnF, b_law_bottom_z]
  simp [e1, e2, ixD, hd]
  exact exF_len rfl
theorem sz_zero {n : Nat} (hn : 0 < n := by decide) : Sz n (0 : Rat) := ⟨Nat.two_pow_pos n, Nat.one_lt_two_pow (by omega)⟩
theorem nonneg_mkRat {a : Int} {b : Nat} (h : 0 ≤ a) : 0 ≤ mkRat a b := by
  rw [← Rat.num_nonneg, Rat.num_mkRat]
  split
  · exact Int.le_refl _
  · exact Int.ediv_nonneg h (by omega)
theorem fr_not_ptr {q : Rat} : ∀ n, fr q ≠ .ptr n := fun n h => by cases h
theorem law_amount_ok {t : Tr} {G : Sto} {N w b : Int} (h : t.ok N) (hN : N < 2 ^ 50) (hw : 1 ≤ w ∧ w ≤ 9) (hb : 1 ≤ b ∧ b ≤ 60) :
    ∃ (q : Rat) (t' : Tr), f_law_amount_z [.ptr 1, .int w, .int b] (t.st G) = some (fr q, t'.st G) ∧ 0 ≤ q ∧ Sz 41 q ∧ t'.ok (N + 5) := by
  obtain ⟨r1, t1, e1, a1, b1, k1⟩ := draw_ok (G := G) (m := 4) h (by omega) (by decide) (by decide)
  obtain ⟨r2, t2, e2, a2, b2, k2⟩ := draw_ok (G := G) (m := 20) k1 (by omega) (by decide) (by decide)
  obtain ⟨r3, t3, e3, a3, b3, k3⟩ := draw_ok (G := G) (m := 10000) k2 (by omega) (by decide) (by decide)
  have fw : Fits w := fits_lt (by omega) (by omega)
  have fb : Fits b := fits_lt (by omega) (by omega)
  have hwb : 0 ≤ w * b ∧ w * b ≤ 540 := by
    refine ⟨Int.mul_nonneg (by omega) (by omega), ?_⟩
    have := Int.mul_le_mul hw.2 hb.2 (by omega) (by decide)
    omega
  have hwbr : 0 ≤ w * b * r1 ∧ w * b * r1 ≤ 1620 := by
    refine ⟨Int.mul_nonneg hwb.1 a1, ?_⟩
    have := Int.mul_le_mul hwb.2 (show r1 ≤ 3 by omega) a1 (by decide)
    omega
  have fwb : Fits (w * b) := fits_lt hwb.1 (by omega)
  have fr1 : Fits r1 := fits_lt a1 (by omega)
  have hS : ∀ ds : List DV, t3.st (G ++ [.ml ds]) = t3.st (G ++ [.ml ds]) := fun _ => rfl
  obtain ⟨r4, t4, e4, a4, b4, k4⟩ := draw_ok (G := G ++ [.ml [.int 0, .int (w * b * r1), .int r2, .int r3]]) (m := 1000000000000) k3 (by omega) (by decide) (by decide)
  obtain ⟨r5, t5, e5, a5, b5, k5⟩ := draw_ok (G := G ++ [.ml [.int 0, .int (w * b * r1), .int r2, .int r3, .int r4]]) (m := 5) k4 (by omega) (by decide) (by decide)
  obtain ⟨d, hd, hd2⟩ := pick5 (a := .int 0) (b := .int (w * b * r1)) (c := .int r2) (e := .int r3) (f := .int r4) a5 b5
  obtain ⟨x, rfl, x0, x1⟩ : ∃ x : Int, d = .int x ∧ 0 ≤ x ∧ x ≤ 1000000000000 := by
    rcases hd2 with rfl | rfl | rfl | rfl | rfl
    · exact ⟨_, rfl, by omega, by omega⟩
    · exact ⟨_, rfl, by omega, by omega⟩
    · exact ⟨_, rfl, by omega, by omega⟩
    · exact ⟨_, rfl, by omega, by omega⟩
    · exact ⟨_, rfl, by omega, by omega⟩
  obtain ⟨bn, rfl⟩ : ∃ bn : Nat, b = (bn : Int) := ⟨b.toNat, by omega⟩
  have key := law_low_ok (a := x) (b := bn) (n := 41) (S := t5.st (G ++ [.ml [.int 0, .int (w * bn * r1), .int r2, .int r3, .int r4]])) (by omega) (Nat.lt_of_lt_of_le (show bn < 2 ^ 6 by omega) (Nat.pow_le_pow_right (by decide) (by decide))) (by omega) (by decide)
  have hap : appendD (.ptr (G.length + 2)) [.int r4] (t4.st (G ++ [.ml [.int 0, .int (w * bn * r1), .int r2, .int r3]])) = some (.non, t4.st (G ++ [.ml [.int 0, .int (w * bn * r1), .int r2, .int r3, .int r4]])) := tr_append (by simp)
  refine ⟨mkRat x bn, t5, ?_, nonneg_mkRat x0, sz_mkRat (by omega) (by omega) (by omega), k5.mono (by omega)⟩
  simp only [f_law_amount_z, fnF, b_law_amount_z]
  simp [e1, e2, e3, fw, fb, fwb, fr1, hap, e4, e5, ixD, hd, key]
  exact exF_tray rfl fr_not_ptr
end FW
end
section
namespace FW
open PySem PyProof.Rows PySem.Spec L2 DL
/-! ### alike -/
def KOk (t : String) : Prop := L2.kitB t "bool" = some (t == "bool") ∧ L2.kitB t "int" = some (t == "int" || t == "bool") ∧ L2.kitB t "str" = some (t == "str") ∧ L2.kitB t "list" = some (t == "list") ∧ L2.kitB t "tuple" = some (t == "tuple")
theorem kok_int : KOk "int" := by
  unfold KOk
  decide +kernel
theorem kok_list : KOk "list" := by
  unfold KOk
  decide +kernel
theorem kok_tuple : KOk "tuple" := by
  unfold KOk
  decide +kernel
theorem isi_of {S : Sto} {x : DV} {t T : String} {b : Bool} (h : tyS S x = some t) (h2 : L2.kitB t T = some b) : isiD [x, .ty T] S = some (.bl b, S) := by
  simp only [isiD, h, h2]
@[simp] theorem neD_bl {S : Sto} {i j : Bool} : neD (.bl i) (.bl j) S = some (.bl (!decide (i = j)), S) := by
  rw [neD_of (n := 0) rfl rfl shN_bl shN_bl (by decide)]
  cases i <;> cases j <;> rfl
@[simp] theorem alike_int {k : Nat} {i : Int} {S : Sto} : f_law_alike_z (k + 1) [.int i, .int i] S = some (.bl true, S) := by
  have h1 := isi_of (S := S) (x := .int i) (t := "int") rfl kok_int.1
  have h2 := isi_of (S := S) (x := .int i) (t := "int") rfl kok_int.2.1
  simp [f_law_alike_z, fnF, b_law_alike_z, h1, h2]
theorem alike_go {k : Nat} {a b : DV} {S : Sto} {t : String} {xs ys : List DV} (ht : (t = "list" ∧ rdL S a = some xs ∧ rdL S b = some ys) ∨ (t = "tuple" ∧ a = .tup xs ∧ b = .tup ys)) (ha : tyS S a = some t) (hb : tyS S b = some t)
    (hl : xs.length = ys.length) (hn : ys.length ≤ 100000) (h : ∀ (i : Nat) (x y : DV), xs[i]? = some x → ys[i]? = some y → f_law_alike_z k [x, y] S = some (.bl true, S)) : f_law_alike_z (k + 1) [a, b] S = some (.bl true, S) := by
  have hk : KOk t := by rcases ht with ⟨rfl, _⟩ | ⟨rfl, _⟩; exact kok_list; exact kok_tuple
  have a1 := isi_of ha hk.1
  have a4 := isi_of ha hk.2.2.2.1
  have a5 := isi_of ha hk.2.2.2.2
  have b1 := isi_of hb hk.1
  have b2 := isi_of hb hk.2.1
  have b3 := isi_of hb hk.2.2.1
  have b4 := isi_of hb hk.2.2.2.1
  have b5 := isi_of hb hk.2.2.2.2
  have t1 : (t == "bool") = false := by rcases ht with ⟨rfl, _⟩ | ⟨rfl, _⟩ <;> decide
  have t2 : (t == "int") = false := by rcases ht with ⟨rfl, _⟩ | ⟨rfl, _⟩ <;> decide
  have t3 : (t == "str") = false := by rcases ht with ⟨rfl, _⟩ | ⟨rfl, _⟩ <;> decide
  rw [t1] at b1
  rw [t1, t2] at b2
  rw [t3] at b3
  have la : lenD [a] S = some (.int (xs.length : Nat), S) := by
    rcases ht with ⟨_, h1, h2⟩ | ⟨_, rfl, rfl⟩
    · simp [lenD, h1]
    · simp
  have lb : lenD [b] S = some (.int (ys.length : Nat), S) := by
    rcases ht with ⟨_, h1, h2⟩ | ⟨_, rfl, rfl⟩
    · simp [lenD, h2]
    · simp
  have tn : t ≠ "NoneType" := by rcases ht with ⟨rfl, _⟩ | ⟨rfl, _⟩ <;> decide
  have nb : nonB b = false := by
    cases b with
    | non => exact absurd (Option.some.inj hb).symm tn
    | _ => rfl
  have ia : ∀ (i : Nat) (x : DV), xs[i]? = some x → ixD a (.int (i : Nat)) S = some (x, S) := fun i x hx => by
    have := L2.atI_nat hx
    rcases ht with ⟨_, h1, h2⟩ | ⟨_, rfl, rfl⟩
    · simp [ixD, h1, this]
    · exact ixD_tup this
  have ib : ∀ (i : Nat) (x : DV), ys[i]? = some x → ixD b (.int (i : Nat)) S = some (x, S) := fun i x hx => by
    have := L2.atI_nat hx
    rcases ht with ⟨_, h1, h2⟩ | ⟨_, rfl, rfl⟩
    · simp [ixD, h2, this]
    · exact ixD_tup this
  obtain ⟨s', e, _⟩ := forL_same (tgt := dName 2) (body := (dIfS (dNot (dTest (dCall 2 (f_law_alike_z k) [] (dCons (dOp ixD (dVar 0) (dVar 2)) (dCons (dOp ixD (dVar 1) (dVar 2)) dNil))))) (dRet (dC (.bl false))) dNext)) (S := S)
    (fun s => ∃ z, s = [some a, some b, z]) (xs := (List.range ys.length).map fun i => DV.int (0 + (i : Nat))) (s := [some a, some b, none]) ⟨_, rfl⟩ (by
      rintro x hx s ⟨z, rfl⟩
      obtain ⟨i, hi, rfl⟩ := List.mem_map.mp hx
      have hi : i < ys.length := by simpa using hi
      have hx : xs[i]? = some xs[i] := List.getElem?_eq_getElem (by omega)
      have hy : ys[i]? = some ys[i] := List.getElem?_eq_getElem hi
      refine ⟨_, [some a, some b, some (.int (0 + (i : Nat)))], rfl, ?_, _, rfl⟩
      have e1 := ia i _ hx
      have e2 := ib i _ hy
      have e3 := h i _ _ hx hy
      simp [e1, e2, e3])
  have hr : RgS (ys.length : Int) := rgS_of (by omega) (by omega)
  simp [-nonB, f_law_alike_z, fnF, b_law_alike_z, nb, b1, b2, b3, a4, b4, a5, b5, la, lb, hl, dFor_eq, hr] at e ⊢
  rw [e]
  simp
theorem cut_take {α : Type} {xs : List α} {i : Nat} (h : i ≤ xs.length) : cutL xs none (some (i : Int)) = xs.take i := by
  unfold cutL
  rw [HT.sIx_none, HT.sIx_nat]
  simp [Nat.min_eq_left h]
theorem hfI_takes : ∀ (ws : List Int) (a : Int), (List.range (ws.length + 1)).map (fun i => a + (ws.take i).sum) = hfI a ws
  | [], a => by simp [hfI]
  | w :: ws, a => by
    rw [List.length_cons, List.range_succ_eq_map]
    simp only [List.map_cons, List.map_map, hfI, List.take_zero, List.sum_nil, Int.add_zero]
    rw [← hfI_takes ws (a + w)]
    congr 1
    refine List.map_congr_left fun i _ => ?_
    simp [Int.add_assoc]
end FW
end
section
/-! list(zip(xs, ys)) -/
namespace DLZ
open PySem PySem.Calls PyProof.Rows PySem.Spec PySem.W
theorem past {a b S : Addr} (h : S < b ∨ b = S) (k : a < S) : b ≠ a := fun e => by
  subst e
  rcases h with h | h
  · exact Nat.lt_asymm h k
  · rw [h] at k
    exact Nat.lt_irrefl _ k
/-- the pairs made so far -/
structure Made (xs ys : Array Value) (lo : Addr) (h : Heap) (ts : List Addr) : Prop where
  up : ts.Pairwise (· < ·)
  hi : ∀ t ∈ ts, lo < t
  at_ : ∀ (j : Nat) (t : Addr), ts[j]? = some t → ∃ x y, xs[j]? = some x ∧ ys[j]? = some y ∧ IsPair h t x y
theorem Made.lt {xs ys : Array Value} {lo : Addr} {h : Heap} {ts : List Addr} (g : Made xs ys lo h ts) {t : Addr} (ht : t ∈ ts) : t < h.objs.size := by
  obtain ⟨j, hj⟩ := List.mem_iff_getElem?.mp ht
  obtain ⟨_, _, _, _, e⟩ := g.at_ j t hj
  exact Heap.lt_size e
structure Zs (z TI TO i1 i2 l1 l2 : Addr) (xs ys : Array Value) (S : Addr) (i : Nat) (h : Heap) : Prop where
  ti : IsPair h TI (.ref i1) (.ref i2)
  a1 : h.IsListIter i1 l1 i
  a2 : h.IsListIter i2 l2 i
  b1 : h.IsList l1 xs
  b2 : h.IsList l2 ys
  zz : (IsZip h z TI TO .none ∧ ∃ a b, IsPair h TO a b) ∨ ∃ T f oT, IsZipHeld h z TI TO T f ∧ h.get? T = some oT ∧ T ≠ z ∧ T ≠ i1 ∧ T ≠ i2 ∧ T ≠ S
structure OffS (z TI TO i1 i2 l1 l2 S : Addr) : Prop where
  z : S ≠ z
  ti : S ≠ TI
  to : S ≠ TO
  i1 : S ≠ i1
  i2 : S ≠ i2
  l1 : S ≠ l1
  l2 : S ≠ l2
section
variable {prog : Program} {w : World} {A : Around} {E : Value → Shared → Prop} {s : Shared} {z TI TO i1 i2 l1 l2 S : Addr} {xs ys : Array Value}
theorem Zs.stay {i : Nat} {h h' : Heap} (o : OffS z TI TO i1 i2 l1 l2 S) (g : Zs z TI TO i1 i2 l1 l2 xs ys S i h) (k : ∀ b u, b ≠ S → h.get? b = some u → h'.get? b = some u) : Zs z TI TO i1 i2 l1 l2 xs ys S i h' where
  ti := k _ _ o.ti.symm g.ti
  a1 := g.a1.at fun u e => k _ u o.i1.symm e
  a2 := g.a2.at fun u e => k _ u o.i2.symm e
  b1 := g.b1.at fun u e => k _ u o.l1.symm e
  b2 := g.b2.at fun u e => k _ u o.l2.symm e
  zz := by
    rcases g.zz with ⟨q, a, b, q2⟩ | ⟨T, f, oT, q, q2, r1, r2, r3, r4⟩
    · exact .inl ⟨k _ _ o.z.symm q, a, b, k _ _ o.to.symm q2⟩
    · exact .inr ⟨T, f, oT, k _ _ o.z.symm q, k _ _ r4 q2, r1, r2, r3, r4⟩
theorem next_item {i : Nat} {Q : Option Value → Shared → Prop} (D : ZipApart z TI TO i1 i2 l1 l2) (g : Zs z TI TO i1 i2 l1 l2 xs ys S i s.heap) (hS : S < s.heap.objs.size) (hi : i < min xs.size ys.size)
    (q : ∀ h', Zs z TI TO i1 i2 l1 l2 xs ys S (i + 1) h' → (∃ x y, xs[i]? = some x ∧ ys[i]? = some y ∧ IsPair h' s.heap.objs.size x y) → h'.objs.size = s.heap.objs.size + 1 →
      (∀ b u, b ≠ z → b ≠ TO → b ≠ i1 → b ≠ i2 → s.heap.get? b = some u → h'.get? b = some u) → Q (some (.ref s.heap.objs.size)) { s with heap := h' }) : wpAny (model prog w) A (pyNext (.ref z)) Q E s := by
  have px : xs[i]? = some xs[i] := Array.getElem?_eq_getElem (by omega)
  have py : ys[i]? = some ys[i] := Array.getElem?_eq_getElem (by omega)
  have ne : ∀ {c o}, s.heap.get? c = some o → s.heap.objs.size ≠ c := fun e => Nat.ne_of_gt (Heap.lt_size e)
  have m1 : s.heap.objs.size ≠ i1 := let ⟨_, e, _⟩ := g.a1; ne e
  have m2 : s.heap.objs.size ≠ i2 := let ⟨_, e, _⟩ := g.a2; ne e
  rcases g.zz with ⟨hz, a, b, hTO⟩ | ⟨T, f, oT, hz, hT, r1, r2, r3, r4⟩
  · refine wpAny_pyNext_zip_item D hz g.ti hTO g.a1 g.a2 g.b1 g.b2 px py fun h' c1 c2 c3 c4 c5 c6 hk => ?_
    exact q h' ⟨hk _ _ D.TIz D.TITO D.TIi1 D.TIi2 g.ti, c3, c4, g.b1.at fun o e => hk _ o D.l1z D.l1TO D.l1i1 D.l1i2 e, g.b2.at fun o e => hk _ o D.l2z D.l2TO D.l2i1 D.l2i2 e,
      .inr ⟨_, false, _, c1, c5, ne hz, m1, m2, Nat.ne_of_gt hS⟩⟩ ⟨_, _, px, py, c5⟩ c6 fun b u n1 n2 n3 n4 e => hk b u n1 n2 n3 n4 e
  · refine wpAny_pyNext_zip_item_held D hz hT g.ti g.a1 g.a2 g.b1 g.b2 px py fun h' c1 c3 c4 c5 c6 hk => ?_
    exact q h' ⟨hk _ _ D.TIz D.TIi1 D.TIi2 g.ti, c3, c4, g.b1.at fun o e => hk _ o D.l1z D.l1i1 D.l1i2 e, g.b2.at fun o e => hk _ o D.l2z D.l2i1 D.l2i2 e,
      .inr ⟨T, true, oT, c1, hk _ _ r1 r2 r3 hT, r1, r2, r3, r4⟩⟩ ⟨_, _, px, py, c5⟩ c6 fun b u n1 n2 n3 n4 e => hk b u n1 n3 n4 e
theorem next_done {i : Nat} {Q : Option Value → Shared → Prop} (hh : A.handled = none) (D : ZipApart z TI TO i1 i2 l1 l2) (g : Zs z TI TO i1 i2 l1 l2 xs ys S i s.heap) (hi : min xs.size ys.size ≤ i)
    (q : ∀ h', (∀ b u, b ≠ z → b ≠ TO → b ≠ i1 → b ≠ i2 → s.heap.get? b = some u → h'.get? b = some u) → Q none { s with heap := h' }) : wpAny (model prog w) A (pyNext (.ref z)) Q E s := by
  have out : xs[i]? = none ∨ ys[i]? = none := by
    rcases Nat.le_total xs.size ys.size with h | h
    · exact .inl (Array.getElem?_eq_none (by omega))
    · exact .inr (Array.getElem?_eq_none (by omega))
  rcases g.zz with ⟨hz, a, b, hTO⟩ | ⟨T, f, oT, hz, hT, r1, r2, r3, r4⟩
  · exact wpAny_pyNext_zip_end hh D hz g.ti hTO g.a1 g.a2 g.b1 g.b2 out fun h' hk => q h' hk
  · exact wpAny_pyNext_zip_end_held hh D hz hT g.ti g.a1 g.a2 g.b1 g.b2 out fun h' hk => q h' fun b u n1 _ n3 n4 e => hk b u n1 n3 n4 e
end
section
variable {prog : Program} {w : World} {A : Around} {s : Shared} {R : Result → Shared → Prop} {z TI TO i1 i2 l1 l2 S : Addr} {xs ys : Array Value}
theorem drain (hh : A.handled = none) (D : ZipApart z TI TO i1 i2 l1 l2) (o : OffS z TI TO i1 i2 l1 l2 S) (hlow : z < S ∧ TO < S ∧ i1 < S ∧ i2 < S) (hn : xs.size ≤ sizeLine) (res : Value) {h₁ : Heap}
    (hR : ∀ h' acc c ts, (∀ b u, b ≠ S → b ≠ z → b ≠ TO → b ≠ i1 → b ≠ i2 → h₁.get? b = some u → h'.get? b = some u) → h'.get? S = some { cls := .type "list", dict := none, data := .seq acc c, slots := #[] } → ts.length = min xs.size ys.size → Made xs ys S h' ts →
      acc.toList = ts.map Value.ref → R (.ok (.ret res)) { s with heap := h' }) :
    ∀ (k i : Nat) (h : Heap) (c : Nat) (acc : Array Value) (ts : List Addr), min xs.size ys.size - i = k → i ≤ min xs.size ys.size → Zs z TI TO i1 i2 l1 l2 xs ys S i h → (∀ b u, b ≠ S → b ≠ z → b ≠ TO → b ≠ i1 → b ≠ i2 → h₁.get? b = some u → h.get? b = some u) →
      h.get? S = some { cls := .type "list", dict := none, data := .seq acc c, slots := #[] } → acc.toList = ts.map Value.ref → ts.length = i → Made xs ys S h ts →
      codeAny (model prog w) A (.builtin "list.extend.loop" ⟨[.ref S, .ref z, res], []⟩) R { s with heap := h } := by
  intro k
  induction k with
  | zero =>
    intro i h c acc ts hk hi g keep hS hacc hl hG
    refine codeAny_builtin PySem.F.entry_extend_loop ?_
    rw [Around.under_plainId PySem.F.plain_extend_loop _]
    show wpAny _ A.in1 (pyNext (.ref z) >>= _) _ _ _
    refine wpAny_bind (next_done (s := { s with heap := h }) (A := A.in1) hh D g (by omega) fun h' he => ?_)
    have he2 : ∀ b u, S < b ∨ b = S → h.get? b = some u → h'.get? b = some u := fun b u hb e => he b u (past hb hlow.1) (past hb hlow.2.1) (past hb hlow.2.2.1) (past hb hlow.2.2.2) e
    refine wpAny_pure (hR h' acc c ts (fun b u n0 n1 n2 n3 n4 e => he b u n1 n2 n3 n4 (keep b u n0 n1 n2 n3 n4 e)) (he2 S _ (.inr rfl) hS) (by omega) ⟨hG.up, hG.hi, fun j t hj => ?_⟩ hacc)
    obtain ⟨x, y, ex, ey, e⟩ := hG.at_ j t hj
    exact ⟨x, y, ex, ey, he2 t _ (.inl (hG.hi t (List.mem_of_getElem? hj))) e⟩
  | succ k ih =>
    intro i h c acc ts hk hi g keep hS hacc hl hG
    have hlt : i < min xs.size ys.size := by omega
    have hsz : acc.size = i := by rw [← Array.length_toList, hacc, List.length_map, hl]
    have hSl : S < h.objs.size := Heap.lt_size hS
    refine codeAny_builtin PySem.F.entry_extend_loop ?_
    rw [Around.under_plainId PySem.F.plain_extend_loop _]
    show wpAny _ A.in1 (pyNext (.ref z) >>= _) _ _ _
    refine wpAny_bind (next_item (s := { s with heap := h }) (S := S) D g hSl hlt fun h' g' hp hz' he => ?_)
    dsimp only at hp hz' he ⊢
    have he2 : ∀ b u, S < b ∨ b = S → h.get? b = some u → h'.get? b = some u := fun b u hb e => he b u (past hb hlow.1) (past hb hlow.2.1) (past hb hlow.2.2.1) (past hb hlow.2.2.2) e
    have hS' := he2 S _ (.inr rfl) hS
    have up : ∀ b u, b ≠ S → h'.get? b = some u → (h'.update S (Obj.mapSeq (·.push (Value.ref h.objs.size)))).get? b = some u := fun b u hb e => (Heap.get?_update_other _ _ (Ne.symm hb)).trans e
    show wpAny _ A.in1 (updateSeq S (·.push (Value.ref h.objs.size)) >>= _) _ _ _
    refine wpAny_bind ?_
    refine wpAny_updateSeq hS' rfl (wpAny_pure ⟨plainId_quiet PySem.F.plain_extend_loop _, ih (i + 1) _ _ (acc.push (Value.ref h.objs.size)) (ts ++ [h.objs.size]) (by omega) hlt (g'.stay o up)
      (fun b u n0 n1 n2 n3 n4 e => up b u n0 (he b u n1 n2 n3 n4 (keep b u n0 n1 n2 n3 n4 e))) (Heap.get?_update_self _ hS' rfl) (by rw [Array.toList_push, hacc, List.map_append]; rfl) (by rw [List.length_append, hl]; rfl) ⟨?_, ?_, ?_⟩⟩) (by rw [hsz]; omega) (by
        rw [Array.size_push, hsz]
        omega)
    · refine List.pairwise_append.mpr ⟨hG.up, List.pairwise_singleton _ _, fun a ha b hb => ?_⟩
      rw [List.mem_singleton.mp hb]
      exact hG.lt ha
    · intro t ht
      rcases List.mem_append.mp ht with ht | ht
      · exact hG.hi t ht
      · rw [List.mem_singleton.mp ht]; exact hSl
    · intro j b hj
      rcases Nat.lt_trichotomy j ts.length with h1 | h1 | h1
      · rw [List.getElem?_append_left h1] at hj
        obtain ⟨x, y, ex, ey, e⟩ := hG.at_ j b hj
        have hb := hG.hi b (List.mem_of_getElem? hj)
        exact ⟨x, y, ex, ey, up b _ (Nat.ne_of_gt hb) (he2 b _ (.inl hb) e)⟩
      · subst h1
        have hb : h.objs.size = b := by simpa using hj
        subst hb
        obtain ⟨x, y, ex, ey, e⟩ := hp
        rw [hl]
        exact ⟨x, y, ex, ey, up _ _ (Nat.ne_of_gt hSl) e⟩
      · have hnone : (ts ++ [h.objs.size])[j]? = none := List.getElem?_eq_none (by rw [List.length_append, List.length_singleton]; omega)
        rw [hnone] at hj; cases hj
end
section
variable {prog : Program} {w : World} {A : Around} {E : Value → Shared → Prop} {s : Shared} {z TI TO i1 i2 l1 l2 S : Addr} {xs ys : Array Value}
theorem no_len : typeLookup (.type "zip") "__len__" = pure none := am_miss_of_fast (by decide +kernel)
theorem no_hint : typeLookup (.type "zip") "__length_hint__" = pure none := am_miss_of_fast (by decide +kernel)
theorem hint {Q : Bool → Shared → Prop} (hT : s.TypeIs (.ref z) "zip") (h : Q true s) : wpAny (model prog w) A (Builtin.List.listLengthHint (.ref z)) Q E s := by
  unfold Builtin.List.listLengthHint
  refine wpAny_bind (wpAny_specialOf hT no_len ?_)
  simp only [Option.isSome_none, Bool.false_eq_true, if_false]
  show wpAny _ _ (specialOf _ _ >>= _) _ _ _
  refine wpAny_bind (wpAny_specialOf hT no_hint ?_)
  exact wpAny_pure h
theorem extend {R : Result → Shared → Prop} (hh : A.handled = none) (D : ZipApart z TI TO i1 i2 l1 l2) (o : OffS z TI TO i1 i2 l1 l2 S) (hlow : z < S ∧ TO < S ∧ i1 < S ∧ i2 < S) (hn : xs.size ≤ sizeLine) (res : Value) {c₀ : Nat}
    (hz : IsZip s.heap z TI TO .none) (g : Zs z TI TO i1 i2 l1 l2 xs ys S 0 s.heap) (hS : s.heap.get? S = some { cls := .type "list", data := .seq #[] c₀ })
    (hR : ∀ h' acc c ts, (∀ b u, b ≠ S → b ≠ z → b ≠ TO → b ≠ i1 → b ≠ i2 → s.heap.get? b = some u → h'.get? b = some u) → h'.get? S = some { cls := .type "list", dict := none, data := .seq acc c, slots := #[] } → ts.length = min xs.size ys.size → Made xs ys S h' ts →
      acc.toList = ts.map Value.ref → R (.ok (.ret res)) { s with heap := h' }) :
    wpAny (model prog w) A.in1 (Builtin.List.listExtendWith (.ref S) (.ref z) res)
      (fun fin s' => match fin with | .done f => R (.ok f) s' | .again c' => c'.quiet = true ∧ codeAny (model prog w) A c' R s') (fun e s' => R (.error e) s') s := by
  have hT : s.TypeIs (.ref z) "zip" := ⟨_, hz, rfl⟩
  have q1 : Builtin.List.listSameRef (.ref S) (.ref z) = false := by simp [Builtin.List.listSameRef, o.z]
  have q2 : (Value.type "zip" == Value.type "list") = false := by decide
  have q3 : (Value.type "zip" == Value.type "tuple") = false := by decide
  unfold Builtin.List.listExtendWith
  refine wpAny_bind (wpAny_typeOf (T := "zip") hT ?_)
  simp only [q1, q2, q3, Bool.or_false, Bool.false_eq_true, if_false]
  refine wpAny_bind (wpAny_pyIter_zip hz ?_)
  refine wpAny_bind (wpAny_holding (hint hT ?_))
  simp only [Bool.true_or, if_true]
  refine wpAny_bind (wpAny_rule ?_)
  refine wpAny_bind ?_
  show wpAny _ _ (updateSeq S (·.push .none) >>= fun _ => updateSeq S (·.pop)) _ _ _
  refine wpAny_bind (wpAny_updateSeq hS rfl ?_)
  have hS₂ := Heap.get?_update_self (Obj.mapSeq (·.push Value.none)) hS rfl
  refine wpAny_updateSeq (hz := by seq_fits) hS₂ rfl ?_
  have hS₃ := Heap.get?_update_self (Obj.mapSeq (·.pop)) hS₂ rfl
  have kp : ∀ b u, b ≠ S → s.heap.get? b = some u → ((s.heap.update S (Obj.mapSeq (·.push Value.none))).update S (Obj.mapSeq (·.pop))).get? b = some u := fun b u hb e => (Heap.get?_update_other _ _ (Ne.symm hb)).trans ((Heap.get?_update_other _ _ (Ne.symm hb)).trans e)
  refine wpAny_pure ⟨plainId_quiet PySem.F.plain_extend_loop _, ?_⟩
  exact drain (s := s) (h₁ := s.heap) hh D o hlow hn res hR _ 0 _ _ #[] [] rfl (Nat.zero_le _) (g.stay o kp) (fun b u n0 _ _ _ _ e => kp b u n0 e) hS₃ rfl rfl ⟨.nil, (fun _ h => nomatch h), (fun j t hj => by simp at hj)⟩
theorem list_call {Q : Value → Shared → Prop} (hh : A.handled = none) (D : ZipApart z TI TO i1 i2 l1 l2) (hn : xs.size ≤ sizeLine)
    (hz : IsZip s.heap z TI TO .none) (ti : IsPair s.heap TI (.ref i1) (.ref i2)) (to : ∃ a b, IsPair s.heap TO a b) (a1 : s.heap.IsListIter i1 l1 0) (a2 : s.heap.IsListIter i2 l2 0) (b1 : s.heap.IsList l1 xs) (b2 : s.heap.IsList l2 ys)
    (hQ : ∀ h' acc c ts, (∀ b u, b ≠ z → b ≠ TO → b ≠ i1 → b ≠ i2 → s.heap.get? b = some u → h'.get? b = some u) → h'.get? s.heap.objs.size = some { cls := .type "list", dict := none, data := .seq acc c, slots := #[] } → ts.length = min xs.size ys.size → Made xs ys s.heap.objs.size h' ts →
      acc.toList = ts.map Value.ref → Q (.ref s.heap.objs.size) { s with heap := h' }) :
    wpAny (model prog w) A (call (.type "list") [.ref z]) Q E s := by
  have lt : ∀ {c u}, s.heap.get? c = some u → c < s.heap.objs.size := fun e => Heap.lt_size e
  obtain ⟨ta, tb, hTO⟩ := to
  have j1 : i1 < s.heap.objs.size := let ⟨_, e, _⟩ := a1; lt e
  have j2 : i2 < s.heap.objs.size := let ⟨_, e, _⟩ := a2; lt e
  have o : OffS z TI TO i1 i2 l1 l2 s.heap.objs.size :=
    ⟨Nat.ne_of_gt (lt hz), Nat.ne_of_gt (lt ti), Nat.ne_of_gt (lt hTO), Nat.ne_of_gt j1, Nat.ne_of_gt j2, let ⟨_, e, _⟩ := b1; Nat.ne_of_gt (lt e), let ⟨_, e, _⟩ := b2; Nat.ne_of_gt (lt e)⟩
  refine callType_codes (Q₁ := fun obj s₁ => obj = .ref s.heap.objs.size ∧ s₁ = { s with heap := s.heap.push { cls := .type "list", data := .seq #[] } }) PySem.F.called_list (PySem.F.typeCall_list_1 _) PySem.F.entry_list_init
    (code_list_new _ ⟨rfl, rfl⟩) fun obj s₁ h₁ => ?_
  obtain ⟨rfl, rfl⟩ := h₁
  have hS : (s.heap.push { cls := .type "list", data := .seq #[] }).get? s.heap.objs.size = some { cls := .type "list", data := .seq #[] } := Heap.get?_push_size _ rfl
  have g0 : Zs z TI TO i1 i2 l1 l2 xs ys s.heap.objs.size 0 s.heap := ⟨ti, a1, a2, b1, b2, .inl ⟨hz, ta, tb, hTO⟩⟩
  refine ⟨⟨_, hS, rfl⟩, PySem.F.args_list_init_2 _ _, ?_⟩
  show wpAny _ _ (do let old ← Builtin.List.listItems (.ref s.heap.objs.size); Builtin.List.listUpdate (.ref s.heap.objs.size) (fun _ => #[]); letGo old.toList.reverse; Builtin.List.listExtendWith (.ref s.heap.objs.size) (.ref z) .none) _ _ _
  refine wpAny_bind ?_
  unfold Builtin.List.listItems
  refine wpAny_bind (wpAny_seqItems hS rfl (wpAny_pure ?_))
  show wpAny _ _ (updateSeq s.heap.objs.size (fun _ => #[]) >>= fun _ => letGo (#[] : Array Value).toList.reverse >>= fun _ => Builtin.List.listExtendWith (.ref s.heap.objs.size) (.ref z) .none) _ _ _
  refine wpAny_bind (wpAny_updateSeq hS rfl ?_)
  have hS₂ := Heap.get?_update_self (Obj.mapSeq (fun _ => (#[] : Array Value))) hS rfl
  have kp : ∀ b u, b ≠ s.heap.objs.size → s.heap.get? b = some u → ((s.heap.push { cls := .type "list", data := .seq #[] }).update s.heap.objs.size (Obj.mapSeq (fun _ => (#[] : Array Value)))).get? b = some u :=
    fun b u hb e => (Heap.get?_update_other _ _ (Ne.symm hb)).trans (Heap.get?_push_of_some _ e)
  refine wpAny_bind (wpAny_letGo ?_)
  refine extend (xs := xs) (ys := ys) (A := A.in1) hh D o ⟨lt hz, lt hTO, j1, j2⟩ hn .none (kp _ _ o.z.symm hz) (g0.stay o kp) hS₂ fun h' acc c ts hk hS' hl hG hacc => ?_
  exact ⟨rfl, hQ h' acc c ts (fun b u n1 n2 n3 n4 e => hk b u (Nat.ne_of_lt (lt e)) n1 n2 n3 n4 (kp b u (Nat.ne_of_lt (lt e)) e)) hS' hl hG hacc⟩
end
end DLZ
namespace DLZ
open PySem PySem.Spec PyProof.Rows L2
/-- the pairs tracked -/
def mk2 : Hp → List Addr → List (V × V) → Hp
  | H, t :: ts, p :: ps => mk2 (upd H t (.tup [p.1, p.2])) ts ps
  | H, _, _ => H
theorem mk2_off {b : Addr} : ∀ (ts : List Addr) (ps : List (V × V)) (H : Hp), b ∉ ts → mk2 H ts ps b = H b
  | [], _, _, _ => rfl
  | _ :: _, [], _, _ => rfl
  | t :: ts, p :: ps, H, h => by
    have n1 : b ≠ t := fun e => h (by rw [e]; exact List.mem_cons_self)
    have n2 : b ∉ ts := fun e => h (List.mem_cons_of_mem _ e)
    rw [mk2, mk2_off ts ps _ n2, upd_ne n1]
theorem mk2_at : ∀ (ts : List Addr) (ps : List (V × V)) (H : Hp) (j : Nat) (t : Addr) (p : V × V), ts.Nodup → ts[j]? = some t → ps[j]? = some p → mk2 H ts ps t = some (.tup [p.1, p.2])
  | [], _, _, _, _, _, _, h, _ => by cases h
  | _ :: _, [], _, _, _, _, _, _, h => by cases h
  | a :: ts, q :: ps, H, 0, t, p, nd, h1, h2 => by
    cases h1
    cases h2
    rw [mk2, mk2_off ts ps _ (List.nodup_cons.mp nd).1, upd_same]
  | a :: ts, q :: ps, H, j + 1, t, p, nd, h1, h2 => mk2_at ts ps _ j t p (List.nodup_cons.mp nd).2 h1 h2
theorem vals_ref : ∀ ts : List Addr, Vals (ts.map V.ref) (ts.map Value.ref)
  | [] => .nil
  | _ :: ts => .cons rfl (vals_ref ts)
theorem vals_at {xs : List V} {us : List Value} {i : Nat} {u : Value} (r : Vals xs us) (h : us[i]? = some u) : ∃ x, xs[i]? = some x ∧ RelV x u := by
  have hi : i < us.length := (List.getElem?_eq_some_iff.mp h).1
  have hx : xs[i]? = some (xs[i]'(by rw [r.length]; exact hi)) := List.getElem?_eq_getElem _
  obtain ⟨u', e, q⟩ := r.get hx
  rw [h] at e
  cases e
  exact ⟨_, hx, q⟩
section
variable {X : Cx}
theorem laid {pins : List (Addr × Obj)} {σ : L2.St} {H : Hp} {s : Shared} {h' : Heap} {p : Addr} {xs ys : List V} {us ws : List Value} {acc : Array Value} {c : Nat} {ts : List Addr} (I : Inv X pins σ H s) (hz : ts.length ≤ sizeLine) (rx : Vals xs us) (ry : Vals ys ws) (hp : s.heap.objs.size ≤ p)
    (hk : ∀ b u, s.heap.get? b = some u → h'.get? b = some u) (hS : h'.get? p = some { cls := .type "list", dict := none, data := .seq acc c, slots := #[] }) (hG : Made us.toArray ws.toArray p h' ts) (hacc : acc.toList = ts.map Value.ref) :
    H p = none ∧ (∀ t ∈ ts, H t = none) ∧ p ∉ ts ∧ ts.Nodup ∧ Inv X pins σ (upd (mk2 H ts (xs.zip ys)) p (.lst (ts.map V.ref))) { s with heap := h' } := by
  have pn : p ∉ ts := fun z => Nat.lt_irrefl _ (hG.hi _ z)
  have nd : ts.Nodup := List.Pairwise.imp (fun {a b} (h : a < b) => Nat.ne_of_lt h) hG.up
  have nw : ∀ t ∈ ts, H t = none := fun t ht => I.hok.fresh (Nat.le_trans hp (Nat.le_of_lt (hG.hi t ht)))
  have np : H p = none := I.hok.fresh hp
  have off : ∀ b, b ∉ ts → b ≠ p → upd (mk2 H ts (xs.zip ys)) p (.lst (ts.map V.ref)) b = H b := fun b h1 h2 => by rw [upd_ne h2, mk2_off ts _ _ h1]
  have kp : ∀ b u, H b = some u → upd (mk2 H ts (xs.zip ys)) p (.lst (ts.map V.ref)) b = some u := fun b u e => by
    rw [off b (fun z => by rw [nw b z] at e; cases e) (fun z => by rw [z, np] at e; cases e)]
    exact e
  have low : ∀ b u, s.heap.get? b = some u → b ∉ ts ∧ b ≠ p := fun b u e => by
    have hb : b < p := Nat.lt_of_lt_of_le (Heap.lt_size e) hp
    exact ⟨fun z => Nat.lt_asymm hb (hG.hi b z), Nat.ne_of_lt hb⟩
  refine ⟨np, nw, pn, nd, I.call' (ch := []) rfl ⟨fun b u q _ _ _ => hk b u q, fun b u q _ _ _ => ⟨u.slots, hk b u q⟩, fun b u q n _ => ?_, fun b u q _ => ⟨u, hk b u q⟩, fun b l q => kp b _ q, fun b u v q => kp b _ q, fun b l q => ⟨#[], by rw [kp b _ q]; simp⟩⟩ (fun b u q => ?_) I.bare fun b z => by simp at z⟩
  · obtain ⟨n1, n2⟩ := low b u q
    rw [off b n1 n2]
    exact n
  · by_cases hb2 : b = p
    · subst hb2
      rw [upd_same] at q
      cases q
      refine ⟨by rw [List.length_map]; exact hz, acc.toList, c, by rw [hacc]; exact vals_ref ts, ?_⟩
      rw [Array.toArray_toList]
      exact hS
    · by_cases hb : b ∈ ts
      · obtain ⟨j, hj⟩ := List.mem_iff_getElem?.mp hb
        obtain ⟨x', y', ex, ey, ep⟩ := hG.at_ j b hj
        obtain ⟨x, hx, r1⟩ := vals_at rx (by simpa using ex)
        obtain ⟨y, hy, r2⟩ := vals_at ry (by simpa using ey)
        have hzp : (xs.zip ys)[j]? = some (x, y) := by rw [List.getElem?_zip_eq_some]; exact ⟨hx, hy⟩
        rw [upd_ne hb2, mk2_at ts _ H j b (x, y) nd hj hzp] at q
        cases q
        exact ⟨by show 2 ≤ sizeLine; decide, [x', y'], .cons r1 (.cons r2 .nil), ⟨_, ep, rfl, _, rfl⟩⟩
      · rw [off b hb hb2] at q
        exact (I.hok b u q).stay (fun d v _ y => hk d v y) (fun d y => kp d _ y) fun d l y => kp d _ y
def tListZip (K : PySem.W.Frag) (ta : TA) : TE := fun σ H Q => ta σ H fun vs H1 => ∃ a b xs ys, vs = [.ref a, .ref b] ∧ SqL K H1 a xs ∧ SqL K H1 b ys ∧
  ∀ (p : Addr) (ts : List Addr), H1 p = none → (∀ t ∈ ts, H1 t = none) → p ∉ ts → ts.Nodup → ts.length = min xs.length ys.length → Q (.ref p) (upd (mk2 H1 ts (xs.zip ys)) p (.lst (ts.map V.ref)))
theorem pe_listZip {e e2 : Expr} {ta : TA} {p p2 pos pos2 : Pos} (hc : X.calm = true) (hg : Gl X "list") (hm : X.mg "list" = none) (hg2 : Gl X "zip") (hm2 : X.mg "zip" = none) (ha : PA X [e, e2] ta)
    (hs : starEach [e, e2] X.env = (false, eval e X.env) :: starEach [e2] X.env := by rfl) (hpl : (backTo pos2 (starEach [e2] X.env)).any (·.1) = false := by rfl)
    (hs2 : starEach [.Call (.Name "zip" p2) [e, e2] [] pos2] X.env = (false, eval (.Call (.Name "zip" p2) [e, e2] [] pos2) X.env) :: starEach [] X.env := by rfl) :
    PE X (.Call (.Name "list" p) [.Call (.Name "zip" p2) [e, e2] [] pos2] [] pos) (tListZip X.K ta) := by
  refine ⟨fun pins s σ H Q I h => ?_⟩
  refine Call_ (ld_blt I hg hm boot_list (PyProof.Rows.callWith_type1 (args_cons ?_ hs2) hs2))
  refine Call_ (ld_blt I hg2 hm2 PyProof.Rows.boot_zip (PyProof.Rows.callWith_type1 (thn (ha.run pos2 pins s σ H _ I h) fun us s1 ⟨vs, H1, I1, r1, q1⟩ => ?_) hs hpl))
  obtain ⟨a, b, xs, ys, ex, hqx, hqy, q⟩ := q1
  subst ex
  cases r1 with
  | cons r rr =>
    cases rr with
    | cons r' rr =>
      cases rr
      cases r
      cases r'
      obtain ⟨us, rv, p1, hz1⟩ := I1.list hqx
      obtain ⟨ws, rv2, p2, hz2⟩ := I1.list hqy
      refine call_zip_2 p1.isList p2.isList fun h' hz hTI hTO a1 a2 hsz hk => ?_
      refine args_nil ?_
      refine list_call (s := { s1 with heap := h' }) (I1.ok.hd hc) (PySem.W.ktu_apart s1.heap.objs.size a b p1.lt p2.lt) ?_ hz hTI ⟨_, _, hTO⟩ a1 a2 (p1.isList.at fun o e => hk _ o e) (p2.isList.at fun o e => hk _ o e) fun h2 acc c ts hk2 hS hl hG hacc => ?_
      · show us.length ≤ sizeLine
        rw [← rv.length]
        exact hz1
      · have far : ∀ c u, s1.heap.get? c = some u → h2.get? c = some u := fun c u e => by
          have hc' : c < s1.heap.objs.size := Heap.lt_size e
          exact hk2 c u (Nat.ne_of_lt (Nat.lt_of_lt_of_le hc' (Nat.le_add_right _ _))) (Nat.ne_of_lt (Nat.lt_of_lt_of_le hc' (Nat.le_add_right _ _))) (Nat.ne_of_lt hc') (Nat.ne_of_lt (Nat.lt_of_lt_of_le hc' (Nat.le_add_right _ _))) (hk c u e)
        have hl2 : ts.length = min xs.length ys.length := by rw [hl, rv.length, rv2.length]; rfl
        obtain ⟨n1, n2, n3, n4, J⟩ := laid I1 (by rw [hl2]; exact Nat.le_trans (Nat.min_le_left _ _) hz1) rv rv2 (p := h'.objs.size) (by rw [hsz]; exact Nat.le_add_right _ _) far hS hG hacc
        exact ⟨.ref _, _, J, rfl, q _ ts n1 n2 n3 n4 hl2⟩
end
end DLZ
end
section
namespace DL
open PySem PyProof.Rows PySem.Spec L2
section
variable {K : PySem.W.Frag} {mg : Str → Option Value} {ta : TA} {fa : DA}
theorem mk2_ok {S : Sto} : ∀ (ts : List Addr) (xs ys : List DV) (xv yv : List V) (W : Wd), Rep K mg W S → ts.Nodup → (∀ t ∈ ts, W.H t = none) → Dens K W xs xv → Dens K W ys yv → ts.length = min xs.length ys.length →
    ∃ W', W'.H = DLZ.mk2 W.H ts (xv.zip yv) ∧ Ext W W' ∧ Rep K mg W' S ∧ Dens K W' (List.zipWith (fun x y => DV.tup [x, y]) xs ys) (ts.map V.ref)
  | [], xs, ys, xv, yv, W, R, _, _, hx, hy, hl => by
    refine ⟨W, rfl, Ext.refl W, R, ?_⟩
    have : List.zipWith (fun x y => DV.tup [x, y]) xs ys = [] := List.length_eq_zero_iff.mp (by rw [List.length_zipWith, ← hl]; rfl)
    rw [this]
    rfl
  | t :: ts, [], ys, xv, yv, W, R, _, _, hx, hy, hl => by simp at hl
  | t :: ts, x :: xs, [], xv, yv, W, R, _, _, hx, hy, hl => by simp at hl
  | t :: ts, x :: xs, y :: ys, xv, yv, W, R, nd, hf, hx, hy, hl => by
    obtain ⟨v, xr, rfl, dx, hx⟩ := hx
    obtain ⟨u, yr, rfl, dy, hy⟩ := hy
    obtain ⟨W1, e1, x1, R1, d1⟩ := newT_ok R (hf t (List.mem_cons_self)) (show Dens K W [x, y] [v, u] from ⟨v, [u], rfl, dx, u, [], rfl, dy, rfl⟩)
    have nd' := List.nodup_cons.mp nd
    obtain ⟨W2, e2, x2, R2, d2⟩ := mk2_ok ts xs ys xr yr W1 R1 nd'.2 (fun b hb => by
      rw [e1, upd_ne (fun z => nd'.1 (by rw [← z]; exact hb))]
      exact hf b (List.mem_cons_of_mem _ hb)) (Dens.ext x1 _ _ hx) (Dens.ext x1 _ _ hy) (by simp at hl; omega)
    refine ⟨W2, by rw [e2, e1]; rfl, x1.trans x2, R2, ?_⟩
    exact ⟨_, _, rfl, Den.ext x2 _ _ d1, d2⟩
noncomputable def dLz (m : Bool) (f : DA) : DE := fun s S => bnd (f s S) fun ds S1 => match ds with
  | [x, y] => match rdL S1 x, rdL S1 y with
    | some xs, some ys => some (newL m (List.zipWith (fun x y => DV.tup [x, y]) xs ys) S1)
    | _, _ => none
  | _ => none
theorem re_lz {m : Bool} (h : RA K mg ta fa) : RE K mg (DLZ.tListZip K ta) (dLz m fa) := by
  intro W σ s S d S' Q R L e q
  obtain ⟨ds, S1, e1, e⟩ := bnd_inv e
  split at e
  · rename_i x y
    split at e
    · rename_i xs ys hx hy
      refine h W σ s S _ S1 _ R L e1 fun vs W1 x1 R1 d1 => ?_
      obtain ⟨v, u, rfl, dv, du⟩ := dens2 d1
      obtain ⟨a, xv, rfl, sx, dx⟩ := rdL_ok R1 dv hx
      obtain ⟨b, yv, rfl, sy, dy⟩ := rdL_ok R1 du hy
      refine ⟨a, b, xv, yv, rfl, sx, sy, fun p ts hp ht hn nd hl => ?_⟩
      obtain ⟨W2, e2, x2, R2, d2⟩ := mk2_ok ts xs ys xv yv W1 R1 nd ht dx dy (by rw [hl, dx.len, dy.len])
      obtain ⟨W3, e3, x3, R3, d3⟩ := newL_ok R2 (by rw [e2, DLZ.mk2_off _ _ _ hn]; exact hp) d2 (Option.some.inj e)
      rw [← e2, ← e3]
      exact q _ W3 (x1.trans (x2.trans x3)) R3 d3
    · cases e
  · cases e
end
end DL
end
section
namespace DL
open PySem PyProof.Rows PySem.Spec L2
/-! ### in a range -/
def rRg2 : List V → Hp → VK → Prop := fun vs H Q => ∃ i j, vs = [V.int i, V.int j] ∧ ∀ p, H p = none → Q (.ref p) (upd H p (.rng i j))
def rInRg (neg : Bool) : R2 := fun x y H Q => ∃ i a lo hi, x = V.int i ∧ y = V.ref a ∧ H a = some (.rng lo hi) ∧ Q (.bl (if neg then !decide (lo ≤ i ∧ i < hi) else decide (lo ≤ i ∧ i < hi))) H
section
variable {X : Cx}
theorem cr_rg2 : CallR X (.type "range") rRg2 := cr_range2
theorem op_notInRg : OpR X (compareOp .NotIn) (rInRg true) := by
  intro pins s σ H x y v u Q I rx ry h
  obtain ⟨i, a, lo, hi, rfl, rfl, ha, q⟩ := h
  obtain ⟨k, rfl⟩ := rx
  obtain rfl : u = Value.ref a := ry
  obtain ⟨t1, t2, t3, ho⟩ := I.hok a _ ha
  show wpAny _ _ (do return Value.bool (!(← contains (Value.ref a) (Value.int i k)))) _ _ s
  refine wpAny_bind (wpAny_contains_slot (T := "range") ⟨_, ho, rfl⟩ F.slot_range_contains (call_meets F.slot_range_contains ⟨_, ho, rfl⟩ F.entry_range_contains (F.args_range_contains_2 _ _) (q_contains a lo hi i t1 t2 t3 k)
    ⟨ho, wpAny_truthy_bool (wpAny_pure ⟨.bl _, H, I, rfl, ?_⟩)⟩))
  rw [place1]
  exact q
end
section
variable {K : PySem.W.Frag} {mg : Str → Option Value} {te : TE} {fe : DE} {ta : TA} {fa : DA}
@[simp] def dInRg (neg : Bool) (f : DE) (g : DA) : DE := fun s S => bnd (f s S) fun x S1 => bnd (g s S1) fun ds S2 => match x, ds with
  | .int i, [.int lo, .int hi] => some (.bl (if neg then !decide (lo ≤ i ∧ i < hi) else decide (lo ≤ i ∧ i < hi)), S2)
  | _, _ => none
theorem re_inRg {neg : Bool} (h : RE K mg te fe) (g : RA K mg ta fa) : RE K mg (tOp (rInRg neg) te (tCB rRg2 ta)) (dInRg neg fe fa) := by
  intro W σ s S d S' Q R L e q
  obtain ⟨x, S1, e1, e⟩ := bnd_inv e
  obtain ⟨ds, S2, e2, e⟩ := bnd_inv e
  split at e
  · rename_i i lo hi _
    cases e
    refine h W σ s S _ S1 _ R L e1 fun v W1 x1 R1 d1 => ?_
    refine g W1 σ s S1 _ _ _ R1 (L.ext x1) e2 fun vs W2 x2 R2 d2 => ?_
    obtain ⟨u, w, rfl, du, dw⟩ := dens2 d2
    cases (show u = V.int lo from du)
    cases (show w = V.int hi from dw)
    refine ⟨lo, hi, rfl, fun p hp => ?_⟩
    cases (show v = V.int i from d1)
    exact ⟨i, p, lo, hi, rfl, rfl, upd_same, q _ (W2.froz p (.rng lo hi)) ((x1.trans x2).trans (ext_froz hp)) (rep_froz R2 hp) rfl⟩
  · cases e
end
/-! ### defaults -/
section
variable {K : PySem.W.Frag} {mg : Str → Option Value}
abbrev FunB (K : PySem.W.Frag) (x qual : Str) (st : Stmt) (dvs : List V) (f : Addr) (fd : FuncData) : Prop := FunD K x qual (defArgs st) (defBody st) (defScope st) dvs [] f fd
/-- keywords of a def with defaults, all parameters given -/
theorem kbindsD {x qual : Str} {st : Stmt} {dvs : List V} {f : Addr} {fd : FuncData} {ps ks : List Str} {n : Nat} {ixs : List Nat} (F : FunB K x qual st dvs f fd) (hd : dvs ≠ []) (hp : ps ≠ [])
    (h : ∀ (T : Addr) (kV doc pm : Value) (an : Option Addr) (cdv ct : Value) (us ws its : List Value), us.length = n → ws.length = ks.length → its.length = dvs.length →
      ∃ k, bindArgs (PySem.W.fnOf x qual (defArgs st) (defBody st) (defScope st) (.ref T) kV doc pm an cdv ct) ⟨us, ks.zip ws⟩ = seqItems? (.ref T) >>= k ∧ k (some its.toArray) = pure (ps.zip (pkF n ks.length ixs us ws))) :
    KBinds K fd ps ks (pkF n ks.length ixs) (pkF n ks.length ixs) := by
  obtain ⟨oc, od, dV, kV, doc, pm, an, cdv, ct, osl, rfl, lk, hcd, hD, hK⟩ := F.ex
  rcases hD with ⟨e, _⟩ | ⟨_, T, o, its, m, rfl, lT, oT, rT⟩
  · exact absurd e hd
  · refine ⟨fun s us ws X hl => ?_, vals_pk⟩
    by_cases hc : us.length = n ∧ ws.length = ks.length
    · obtain ⟨k, e1, e2⟩ := h T kV doc pm an cdv ct us ws its hc.1 hc.2 rT.length.symm
      refine BindsTo.of_looks fun M => ?_
      rw [e1]
      exact looks_items X lT oT (.of_pure e2)
    · unfold pkF at hl
      rw [if_neg hc] at hl
      cases ps with
      | nil => exact absurd rfl hp
      | cons p ps => cases hl
theorem funB_mk {x qual : Str} {st : Stmt} {dvs : List V} {f T : Addr} {oc : Value} {od an : Option Addr} {osl : Array (Option Value)} {kV doc pm cdv ct : Value} {o : Obj} {its : List Value} {n : Nat} (hd : dvs ≠ []) (l : K.lookup f = some ⟨oc, od, .func (PySem.W.fnOf x qual (defArgs st) (defBody st) (defScope st) (.ref T) kV doc pm an cdv ct), osl⟩)
    (c : PySem.W.codeIn K cdv qual = true) (k : PySem.W.keepIn K (.ref f) = true) (lT : K.lookup T = some o) (oT : o.data = .seq its.toArray n) (rT : Vals dvs its) : FunB K x qual st dvs f (PySem.W.fnOf x qual (defArgs st) (defBody st) (defScope st) (.ref T) kV doc pm an cdv ct) :=
  ⟨⟨oc, od, .ref T, kV, doc, pm, an, cdv, ct, osl, rfl, l, c, .inr ⟨hd, T, o, its, n, rfl, lT, oT, rT⟩, .inl rfl⟩, k⟩
end
end DL
end
section
/-! enumerate and sorted of tuples -/
namespace PySem
open Sem (wp)
open AutoSeq1 (wpAny_loadPart')
theorem dlt_new (a : Addr) (ws : Array Value) (m : Nat) (dd : Option Addr) (ss : Array (Option Value)) :
    Meets (Builtin.«enumerate.__new__» ⟨[.type "enumerate", .ref a], []⟩) (fun _ R s => s.heap.get? a = some { cls := .type "tuple", dict := dd, data := .seq ws m, slots := ss } ∧
      R (.ok (.ret (.ref (s.heap.push { cls := .type "tuple_iterator", data := .fields #[.ref a, .int 0 0] }).objs.size)))
        { s with heap := (s.heap.push { cls := .type "tuple_iterator", data := .fields #[.ref a, .int 0 0] }).push { cls := .type "enumerate", data := .fields #[.none, .bool false, .ref s.heap.objs.size, rawInt 0, .none, .none] } }) :=
  .of_wp fun prog w A R s h => by
    obtain ⟨h0, g0, d0, k0, o0⟩ := s; obtain ⟨ha, h⟩ := h
    have hsub := sub_enumerate
    have ht : Heap.IsTuple (Shared.heap ⟨h0, g0, d0, k0, o0⟩) a ws := ⟨_, ha, rfl, m, rfl⟩
    wp_walk using wpAny_loadPart' ha
    refine wpAny_stack_any fun st => wpAny_pure ?_
    split
    · rename_i c _ _ _ _ _
      cases (c == Value.type "enumerate")
      · wp_walk using wpAny_loadPart' ha, wpAny_pyIter_tuple ht
        exact ⟨_, rfl, h⟩
      · wp_walk using wpAny_loadPart' ha, wpAny_pyIter_tuple ht
        exact ⟨_, rfl, h⟩
    · wp_walk using wpAny_loadPart' ha, wpAny_pyIter_tuple ht
      exact ⟨_, rfl, h⟩
section
variable {prog : Program} {w : World} {A : Around} {E : Value → Shared → Prop} {s : Shared}
theorem dlt_call {a : Addr} {ws : Array Value} {Q : Value → Shared → Prop} (ht : s.heap.IsTuple a ws)
    (q : ∀ h', IsEnum h' (s.heap.objs.size + 1) s.heap.objs.size 0 .none → h'.IsTupleIter s.heap.objs.size a 0 → h'.objs.size = s.heap.objs.size + 2 →
      (∀ b u, s.heap.get? b = some u → h'.get? b = some u) → Q (.ref (s.heap.objs.size + 1)) { s with heap := h' }) :
    wpAny (model prog w) A (call (.type "enumerate") [.ref a]) Q E s := by
  obtain ⟨⟨c, dd, dt, ss⟩, ha, hc, m, hd⟩ := ht
  replace hc : c = .type "tuple" := hc
  replace hd : dt = .seq ws m := hd
  subst hc hd
  refine callType_new F.called_enumerate (by decide) (F.typeCall_enumerate_1 _) (F.newCall_enumerate_1 _) (fun z => F.args_object_init_2 z _) F.entry_enumerate_new
    (dlt_new a ws m dd ss) ⟨ha, ?_⟩
  have hz : (s.heap.push { cls := .type "tuple_iterator", data := .fields #[.ref a, .int 0 0] }).objs.size = s.heap.objs.size + 1 := Heap.size_push ..
  show _ ∧ _
  rw [hz]
  have he : IsEnum ((s.heap.push { cls := .type "tuple_iterator", data := .fields #[.ref a, .int 0 0] }).push
      { cls := .type "enumerate", data := .fields #[.none, .bool false, .ref s.heap.objs.size, rawInt 0, .none, .none] }) (s.heap.objs.size + 1) s.heap.objs.size 0 .none := by
    have := Heap.get?_push_size (s.heap.push { cls := .type "tuple_iterator", data := .fields #[.ref a, .int 0 0] })
      (o := { cls := .type "enumerate", data := .fields #[.none, .bool false, .ref s.heap.objs.size, rawInt 0, .none, .none] }) rfl
    rw [hz] at this; exact this
  exact ⟨⟨_, he, rfl⟩, q _ he ⟨_, Heap.get?_push_of_some _ (Heap.get?_push_size _ rfl), rfl, rfl⟩ (by rw [Heap.size_push, hz]) fun b u x => Heap.get?_push_of_some _ (Heap.get?_push_of_some _ x)⟩
theorem dlt_end {e it a : Addr} {i : Nat} {ws : Array Value} {old : Value} {Q : Option Value → Shared → Prop} (hh : A.handled = none)
    (he : IsEnum s.heap e it i old) (hi : s.heap.IsTupleIter it a i) (ht : s.heap.IsTuple a ws) (hx : ws[i]? = none)
    (q : ∀ h', Heap.ExtBut it s.heap h' → Q none { s with heap := h' }) : wpAny (model prog w) A (pyNext (.ref e)) Q E s := by
  have hT : s.TypeIs (.ref e) "enumerate" := ⟨_, he, rfl⟩
  unfold pyNext
  refine wpAny_bind (wpAny_attempt (wpAny_callSpecial?_slot (name := Str.ofString "__next__") hT F.slot_enumerate_next
    (wpAny_call_entry F.slot_enumerate_next hT F.entry_enumerate_next ?_ (F.args_enumerate_next_1 _))))
  show wpAny _ _ (field (.ref e) 2 >>= _) _ _ _
  refine wpAny_bind (wpAny_field he rfl (x := .ref it) rfl ?_)
  refine wpAny_bind (RZ.nextOf_tuple_end hh hi ht hx fun h' x k1 k2 => ?_)
  obtain ⟨u, hu, hc⟩ := k2
  exact wpAny_bind (wpAny_isInstance (T := "StopIteration") (b := true) ⟨u, hu, hc⟩ isSubtype_stop (wpAny_pure (q _ k1)))
end
end PySem
namespace DL
open PySem PyProof.Rows PySem.Spec L2
theorem turn_enumE {P : Program} {w : World} {K : PySem.W.Frag} {elts : List Expr} {kk : Nat} {tpos : Pos} (a e it : Addr) :
    Turn P w K (.Tuple elts kk tpos) (IteE K a) [e, it] e (fun i h => (∃ old, IsEnum h e it ((i : Nat) : Int) old) ∧ h.IsTupleIter it a i ∧ e ≠ it) where
  mem := by simp
  obj := fun i h st b hb => by
    obtain ⟨⟨old, he⟩, ⟨o, ho, hc, hd⟩, _⟩ := st
    have hb' : b = e ∨ b = it := by simpa using hb
    rcases hb' with z | z
    · rw [z]; exact ⟨_, he, fun v q => nomatch q⟩
    · rw [z]; exact ⟨o, ho, fun v q => by rw [hd] at q; cases q⟩
  keep := fun i h h' st k => by
    obtain ⟨⟨old, he⟩, hi, hne⟩ := st
    exact ⟨⟨old, k e (by simp) _ he⟩, hi.at fun o q => k it (by simp) o q, hne⟩
  item := by
    intro X hP hw hK hc i pins s σ H E I hf st hg
    exact absurd hg id
  done := by
    intro X hP hw hK hc i pins s σ H E I hf st hg
    subst hP hw hK
    obtain ⟨⟨old, he⟩, hi, hne⟩ := st
    obtain ⟨its, rv, p, hz⟩ := I.tuple hg
    obtain ⟨f0, f1, f2, f3, f4, f5⟩ := hf it (by simp)
    have hl := rv.length
    exact dlt_end (I.ok.hd hc) he hi p (by simp at hl ⊢; omega) fun h' eb => ⟨rfl, I.turned (t' := s.toks) (fun b o hb q => eb b o hb q) f0 f1 f3 f4 f5⟩
  self := fun A i s Q E st h => let ⟨⟨_, he⟩, _⟩ := st; wpAny_pyIter_enum he h
theorem pi_enumB {X : Cx} {e : Expr} {ta : TA} {p pos tpos : Pos} {elts : List Expr} {kk : Nat} (hg : Gl X "enumerate") (hm : X.mg "enumerate" = none) (ha : PA X [e] ta) (hs : starEach [e] X.env = [(false, eval e X.env)] := by rfl) :
    PI X (.Tuple elts kk tpos) (.Call (.Name "enumerate" p) [e] [] pos) (iEnumB X.K ta) := by
  refine ⟨fun pins s σ H R I h => ?_⟩
  refine Call_ (ld_blt I hg hm boot_enumerate (PyProof.Rows.callWith_type1 (thn (ha.run pos pins s σ H _ I h) fun us s1 ⟨vs, H1, I1, r1, q1⟩ => ?_) hs rfl))
  obtain ⟨a, ex, q⟩ := q1
  subst ex
  have far : ∀ b, b ∈ [s1.heap.objs.size + 1, s1.heap.objs.size] → s1.heap.objs.size ≤ b := fun b hb => by
    have hb' : b = s1.heap.objs.size + 1 ∨ b = s1.heap.objs.size := by simpa using hb
    rcases hb' with z | z
    · rw [z]; exact Nat.le_add_right _ _
    · rw [z]; exact Nat.le_refl _
  cases r1 with
  | cons r rr =>
    cases rr
    cases r
    rcases q with ⟨xs, hq, q⟩ | ⟨hq, q⟩
    · obtain ⟨its, rv, p', hz⟩ := I1.list hq
      refine call_enumerate_list p'.isList fun h' he hit hsz hk => wpAny_pyIter_enum he ?_
      have I2 : Inv X pins σ H1 { s1 with heap := h' } := I1.kept (t' := s1.toks) hk
      exact ⟨s1.heap.objs.size + 1, [s1.heap.objs.size + 1, s1.heap.objs.size], _, _, H1, rfl, I2, turn_enum a (s1.heap.objs.size + 1) s1.heap.objs.size, ⟨⟨.none, he⟩, hit, Nat.succ_ne_self _⟩, fun b hb => I1.fpOk (far b hb) (I1.hok.fresh (far b hb)), q⟩
    · obtain ⟨its, rv, p', hz⟩ := I1.tuple hq
      refine dlt_call p' fun h' he hit hsz hk => wpAny_pyIter_enum he ?_
      have I2 : Inv X pins σ H1 { s1 with heap := h' } := I1.kept (t' := s1.toks) hk
      exact ⟨s1.heap.objs.size + 1, [s1.heap.objs.size + 1, s1.heap.objs.size], _, _, H1, rfl, I2, turn_enumE a (s1.heap.objs.size + 1) s1.heap.objs.size, ⟨⟨.none, he⟩, hit, Nat.succ_ne_self _⟩, fun b hb => I1.fpOk (far b hb) (I1.hok.fresh (far b hb)), q⟩
end DL
end
section
namespace SrtO
open PySem PyProof.Rows Srt PySem.W
section
variable {prog : Program} {w : World} {A : Around} {E : Value → Shared → Prop} {s : Shared}
theorem gather_tup {t : Addr} {ws : List Value} {Q : List Value → Shared → Prop} (ht : s.heap.IsTuple t ws.toArray)
    (q : Q ws { s with heap := (s.heap.push (seqObj "list" #[] 0)).update s.heap.objs.size (Obj.mapSeq (· ++ ws.toArray)) }) (hz : ws.length ≤ sizeLine) : wpAny (model prog w) A (collect (.ref t)) Q E s := by
  obtain ⟨u, hu, hc, n, hd⟩ := id ht
  unfold collect
  refine wpAny_bind (wpAny_runValue (codeAny_builtin entry_proto_collect' ?_))
  show wpAny _ _ (do again (.builtin "list.__iadd__" ⟨[← newList [], .ref t], []⟩)) _ _ s
  refine wpAny_bind (wpAny_newList (wpAny_pure ⟨Code.quiet_builtin _ (by decide +kernel), codeAny_builtin entry_list_iadd' ?_⟩))
  show wpAny _ _ (Builtin.List.listExtendWith (.ref s.heap.objs.size) (.ref t) (.ref s.heap.objs.size)) _ _ { s with heap := s.heap.push (seqObj "list" #[] 0) }
  unfold Builtin.List.listExtendWith
  have hu' : (s.heap.push (seqObj "list" #[] 0)).get? t = some u := Heap.get?_push_of_some _ hu
  refine wpAny_bind (wpAny_typeOf (T := "tuple") ⟨u, hu', hc⟩ ?_)
  have tt : (Value.type "tuple" == Value.type "tuple") = true := by rfl
  rw [if_pos (by rw [tt]; simp)]
  refine wpAny_bind (listItems_at hu' hd ?_)
  refine wpAny_bind (listItems_at (xs := #[]) (n := 0) (Heap.get?_push_size _ rfl) rfl ?_)
  rw [if_neg (by simp)]
  refine wpAny_bind (listUpdate_at (xs := #[]) (n := 0) (Heap.get?_push_size _ rfl) rfl ?_ (Nat.zero_le _) (by show (#[] ++ ws.toArray).size ≤ sizeLine + 1; simp only [Array.size_append, List.size_toArray, List.length_nil]; omega))
  refine wpAny_pure ?_
  show wpAny (model prog w) A (do
      let y ← load s.heap.objs.size
      match y.data with
      | .seq ys _ => pure ys.toList
      | _ => unsupported "internal:collect") Q E { s with heap := (s.heap.push (seqObj "list" #[] 0)).update s.heap.objs.size (Obj.mapSeq (· ++ ws.toArray)) }
  refine wpAny_bind (wpAny_load (get?_update_seq (Heap.get?_push_size _ rfl) _) ?_)
  show wpAny _ _ (pure ((#[] : Array Value) ++ ws.toArray).toList) Q E _
  rw [show ((#[] : Array Value) ++ ws.toArray).toList = ws by simp]
  exact wpAny_pure q
theorem sorted_tup {t : Addr} {ws : List Value} {ltv : Value → Value → Bool} {Q : Value → Shared → Prop} (O : Swo ltv) (ht : s.heap.IsTuple t ws.toArray) (hz : ws.length ≤ sizeLine)
    (hS : 2 ≤ ws.length → ∀ (h₁ : Heap) (a : Addr), h₁.get? a = some (seqObj "list" ws.toArray 0) → (∀ b o, s.heap.get? b = some o → b ≠ a ∧ h₁.get? b = some o) → SortableO prog w A.in1.in1 { s with heap := h₁ } a ws ltv)
    (h : ∀ out : List Value, Srtd ltv out → Stb ltv out ws → Q (.ref (s.heap.objs.size + 1)) { s with heap := sortedAll s.heap ws out.toArray }) :
    wpAny (model prog w) A (call (.builtin "sorted") [.ref t]) Q E s := by
  refine Calls.call_function_entry kind_sorted plain_sorted entry_sorted (args_sorted1 _) ?_
  unfold Builtin.«sorted»
  refine wpAny_bind (m := checkCount "sorted" 1 1 _) (wpAny_pure ?_)
  refine wpAny_bind (gather_tup ht ?_ hz)
  refine wpAny_bind (wpAny_newList ?_ hz)
  have hsz : ((s.heap.push (seqObj "list" #[] 0)).update s.heap.objs.size (Obj.mapSeq (· ++ ws.toArray))).objs.size = s.heap.objs.size + 1 := by
    rw [Heap.size_update, size_push']
  have hoL : (((s.heap.push (seqObj "list" #[] 0)).update s.heap.objs.size (Obj.mapSeq (· ++ ws.toArray))).push (seqObj "list" ws.toArray 0)).get? (s.heap.objs.size + 1) = some (seqObj "list" ws.toArray 0) := by
    rw [← hsz]; exact Heap.get?_push_size _ rfl
  have keep : ∀ b o, s.heap.get? b = some o → b ≠ s.heap.objs.size + 1 ∧ (((s.heap.push (seqObj "list" #[] 0)).update s.heap.objs.size (Obj.mapSeq (· ++ ws.toArray))).push (seqObj "list" ws.toArray 0)).get? b = some o := fun b o q => by
    have lt : b < s.heap.objs.size := Heap.lt_size q
    refine ⟨Nat.ne_of_lt (Nat.lt_succ_of_lt lt), Heap.get?_push_of_some _ ?_⟩
    rw [Heap.get?_update_ne _ _ _ _ (Nat.ne_of_lt lt)]
    exact Heap.get?_push_of_some _ q
  show wpAny _ _ _ _ _ { s with heap := ((s.heap.push (seqObj "list" #[] 0)).update s.heap.objs.size (Obj.mapSeq (· ++ ws.toArray))).push (seqObj "list" ws.toArray 0) }
  rw [hsz]
  refine wpAny_bind (wpAny_holding (wpAny_call_entry slot_list_sort ⟨_, hoL, rfl⟩ entry_list_sort (list_sort_ord O hoL hz (fun h2 => hS h2 _ _ hoL keep) fun out hs hb => ⟨_, rfl, ?_⟩) (args_list_sort _)))
  exact wpAny_pure ⟨_, rfl, h out hs hb⟩
end
end SrtO
namespace DL
open PySem PyProof.Rows PySem.Spec L2
def rSortB (K : PySem.W.Frag) : List V → Hp → VK → Prop := fun vs H Q => ∃ (a : Addr) (ns : List Int), vs = [V.ref a] ∧ (SqL K H a (ns.map V.int) ∨ SqT K H a (ns.map V.int)) ∧
  ∀ (ms : List Int) (p : Addr), ms.Perm ns → ms.Pairwise (· ≤ ·) → H p = none → Q (.ref p) (upd H p (.lst (ms.map V.int)))
theorem cr_sortB {X : Cx} : CallR X (.builtin "sorted") (rSortB X.K) := by
  intro pins s σ H vs us Q I r h
  obtain ⟨a, ns, rfl, hs, q⟩ := h
  rcases hs with hs | hs
  · exact cr_sortedI pins s σ H _ us Q I r ⟨a, ns, rfl, hs, q⟩
  · obtain ⟨its, rv, hl, hz⟩ := I.tuple hs
    rw [Vals.ref1 r]
    have hi := rv.ints
    refine SrtO.sorted_tup SrtO.swo_int hl (by rw [← rv.length]; exact hz) (fun h2 h₁ a' _ _ => SrtO.ints_sortable hi h2) fun out h1 h2 => ?_
    obtain ⟨k1, k2, k3⟩ := SrtO.ints_out hi h1 h2
    obtain ⟨ep, he'⟩ := PyProof.Rows.sortedAll_at s.heap its out.toArray
    have hlen : ((out.map SrtO.iv).map V.int).length ≤ sizeLine := by
      rw [List.length_map, k2.length_eq]
      rw [List.length_map] at hz
      exact hz
    exact ⟨.ref _, upd H (s.heap.objs.size + 1) (.lst ((out.map SrtO.iv).map V.int)), I.laid (t' := s.toks) (fun _ _ => PyProof.Rows.sortedAll_old) (Nat.le_succ _) ⟨hlen, out, ep, vals_of_ints k1, he'⟩, rfl, q _ _ k2 k3 (I.hok.fresh (Nat.le_succ _))⟩
section
variable {K : PySem.W.Frag} {mg : Str → Option Value}
/-- sorted(x), whole numbers, a list or a tuple -/
def sortBD (m : Bool) : DC := fun xs S => match xs with
  | [x] => match (rdL S x).or (rdT x) with
    | some ds => match toIs ds with
      | some ns => some (newL m ((sortI ns).map DV.int) S)
      | none => none
    | none => none
  | _ => none
theorem rc_sortB {m : Bool} : RC K mg (rSortB K) (sortBD m) := by
  intro W S xs vs d S' Q R h e q
  unfold sortBD at e
  split at e
  · rename_i x
    split at e
    · rename_i ds hd
      split at e
      · rename_i ns hn
        obtain ⟨v, rfl, hv⟩ := dens1 h
        have : ∃ a us, v = .ref a ∧ (SqL K W.H a us ∨ SqT K W.H a us) ∧ Dens K W ds us := by
          cases hr : rdL S x with
          | some es =>
            rw [hr] at hd
            cases hd
            obtain ⟨a, us, rfl, h1, h2⟩ := rdL_ok R hv hr
            exact ⟨a, us, rfl, .inl h1, h2⟩
          | none =>
            rw [hr] at hd
            obtain ⟨a, us, rfl, h1, h2⟩ := rdT_ok hv hd
            exact ⟨a, us, rfl, .inr h1, h2⟩
        obtain ⟨a, us, rfl, h1, h2⟩ := this
        cases toIs_ok hn h2
        refine ⟨a, ns, rfl, h1, fun ms p hp hs hn => ?_⟩
        cases sortI_eq hp hs
        obtain ⟨W2, e2, x2, R2, d2⟩ := newL_ok R hn (dens_ints (K := K) (W := W) (sortI ns)) (Option.some.inj e)
        rw [← e2]
        exact q _ W2 x2 R2 d2
      · cases e
    · cases e
  · cases e
end
end DL
end
section
namespace FW
open PySem PyProof.Rows PySem.Spec L2 DL
/-! ### each def as a function of data -/
noncomputable def b_stretches_z : DS :=
    (dSeq (dAsg (dOp (addD false) (dOp (addD false) (dLst false (dCons (dC (.int 0)) dNil)) (dCB (sortBD false) (dCons (dVar 1) dNil))) (dLst false (dCons (dCB lenD (dCons (dVar 0) dNil)) dNil))) (dName 2))
    (dRet (dLz false (dCons (dVar 2) (dCons (dSlL false (dVar 2) (doS (dC (.int 1))) doN) dNil)))))
noncomputable def f_stretches_z : List DV → Sto → Option (DV × Sto) := fnF (some false) 3 b_stretches_z
noncomputable def b_share_z : DS :=
    (dSeq (dAsg (dCall 2 f_lowest_z [] (dCons (dVar 1) (dCons (dVar 2) dNil))) (dGTup 2 (dGCons (dName 1) (dGCons (dName 2) dGNil))))
    (dSeq (dAsg (dCall 2 f_lowest_z [] (dCons (dOp ixD (dVar 0) (dC (.int 0))) (dCons (dVar 2) dNil))) (dGTup 2 (dGCons (dName 3) (dGCons (dName 2) dGNil))))
    (dSeq (dAsg (dCall 2 f_lowest_z [] (dCons (dVar 1) (dCons (dOp ixD (dVar 0) (dC (.int 1))) dNil))) (dGTup 2 (dGCons (dName 1) (dGCons (dName 4) dGNil))))
    (dRet (dTup (dCons (dOp mulD (dVar 3) (dVar 1)) (dCons (dOp mulD (dVar 4) (dVar 2)) dNil)))))))
noncomputable def f_share_z : List DV → Sto → Option (DV × Sto) := fnF (some false) 5 b_share_z
noncomputable def b_pool_height_z : DS :=
    (dSeq (dAsg (dVar 0) (dGTup 2 (dGCons (dName 1) (dGCons (dName 2) dGNil))))
    (dRet (dCall 3 f_share_z [] (dCons (dVar 2) (dCons (dC (.int 1)) (dCons (dCB sumD (dCons (dVar 1) dNil)) dNil))))))
noncomputable def f_pool_height_z : List DV → Sto → Option (DV × Sto) := fnF (some false) 3 b_pool_height_z
noncomputable def b_pooled_z : DS :=
    (dSeq (dAsg (dLst true dNil) (dName 2))
    (dSeq (dFor (diZ (dCons (dVar 0) (dCons (dVar 1) dNil))) (dGTup 2 (dGCons (dName 3) (dGCons (dName 4) dGNil)))
    (dSeq (dAsg (dTup (dCons (dLst false (dCons (dVar 3) dNil)) (dCons (dVar 4) dNil))) (dName 5))
    (dSeq (dWhile (dAnd (dTru (dVar 2)) (dTest (dCall 2 f_above_z [] (dCons (dCall 1 f_pool_height_z [] (dCons (dOp ixD (dVar 2) (dUn negD (dC (.int 1)))) dNil)) (dCons (dCall 1 f_pool_height_z [] (dCons (dVar 5) dNil)) dNil)))))
    (dSeq (dAsg (dBM0 "list" popD (dVar 2)) (dGTup 2 (dGCons (dName 6) (dGCons (dName 7) dGNil))))
    (dAsg (dTup (dCons (dOp (addD false) (dVar 6) (dOp ixD (dVar 5) (dC (.int 0)))) (dCons (dCall 2 f_plus_z [] (dCons (dVar 7) (dCons (dOp ixD (dVar 5) (dC (.int 1))) dNil))) dNil))) (dName 5))))
    (dDrop (dBM "list" appendD (dVar 2) (dCons (dVar 5) dNil))))))
    (dRet (dVar 2))))
noncomputable def f_pooled_z : List DV → Sto → Option (DV × Sto) := fnF (some false) 8 b_pooled_z
noncomputable def b_check_bolted_z : DS :=
    (dFor (diEE (dCons (dVar 1) dNil)) (dGTup 2 (dGCons (dName 2) (dGCons (dName 3) dGNil)))
    (dIfS (dOr (dTest (dInRg true (dVar 3) (dCons (dC (.int 1)) (dCons (dCB lenD (dCons (dVar 0) dNil)) dNil)))) (dTest (dOp (inD false) (dVar 3) (dSlL false (dVar 1) doN (doS (dVar 2))))))
    dNever dNext))
noncomputable def f_check_bolted_z : List DV → Sto → Option (DV × Sto) := fnF (some false) 4 b_check_bolted_z
noncomputable def b_at_rest_z : DS :=
    (dSeq (dAsg (dLst true dNil) (dName 3))
    (dSeq (dFor (diL (dCall 2 f_stretches_z [] (dCons (dVar 0) (dCons (dVar 2) dNil)))) (dGTup 2 (dGCons (dName 4) (dGCons (dName 5) dGNil)))
    (dFor (diL (dCall 2 f_pooled_z [] (dCons (dSlL false (dVar 0) (doS (dVar 4)) (doS (dVar 5))) (dCons (dSlL false (dVar 1) (doS (dVar 4)) (doS (dVar 5))) dNil)))) (dGTup 2 (dGCons (dName 6) (dGCons (dName 7) dGNil)))
    (dSeq (dAsg (dCB sumD (dCons (dVar 6) dNil)) (dName 8))
    (dDrop (dBM "list" extendD (dVar 3) (dCons (dLc false (diL (dVar 6)) (dName 9) dYes (dCall 3 f_share_z [] (dCons (dVar 7) (dCons (dVar 9) (dCons (dVar 8) dNil)))) [9]) dNil))))))
    (dRet (dVar 3))))
noncomputable def f_at_rest_z : List DV → Sto → Option (DV × Sto) := fnF (some false) 10 b_at_rest_z
noncomputable def b_settled_z : DS :=
    (dSeq (dDrop (dCall 1 f_check_floors_z [] (dCons (dVar 0) dNil)))
    (dSeq (dDrop (dCall 2 f_check_water_z [] (dCons (dVar 0) (dCons (dVar 1) dNil))))
    (dSeq (dDrop (dCall 2 f_check_bolted_z [] (dCons (dVar 0) (dCons (dVar 2) dNil))))
    (dRet (dCall 3 f_at_rest_z [] (dCons (dVar 0) (dCons (dVar 1) (dCons (dVar 2) dNil))))))))
noncomputable def f_settled_z : List DV → Sto → Option (DV × Sto) := fnF (some false) 3 b_settled_z
noncomputable def b_law_under_z : DS :=
    (dRet (dOp ltD (dOp mulD (dOp ixD (dVar 0) (dC (.int 0))) (dOp ixD (dVar 1) (dC (.int 1)))) (dOp mulD (dOp ixD (dVar 1) (dC (.int 0))) (dOp ixD (dVar 0) (dC (.int 1))))))
noncomputable def f_law_under_z : List DV → Sto → Option (DV × Sto) := fnF (some false) 2 b_law_under_z
noncomputable def b_law_chord_z : DS :=
    (dSeq (dIfS (dTest (dOp eqD (dVar 2) (dVar 4)))
    (dRet (dOp ixD (dVar 1) (dVar 3))) dNext)
    (dSeq (dAsg (dOp mulD (dOp mulD (dOp ixD (dOp ixD (dVar 1) (dVar 2)) (dC (.int 0))) (dOp ixD (dOp ixD (dVar 1) (dVar 4)) (dC (.int 1)))) (dOp subD (dOp ixD (dVar 0) (dVar 4)) (dOp ixD (dVar 0) (dVar 3)))) (dName 5))
    (dSeq (dAsg (dOp mulD (dOp mulD (dOp ixD (dOp ixD (dVar 1) (dVar 4)) (dC (.int 0))) (dOp ixD (dOp ixD (dVar 1) (dVar 2)) (dC (.int 1)))) (dOp subD (dOp ixD (dVar 0) (dVar 3)) (dOp ixD (dVar 0) (dVar 2)))) (dName 6))
    (dRet (dCall 2 f_law_low_z [] (dCons (dOp (addD false) (dVar 5) (dVar 6)) (dCons (dOp mulD (dOp mulD (dOp ixD (dOp ixD (dVar 1) (dVar 2)) (dC (.int 1))) (dOp ixD (dOp ixD (dVar 1) (dVar 4)) (dC (.int 1)))) (dOp subD (dOp ixD (dVar 0) (dVar 4)) (dOp ixD (dVar 0) (dVar 2)))) dNil)))))))
noncomputable def f_law_chord_z : List DV → Sto → Option (DV × Sto) := fnF (some false) 7 b_law_chord_z
noncomputable def b_law_ends_z : DS :=
    (dRet (dTup (dCons (dCB maxD (dCons (dOp (addD false) (dLst false (dCons (dC (.int 0)) dNil)) (dLc false (diL (dVar 1)) (dName 3) (dTest (dOp leD (dVar 3) (dVar 2))) (dVar 3) [3])) dNil)) (dCons (dCB minD (dCons (dOp (addD false) (dLst false (dCons (dVar 0) dNil)) (dLc false (diL (dVar 1)) (dName 3) (dTest (dOp geD (dVar 3) (dVar 2))) (dVar 3) [3])) dNil)) dNil))))
noncomputable def f_law_ends_z : List DV → Sto → Option (DV × Sto) := fnF (some false) 4 b_law_ends_z
end FW
end
section
/-! an own exception made by its keyword -/
namespace PySem
namespace ExS
open PySem.W PySem.Calls PyProof.Rows PySem.HandSPX
section
variable {M : Model} {A : Around} {E : Value → Shared → Prop} {h : Heap} {g : Array GenState} {d : Drawn} {t : Nat} {os : OsState}
variable {nm q : Str} {C N : Addr} {bs bm bmB : List Value} {hdct : Bool} {sn : List Str} {sub : List Value} {ab : Bool} {col : Option Bool} {dd : Option Addr} {k0 k1 k2 k3 k5 : Option Value} {B newId initId : String}
theorem check_new_ownK (F : ExcBaseFacts B newId initId bmB) (hT : ∀ X : String, bm.contains (.type X) = bmB.contains (.type X)) {u : Value} {Q : Unit → Shared → Prop}
    (hC : h.get? C = some (excClassObj nm q C N bs bm hdct sn sub ab col dd k0 k1 k2 k3 k5 newId)) (hq : Q () ⟨h, g, d, t, os⟩) : wpAny M A (checkBuiltinCall newId ⟨[.ref C], [("what", u)]⟩) Q E ⟨h, g, d, t, os⟩ := by
  have hcont : (Value.ref C :: bm).contains (.type B) = true := by rw [List.contains_cons, hT, F.hasB, Bool.or_true]
  have hstar := F.noStar
  simp only [checkBuiltinCall, F.newKind, F.newSplit, F.newRow]
  repeat (first | refine wpAny_loadPart_at hC ?_ | (refine wpAny_isSubtype_exc hC ?_; rw [hcont]) | refine wpAny_staticBase_exc hC ?_ | refine wpAny_madeBy_exc hC ?_ | simp only [bne_self_eq_false, Bool.false_eq_true, if_false] | wp_step)
  exact hq
end
section
variable {prog : Program} {w : World} {A : Around} {E : Value → Shared → Prop} {R : Result → Shared → Prop} {h : Heap} {g : Array GenState} {d : Drawn} {t : Nat} {os : OsState}
variable {nm q : Str} {C N : Addr} {bs bm bmB : List Value} {hdct : Bool} {sn : List Str} {sub : List Value} {ab : Bool} {col : Option Bool} {dd : Option Addr} {k0 k1 k2 k3 k5 : Option Value} {B newId initId : String}
theorem new_ownK (F : ExcBaseFacts B newId initId bmB) (hT : ∀ X : String, bm.contains (.type X) = bmB.contains (.type X)) {u : Value}
    (hC : h.get? C = some (excClassObj nm q C N bs bm hdct sn sub ab col dd k0 k1 k2 k3 k5 newId))
    (hq : R (.ok (.ret (.ref (h.objs.size + 1)))) ⟨(h.push { cls := .type "tuple", data := .seq #[] }).push
      { cls := .ref C, data := .fields #[.ref h.objs.size, .none, .none, .none, .bool false, .none] }, g, d, t, os⟩) :
    codeAny (model prog w) A (.builtin newId ⟨[.ref C], [("what", u)]⟩) R ⟨h, g, d, t, os⟩ := by
  have hends := F.ends
  have hcB : (Value.ref C :: bm).contains (.type B) = true := by rw [List.contains_cons, hT, F.hasB, Bool.or_true]
  have hcA : (Value.ref C :: bm).contains (.type "AttributeError") = false := by rw [List.contains_cons, hT, F.noAttr]; rfl
  have hcN : (Value.ref C :: bm).contains (.type "NameError") = false := by rw [List.contains_cons, hT, F.noName]; rfl
  have hrest : ([] : List Value).length ≤ sizeLine := Nat.zero_le _
  refine codeAny_builtinAt F.entry ?_
  unfold Builtin.«BaseException.__new__»
  refine wpAt_bind ?_
  show wpAt _ _ _ (stack >>= _) _ _ _
  refine wpAt_bind (wpAt_stack fun p below => wpAt_of_wpAny ?_)
  wp_walk
  refine wpAt_of_wpAny ?_
  rw [F.owner]
  repeat (first | with_reducible refine wpAny_madeHere_exc F.canon hC ?_ | with_reducible refine wpAny_loadPart_at hC ?_ | (with_reducible refine wpAny_isSubtype_exc hC ?_; first | rw [hcB] | rw [hcA] | rw [hcN]) | wp_step)
  show R _ _
  rw [Heap.size_push]
  exact hq
theorem type_call_ownK (F : ExcBaseFacts B newId initId bmB) (hT : ∀ X : String, bm.contains (.type X) = bmB.contains (.type X)) {u : Value} {fI : Addr} {Q : Fin → Shared → Prop}
    (hC : h.get? C = some (excClassObj nm q C N bs bm hdct sn sub ab col dd k0 k1 k2 k3 k5 newId))
    (hi : W.Looks (model prog w) h (typeLookup (.ref C) "__init__") (some (.ref fI))) (hb : ∀ self, W.Looks (model prog w) h (bindSpecial (.ref fI) self) (.ref fI, [self]))
    (hq : codeAny (model prog w) A (.call (.ref fI) ⟨[.ref (h.objs.size + 1)], [("what", u)]⟩)
      (fun r s' => match r with | .ok (.ret v) => v = .none ∧ Q (.done (.ret (.ref (h.objs.size + 1)))) s' | .ok _ => False | .error e => E e s')
      ⟨(h.push (W.kdv_tup [])).push (excO C h.objs.size), g, d, t, os⟩) :
    wpAny (model prog w) A (Builtin.«type.__call__» ⟨[.ref C], [("what", u)]⟩) Q E ⟨h, g, d, t, os⟩ := by
  repeat (first | with_reducible refine wpAny_loadPart_at hC ?_ | with_reducible refine wpAny_madeBy_exc hC ?_ | wp_step)
  refine codeAny_call_builtin_code (Code.quiet_builtin _ F.quiet) (check_new_ownK F hT hC ?_)
  refine new_ownK F hT hC ?_
  show wpAny _ _ _ _ _ _
  have k : ∀ b o, h.get? b = some o → ((h.push (W.kdv_tup [])).push (excO C h.objs.size)).get? b = some o := fun b o e => Heap.get?_push_of_some _ (Heap.get?_push_of_some _ e)
  have hC₁ := k _ _ hC
  have hget : ((h.push (W.kdv_tup [])).push (excO C h.objs.size)).get? (h.objs.size + 1) = some (excO C h.objs.size) := by heap_get
  have hcC : (Value.ref C :: bm).contains (.ref C) = true := by simp
  have i1 := hi.keeps k
  have b1 := (hb (.ref (h.objs.size + 1))).keeps k
  unfold isInstance
  repeat (first | with_reducible refine wpAny_loadPart_at hget ?_ | (with_reducible refine wpAny_isSubtype_exc hC₁ ?_; rw [hcC]) | wp_step)
  show wpAny _ _ (typeLookup (.ref C) _) _ _ _
  refine i1.at ?_
  refine wpAny_holding (wpAny_bind (b1.at ?_))
  refine wpAny_bind (wpAny_call (codeAny_mono hq fun r s' z => ?_))
  rcases r with e | (v | _ | _ | _) <;> first | exact z | exact z.elim | skip
  obtain ⟨rfl, z⟩ := z
  first
    | exact wpAny_pure (wpAny_pure z)
    | (wp_walk; exact z)
theorem call_ownK (F : ExcBaseFacts B newId initId bmB) (hT : ∀ X : String, bm.contains (.type X) = bmB.contains (.type X)) {u : Value} {fI : Addr}
    (hC : h.get? C = some (excClassObj nm q C N bs bm hdct sn sub ab col dd k0 k1 k2 k3 k5 newId))
    (hi : W.Looks (model prog w) h (typeLookup (.ref C) "__init__") (some (.ref fI))) (hb : ∀ self, W.Looks (model prog w) h (bindSpecial (.ref fI) self) (.ref fI, [self]))
    (hq : codeAny (model prog w) (A.under (.builtin "type.__call__" ⟨[.ref C], [("what", u)]⟩)) (.call (.ref fI) ⟨[.ref (h.objs.size + 1)], [("what", u)]⟩) (W.InitBack (h.objs.size + 1) R)
      ⟨(h.push (W.kdv_tup [])).push (excO C h.objs.size), g, d, t, os⟩) :
    codeAny (model prog w) A (.call (.ref C) ⟨[], [("what", u)]⟩) R ⟨h, g, d, t, os⟩ := by
  have f1 := tc_lookup
  have f2 := tc_bind (.ref C)
  have hTy : (⟨h, g, d, t, os⟩ : Shared).TypeIs (.ref C) "type" := ⟨_, hC, rfl⟩
  refine codeAny_of_tree ?_
  show wpAny _ _ (callAny (.ref C) _) _ _ _
  repeat (any_goals (first | assumption | with_reducible refine wpAny_loadPart_at hC ?_ | wp_step))
  refine ⟨rfl, ?_⟩
  refine codeAny_call_builtin_at (Code.quiet_builtin _ (by decide +kernel)) entry_typeCall (wpAny_check_type_call_sub hC (type_call_ownK F hT hC hi hb ?_))
  refine codeAny_mono hq fun r s' z => ?_
  rcases r with e | (v | _ | _ | _) <;> exact z
end
end ExS
end PySem
end
section
/-! an own exception whose __init__ says super().__init__("..") and keeps its one value: made, raised -/
namespace PySem
namespace ExS
open PySem.W PySem.Calls PyProof.Rows PySem.HandSPX
/-- the text of such an __init__(self, what) -/
def iB (m : Str) (kd : Nat) (q0 q1 q2 q3 q4 q5 q6 q7 q8 q9 : Pos) : List Stmt :=
  [.Expr (.Call (.Attribute (.Call (.Name "super" q0) [] [] q1) "__init__" q2) [.Constant (.str m) kd q3] [] q4) q5, .Assign [.Attribute (.Name "self" q6) "what" q7] (.Name "what" q8) q9]
/-- what the written part says of the class at C, and of its __init__, at fI -/
structure ExT (P : Program) (K : Frag) (mg : Str → Option Value) (C fI : Addr) : Prop where
  cls : ∃ nm q N bs bm sn sub ab col dd k0 k1 k2 k3 k5, K.lookup C = some (excClassObj nm q C N bs bm true sn sub ab col dd k0 k1 k2 k3 k5 "ValueError.__new__") ∧ refsVE bm = true
  sa : findIn K (.ref C) "__setattr__" = some (some (.builtin "object.__setattr__"))
  ga : findIn K (.ref C) "__getattribute__" = some (some (.builtin "BaseException.__getattribute__"))
  gg : findIn K (.ref C) "__getattr__" = some none
  noN : findIn K (.ref C) "what" = some none
  iC : findIn K (.ref C) "__init__" = some (some (.ref fI))
  tC : typeIn K (.ref fI) = some (.type "function")
  kC : keepIn K (.ref C) = true
  exC : subIn K (.ref C) (.type "BaseException") = some true
  veC : subIn K (.ref C) (.type "ValueError") = some true
  meC : mroIn K C (.ref C) = some true
  tyC : typeIn K (.ref C) = some (.type "type")
  hdC : hasDictIn K C = true
  suC : ks_superIn K C C "__init__" = some (some (.builtin "ValueError.__init__"))
  opC : nsIn K cStatics "thirdparty.any" = some none
  su : mg "super" = none
  fn : ∃ (oc : Value) (od : Option Addr) (doc pm : Value) (an : Option Addr) (ct : Value) (osl : Array (Option Value)) (params : Arguments) (scope : Scope) (qual : Str) (cda cc : Addr) (m : Str) (kd : Nat) (q0 q1 q2 q3 q4 q5 q6 q7 q8 q9 : Pos) (ar : Arg)
      (ccl cl : Value) (cdd cld : Option Addr) (vs : Array Value) (ccs csl : Array (Option Value)) (file : Str) (tf : Tok),
    K.lookup fI = some ⟨oc, od, .func (ksFn "__init__" qual params (iB m kd q0 q1 q2 q3 q4 q5 q6 q7 q8 q9) scope .none .none doc pm an (.ref cda) ct cc), osl⟩ ∧ codeIn K (.ref cda) qual = true ∧
    (∀ (s : Shared) (x v : Value), BindsTo s (ksFn "__init__" qual params (iB m kd q0 q1 q2 q3 q4 q5 q6 q7 q8 q9) scope .none .none doc pm an (.ref cda) ct cc) ⟨[x, v], []⟩ [("self", x), ("what", v)]) ∧
    (∀ (s : Shared) (x v : Value), BindsTo s (ksFn "__init__" qual params (iB m kd q0 q1 q2 q3 q4 q5 q6 q7 q8 q9) scope .none .none doc pm an (.ref cda) ct cc) ⟨[x], [("what", v)]⟩ [("self", x), ("what", v)]) ∧
    (params.posonlyargs ++ params.args).head? = some ar ∧ ar.arg = "self" ∧
    K.lookup cda = some ⟨ccl, cdd, .fields vs, ccs⟩ ∧ vs[2]? = some (.str file tf) ∧ ((P.main.file : Str) == file) = true ∧ (P.main.scope.names.lookup ("super" : Str)).isSome = false ∧
    K.lookup cc = some ⟨cl, cld, .cell (some (.ref C)), csl⟩ ∧
    scope.names.lookup ("super" : Str) = some .globalImplicit ∧ scope.names.lookup ("__class__" : Str) = some .free ∧ scope.names.lookup ("self" : Str) = some .local ∧ scope.names.lookup ("what" : Str) = some .local ∧ scope.kind = .function ∧
    (∀ x ∈ scope.names, x.2 ≠ .cell) ∧ scope.isCoroutine = false ∧ scope.isGenerator = false ∧ (q2.endLine == q4.line) = true
/-- what __init__ leaves of a fresh exception at x -/
structure InitEnd (h h' : Heap) (x C dx t1 : Addr) (v : Value) : Prop where
  keep : ∀ b o, b ≠ x → h.get? b = some o → h'.get? b = some o
  obj : h'.get? x = some { cls := .ref C, dict := some dx, data := .fields #[.ref t1, .none, .none, .none, .bool false, .none] }
  dbig : h.objs.size ≤ dx
  dne : dx ≠ x
  ns : h'.Ns1 dx (fun y => if y = "what" then some v else none)
section
variable {prog : Program} {w : World} {A : Around} {E : Value → Shared → Prop} {R : Result → Shared → Prop} {s : Shared} {K : Frag} {mg mb : Str → Option Value} {C fI : Addr}
theorem meth_eq {m : Str} {kd : Nat} {q0 q1 q2 q3 q4 : Pos} {env : Env} (hpos : (q2.endLine == q4.line) = true) : eval (.Call (.Attribute (.Call (.Name "super" q0) [] [] q1) "__init__" q2) [.Constant (.str m) kd q3] [] q4) env = (do
      let ov ← attributeBase (.Call (.Name "super" q0) [] [] q1) "__init__" env (eval (.Call (.Name "super" q0) [] [] q1) env)
      standAt q2.atName
      let (f, first) ← holding [ov] (getMethod ov "__init__" (do return (← importBound (.Call (.Name "super" q0) [] [] q1) env).getD true))
      callWith q4 f first (backTo q4 (starEach [.Constant (.str m) kd q3] env)) []) := by
  show (do
    let ov ← attributeBase (.Call (.Name "super" q0) [] [] q1) "__init__" env (eval (.Call (.Name "super" q0) [] [] q1) env)
    standAt q2.atName
    methodCall (.Call (.Name "super" q0) [] [] q1) "__init__" q2 q4 env ov 1 (backTo q4 (starEach [.Constant (.str m) kd q3] env)) []) = _
  have e : methodCallPos true (.Call (.Name "super" q0) [] [] q1) env q2 q4 = pure q4 := by
    unfold methodCallPos
    rw [hpos]
    rfl
  have e2 : methodCallForm 1 (backTo q4 (starEach [.Constant (.str m) kd q3] env)) [] = true := rfl
  unfold methodCall
  rw [e2, e]
  simp only [pure_bind]
  rfl
theorem ldX {M : Model} {env : Env} {m : Str → Option Value} {x : Str} {pos : Pos} {v : Value} {Q : Value → Shared → Prop} (hk : env.scope.kind = .function) (hl : env.kindOf x = some .local) (hn : s.heap.Ns env.locals m) (hv : m x = some v) (h : Q v s)
    (hd : (x == ("__debug__" : Str)) = false := by decide) : wpAny M A (eval (.Name x pos) env) Q E s := wpAny_Name (wpAny_loadName_local hk hl hn hv h) hd
theorem init_at (T : ExT prog K mg C fI) {x t0 : Addr} {v : Value} {args : Args} (hargs : args = ⟨[.ref x, v], []⟩ ∨ args = ⟨[.ref x], [("what", v)]⟩) (X : K.In s.heap) (hlim : s.heap.NoLimit) (hg : s.heap.Ns mainGlobals mg) (hb : s.heap.Ns builtinsNs mb) (hbs : mb "super" = some (.type "super"))
    (hx : s.heap.get? x = some (excO C t0)) (hnx : K.lookup x = none) (hroom : A.depth < recursionLimit)
    (hq : ∀ h' tk dx t1, InitEnd s.heap h' x C dx t1 v → R (.ok (.ret .none)) { s with heap := h', toks := tk }) :
    codeAny (model prog w) A (.call (.ref fI) args) R s := by
  obtain ⟨oc, od, doc, pm, an, ct, osl, params, scope, qual, cda, cc, m, kd, q0, q1, q2, q3, q4, q5, q6, q7, q8, q9, ar, ccl, cl, cdd, cld, vs, ccs, csl, file, tf, ho, hcd, hbind, hbindK, har, hars, hcode, hvs, hfile, htop, hcell, ks, kc, kself, kwhat, hkind, ncell, hco, hgen, hpos⟩ := T.fn
  obtain ⟨nm, q, N, bs, bm, sn, sub, ab, col, dd, k0, k1, k2, k3, k5, hC, hbm⟩ := T.cls
  have hcl : clsIn K C = some { name := nm, bases := bs, mro := .ref C :: bm, ns := N, qualname := q, hasDict := true, slotNames := sn, subclasses := sub, abstract := ab, collection := col, hasDel := false } := by unfold clsIn; rw [hC] <;> rfl
  refine ks_codeAny_call_defAt (binds := [("self", .ref x), ("what", v)]) hroom (X _ _ ho) rfl hlim (codeRec_of X hcd) rfl (by rcases hargs with rfl | rfl; exact hbind _ _ _; exact hbindK _ _ _) ncell (fun y hy => ?_) (fun h₁ hns hk => ?_) hco hgen hkind
  · rcases List.mem_cons.mp hy with rfl | hy
    · exact kself
    · cases List.mem_singleton.mp hy
      exact kwhat
  have X₁ : K.In h₁ := X.keeps hk
  have hx₁ := hk _ _ hx
  obtain ⟨hp, g, d, t, os⟩ := s
  show _root_.PySem.wpAt _ (A.deeper (ksEnv qual scope hp.objs.size fI (.ref cda) cc)) (.func (iB m kd q0 q1 q2 q3 q4 q5 q6 q7 q8 q9) (ksEnv qual scope hp.objs.size fI (.ref cda) cc)) (execs (iB m kd q0 q1 q2 q3 q4 q5 q6 q7 q8 q9) (ksEnv qual scope hp.objs.size fI (.ref cda) cc)) _ _ _
  refine ks_wpAt_execs_cons (ks_wpAt_Expr_any (ks_wpAt_MethodCall ?_ (meth_eq hpos)) (by simp [interactive, hkind]))
  have hDD := X₁ _ _ hC
  refine ks_wpAt_super_base (env := ksEnv qual scope hp.objs.size fI (.ref cda) cc) ks kc (by decide) rfl (X₁ _ _ ho) rfl har rfl (X₁ _ _ hcode) rfl hvs hfile htop ?_
  refine ks_loadName_global hkind ks (loadGlobal_builtin (env := ksEnv qual scope hp.objs.size fI (.ref cda) cc) (hg.keeps hk) T.su (hb.keeps hk) hbs ⟨rfl, ?_⟩)
  refine wpAny_loadName_free hkind kc rfl ⟨_, X₁ _ _ hcell, rfl⟩ ?_
  rw [hars]
  refine wpAny_loadName_local hkind kself hns (v := .ref x) (by first | rfl | with_unfolding_all rfl | kernel_rfl) ?_
  refine ks_wpAny_isType_cls hDD rfl ⟨rfl, ?_⟩
  refine ks_wpAny_call_super hDD rfl hx₁ rfl (fun c e => by cases e) (looks_mroIn X₁ T.meC) (fun h₂ e2 k2 => ?_)
  have X₂ : K.In h₂ := X₁.keeps k2
  have hx₂ := k2 _ _ hx₁
  have hal : alongIn K "__init__" (((Value.ref C :: bm).dropWhile (· != .ref C)).drop 1) = some (some (.builtin "ValueError.__init__")) := by
    have := T.suC
    unfold ks_superIn at this
    rw [hcl] at this
    exact this
  have hxC : x ≠ C := fun z => by
    rw [z, X₂ _ _ hC] at hx₂
    cases hx₂
  have I₂ : InstAt h₂ x (excO C t0) C none := ⟨hx₂, rfl, rfl, trivial⟩
  have hcl' : Looks (model prog w) h₂ (mroOf (.ref C)) (.ref C :: bm) := (looks_clsIn X₂ hcl).andThen .now
  refine kxs_getMethod kxs_ValueError e2 (looks_opaque X₂ T.opC) hcl' rfl X₂ hal (I₂.type.andThen (looks_subIn X₂ T.veC)) hxC (by decide) ?_
  have k3 : ∀ b o, h₂.get? b = some o → (h₂.push (kxs_mw "ValueError.__init__" x)).get? b = some o := fun b o e => Heap.get?_push_of_some _ e
  have hu : (h₂.push (kxs_mw "ValueError.__init__" x)).get? h₂.objs.size = some (kxs_mw "ValueError.__init__" x) := Heap.get?_push_at rfl rfl
  generalize h₂.push (kxs_mw "ValueError.__init__" x) = h₃ at k3 hu ⊢
  have X₃ : K.In h₃ := X₂.keeps k3
  have hx₃ := k3 _ _ hx₂
  dsimp only
  refine kxs_callWith (i := "ValueError.__init__") (x := x) rfl (evalArgs_plain (wpAny_items_cons (Constant_str (wpAny_items_nil ⟨hu, ?_⟩)))) 
  have FB := F.excBase_ValueError
  refine wpAny_call (codeAny_of_tree ?_)
  show wpAny _ _ (callAny (.ref h₂.objs.size) ⟨[Value.str m _], []⟩) _ _ _
  simp only [callAny]
  refine wpAny_bind (wpAny_load hu ?_)
  simp only [kxs_mw, show (Value.type "method-wrapper" == Value.type "method" || Value.type "method-wrapper" == Value.type "builtin_function_or_method" || Value.type "method-wrapper" == Value.type "method-wrapper") = true by decide, if_true]
  refine KFB.if_so (by decide) ?_
  refine wpAny_bind (check_bound_init FB.toExcCallFacts (X₃ _ _ hC) hx₃ rfl ?_)
  refine wpAny_bind (wpAny_pure (wpAny_pure ?_))
  refine ⟨plainId_quiet FB.init.plain _, codeAny_builtin FB.initEntry ?_⟩
  refine exc_init_tree (cls := .ref C) (t0 := t0) (dv := none) (c2 := .none) (c3 := .none) (b4 := .bool false) hx₃ (by rw [sizeLine_eq]; exact (by decide : 1 ≤ 16777216)) (fun h₄ k4 hx₄ ht₄ => ?_)
  show _root_.PySem.wpAt _ _ _ (execs _ _) _ _ _
  refine wpAt_of_wpAny ?_
  have k14 : ∀ b o, b ≠ x → h₁.get? b = some o → h₄.get? b = some o := fun b o hb e => k4 b o hb (k3 b o (k2 b o e))
  have L1 := hns.lt
  have hLx : hp.objs.size ≠ x := Nat.ne_of_gt (Heap.lt_size (show hp.get? x = some _ from hx))
  have hns4 : h₄.Ns hp.objs.size (fun y => ([(("self" : Str), Value.ref x), (("what" : Str), v)].reverse.lookup y)) := hns.at fun o e => k14 _ o hLx e
  have X₄ : K.In h₄ := fun a o e => k14 a o (fun z => by rw [z, hnx] at e; cases e) (X₁ a o e)
  refine wpAny_execs_cons (plainObj_wpAny_Assign_Attribute ?_)
  refine ldX hkind kwhat hns4 (v := v) (by first | rfl | with_unfolding_all rfl | kernel_rfl) (ldX hkind kself hns4 (v := .ref x) (by first | rfl | with_unfolding_all rfl | kernel_rfl) ?_)
  refine set_plain X₄ (ox := excO C h₃.objs.size) (od := none) ⟨hx₄, rfl, rfl, trivial⟩ T.sa ?_
  refine exc_osa X₄ hx₄ hcl (show refsVE (.ref C :: bm) = true from hbm) rfl T.noN (fun h₅ tk₅ dx k₅ dn dne hx₅ hn₅ => ?_)
  show wpAny _ _ (execs _ _) _ _ _
  have z : hp.objs.size < h₄.objs.size := hns4.lt
  exact wpAny_execs_nil (hq h₅ tk₅ dx h₃.objs.size ⟨fun b o hb e => k₅ b o hb (k14 b o hb (hk b o e)), hx₅, Nat.le_of_lt (Nat.lt_of_lt_of_le z dn), dne, hn₅⟩)
end
end ExS
end PySem
namespace L2
open PySem PySem.Spec PyProof.Rows
/-- C(e), C's own __init__ keeping e as what -/
def tMkW (C : Addr) (ta : TA) : St → Hp → XK → Prop := fun σ H Q => ta σ H fun vs H1 => ∃ v, vs = [v] ∧ ∀ d, H1 d = none → Q (.ref C) (some d) (upd H1 d (.xd [(("what" : Str), v)]))
theorem rel_what {v : V} {u : Value} (r : RelV v u) (f : Str) : RelO (List.lookup f [(("what" : Str), v)]) (if f = "what" then some u else none) := by
  have := relO_put (f := "what") (fs := []) (mA := fun _ => none) r (fun _ => True.intro) f
  exact this
section
variable {X : Cx} {C fI : Addr}
/-- behind such an __init__: the exception and its dict -/
theorem init_un {P : Program} {w : World} {fs : List Addr} {H1 : Hp} {h h' : Heap} {a d t1 : Addr} {v : V} {u : Value} (hok : HOk P w (upd H1 a (exo a C none)) h) (M : PySem.ExS.InitEnd h h' a C d t1 u) (r : RelV v u) (ha : a < h.objs.size) :
    Un fs [] (upd H1 a (exo a C none)) (upd (upd H1 d (exd d [(("what" : Str), v)])) a (exo a C (some d))) h h' ∧ HOk P w (upd (upd H1 d (exd d [(("what" : Str), v)])) a (exo a C (some d))) h' := by
  have hd : upd H1 a (exo a C none) d = none := hok.fresh M.dbig
  have na : ∀ {b : Addr}, upd H1 a (exo a C none) b = none → b ≠ a := fun {b} n z => by
    rw [z, upd_same] at n
    cases n
  have nd : ∀ {b : Addr} {o : Obj}, h.get? b = some o → b ≠ d := fun {b o} e => Nat.ne_of_lt (Nat.lt_of_lt_of_le (Heap.lt_size e) M.dbig)
  have same : ∀ {b : Addr}, b ≠ a → b ≠ d → upd (upd H1 d (exd d [(("what" : Str), v)])) a (exo a C (some d)) b = upd H1 a (exo a C none) b := fun {b} h1 h2 => by rw [upd_ne h1, upd_ne h2, upd_ne h1]
  have far : ∀ {b : Addr} {o : HO}, upd H1 a (exo a C none) b = some o → b ≠ d := fun {b o} e z => by
    rw [z, hd] at e
    cases e
  refine ⟨⟨fun b o e n _ _ => M.keep b o (na n) e, fun b o e n _ _ => ⟨o.slots, M.keep b o (na n) e⟩, fun b o e n _ => by rw [same (na n) (nd e)]; exact n, fun b o e _ => ?_, fun b xs e => ?_, fun b o w' e => ?_, fun b ps e => ?_⟩, fun b o e => ?_⟩
  · by_cases hb : b = a
    · rw [hb]
      exact ⟨_, M.obj⟩
    · exact ⟨o, M.keep b o hb e⟩
  · have hb : b ≠ a := fun z => by
      rw [z, upd_same] at e
      exact exo_tup (Option.some.inj e)
    rw [same hb (far e)]
    exact e
  · have hb : b ≠ a := fun z => by
      rw [z, upd_same] at e
      exact exo_frz (Option.some.inj e)
    rw [same hb (far e)]
    exact e
  · have hb : b ≠ a := fun z => by
      rw [z, upd_same] at e
      exact exo_tbl (Option.some.inj e)
    rw [same hb (far e)]
    exact ⟨#[], by rw [e]; simp⟩
  · by_cases hb : b = a
    · subst hb
      rw [upd_same] at e
      cases e
      exact exo_ok M.obj
    · by_cases hbd : b = d
      · subst hbd
        rw [upd_ne hb, upd_same] at e
        cases e
        exact exd_ok M.ns (rel_what r)
      · rw [same hb hbd] at e
        have noa : ∀ {c : Addr}, upd H1 a (exo a C none) c = some (.own b) → c ≠ a := fun {c} hc z => by
          rw [z, upd_same] at hc
          exact exo_own (Option.some.inj hc)
        refine (hok b o e).stay (fun c v' hc y => M.keep c v' ?_ y) (fun c hc => by rw [same (noa hc) (far hc)]; exact hc) fun c xs hc => ?_
        · rcases hc with hc | hc
          · rw [hc]
            exact hb
          · exact noa hc
        · have hca : c ≠ a := fun z => by
            rw [z, upd_same] at hc
            exact exo_tup (Option.some.inj hc)
          rw [same hca (far hc)]
          exact hc
theorem pmk_what {x : Str} {e : Expr} {ta : TA} {p pos : Pos} {k : Nat} (T : PySem.ExS.ExT X.prog X.K X.mg C fI) (hr : Room (k + 1) X.A) (ha : PA X [e] ta) (hg : Gl X x) (hm : X.mg x = some (.ref C))
    (hdb : (x == ("__debug__" : Str)) = false := by decide) (he : starEach (e :: []) X.env = (false, eval e X.env) :: starEach [] X.env := by rfl) (hpl : (backTo pos (starEach [] X.env)).any (·.1) = false := by rfl) :
    PMk X (.Call (.Name x p) [e] [] pos) (tMkW C ta) := by
  intro pins s σ H Q I h
  obtain ⟨nm, q, N, bs, bm, sn, sub, ab, col, dd, k0, k1, k2, k3, k5, hC, hbm⟩ := T.cls
  refine wpAny_Call_Name_kw (ld_glob I hg hm ?_ hdb)
  refine PySem.W.callWith_K (h₀ := X.base) I.ok.mod.kin T.kC (thn (ha.run pos pins s σ H _ I h) fun us s1 ⟨vs, H1, I1, r1, v, ev, q1⟩ => ⟨I1.kIn, ?_⟩) he hpl
  show wpAny _ _ (call (.ref C) us) _ _ _
  subst ev
  obtain ⟨u, rfl, ru⟩ := vals1 r1
  have hlim := I1.nolimit
  obtain ⟨mb, hb1, hb2⟩ := I1.mod.blt
  have hgl := I1.mod.glob.keeps I1.bk
  have hbl := hb1.keeps I1.bk
  obtain ⟨hp, g, dr, tk, os⟩ := s1
  have kk : ∀ b o, hp.get? b = some o → ((hp.push (PySem.W.kdv_tup [u])).push (PySem.HandSPX.excO C hp.objs.size)).get? b = some o := fun b o e => Heap.get?_push_of_some _ (Heap.get?_push_of_some _ e)
  have hget : ((hp.push (PySem.W.kdv_tup [u])).push (PySem.HandSPX.excO C hp.objs.size)).get? (hp.objs.size + 1) = some (PySem.HandSPX.excO C hp.objs.size) := by heap_get
  have hsz : hp.objs.size ≤ hp.objs.size + 1 := Nat.le_succ _
  have I2 : Inv X pins σ (upd H1 (hp.objs.size + 1) (exo (hp.objs.size + 1) C none)) ⟨(hp.push (PySem.W.kdv_tup [u])).push (PySem.HandSPX.excO C hp.objs.size), g, dr, tk, os⟩ :=
    I1.laid (t' := tk) (a := hp.objs.size + 1) (o := exo (hp.objs.size + 1) C none) (h' := (hp.push (PySem.W.kdv_tup [u])).push (PySem.HandSPX.excO C hp.objs.size)) kk hsz (exo_ok hget)
  have hnx : X.K.lookup (hp.objs.size + 1) = none := by
    cases z : X.K.lookup (hp.objs.size + 1) with
    | none => rfl
    | some o => exact absurd (Nat.lt_of_succ_lt (Heap.lt_size (I1.kIn _ _ z))) (Nat.lt_irrefl _)
  refine wpAny_call (PySem.HandSPX.call_own F.excBase_ValueError (fun Y => PySem.HandSPX.refsVE_contains Y bm hbm) (I1.kIn _ _ hC) (PySem.W.looks_findIn I1.kIn T.iC) (fun self => PySem.W.bind_fn I1.kIn self T.tC) (by rw [sizeLine_eq]; exact (by decide : 1 ≤ 16777216)) ?_)
  refine PySem.ExS.init_at (s := ⟨(hp.push (PySem.W.kdv_tup [u])).push (PySem.HandSPX.excO C hp.objs.size), g, dr, tk, os⟩) T (.inl rfl) I2.kIn (hlim.keeps kk) (hgl.keeps kk) (hbl.keeps kk) ((hb2 "super" (by decide)).trans (by decide +kernel)) hget hnx ?_ fun h' tk' dx t1 M => ⟨rfl, ?_⟩
  · have := hr.dp
    show X.A.depth + 1 < recursionLimit
    omega
  · obtain ⟨un, hok⟩ := init_un (fs := frs X.stack) I2.hok M ru (Heap.lt_size hget)
    have hd2 : upd H1 (hp.objs.size + 1) (exo (hp.objs.size + 1) C none) dx = none := I2.hok.fresh M.dbig
    have hd1 : H1 dx = none := by
      rw [upd_ne M.dne] at hd2
      exact hd2
    have ea : upd (upd H1 dx (exd dx [(("what" : Str), v)])) (hp.objs.size + 1) (exo (hp.objs.size + 1) C (some dx)) (hp.objs.size + 1) = some (exo (hp.objs.size + 1) C (some dx)) := upd_same
    have ed : upd (upd H1 dx (exd dx [(("what" : Str), v)])) (hp.objs.size + 1) (exo (hp.objs.size + 1) C (some dx)) dx = some (exd dx [(("what" : Str), v)]) := by rw [upd_ne M.dne, upd_same]
    have eq : upd (del (upd (upd H1 dx (exd dx [(("what" : Str), v)])) (hp.objs.size + 1) (exo (hp.objs.size + 1) C (some dx))) (hp.objs.size + 1)) dx (.xd [(("what" : Str), v)]) = upd H1 dx (.xd [(("what" : Str), v)]) := by
      funext b
      by_cases h1 : b = dx
      · rw [h1, upd_same, upd_same]
      · rw [upd_ne h1, upd_ne h1]
        by_cases h2 : b = hp.objs.size + 1
        · rw [h2, del_same]
          exact (I1.hok.fresh hsz).symm
        · rw [del_ne h2, upd_ne h2, upd_ne h1]
    have qq := q1 dx hd1
    rw [← eq] at qq
    exact mk_end (raises_own T.exC T.tyC) I1 hsz kk un hok rfl I1.bare ea ed hd1 qq
/-- C(what = e) -/
theorem pmk_whatK {x : Str} {kws : List Keyword} {ta : TA} {p pos : Pos} {k : Nat} (T : PySem.ExS.ExT X.prog X.K X.mg C fI) (hr : Room (k + 1) X.A) (hkw : PK X kws ta) (hg : Gl X x) (hm : X.mg x = some (.ref C))
    (hall : (backToKw pos (keywordEach kws X.env)).all (·.1.isSome) = true := by rfl) (hks : (backToKw pos (keywordEach kws X.env)).filterMap (·.1) = [("what" : Str)] := by rfl)
    (hdb : (x == ("__debug__" : Str)) = false := by decide)
    (hpl : ((backTo pos (starEach [] X.env)).any (·.1) || (backToKw pos (keywordEach kws X.env)).any (·.1.isNone)) = false := by rfl) :
    PMk X (.Call (.Name x p) [] kws pos) (tMkW C ta) := by
  intro pins s σ H Q I h
  obtain ⟨nm, q, N, bs, bm, sn, sub, ab, col, dd, k0, k1, k2, k3, k5, hC, hbm⟩ := T.cls
  refine wpAny_Call_Name_kw (ld_glob I hg hm ?_ hdb)
  refine PySem.W.callWith_KW0 (h₀ := X.base) I.ok.mod.kin T.kC hall ?_ hpl
  refine thn (hkw.run pos pins s σ H _ I h) fun us s1 ⟨vs, H1, I1, r1, v, ev, q1⟩ => ⟨I1.kIn, ?_⟩
  rw [hks]
  subst ev
  obtain ⟨u, rfl, ru⟩ := vals1 r1
  show wpAny _ _ (call (.ref C) [] [("what", u)]) _ _ _
  have hlim := I1.nolimit
  obtain ⟨mb, hb1, hb2⟩ := I1.mod.blt
  have hgl := I1.mod.glob.keeps I1.bk
  have hbl := hb1.keeps I1.bk
  obtain ⟨hp, g, dr, tk, os⟩ := s1
  have kk : ∀ b o, hp.get? b = some o → ((hp.push (PySem.W.kdv_tup [])).push (PySem.HandSPX.excO C hp.objs.size)).get? b = some o := fun b o e => Heap.get?_push_of_some _ (Heap.get?_push_of_some _ e)
  have hget : ((hp.push (PySem.W.kdv_tup [])).push (PySem.HandSPX.excO C hp.objs.size)).get? (hp.objs.size + 1) = some (PySem.HandSPX.excO C hp.objs.size) := by heap_get
  have hsz : hp.objs.size ≤ hp.objs.size + 1 := Nat.le_succ _
  have I2 : Inv X pins σ (upd H1 (hp.objs.size + 1) (exo (hp.objs.size + 1) C none)) ⟨(hp.push (PySem.W.kdv_tup [])).push (PySem.HandSPX.excO C hp.objs.size), g, dr, tk, os⟩ :=
    I1.laid (t' := tk) (a := hp.objs.size + 1) (o := exo (hp.objs.size + 1) C none) (h' := (hp.push (PySem.W.kdv_tup [])).push (PySem.HandSPX.excO C hp.objs.size)) kk hsz (exo_ok hget)
  have hnx : X.K.lookup (hp.objs.size + 1) = none := by
    cases z : X.K.lookup (hp.objs.size + 1) with
    | none => rfl
    | some o => exact absurd (Nat.lt_of_succ_lt (Heap.lt_size (I1.kIn _ _ z))) (Nat.lt_irrefl _)
  refine wpAny_call (PySem.ExS.call_ownK F.excBase_ValueError (fun Y => PySem.HandSPX.refsVE_contains Y bm hbm) (I1.kIn _ _ hC) (PySem.W.looks_findIn I1.kIn T.iC) (fun self => PySem.W.bind_fn I1.kIn self T.tC) ?_)
  refine PySem.ExS.init_at (s := ⟨(hp.push (PySem.W.kdv_tup [])).push (PySem.HandSPX.excO C hp.objs.size), g, dr, tk, os⟩) T (.inr rfl) I2.kIn (hlim.keeps kk) (hgl.keeps kk) (hbl.keeps kk) ((hb2 "super" (by decide)).trans (by decide +kernel)) hget hnx ?_ fun h' tk' dx t1 M => ⟨rfl, ?_⟩
  · have := hr.dp
    show X.A.depth + 1 < recursionLimit
    omega
  · obtain ⟨un, hok⟩ := init_un (fs := frs X.stack) I2.hok M ru (Heap.lt_size hget)
    have hd2 : upd H1 (hp.objs.size + 1) (exo (hp.objs.size + 1) C none) dx = none := I2.hok.fresh M.dbig
    have hd1 : H1 dx = none := by
      rw [upd_ne M.dne] at hd2
      exact hd2
    have ea : upd (upd H1 dx (exd dx [(("what" : Str), v)])) (hp.objs.size + 1) (exo (hp.objs.size + 1) C (some dx)) (hp.objs.size + 1) = some (exo (hp.objs.size + 1) C (some dx)) := upd_same
    have ed : upd (upd H1 dx (exd dx [(("what" : Str), v)])) (hp.objs.size + 1) (exo (hp.objs.size + 1) C (some dx)) dx = some (exd dx [(("what" : Str), v)]) := by rw [upd_ne M.dne, upd_same]
    have eq : upd (del (upd (upd H1 dx (exd dx [(("what" : Str), v)])) (hp.objs.size + 1) (exo (hp.objs.size + 1) C (some dx))) (hp.objs.size + 1)) dx (.xd [(("what" : Str), v)]) = upd H1 dx (.xd [(("what" : Str), v)]) := by
      funext b
      by_cases h1 : b = dx
      · rw [h1, upd_same, upd_same]
      · rw [upd_ne h1, upd_ne h1]
        by_cases h2 : b = hp.objs.size + 1
        · rw [h2, del_same]
          exact (I1.hok.fresh hsz).symm
        · rw [del_ne h2, upd_ne h2, upd_ne h1]
    have qq := q1 dx hd1
    rw [← eq] at qq
    exact mk_end (raises_own T.exC T.tyC) I1 hsz kk un hok rfl I1.bare ea ed hd1 qq
/-- an exception made, as a value -/
def tMkV (C : Addr) (ta : TA) : TE := fun σ H Q => tMkW C ta σ H fun cls d H1 => ∀ a, H1 a = none → Q (.ref a) (upd H1 a (exk a cls d))
theorem pe_of_mk {e : Expr} {ta : TA} (he : PMk X e (tMkW C ta)) : PE X e (tMkV C ta) := by
  refine ⟨fun pins s σ H Q I h => ?_⟩
  refine thn (he pins s σ H _ I h) fun u s1 hu => ?_
  obtain ⟨a, oe, vs, sI, H', cls, d, rfl, J, k, hne, ha, hz, hd, h1, na, os, ag, r, q⟩ := hu
  have J2 := J.laidN (t' := sI.toks) k hne na (exk_ok ha ⟨vs, hd⟩ hz)
  exact ⟨.ref a, upd H' a (exk a cls d), ⟨J2.ok, os.trans J2.os, ag, J2.base, J2.loc, J2.cell, J2.free, J2.freeC, J2.pin, J2.hok, J2.len⟩, rfl, q a na⟩
end
end L2
end
section
/-! own classes: instances in the store -/
namespace DL
open PySem L2
def putD (f : Str) (v : DV) : List (Str × DV) → List (Str × DV)
  | [] => [(f, v)]
  | (g, x) :: r => if g = f then (g, v) :: r else (g, x) :: putD f v r
section
variable {K : PySem.W.Frag} {mg : Str → Option Value} {W W' : Wd} {S : Sto}
theorem FsR.put {f : Str} {d : DV} {v : V} (hd : Den K W d v) : ∀ {fs : List (Str × DV)} {vs : List (Str × V)}, FsR K W fs vs → FsR K W (putD f d fs) (putF f v vs)
  | [], _, h => by
    cases (show _ = [] from h)
    exact ⟨v, [], rfl, hd, rfl⟩
  | (g, x) :: fs, _, h => by
    obtain ⟨u, r, rfl, h1, h2⟩ := h
    unfold putD putF
    by_cases e : g = f
    · rw [if_pos e, if_pos e]
      exact ⟨v, r, rfl, hd, h2⟩
    · rw [if_neg e, if_neg e]
      exact ⟨u, _, rfl, h1, FsR.put hd h2⟩
theorem FsR.len : ∀ {fs : List (Str × DV)} {vs : List (Str × V)}, FsR K W fs vs → vs.length = fs.length
  | [], _, h => by
    cases (show _ = [] from h)
    rfl
  | p :: fs, _, h => by
    obtain ⟨u, r, rfl, _, h2⟩ := h
    simp [FsR.len h2]
variable {ta tv : TE} {fe fv : DE} {taa : TA} {faa : DA} {c f m : Str} {C : Addr}
/-- an instance is made -/
def mkD (c : Str) (g : List DV → Sto → Option (DV × Sto)) (xs : List DV) (S : Sto) : Option (DV × Sto) := match g (.ptr S.length :: xs) (S ++ [.ins c []]) with
  | some (.non, S2) => some (.ptr S.length, S2)
  | _ => none
end
end DL
end
section
/-! refusals as data: statements that may raise an own exception which keeps one value -/
namespace DL
open PySem PyProof.Rows PySem.Spec L2
/-- how a block ends: as ever, or by a refusal of the class c that keeps w -/
inductive XRes where
  | ok (r : Res)
  | ex (c : Str) (w : DV) (s : Sl) (S : Sto)
/-- how a def ends -/
inductive XR where
  | val (d : DV) (S : Sto)
  | exc (c : Str) (w : DV) (S : Sto)
abbrev DX := Sl → Sto → Option XRes
section
variable (K : PySem.W.Frag) (mg : Str → Option Value)
def XPost (Wx : WX) (W : Wd) (D : Ends) : XRes → Prop
  | .ok r => Post K mg W D r
  | .ex c w s S => ∀ C v dx σ' W', mg c = some (.ref C) → Ext W W' → Rep K mg W' S → Slo K W' σ' s → Den K W' w v → W'.H dx = none → Wx (.ref C) (some dx) σ' (upd W'.H dx (.xd [(("what" : Str), v)]))
def RSX (Wx : WX) (ts : TS) (f : DX) : Prop := ∀ (W : Wd) (σ : L2.St) (s : Sl) (S : Sto) (r : XRes) (D : Ends), Rep K mg W S → Slo K W σ s → f s S = some r → XPost K mg Wx W D r → ts D σ W.H
/-- what such a def promises -/
def spX (n : Nat) (g : List DV → Sto → Option XR) : Sp := fun vs H Q E => vs.length = n ∧ ∃ (W : Wd) (S : Sto) (ds : List DV) (r : XR), W.H = H ∧ Rep K mg W S ∧ Dens K W ds vs ∧ g ds S = some r ∧ match r with
  | .val d S' => ∀ v W', Ext W W' → Rep K mg W' S' → Den K W' d v → Q v W'.H
  | .exc c w S' => ∀ C v dx W', mg c = some (.ref C) → Ext W W' → Rep K mg W' S' → Den K W' w v → W'.H dx = none → E (.ref C) (some dx) (upd W'.H dx (.xd [(("what" : Str), v)]))
end
section
variable {K : PySem.W.Frag} {mg : Str → Option Value} {Wx : WX} {t u ts : TS} {f g : DX}
theorem XPost.ext {W W' : Wd} {D : Ends} {r : XRes} (e : Ext W W') (h : XPost K mg Wx W D r) : XPost K mg Wx W' D r := by
  cases r with
  | ok r => exact Post.ext e h
  | ex c w s S => exact fun C v dx σ' W'' hc e' => h C v dx σ' W'' hc (e.trans e')
def dOkX (f : DS) : DX := fun s S => match f s S with
  | some r => some (.ok r)
  | none => none
theorem rx_ok {f : DS} (h : RS K mg t f) : RSX K mg Wx t (dOkX f) := by
  intro W σ s S r D R L e P
  unfold dOkX at e
  split at e
  · rename_i r' e1
    cases e
    exact h W σ s S r' D R L e1 P
  · cases e
/-- raise C(e) -/
def tRaiseW (C : Addr) (Wx : WX) (te : TE) : TS := fun _ σ H => tMkW C (tCons te tNil) σ H fun cls d H' => Wx cls d σ H'
def dRaise (c : Str) (fe : DE) : DX := fun s S => bnd (fe s S) fun w S1 => some (.ex c w s S1)
theorem rx_raise {C : Addr} {c : Str} {te : TE} {fe : DE} (hc : mg c = some (.ref C)) (h : RE K mg te fe) : RSX K mg Wx (tRaiseW C Wx te) (dRaise c fe) := by
  intro W σ s S r D R L e P
  obtain ⟨w, S1, e1, e⟩ := bnd_inv e
  cases e
  refine h W σ s S w S1 _ R L e1 fun v W1 x1 R1 d1 => ⟨v, rfl, fun d hd => P C v d σ W1 hc x1 R1 (L.ext x1) d1 hd⟩
def dSeqX (f g : DX) : DX := fun s S => match f s S with
  | some (.ok (.nx s1 S1)) => g s1 S1
  | r => r
theorem rx_seq (hf : RSX K mg Wx t f) (hg : RSX K mg Wx u g) : RSX K mg Wx (tSeq t u) (dSeqX f g) := by
  intro W σ s S r D R L e P
  unfold dSeqX at e
  split at e
  · rename_i s1 S1 e1
    exact hf W σ s S _ _ R L e1 fun σ' W' x' R' L' => hg W' σ' s1 S1 r D R' L' e (P.ext x')
  · rename_i e1
    refine hf W σ s S r _ R L e ?_
    cases r with
    | ex c w s2 S2 => exact P
    | ok r =>
      cases r with
      | nx s2 S2 => exact absurd e (e1 s2 S2)
      | rt d S2 => exact P
      | bk s2 S2 => exact P
      | ct s2 S2 => exact P
def dIfX (c : DT) (f g : DX) : DX := fun s S => bnd (c s S) fun b S1 => if b = true then f s S1 else g s S1
theorem rx_if {tc : TT} {fc : DT} (hc : RT K mg tc fc) (hf : RSX K mg Wx t f) (hg : RSX K mg Wx u g) : RSX K mg Wx (tIfS tc t u) (dIfX fc f g) := by
  intro W σ s S r D R L e P
  obtain ⟨b, S1, e1, e⟩ := bnd_inv e
  refine hc W σ s S b S1 _ R L e1 fun W1 x1 R1 => ?_
  cases b with
  | true => exact hf W1 σ s S1 r D R1 (L.ext x1) e (P.ext x1)
  | false => exact hg W1 σ s S1 r D R1 (L.ext x1) e (P.ext x1)
/-- a call that may raise, as a statement -/
def dCallX (n : Nat) (g : List DV → Sto → Option XR) (fa : DA) : DX := fun s S => bnd (fa s S) fun xs S1 => if xs.length = n then (match g xs S1 with
  | some (.val _ S2) => some (.ok (.nx s S2))
  | some (.exc c w S2) => some (.ex c w s S2)
  | none => none) else none
theorem rx_call {n : Nat} {gf : List DV → Sto → Option XR} {ta : TA} {fa : DA} (h : RA K mg ta fa) : RSX K mg Wx (tDrop (tCallS (spX K mg n gf) (WE Wx) ta)) (dCallX n gf fa) := by
  intro W σ s S r D R L e P
  obtain ⟨xs, S1, e1, e⟩ := bnd_inv e
  split at e
  · rename_i hn
    refine h W σ s S xs S1 _ R L e1 fun vs W1 x1 R1 d1 => ?_
    split at e
    · rename_i d S2 e2
      cases e
      exact ⟨by rw [d1.len]; exact hn, W1, S1, xs, .val d S2, rfl, R1, d1, e2, fun v W2 x2 R2 d2 => P σ W2 (x1.trans x2) R2 (L.ext (x1.trans x2))⟩
    · rename_i c w S2 e2
      cases e
      exact ⟨by rw [d1.len]; exact hn, W1, S1, xs, .exc c w S2, rfl, R1, d1, e2, fun C v dx W2 hc x2 R2 d2 hd => P C v dx σ W2 hc (x1.trans x2) R2 (L.ext (x1.trans x2)) d2 hd⟩
    · cases e
  · cases e
/-- a loop whose turns may raise -/
def forFX (tgt : DG) (body : DX) (it : DIt) : Nat → Nat → DX
  | 0, _ => fun _ _ => none
  | k + 1, i => fun s S => match itemAt it S i with
    | none => none
    | some none => some (.ok (.nx s S))
    | some (some d) => match tgt d s S with
      | none => none
      | some p => match body p.1 p.2 with
        | none => none
        | some (.ex c w s2 S2) => some (.ex c w s2 S2)
        | some (.ok (.nx s2 S2)) => forFX tgt body it k (i + 1) s2 S2
        | some (.ok (.ct s2 S2)) => forFX tgt body it k (i + 1) s2 S2
        | some (.ok (.bk s2 S2)) => some (.ok (.nx s2 S2))
        | some (.ok (.rt d2 S2)) => some (.ok (.rt d2 S2))
def dForX (fi : DI) (tgt : DG) (body : DX) : DX := fun s S => bnd (fi s S) fun it S1 => forFX tgt body it (itLen it S1 + 1) 0 s S1
theorem rx_for {wi : TI} {fi : DI} {tg : TG} {fg : DG} {tb : TS} {fb : DX} (hi : RI K mg wi fi) (hg : RG K mg tg fg) (hb : RSX K mg Wx tb fb) : RSX K mg Wx (tFor wi tg tb) (dForX fi fg fb) := by
  intro W σ s S r D R L e P
  obtain ⟨it, S1, e1, e⟩ := bnd_inv e
  refine hi W σ s S it S1 _ R L e1 fun J W1 x1 R1 hJ => ?_
  have P1 := P.ext x1
  refine ⟨fun i m σ' H' => ∃ W' s' S', W'.H = H' ∧ Ext W1 W' ∧ Rep K mg W' S' ∧ Slo K W' σ' s' ∧ forFX fg fb it m i s' S' = some r, ⟨_, W1, s, S1, rfl, Ext.refl W1, R1, L.ext x1, e⟩, ?_⟩
  rintro i m σ2 H2 ⟨W2, s2, S2, rfl, x2, R2, L2', e2⟩
  have hJ2 := hJ.ext0 x2.toEx0
  cases m with
  | zero => cases e2
  | succ m =>
    unfold forFX at e2
    split at e2
    · cases e2
    · rename_i hit
      cases e2
      exact .inl ⟨item_stop R2 hJ2 hit, P1 σ2 W2 x2 R2 L2'⟩
    · rename_i d hit
      obtain ⟨hgo, hy⟩ := item_go R2 hJ2 hit
      refine .inr ⟨hgo, fun σ' H' => ∃ W' s' S', W'.H = H' ∧ Ext W1 W' ∧ Rep K mg W' S' ∧ Slo K W' σ' s' ∧ forFX fg fb it m (i + 1) s' S' = some r, fun σ' H' h => ⟨m, Nat.lt_succ_self m, h⟩, fun x H' y => ?_⟩
      obtain ⟨W3, rfl, x3, R3, d3⟩ := hy x H' y
      split at e2
      · cases e2
      · rename_i p ep
        refine hg W3 σ2 s2 S2 d x p.1 p.2 _ R3 (L2'.ext x3) d3 ep fun σ4 W4 x4 R4 L4 => ?_
        have x14 : Ext W1 W4 := (x2.trans x3).trans x4
        split at e2
        · cases e2
        · rename_i c w s5 S5 er
          cases e2
          exact hb W4 σ4 p.1 p.2 _ _ R4 L4 er fun C v dx σ5 W5 hc x5 R5 L5 d5 hd => P1 C v dx σ5 W5 hc (x14.trans x5) R5 L5 d5 hd
        · rename_i s5 S5 er
          exact hb W4 σ4 p.1 p.2 _ _ R4 L4 er fun σ5 W5 x5 R5 L5 => ⟨W5, s5, S5, rfl, x14.trans x5, R5, L5, e2⟩
        · rename_i s5 S5 er
          exact hb W4 σ4 p.1 p.2 _ _ R4 L4 er fun σ5 W5 x5 R5 L5 => ⟨W5, s5, S5, rfl, x14.trans x5, R5, L5, e2⟩
        · rename_i s5 S5 er
          cases e2
          exact hb W4 σ4 p.1 p.2 _ _ R4 L4 er fun σ5 W5 x5 R5 L5 => P1 σ5 W5 (x14.trans x5) R5 L5
        · rename_i d5 S5 er
          cases e2
          exact hb W4 σ4 p.1 p.2 _ _ R4 L4 er fun v W5 x5 R5 d5' => P1 v W5 (x14.trans x5) R5 d5'
/-- a def that may raise, as a function of data -/
noncomputable def fnX (m : Option Bool) (n : Nat) (body : DX) : List DV → Sto → Option XR := fun ds S => match body (startD n ds) S with
  | some (.ok (.nx _ S1)) => (match exF m S .non S1 with
    | some (d2, S2) => some (.val d2 S2)
    | none => none)
  | some (.ok (.rt d S1)) => (match exF m S d S1 with
    | some (d2, S2) => some (.val d2 S2)
    | none => none)
  | some (.ex c w _ S1) => some (.exc c w S1)
  | _ => none
end
end DL
end
section
/-! iterators that come to their end while an exception is handled -/
namespace HotY
open PySem PySem.Spec PyProof.Rows HotX
section
variable {prog : Program} {w : World} {A : Around} {E : Value → Shared → Prop} {s : Shared}
/-- StopIteration made and raised there: a new object, all else as it was -/
theorem stop_raised {α : Type} {x1 : Addr} {k : Value → Sem α} {Q : α → Shared → Prop} (hot : HotAt A x1 s.heap) (hk : ∀ a : Addr, k (.ref a) = raiseNew (.ref a))
    (hE : ∀ (a : Addr) (h' : Heap), (∀ b o, s.heap.get? b = some o → h'.get? b = some o) → (∃ o, h'.get? a = some o ∧ o.cls = .type "StopIteration") → E (.ref a) { s with heap := h' }) :
    wpAny (model prog w) A (newExc (.type "StopIteration") [] >>= k) Q E s := by
  obtain ⟨hd, ob, fs, g1, g2, g3⟩ := hot
  have p1 : ∀ (hh : Heap) (u : Obj) (b : Addr) (o : Obj), hh.get? b = some o → (hh.push u).get? b = some o := fun hh u b o e => Heap.get?_push_of_some _ e
  refine wpAny_bind ?_
  unfold newExc
  simp only [newTuple]
  refine wpAny_bind (wpAny_newObj_type ?_ (by size_fits))
  refine wpAny_bind (m := firstArgMember _ _) (wpAny_of_eq (a := Value.none) (by first | rfl | (simp only [firstArgMember]; rfl)) (wpAny_newObj_type ?_ (by size_fits)))
  rw [hk]
  refine raiseNew_hot (x1 := x1) ⟨hd, ob, fs, p1 _ _ _ _ (p1 _ _ _ _ g1), g2, g3⟩ (fun z => ?_) (Heap.get?_push_size _ rfl) rfl (by first | (simp; done) | (simp; omega) | (simp only [Array.size_append]; simp; omega)) (hE _ _ (fun b o e => ?_) ⟨_, Heap.get?_update_self _ (Heap.get?_push_size _ rfl) rfl, rfl⟩)
  · have q := Heap.lt_size (p1 _ (PySem.W.kdv_tup []) _ _ g1)
    rw [Heap.size_push] at q
    rw [Heap.size_push] at z
    rw [z] at q
    exact Nat.lt_irrefl _ q
  · have q := Heap.lt_size (p1 _ (PySem.W.kdv_tup []) _ _ e)
    rw [Heap.get?_update_other _ _ (fun z => ?_)]
    · exact p1 _ _ _ _ (p1 _ _ _ _ e)
    · rw [Heap.size_push] at q z
      rw [← z] at q
      exact Nat.lt_irrefl _ q
/-- a list's iterator at its end -/
theorem list_ended {ia la x1 : Addr} {i : Nat} {xs : Array Value} {Q : Option Value → Shared → Prop} (hot : HotAt A x1 s.heap) (ni : x1 ≠ ia) (hit : s.heap.IsListIter ia la i) (hl : s.heap.IsList la xs) (hx : xs[i]? = none)
    (hQ : ∀ h', (∀ b o, b ≠ ia → s.heap.get? b = some o → h'.get? b = some o) → Q none { s with heap := h' }) : wpAny (model prog w) A (pyNext (.ref ia)) Q E s := by
  obtain ⟨u, gu, cu, du⟩ := id hit
  obtain ⟨ul, gl, _, _, dl⟩ := hl
  unfold pyNext
  refine wpAny_bind (wpAny_attempt (wpAny_callSpecial?_slot (name := Str.ofString "__next__") hit.typeIs slot_listiter_next (wpAny_call_entry slot_listiter_next hit.typeIs entry_listiter_next ?_ (args_listiter_next _))))
  show wpAny _ _ (field (.ref ia) 0 >>= _) _ _ s
  refine wpAny_bind (wpAny_field gu du (x := .ref la) rfl ?_)
  show wpAny _ _ (if (Value.ref la == Value.none) = true then _ else _) _ _ s
  rw [if_neg (show ¬ ((Value.ref la == Value.none) = true) from Bool.false_ne_true)]
  show wpAny _ _ (field (.ref ia) 1 >>= _) _ _ s
  refine wpAny_bind (wpAny_field gu du (x := .int i 0) rfl ?_)
  show wpAny _ _ (seqItems? (.ref la) >>= _) _ _ s
  refine wpAny_bind (wpAny_seqItems gl dl ?_)
  simp only [Int.toNat_natCast, hx]
  refine wpAny_bind (wpAny_rule (wpAny_bind (wpAny_setField gu du (by simp) ?_)))
  have other : ∀ b o, b ≠ ia → s.heap.get? b = some o → (s.heap.update ia (Obj.mapFields (·.setIfInBounds 0 .none))).get? b = some o := fun b o nb e => by
    rw [Heap.get?_update_other _ _ (Ne.symm nb)]
    exact e
  obtain ⟨hd, ob, fs, g1, g2, g3⟩ := hot
  refine stop_raised (x1 := x1) ⟨hd, ob, fs, other _ _ ni g1, g2, g3⟩ (fun _ => rfl) fun a h' kp ty => ?_
  refine wpAny_bind (wpAny_isInstance (T := "StopIteration") (b := true) ty isSubtype_stop ?_)
  exact wpAny_pure (hQ _ fun b o nb e => kp b o (other b o nb e))
/-- a tuple's iterator at its end -/
theorem tup_ended {ia la x1 : Addr} {i : Nat} {xs : Array Value} {Q : Option Value → Shared → Prop} (hot : HotAt A x1 s.heap) (ni : x1 ≠ ia) (hit : IsTupIter s.heap ia la i) (hl : IsTup s.heap la xs) (hx : xs[i]? = none)
    (hQ : ∀ h', (∀ b o, b ≠ ia → s.heap.get? b = some o → h'.get? b = some o) → Q none { s with heap := h' }) : wpAny (model prog w) A (pyNext (.ref ia)) Q E s := by
  obtain ⟨u, gu, cu, du⟩ := id hit
  obtain ⟨ul, gl, _, _, dl⟩ := hl
  unfold pyNext
  refine wpAny_bind (wpAny_attempt (wpAny_callSpecial?_slot (name := Str.ofString "__next__") hit.typeIs slot_tupleiter_next (wpAny_call_entry slot_tupleiter_next hit.typeIs entry_tupleiter_next ?_ (args_tupleiter_next _))))
  show wpAny _ _ (field (.ref ia) 0 >>= _) _ _ s
  refine wpAny_bind (wpAny_field gu du (x := .ref la) rfl ?_)
  show wpAny _ _ (if (Value.ref la == Value.none) = true then _ else _) _ _ s
  rw [if_neg (show ¬ ((Value.ref la == Value.none) = true) from Bool.false_ne_true)]
  show wpAny _ _ (field (.ref ia) 1 >>= _) _ _ s
  refine wpAny_bind (wpAny_field gu du (x := .int i 0) rfl ?_)
  show wpAny _ _ (seqItems? (.ref la) >>= _) _ _ s
  refine wpAny_bind (wpAny_seqItems gl dl ?_)
  simp only [Int.toNat_natCast, hx]
  refine wpAny_bind (wpAny_rule (wpAny_bind (wpAny_setField gu du (by simp) ?_)))
  have other : ∀ b o, b ≠ ia → s.heap.get? b = some o → (s.heap.update ia (Obj.mapFields (·.setIfInBounds 0 .none))).get? b = some o := fun b o nb e => by
    rw [Heap.get?_update_other _ _ (Ne.symm nb)]
    exact e
  obtain ⟨hd, ob, fs, g1, g2, g3⟩ := hot
  refine stop_raised (x1 := x1) ⟨hd, ob, fs, other _ _ ni g1, g2, g3⟩ (fun _ => rfl) fun a h' kp ty => ?_
  refine wpAny_bind (wpAny_isInstance (T := "StopIteration") (b := true) ty isSubtype_stop ?_)
  exact wpAny_pure (hQ _ fun b o nb e => kp b o (other b o nb e))
/-- a, b, .. = a tuple of that length -/
theorem tup_assigned {env : Env} {ts : List Expr} {j : Nat} {pos : Pos} {t x1 : Addr} {xs : Array Value} {Q : Unit → Shared → Prop} (hot : HotAt A x1 s.heap) (ht : IsTup s.heap t xs)
    (hn : (assignEach ts env).length = xs.size) (hs : (assignEach ts env).findIdx? (·.1) = none)
    (h : ∀ h', (∀ b o, s.heap.get? b = some o → h'.get? b = some o) → wpAny (model prog w) A (assignInOrder ((assignEach ts env).map (·.2)) xs.toList) Q E { s with heap := h' }) : wpAny (model prog w) A (assign (.Tuple ts j pos) env (.ref t)) Q E s := by
  have tl : t ≠ s.heap.objs.size := fun z => by
    obtain ⟨o, e, _⟩ := ht
    have q := Heap.lt_size e
    rw [z] at q
    exact Nat.lt_irrefl _ q
  obtain ⟨hd, ob, fs, g1, g2, g3⟩ := hot
  have xl : x1 ≠ s.heap.objs.size := fun z => by
    have q := Heap.lt_size g1
    rw [z] at q
    exact Nat.lt_irrefl _ q
  rw [assign_Tuple]
  refine wpAny_bind (wpAny_standAt ?_)
  unfold unpack
  rw [hn, hs]
  refine wpAny_bind (wpAny_holding ?_)
  unfold unpackItems
  refine wpAny_bind ?_
  unfold notIterableAtAll
  refine wpAny_bind (wpAny_specialOf ht.typeIs slot_tuple_iter.lookup (wpAny_pure ?_))
  simp only [Bool.false_eq_true, if_false]
  refine wpAny_bind (wpAny_holding (iter_tuple ht ?_))
  refine wpAny_bind (wpAny_holding (draw_tuple tl xs.size 0 _ _ ⟨_, Heap.get?_push_size _ rfl, rfl, rfl⟩ (ht.push _) (by omega) fun h1 i1 k1 => ?_))
  have all : List.take xs.size (List.drop 0 xs.toList) = xs.toList := by
    rw [List.drop_zero, List.take_of_length_le (by simp)]
  rw [all, if_neg (by simp)]
  have up : ∀ b o, b ≠ s.heap.objs.size → s.heap.get? b = some o → h1.get? b = some o := fun b o nb e => k1.extBut b o nb (Heap.get?_push_of_some _ e)
  refine wpAny_bind (wpAny_holding (tup_ended ⟨hd, ob, fs, up _ _ xl g1, g2, g3⟩ xl i1 ((ht.push _).extBut k1.extBut tl) (by simp) fun h2 k2 => ?_))
  simp only [Option.isSome_none, Bool.false_eq_true, if_false]
  refine wpAny_pure (h h2 fun b o e => ?_)
  have nb : b ≠ s.heap.objs.size := fun z => by
    have q := Heap.lt_size e
    rw [z] at q
    exact Nat.lt_irrefl _ q
  exact k2 b o nb (up b o nb e)
end
end HotY
end
section
/-! targets and loops while an exception is handled -/
namespace L2H
open PySem PySem.Spec PyProof.Rows L2 HotX
section
variable {X : Cx}
/-- what is handled, at any state of the context -/
theorem HotC.free {pins : List (Addr × Obj)} {σ : St} {H : Hp} {s : Shared} (c : HotC X) (I : Inv X pins σ H s) : ∃ x1, HotAt X.A x1 s.heap ∧ H x1 = none ∧ ∃ o, (x1, o) ∈ X.pn := by
  obtain ⟨p, ⟨hh, v1, e1, c1⟩, hp⟩ := c
  have P := I.pin p (List.mem_append_left _ hp)
  exact ⟨p.1, ⟨hh, p.2, v1, P.1, e1, c1⟩, P.2.1, p.2, hp⟩
theorem pg_tupH {es : List Expr} {k n : Nat} {t : TGs} {pos : Pos} (hc : HotC X) (h : PGs X es t) (hn : (assignEach es X.env).length = n := by rfl) (hst : (assignEach es X.env).findIdx? (·.1) = none := by rfl) : PG X (.Tuple es k pos) (gTup X.K n t) := by
  refine ⟨fun pins s σ H v u Q I r hw => ?_⟩
  obtain ⟨a, xs, rfl, hq, hl, hw⟩ := hw
  cases r
  obtain ⟨x1, hot, _⟩ := hc.free I
  obtain ⟨its, rv, ht, _⟩ := I.tuple hq
  refine HotY.tup_assigned hot ht (by rw [hn, ← hl, rv.length, List.size_toArray]) hst fun h' k' => ?_
  exact h.run pins { s with heap := h' } σ H xs _ Q (I.kept (t' := s.toks) k') (by simpa using rv) hw
/-- the list at a, walked while an exception is handled; its iterator is none of what is pinned -/
theorem turn_listH {P : Program} {w : World} {K : PySem.W.Frag} {tg : Expr} (a ia : Addr) : TurnH P w K tg (Itl K a) [ia] ia (fun i h => h.IsListIter ia a i) := by
  have T := turn_list (P := P) (w := w) (K := K) (tg := tg) a ia
  refine ⟨T.mem, T.obj, T.keep, ?_, ?_, T.self⟩
  · intro X hP hw hK hc i pins s σ H E I hf st hg
    subst hP hw hK
    obtain ⟨xs, x, hq, hx⟩ := hg
    obtain ⟨its, rv, p, _⟩ := I.list hq
    obtain ⟨u, hu, ru⟩ := rv.get hx
    obtain ⟨f0, f1, f2, f3, f4, f5⟩ := hf ia (by simp)
    refine wpAny_pyNext_list_item st p.isList (x := u) (by simpa using hu) fun h' st' sb => ⟨u, rfl, ?_⟩
    have J : Inv X pins σ H { s with heap := h' } := I.turned (t' := s.toks) (fun b o hb e => (sb.2 b hb).trans e) f0 f1 f3 f4 f5
    obtain ⟨o, e, c, d⟩ := id st'
    refine go_of (s := { s with heap := h' }) e c d (by decide) ⟨x, H, J, ru, ⟨rfl, fun ys hy => ?_⟩, st', fun b hb => (hf b hb).1⟩
    rw [I.list_inj hy hq]
    exact hx
  · intro X hP hw hK hc i pins s σ H E I hf st hg
    subst hP hw hK
    obtain ⟨xs, hq, hx⟩ := hg
    obtain ⟨its, rv, p, _⟩ := I.list hq
    have hl := rv.length
    obtain ⟨f0, f1, f2, f3, f4, f5⟩ := hf ia (by simp)
    obtain ⟨x1, hot, _, o, ho⟩ := hc.free I
    have ne : x1 ≠ ia := f5 (x1, o) (List.mem_append_left _ ho)
    exact HotY.list_ended hot ne st p.isList (by simp; omega) fun h' eb => ⟨rfl, I.turned (t' := s.toks) (fun b o hb e => eb b o hb e) f0 f1 f3 f4 f5⟩
end
end L2H
end
section
/-! a list comprehension while an exception is handled -/
namespace L2H
open PySem PySem.Spec PyProof.Rows L2 HotX
theorem withPin {X : Cx} {pins : List (Addr × Obj)} {σ : St} {H : Hp} {s : Shared} {p : Addr × Obj} (I : Inv X pins σ H s) (g : s.heap.get? p.1 = some p.2) (f : H p.1 = none) (nl : p.1 ≠ X.env.locals) (nf : p.1 ∉ X.fs) (nc : ∀ v, p.2.data ≠ .cell v) : Inv { X with pn := p :: X.pn } pins σ H s := by
  have o := I.ok
  refine ⟨⟨o.mod, o.kind, o.glob, o.blt, o.above, o.inj, o.has, o.cab, o.hd, o.frames, o.stk, o.exf, o.bs, o.bsz, o.noex, o.exfs, o.funs, o.frf⟩, I.os, I.bare, I.base, I.loc, I.cell, I.free, I.freeC, fun q hq => ?_, I.hok, I.len⟩
  rcases List.mem_cons.mp (show q ∈ p :: (X.pn ++ pins) from hq) with rfl | hq
  · exact ⟨g, f, nl, nf, nc⟩
  · exact I.pin q hq
/-- the context of such a comprehension's block -/
abbrev blkH (X : Cx) (s : Shared) (H : Hp) (scope : Scope) (ce : Env) (fp : List Addr) (p : Addr × Obj) : Cx := { X.blk s H scope ce fp with pn := [p] }
theorem blkH_hot {X : Cx} {s : Shared} {H : Hp} {scope : Scope} {ce : Env} {fp : List Addr} {p : Addr × Obj} (h : Hot1 X.A p) : HotC (blkH X s H scope ce fp p) := ⟨p, h, List.mem_cons_self⟩
section
variable {X : Cx}
theorem pi_listH {l tg : Expr} {tl : TE} (hl : PE X l tl) : PIH X tg l (iList X.K tl) := by
  refine ⟨fun pins s σ H R I h => thn (hl.run pins s σ H _ I h) fun v s1 hv => ?_⟩
  obtain ⟨x, H1, J, r1, a, rfl, ⟨xs, hq⟩, q⟩ := hv
  cases r1
  obtain ⟨_, _, pl, _⟩ := J.list hq
  refine wpAny_pyIter_list pl.isList ⟨s1.heap.objs.size, [s1.heap.objs.size], _, _, H1, rfl, J.kept (t' := s1.toks) fun b o e => Heap.get?_push_of_some _ e, turn_listH a _, ⟨_, Heap.get?_push_size _ rfl, rfl, rfl⟩, fun b hb => ?_, q⟩
  rw [show b = s1.heap.objs.size by simpa using hb]
  exact J.fpOk (Nat.le_refl _) (J.hok.fresh (Nat.le_refl _))
theorem pe_lcH {elt tg iter : Expr} {ifs : List Expr} {scope : Scope} {own : List (Str × Nat)} {pos : Pos} {wi : TI} {g : TG} {tt : TT} {te : TE} (hc : HotC X) (hN : X.N.Nodup) (hi : PIH X tg iter wi) (ok : BlkOk X.N X.env.scope scope own)
    (hg : ∀ (s : Shared) (H : Hp) (C : Addr) (cl : List (Str × Addr)) (fp : List Addr) (p : Addr × Obj), HotC (blkH X s H scope (compEnvC scope cl C X.env) fp p) → PG (blkH X s H scope (compEnvC scope cl C X.env) fp p) tg g) (ht : ∀ (s : Shared) (H : Hp) (C : Addr) (cl : List (Str × Addr)) (fp : List Addr) (p : Addr × Obj), HotC (blkH X s H scope (compEnvC scope cl C X.env) fp p) → PTs (blkH X s H scope (compEnvC scope cl C X.env) fp p) ifs tt)
    (he : ∀ (s : Shared) (H : Hp) (C : Addr) (cl : List (Str × Addr)) (fp : List Addr) (p : Addr × Obj), HotC (blkH X s H scope (compEnvC scope cl C X.env) fp p) → PE (blkH X s H scope (compEnvC scope cl C X.env) fp p) elt te) (hs : ∀ x, foldedSetIterable iter X.env x = pure x := by intro _; rfl) :
    PE X (.ListComp elt [⟨tg, iter, ifs, 0⟩] scope pos) (tLc wi g tt te (own.map (·.2))) := by
  refine ⟨fun pins s σ H Q I h => ?_⟩
  obtain ⟨p, hot, hp⟩ := hc
  have free : ∀ y ∈ scope.names, y.2 = .free → ∃ c, X.env.cells.lookup y.1 = some c := fun y hy e => by
    rcases ok.free y hy e with z | z <;> first | exact I.ok.has _ (.inl z) | exact I.ok.has _ (.inr z)
  rw [eval_ListComp]
  refine wpAny_comprehension_free (use := none) rfl hs (closure_ok free) ok.kind (fun y hy e => (ok.uniq y hy).trans (by rw [e])) (thn (hi.run pins s σ H _ I h) fun _ _ hx => thn hx fun _ s2 hq => ?_)
  obtain ⟨ia, fp, tn, J, H2, rfl, I2, T, b0, fo, q⟩ := hq
  refine wpAny_newObj_type (newEnv_comp ?_) (by show 0 ≤ sizeLine; decide)
  -- the new list at L
  obtain ⟨L, hL⟩ : ∃ L, s2.heap.objs.size = L := ⟨_, rfl⟩
  rw [hL]
  obtain ⟨W, ⟨m0, w0⟩, turn⟩ := q L (I2.hok.fresh (Nat.le_of_eq hL))
  obtain ⟨s3, hs3⟩ : ∃ s3 : Shared, ({ s2 with heap := s2.heap.push { cls := .type "list", data := .seq ([] : List Value).toArray } } : Shared) = s3 := ⟨_, rfl⟩
  obtain ⟨H3, hH3⟩ : ∃ H3, upd H2 L (.lst []) = H3 := ⟨_, rfl⟩
  rw [hH3] at w0
  have e3 : s3.heap = s2.heap.push { cls := .type "list", data := .seq ([] : List Value).toArray } := by rw [← hs3]
  have I3 : Inv X pins σ H3 s3 := by
    rw [← hs3, ← hH3]
    exact I2.laid (t' := s2.toks) (fun b o e => Heap.get?_push_of_some _ e) (Nat.le_of_eq hL) ⟨Nat.zero_le _, [], 0, .nil, by rw [← hL]; exact Heap.get?_push_size _ rfl⟩
  have szf : ∀ b ∈ fp, b < s2.heap.objs.size := fun b hb => (T.obj _ _ b0 b hb).elim fun o z => Heap.lt_size z.1
  have f3 : ∀ b ∈ fp, FpOk X pins H3 b ∧ b < s3.heap.objs.size := fun b hb => by
    have lt := szf b hb
    refine ⟨⟨?_, (fo b hb).2⟩, by rw [e3, Heap.size_push]; exact Nat.lt_succ_of_lt lt⟩
    rw [← hH3, upd_ne (show b ≠ L by rw [← hL]; exact Nat.ne_of_lt lt)]
    exact (fo b hb).1
  have b3 : tn 0 s3.heap := T.keep _ _ _ b0 fun b _ o e => by rw [e3]; exact Heap.get?_push_of_some _ e
  have P3 := I3.pin p (List.mem_append_left _ hp)
  have J4 := block_start I3 ok hN f3
  have pg := hg s3 H3 s3.heap.objs.size (cellsFrom (s3.heap.objs.size + 1) scope.names (cloFrom X.env.cells scope.names [])) fp p (blkH_hot hot)
  have pt := ht s3 H3 s3.heap.objs.size (cellsFrom (s3.heap.objs.size + 1) scope.names (cloFrom X.env.cells scope.names [])) fp p (blkH_hot hot)
  have pe := he s3 H3 s3.heap.objs.size (cellsFrom (s3.heap.objs.size + 1) scope.names (cloFrom X.env.cells scope.names [])) fp p (blkH_hot hot)
  have kc : ∀ b o, s3.heap.get? b = some o → (pushCells (s3.heap.push { cls := .type "dict", data := .dict #[] }) scope.names).get? b = some o := fun b o e => pushCells_keeps _ _ _ _ (Heap.get?_push_of_some _ e)
  obtain ⟨ce, hce⟩ : ∃ ce, compEnvC scope (cellsFrom (s3.heap.objs.size + 1) scope.names (cloFrom X.env.cells scope.names [])) s3.heap.objs.size X.env = ce := ⟨_, rfl⟩
  have hcl : ce.locals = s3.heap.objs.size := by rw [← hce]; rfl
  obtain ⟨s4, hs4⟩ : ∃ s4 : Shared, ({ s3 with heap := pushCells (s3.heap.push { cls := .type "dict", data := .dict #[] }) scope.names } : Shared) = s4 := ⟨_, rfl⟩
  rw [hce] at pg pt pe J4
  rw [hs4] at J4
  have nfs : p.1 ∉ frs X.stack := fun z => (List.mem_cons.mp (I3.stkSub p.1 z)).elim P3.2.2.1 P3.2.2.2.1
  have I4 : Inv (blkH X s3 H3 scope ce fp p) [] (wipe σ (own.map (·.2))) H3 s4 := withPin (p := p) J4 (by rw [← hs4]; exact kc _ _ P3.1) P3.2.1 (by show p.1 ≠ ce.locals; rw [hcl]; exact Nat.ne_of_lt (Heap.lt_size P3.1)) nfs P3.2.2.2.2
  have hb := blkH_hot (s := s3) (H := H3) (scope := scope) (ce := ce) (fp := fp) hot
  have b4 : tn 0 s4.heap := T.keep _ _ _ b3 fun b _ o e => by rw [← hs4]; exact kc b o e
  have npf : ∀ b ∈ fp, p.1 ≠ b := fun b hbf => (f3 b hbf).1.2.2.2.2.2 p (List.mem_append_left _ hp)
  have still : ∀ {σ' : St} {H' : Hp} {s' : Shared}, Inv (blkH X s3 H3 scope ce fp p) [] σ' H' s' → (∀ b ∈ fp, H' b = none) → ∀ b ∈ fp, FpOk (blkH X s3 H3 scope ce fp p) [] H' b := fun {σ' H' s'} I' z b hbf =>
    ⟨z b hbf, (I'.ok.exf b hbf).1, I'.ok.exfs b hbf, .inl hbf, fun x c e => (I'.ok.exf b hbf).2 x c e, fun r hr => by
      rw [List.mem_singleton.mp (show r ∈ [p] from hr)]
      exact npf b hbf⟩
  have run : codeAny (model X.prog X.w) X.A (.compStart (.ListComp elt [⟨tg, iter, ifs, 0⟩] scope pos) 0 (.ref ia) (.ref L) ce) (compPost (model X.prog X.w) X.A X.xe none (EP X pins σ Q) (.ref L) s3.heap.objs.size) s4 := by
    have lp : codeAny (model X.prog X.w) X.A (.compLoop (.ListComp elt [⟨tg, iter, ifs, 0⟩] scope pos) 0 (.ref ia) (.ref L) ce) (compPost (model X.prog X.w) X.A X.xe none (EP X pins σ Q) (.ref L) s3.heap.objs.size) s4 := by
      refine compLoop_any (fun n s' => ∃ i H', Inv (blkH X s3 H3 scope ce fp p) [] (wipe σ (own.map (·.2))) H' s' ∧ tn i s'.heap ∧ (∀ b ∈ fp, H' b = none) ∧ W i n H') ?_ m0 ⟨0, H3, I4, b4, fun b hb => (f3 b hb).1.1, w0⟩
      rintro n s5 ⟨i, H5, I5, b5, z5, w5⟩
      rcases turn i n H5 w5 with ⟨stop, qq⟩ | ⟨go, Nx, dn, step⟩
      · -- the end
        refine thnF (T.done (blkH X s3 H3 scope ce fp p) rfl rfl rfl hb i [] s5 _ H5 (fun _ _ => False) I5 (still I5 z5) b5 stop) fun r s6 h6 => ?_
        obtain ⟨rfl, I6⟩ := h6
        obtain ⟨m, hns, _⟩ := I6.loc
        have hns : s6.heap.Ns ce.locals m := hns
        have nC : H5 ce.locals = none := I6.free
        rw [hcl] at hns nC
        have I7 : Inv X pins σ H5 s6 := I3.call' (ch := fp) I6.os I6.base I6.hok I6.bare fun b hbf => by
          obtain ⟨_, u1, _, u3, u4, u5⟩ := (f3 b hbf).1
          exact ⟨u3, u1, u4, u5⟩
        obtain ⟨v0, v1, v2, v3, v4, v5⟩ := I3.fpOk (H' := H5) (Nat.le_refl _) nC
        exact ⟨m, hns, fun h'' sb => ⟨.ref L, H5, I7.turned (t' := s6.toks) (fun b o nb e => (sb.2 b nb).trans e) v0 v1 v3 v4 v5, rfl, qq⟩⟩
      · -- a turn
        refine thnF (T.item (blkH X s3 H3 scope ce fp p) rfl rfl rfl hb i [] s5 _ H5 (fun _ _ => False) I5 (still I5 z5) b5 go) fun r s6 h6 => ?_
        obtain ⟨u, rfl, h6⟩ := h6
        refine thnF h6 fun _ s7 h7 => ?_
        obtain ⟨x, H7, I7, r7, y7, b7, z7⟩ := h7
        have I7' := I7.pinned (still I7 z7) (T.obj _ _ b7)
        have again : ∀ {s' : Shared} {σ8 : St} {H' : Hp}, wipe σ8 (own.map (·.2)) = wipe σ (own.map (·.2)) → Inv (blkH X s3 H3 scope ce fp p) ([] ++ pinsAt fp s7.heap) σ8 H' s' → Nx H' → ∃ m, m < n ∧ ∃ i H', Inv (blkH X s3 H3 scope ce fp p) [] (wipe σ (own.map (·.2))) H' s' ∧ tn i s'.heap ∧ (∀ b ∈ fp, H' b = none) ∧ W i m H' := fun {s' σ8 H'} hw I' nx => by
          obtain ⟨m', hm, w'⟩ := dn H' nx
          have pinned : ∀ b ∈ fp, ∀ o, s7.heap.get? b = some o → s'.heap.get? b = some o ∧ H' b = none := fun b hbf o e => by
            have z := I'.pin (b, o) (List.mem_append_right _ (List.mem_append_right _ (mem_pinsAt hbf e)))
            exact ⟨z.1, z.2.1⟩
          refine ⟨m', hm, i + 1, H', (I'.unpinned (pins := [])).weak (by rw [← hw, wipe_length]) (fun j v e => ?_), T.keep _ _ _ b7 fun b hbf o e => (pinned b hbf o e).1, fun b hbf => ?_, w'⟩
          · rw [← hw] at e
            exact (wipe_some e).1
          · obtain ⟨o, e, _⟩ := T.obj _ _ b7 b hbf
            exact (pinned b hbf o e).2
        refine thnF (pg.run _ s7 _ H7 x u _ I7' r7 (step x H7 y7)) fun _ s8 h8 => ?_
        obtain ⟨σ8, H8, I8, hw8, q8⟩ := h8
        refine thnF (pt.run _ s8 σ8 H8 _ I8 q8) fun d s9 h9 => ?_
        obtain ⟨H9, I9, q9⟩ := h9
        cases d with
        | false =>
          rw [if_neg (by decide)] at q9 ⊢
          exact again hw8 I9 q9
        | true =>
          rw [if_pos rfl] at q9 ⊢
          refine thnF (pe.run _ s9 σ8 H9 _ I9 q9) fun z s10 h10 => ?_
          obtain ⟨yv, H10, I10, r10, acc, a1, a2, nx⟩ := h10
          exact app_ok (X := blkH X s3 H3 scope ce fp p) I10 a1 a2 r10 fun s11 I11 => again hw8 I11 nx
    exact codeAny_compStart_list lp (T.self X.A 0 _ _ _ b4 lp)
  rw [← hs4, ← hce] at run
  subst hs3
  exact run
theorem pe_h {e : Expr} {t : TE} (hc : HotC X) (h : PE X e t) : PE X e t := h
theorem pts_truthH {s : Shared} {H : Hp} {scope : Scope} {ce : Env} {fp : List Addr} {p : Addr × Obj} {e : Expr} {te : TE} (hc : HotC (blkH X s H scope ce fp p)) (he : PE (blkH X s H scope ce fp p) e te)
    (ht : ∀ whole, isTrue e (blkH X s H scope ce fp p).env whole = (do let v ← whole; standAt e.pos; holding [v] (truthy v))) : PTs (blkH X s H scope ce fp p) [e] (fun σ H Q => te σ H fun x H' => ∃ k, TruV X.K x H' k ∧ Q k H') :=
  pts_one (pt_truth he ht)
end
end L2H
end
section
/-! isinstance of a caught exception that has its dict -/
namespace L2
open PySem PySem.Spec PyProof.Rows
theorem inst_x {X : Cx} {a D dx : Addr} {oe : Obj} {pn pins : List (Addr × Obj)} {σ : L2.St} {H : Hp} {s : Shared} {fs : List (Str × V)} (I : Inv (X.suite a ((a, oe) :: pn)) pins σ H s) (hz : Zc (.ref D) (some dx) oe) (hf : ∃ vs, oe.data = .fields vs) (hx : H dx = some (.xd fs)) :
    ∃ od, PySem.W.InstAt s.heap a oe D (some od) := by
  obtain ⟨hget, _⟩ := I.pin (a, oe) (List.mem_append.mpr (.inl List.mem_cons_self))
  obtain ⟨vs, hv⟩ := hf
  obtain ⟨mA, hns, _⟩ := (show ObjOk X.prog X.w H s.heap dx (.xd fs) from I.hok dx _ hx)
  obtain ⟨od, ho, _⟩ := lookIn_ns hns
  refine ⟨od, ?_⟩
  obtain ⟨oc, odd, oda, osl⟩ := oe
  obtain ⟨h1, h2⟩ := hz
  dsimp only at h1 h2 hv
  subst h1 h2 hv
  exact ⟨hget, rfl, rfl, ho⟩
/-- isinstance(e, c), e the exception that the suite holds (at a; its class cls, its dict d) -/
def rIsD (K : PySem.W.Frag) (a : Addr) (cls : Value) (d : Option Addr) : List V → Hp → VK → Prop := fun xs H Q => ∃ (D dx : Addr) (c : V) (cv : Value) (b : Bool) (fs : List (Str × V)), cls = .ref D ∧ d = some dx ∧ ExcC K D ∧ xs = [.ref a, c] ∧ ClsV c cv ∧ PySem.W.kitOne K (.ref D) cv = some b ∧ H dx = some (.xd fs) ∧ Q (.bl b) H
/-- isinstance(e, (c1, c2, ..)) -/
def rIsDT (K : PySem.W.Frag) (a : Addr) (cls : Value) (d : Option Addr) : List V → Hp → VK → Prop := fun xs H Q => ∃ (D dx tp : Addr) (cs : List V) (us : List Value) (b : Bool) (fs : List (Str × V)), cls = .ref D ∧ d = some dx ∧ ExcC K D ∧ xs = [.ref a, .ref tp] ∧ H tp = some (.tup cs) ∧ Paired ClsV cs us ∧ PySem.W.kitAny K (.ref D) us = some b ∧ H dx = some (.xd fs) ∧ Q (.bl b) H
section
variable {X : Cx} {a : Addr} {cls : Value} {d : Option Addr} {oe : Obj} {pn : List (Addr × Obj)}
theorem call_isD (hz : Zc cls d oe) (hf : ∃ vs, oe.data = .fields vs) : CallR (X.suite a ((a, oe) :: pn)) (.builtin "isinstance") (rIsD X.K a cls d) := by
  intro pins s σ H xs us Q I r h
  obtain ⟨D, dx, c, cv, b, fs, rfl, rfl, C, rfl, hcv, e, hx, q⟩ := h
  obtain ⟨u1, u2, rfl, r1, r2⟩ := vals2 r
  cases r1
  have ec := hcv.eq r2
  subst ec
  obtain ⟨od, J⟩ := inst_x I hz hf hx
  have hcl : (PySem.W.clsIn X.K D).isSome = true := by
    obtain ⟨cd, hc, _⟩ := PySem.W.any_some C.hd
    rw [hc]
    rfl
  exact PySem.W.kia_one (PySem.W.kitx_exc hcl C.hg C.hk C.hs C.ha C.hn C.ht C.hm) I.kIn J e (fun z => nomatch z) fun tk => ⟨.bl b, H, I.kept (t' := tk) fun _ _ z => z, rfl, q⟩
theorem call_isDT (hz : Zc cls d oe) (hf : ∃ vs, oe.data = .fields vs) : CallR (X.suite a ((a, oe) :: pn)) (.builtin "isinstance") (rIsDT X.K a cls d) := by
  intro pins s σ H xs us Q I r h
  obtain ⟨D, dx, tp, cs, ws, b, fs, rfl, rfl, C, rfl, hT, k, e, hx, q⟩ := h
  obtain ⟨u1, u2, rfl, r1, r2⟩ := vals2 r
  cases r1
  cases r2
  obtain ⟨od, J⟩ := inst_x I hz hf hx
  have hcl : (PySem.W.clsIn X.K D).isSome = true := by
    obtain ⟨cd, hc, _⟩ := PySem.W.any_some C.hd
    rw [hc]
    rfl
  obtain ⟨_, its, rv, o, h1, h2, n, h3⟩ := (show ObjOk X.prog X.w H s.heap tp (.tup cs) from I.hok tp _ hT)
  have e3 := ClsV.all k rv
  subst e3
  obtain ⟨oc, od', dt, sl⟩ := o
  simp only at h2 h3
  subst h2 h3
  exact PySem.W.kia_tup (PySem.W.kitx_exc hcl C.hg C.hk C.hs C.ha C.hn C.ht C.hm) I.kIn J h1 e (fun z => nomatch z) fun tk => ⟨.bl b, H, I.kept (t' := tk) fun _ _ z => z, rfl, q⟩
end
/-- a class that is none of its own -/
structure ClsN (K : PySem.W.Frag) (C D : Addr) (b : Bool) : Prop where
  hd : PySem.W.hasDictIn K D = true
  ty : PySem.W.typeIn K (.ref D) = some (.type "type")
  mr : PySem.W.mroIn K C (.ref D) = some b
theorem ClsN.kit {K : PySem.W.Frag} {C D : Addr} {b : Bool} (h : ClsN K C D b) (me : PySem.W.mroIn K C (.ref C) = some true) : PySem.W.kitOne K (.ref C) (.ref D) = some b := by
  unfold PySem.W.kitOne
  by_cases e : C = D
  · have := h.mr
    rw [← e, me] at this
    cases this
    rw [if_pos (by rw [e]; simp)]
  · rw [if_neg (by simpa using e)]
    obtain ⟨cd, hc, _⟩ := PySem.W.any_some h.hd
    unfold PySem.W.kitCls
    simp only
    rw [if_pos (by rw [hc, h.ty]; simp)]
    exact h.mr
theorem kit_VE {K : PySem.W.Frag} {C : Addr} (h : PySem.W.subIn K (.ref C) (.type "ValueError") = some true) : PySem.W.kitOne K (.ref C) (.type "ValueError") = some true := by
  unfold PySem.W.kitOne
  rw [if_neg (by simp)]
  unfold PySem.W.kitCls
  simp only
  rw [if_pos (by decide +kernel)]
  exact h
theorem ClsN.exm {K : PySem.W.Frag} {C D : Addr} {b : Bool} (h : ClsN K C D b) (hs : PySem.W.subIn K (.ref D) (.type "BaseException") = some true) : PySem.W.exmOne K (.ref C) (.ref D) = some b :=
  PySem.W.exm_ref hs h.hd h.ty h.mr
end L2
namespace L2
theorem kit_self {K : PySem.W.Frag} {C : PySem.Addr} : PySem.W.kitOne K (.ref C) (.ref C) = some true := by
  unfold PySem.W.kitOne
  rw [if_pos (by simp)]
end L2
end
section
/-! a refusal caught: its class asked, and what it keeps -/
namespace DL
open PySem PyProof.Rows PySem.Spec L2
section
variable {K : PySem.W.Frag} {mg : Str → Option Value} {W : Wd} {S : Sto}
theorem loose_new {p : Addr} {o : HO} (R : Rep K mg W S) (h : W.H p = none) : Ext W (W.loose p o) ∧ Rep K mg (W.loose p o) S := by
  have hp : ¬ W.P p := fun z => R.al p z h
  have ha : p ∉ W.α := fun z => R.there z h
  exact ⟨ext_loose (Ext.refl W) h hp ha, rep_loose R hp ha (plain_none h)⟩
end
def tConsts : List Addr → TA
  | [] => tNil
  | c :: r => tCons (tC (.ref c)) (tConsts r)
theorem tConsts_ok {σ : L2.St} {H : Hp} {Q : List V → Hp → Prop} : ∀ {cs : List Addr} , Q (cs.map V.ref) H → tConsts cs σ H Q
  | [], h => h
  | c :: cs, h => tConsts_ok (cs := cs) (Q := fun vs H' => Q (.ref c :: vs) H') h
/-- if isinstance(e, (..)): return "odd"; return (isinstance(e, C), isinstance(e, ValueError), e.what), e in slot 2 -/
def tSuite (K : PySem.W.Frag) (C : Addr) (Cs : List Addr) : Addr → Value → Option Addr → TS := fun a cls d =>
  tSeq (tIfS (tB (tCB (rIsDT K a cls d) (tCons (tVar 2) (tCons (tTup (tConsts Cs)) tNil)))) (tRet (tC (.str "odd"))) tNext)
    (tRet (tTup (tCons (tCB (rIsD K a cls d) (tCons (tVar 2) (tCons (tC (.ref C)) tNil))) (tCons (tCB (rIsD K a cls d) (tCons (tVar 2) (tCons (tC (.ty "ValueError")) tNil))) (tCons (tXf a cls d C "what" (tVar 2)) tNil)))))
end DL
end
section
/-! a caught exception that is kept behind its suite: tracked from there on -/
namespace L2
open PySem PySem.Spec PyProof.Rows
section
variable {X : Cx} {pins : List (Addr × Obj)} {σ : L2.St} {H : Hp} {s : Shared} {a : Addr} {o : HO}
/-- the object of such an exception -/
theorem inst_k {D dx : Addr} {fs : List (Str × V)} (I : Inv X pins σ H s) (he : H a = some (exk a (.ref D) (some dx))) (hx : H dx = some (.xd fs)) : ∃ (oe od : Obj), PySem.W.InstAt s.heap a oe D (some od) ∧ ∃ mA : Str → Option Value, PySem.W.lookIn "what" od = some (mA "what") ∧ ∀ f, RelO (fs.lookup f) (mA f) := by
  obtain ⟨oe, vs, hget, hv, hz⟩ := exk_at I.hok he
  obtain ⟨mA, hns, hr⟩ := (show ObjOk X.prog X.w H s.heap dx (.xd fs) from I.hok dx _ hx)
  obtain ⟨od, ho, hl⟩ := lookIn_ns hns
  refine ⟨oe, od, ?_, mA, hl "what", hr⟩
  obtain ⟨oc, odd, oda, osl⟩ := oe
  obtain ⟨h1, h2⟩ := hz
  dsimp only at h1 h2 hv
  subst h1 h2 hv
  exact ⟨hget, rfl, rfl, ho⟩
/-- isinstance(e, c), e such an exception -/
def rIsK (K : PySem.W.Frag) : List V → Hp → VK → Prop := fun xs H Q => ∃ (a D dx : Addr) (c : V) (cv : Value) (b : Bool) (fs : List (Str × V)), xs = [.ref a, c] ∧ H a = some (exk a (.ref D) (some dx)) ∧ ExcC K D ∧ ClsV c cv ∧ PySem.W.kitOne K (.ref D) cv = some b ∧ H dx = some (.xd fs) ∧ Q (.bl b) H
def rIsKT (K : PySem.W.Frag) : List V → Hp → VK → Prop := fun xs H Q => ∃ (a D dx tp : Addr) (cs : List V) (us : List Value) (b : Bool) (fs : List (Str × V)), xs = [.ref a, .ref tp] ∧ H a = some (exk a (.ref D) (some dx)) ∧ ExcC K D ∧ H tp = some (.tup cs) ∧ Paired ClsV cs us ∧ PySem.W.kitAny K (.ref D) us = some b ∧ H dx = some (.xd fs) ∧ Q (.bl b) H
theorem call_isK : CallR X (.builtin "isinstance") (rIsK X.K) := by
  intro pins s σ H xs us Q I r h
  obtain ⟨a, D, dx, c, cv, b, fs, rfl, he, C, hcv, e, hx, q⟩ := h
  obtain ⟨u1, u2, rfl, r1, r2⟩ := vals2 r
  cases r1
  have ec := hcv.eq r2
  subst ec
  obtain ⟨oe, od, J, _⟩ := inst_k I he hx
  have hcl : (PySem.W.clsIn X.K D).isSome = true := by
    obtain ⟨cd, hc, _⟩ := PySem.W.any_some C.hd
    rw [hc]
    rfl
  exact PySem.W.kia_one (PySem.W.kitx_exc hcl C.hg C.hk C.hs C.ha C.hn C.ht C.hm) I.kIn J e (fun z => nomatch z) fun tk => ⟨.bl b, H, I.kept (t' := tk) fun _ _ z => z, rfl, q⟩
theorem call_isKT : CallR X (.builtin "isinstance") (rIsKT X.K) := by
  intro pins s σ H xs us Q I r h
  obtain ⟨a, D, dx, tp, cs, ws, b, fs, rfl, he, C, hT, k, e, hx, q⟩ := h
  obtain ⟨u1, u2, rfl, r1, r2⟩ := vals2 r
  cases r1
  cases r2
  obtain ⟨oe, od, J, _⟩ := inst_k I he hx
  have hcl : (PySem.W.clsIn X.K D).isSome = true := by
    obtain ⟨cd, hc, _⟩ := PySem.W.any_some C.hd
    rw [hc]
    rfl
  obtain ⟨_, its, rv, o, h1, h2, n, h3⟩ := (show ObjOk X.prog X.w H s.heap tp (.tup cs) from I.hok tp _ hT)
  have e3 := ClsV.all k rv
  subst e3
  obtain ⟨oc, od', dt, sl⟩ := o
  simp only at h2 h3
  subst h2 h3
  exact PySem.W.kia_tup (PySem.W.kitx_exc hcl C.hg C.hk C.hs C.ha C.hn C.ht C.hm) I.kIn J h1 e (fun z => nomatch z) fun tk => ⟨.bl b, H, I.kept (t' := tk) fun _ _ z => z, rfl, q⟩
/-- e.what of such an exception -/
def tWhK (K : PySem.W.Frag) (te : TE) : TE := fun σ H Q => te σ H fun x H1 => ∃ (a D dx : Addr) (fs : List (Str × V)) (v : V), x = .ref a ∧ H1 a = some (exk a (.ref D) (some dx)) ∧ XfC K D ∧ PySem.W.findIn K (.ref D) "what" = some none ∧ H1 dx = some (.xd fs) ∧ fs.lookup ("what" : Str) = some v ∧ Q v H1
theorem pe_whK {e : Expr} {te : TE} {pos : Pos} (he : PE X e te) (hb : attributeBase e "what" X.env (eval e X.env) = eval e X.env := by rfl) : PE X (.Attribute e "what" pos) (tWhK X.K te) := by
  refine ⟨fun pins s σ H Q I h => ?_⟩
  refine attr_of hb (thn (he.run pins s σ H _ I h) fun u s1 hh => ?_)
  obtain ⟨x, H1, I1, rx, a, D, dx, fs, v, ex, ea, T, hno, ed, l, q⟩ := hh
  subst ex
  obtain rfl : u = Value.ref a := rx
  obtain ⟨oe, od, J, mA, hl, hr⟩ := inst_k I1 ea ed
  obtain ⟨u, hu, ru⟩ := RelO.some_of (v := v) (o := mA "what") (by rw [← l]; exact hr "what")
  exact HandSPX.exc_get I1.kIn J T.ga T.gg T.exC (PySem.W.findObj_own T.hdC hno rfl (by rw [hl, hu])) (handed_of ru) ⟨v, H1, I1.tok _, ru, q⟩
end
end L2
namespace L2
open PySem PySem.Spec PyProof.Rows
section
variable {X : Cx} {x n y : Str} {c : Value} {i j : Nat} {body : List Stmt} {np pos pos' p1 p2 p3 : Pos} {tb : WX → TS} {Wout : WX}
end
end L2
end
section
/-! readings of a def one of whose slots holds a caught exception: RE, RA, RT, RS with one premise more -/
namespace DL
open PySem PyProof.Rows PySem.Spec L2
/-- slot i holds the exception at a, of the class D, its dict at dx, what it keeps: v, as data w -/
structure Kd where
  i : Nat
  a : Addr
  D : Addr
  dx : Addr
  v : V
  w : DV
structure Kp (K : PySem.W.Frag) (k : Kd) (W : Wd) (σ : L2.St) : Prop where
  sl : σ[k.i]? = some (some (.ref k.a))
  ha : W.H k.a = some (exk k.a (.ref k.D) (some k.dx))
  hx : W.H k.dx = some (.xd [(("what" : Str), k.v)])
  na : k.a ∉ W.α
  nx : k.dx ∉ W.α
  dw : Den K W k.w k.v
section
variable {K : PySem.W.Frag} {mg : Str → Option Value} {k : Kd}
theorem Kp.ext {W W' : Wd} {σ : L2.St} (h : Kp K k W σ) (x : Ext W W') : Kp K k W' σ where
  sl := h.sl
  ha := x.h _ _ h.na (fun ps z => by unfold exk at z; cases z) h.ha
  hx := x.h _ _ h.nx (fun ps z => by cases z) h.hx
  na := fun z => by
    rcases x.an _ z with y | y
    · exact h.na y
    · rw [h.ha] at y
      cases y
  nx := fun z => by
    rcases x.an _ z with y | y
    · exact h.nx y
    · rw [h.hx] at y
      cases y
  dw := h.dw.ext x
variable (K mg k)
def KE (te : TE) (f : DE) : Prop := ∀ (W : Wd) (σ : L2.St) (s : Sl) (S : Sto) (d : DV) (S' : Sto) (Q : VK), Rep K mg W S → Slo K W σ s → Kp K k W σ → f s S = some (d, S') →
  (∀ v W', Ext W W' → Rep K mg W' S' → Den K W' d v → Q v W'.H) → te σ W.H Q
def KA (ta : TA) (f : DA) : Prop := ∀ (W : Wd) (σ : L2.St) (s : Sl) (S : Sto) (ds : List DV) (S' : Sto) (Q : List V → Hp → Prop), Rep K mg W S → Slo K W σ s → Kp K k W σ → f s S = some (ds, S') →
  (∀ vs W', Ext W W' → Rep K mg W' S' → Dens K W' ds vs → Q vs W'.H) → ta σ W.H Q
variable {K mg k}
variable {te ta tb : TE} {fe fa fb : DE} {taa : TA} {faa : DA} {tt tu : TT} {ft fu : DT}
theorem ka (h : RA K mg taa faa) : KA K mg k taa faa := fun W σ s S d S' Q R L _ e q => h W σ s S d S' Q R L e q
/-- isinstance(e, C) -/
theorem ke_is {c : V} {cv : Value} {b : Bool} (xc : ExcC K k.D) (hc : ClsV c cv) (hk : PySem.W.kitOne K (.ref k.D) cv = some b) : KE K mg k (tCB (rIsK K) (tCons (tVar k.i) (tCons (tC c) tNil))) (fun _ S => some (.bl b, S)) := by
  intro W σ s S d S' Q R L P e q
  cases e
  exact ⟨_, P.sl, k.a, k.D, k.dx, c, cv, b, _, rfl, P.ha, xc, hc, hk, P.hx, q (.bl b) W (Ext.refl W) R rfl⟩
/-- isinstance(e, (..)), own classes -/
theorem ke_isT {Cs : List Addr} {b : Bool} (xc : ExcC K k.D) (hl : Cs.length ≤ 1000) (hk : PySem.W.kitAny K (.ref k.D) (Cs.map Value.ref) = some b) : KE K mg k (tCB (rIsKT K) (tCons (tVar k.i) (tCons (tTup (tConsts Cs)) tNil))) (fun _ S => some (.bl b, S)) := by
  intro W σ s S d S' Q R L P e q
  cases e
  refine ⟨_, P.sl, tConsts_ok ⟨by rw [List.length_map, sizeLine_eq]; omega, fun p hp => ?_⟩⟩
  obtain ⟨x4, R4⟩ := loose_new (o := .tup (Cs.map V.ref)) R hp
  have pr : ∀ cs : List Addr, Paired ClsV (cs.map V.ref) (cs.map Value.ref) := fun cs => by
    induction cs with
    | nil => exact .nil
    | cons c r ih => exact .cons (.own c) ih
  have P4 := P.ext x4
  exact ⟨k.a, k.D, k.dx, p, Cs.map V.ref, Cs.map Value.ref, b, _, rfl, P4.ha, xc, upd_same, pr Cs, hk, P4.hx, q (.bl b) _ x4 R4 rfl⟩
end
end DL
end
section
/-! sorted(xs, key=lambda x: x[0]) -/
namespace LK
open PySem LamX PySem.Spec PyProof.Rows L2
structure KeyLam (x : Str) (params : Arguments) (scope : Scope) (body : Expr) : Prop where
  kind : scope.kind = .function
  noCo : scope.isCoroutine = false
  noGen : scope.isGenerator = false
  names : scope.names = [(x, .local)]
  bind : ∀ (q : Str) (pm cv ctv u : Value), bindArgs (PySem.W.kla_fn "<lambda>" q params body scope [] pm cv ctv) ⟨[u], []⟩ = pure [(x, u)]
  dbg : (x == ("__debug__" : Str)) = false
/-- what making the lambda does to what is tracked -/
structure Grown (H H1 : Hp) (P : Addr) (q : Str) : Prop where
  old : ∀ b u, H b = some u → (∀ ps, u ≠ .tbl ps) → H1 b = some u
  tb : ∀ b, b ≠ P → ∀ ps, H b = some (.tbl ps) → H1 b = some (.tbl ps)
  tab : TabS H1 P q
theorem Grown.dom {H H1 : Hp} {P : Addr} {q : Str} (g : Grown H H1 P q) {b : Addr} (h : H1 b = none) : H b = none := by
  cases e : H b with
  | none => rfl
  | some u =>
    exfalso
    by_cases hb : b = P
    · obtain ⟨ps, e1, _⟩ := g.tab
      rw [hb, e1] at h
      cases h
    · cases u with
      | tbl ps =>
        rw [g.tb b hb ps e] at h
        cases h
      | _ =>
        rw [g.old b _ e (fun ps z => by cases z)] at h
        cases h
section
variable {X : Cx} {s : Shared} {pins : List (Addr × Obj)} {σ : L2.St} {H : Hp}
end
section
variable {K : PySem.W.Frag} {H H1 : Hp} {P : Addr} {q : Str}
theorem Grown.rd {a : Addr} {u : HO} (g : Grown H H1 P q) (n : ∀ ps, u ≠ .tbl ps) (h : Rd H a u) : Rd H1 a u := by
  rcases h with h | ⟨o, h⟩
  · exact .inl (g.old a u h n)
  · exact .inr ⟨o, g.old a _ h fun ps z => by cases z⟩
end
section
variable {X : Cx}
end
end LK
end
section
/-! sorted(xs, key=lambda x: x[0]) as a function of data -/
namespace DL
open PySem PyProof.Rows PySem.Spec L2
section
variable {K : PySem.W.Frag} {mg : Str → Option Value} {W W' : Wd} {S : Sto}
theorem Dens.ix : ∀ {ds : List DV} {vs : List V}, Dens K W ds vs → ∀ (i : Nat) (hi : i < ds.length) (hj : i < vs.length), Den K W ds[i] vs[i]
  | [], _, _, i, hi, _ => by simp at hi
  | d :: ds, _, h, i, hi, hj => by
    obtain ⟨v, r, rfl, h1, h2⟩ := h
    cases i with
    | zero => exact h1
    | succ i => exact Dens.ix h2 i (by simpa using hi) (by simpa using hj)
end
end DL
end
section
/-! the end of a law whose text has the def bounds: its table of code objects -/
namespace DL
open PySem PyProof.Rows PySem.Spec L2 LamX
section
variable {K : PySem.W.Frag} {mg : Str → Option Value}
/-- the facts that a text with bounds has -/
structure Bnd (K : PySem.W.Frag) (mg : Str → Option Value) (fd : FuncData) (c P : Addr) : Prop where
  code : fd.code = .ref c
  tabs : tabsOf K mg = [(P, (("bounds" : Str) ++ ".<locals>.") ++ "<lambda>")]
end
end DL
end
section
/-! list.count and list.index over flat items; a def whose code is known and that may raise; what does not raise keeps its reading; a try that keeps, and what follows it -/
namespace L2
open PySem PySem.Spec PyProof.Rows
section
variable {X : Cx}
end
end L2
namespace DL
open PySem PyProof.Rows PySem.Spec L2
section
variable {K : PySem.W.Frag} {mg : Str → Option Value}
/-! ### what does not raise keeps its reading -/
def SimB (f : DS) (g : DX) : Prop := ∀ s S r, f s S = some r → g s S = some (.ok r)
def SimF (f : List DV → Sto → Option (DV × Sto)) (g : List DV → Sto → Option XR) : Prop := ∀ ds S d S', f ds S = some (d, S') → g ds S = some (.val d S')
theorem sim_ok {f : DS} : SimB f (dOkX f) := fun s S r h => by simp only [dOkX, h]
theorem sim_raise {g : DX} : SimB dNever g := fun s S r h => by cases h
theorem sim_seq {f g : DS} {f' g' : DX} (h1 : SimB f f') (h2 : SimB g g') : SimB (dSeq f g) (dSeqX f' g') := by
  intro s S r h
  cases q : f s S with
  | none => simp [dSeq, q] at h
  | some r1 =>
    have e1 := h1 _ _ _ q
    cases r1 with
    | nx s1 S1 =>
      have h : g s1 S1 = some r := by simpa [dSeq, q, kNx] using h
      simp only [dSeqX, e1]
      exact h2 _ _ _ h
    | rt d S2 =>
      have h : Res.rt d S2 = r := by simpa [dSeq, q, kNx] using h
      subst h
      simp only [dSeqX, e1]
    | bk s2 S2 =>
      have h : Res.bk s2 S2 = r := by simpa [dSeq, q, kNx] using h
      subst h
      simp only [dSeqX, e1]
    | ct s2 S2 =>
      have h : Res.ct s2 S2 = r := by simpa [dSeq, q, kNx] using h
      subst h
      simp only [dSeqX, e1]
theorem sim_if {c : DT} {f g : DS} {f' g' : DX} (h1 : SimB f f') (h2 : SimB g g') : SimB (dIfS c f g) (dIfX c f' g') := by
  intro s S r h
  obtain ⟨b, S1, e1, e⟩ := bnd_inv h
  unfold dIfX
  rw [e1]
  cases b with
  | true => exact h1 _ _ _ e
  | false => exact h2 _ _ _ e
theorem sim_forF {tgt : DG} {f : DS} {f' : DX} {it : DIt} (h1 : SimB f f') : ∀ (k i : Nat) s S r, forF tgt f it k i s S = some r → forFX tgt f' it k i s S = some (.ok r)
  | 0, _, _, _, _, h => by cases h
  | k + 1, i, s, S, r, h => by
    cases q1 : itemAt it S i with
    | none =>
      simp only [forF, q1] at h
      cases h
    | some o => cases o with
      | none =>
        simp only [forF, q1] at h
        cases h
        simp only [forFX, q1]
      | some d =>
        cases q2 : tgt d s S with
        | none =>
          simp only [forF, q1, q2] at h
          cases h
        | some p =>
          cases q3 : f p.1 p.2 with
          | none =>
            simp only [forF, q1, q2, q3] at h
            cases h
          | some r2 =>
            simp only [forF, q1, q2, q3] at h
            simp only [forFX, q1, q2, h1 _ _ _ q3]
            cases r2 with
            | nx s2 S2 => exact sim_forF h1 k (i + 1) _ _ _ h
            | ct s2 S2 => exact sim_forF h1 k (i + 1) _ _ _ h
            | bk s2 S2 =>
              cases h
              rfl
            | rt d2 S2 =>
              cases h
              rfl
theorem sim_for {fi : DI} {tgt : DG} {f : DS} {f' : DX} (h1 : SimB f f') : SimB (dFor fi tgt f) (dForX fi tgt f') := by
  intro s S r h
  obtain ⟨it, S1, e1, e⟩ := bnd_inv h
  unfold dForX
  rw [e1]
  exact sim_forF h1 _ _ _ _ _ e
theorem sim_call {n : Nat} {f : List DV → Sto → Option (DV × Sto)} {g : List DV → Sto → Option XR} {fa : DA} (h1 : SimF f g) : SimB (dDrop (dCall n f [] fa)) (dCallX n g fa) := by
  intro s S r h
  obtain ⟨d, S1, e1, e⟩ := bnd_inv h
  cases e
  obtain ⟨xs, S2, e2, e3⟩ := bnd_inv e1
  unfold dCallX
  rw [e2]
  by_cases hn : xs.length = n
  · rw [bnd, if_pos hn]
    have e4 : f xs S2 = some (d, S1) := by simpa [hn] using e3
    rw [h1 _ _ _ _ e4]
  · exfalso
    simp [hn] at e3
theorem sim_fn {m : Option Bool} {n : Nat} {f : DS} {g : DX} (h1 : SimB f g) : SimF (fnF m n f) (fnX m n g) := by
  intro ds S d S' h
  unfold fnF at h
  unfold fnX
  split at h
  · rename_i s1 S1 e1
    rw [h1 _ _ _ e1]
    simp only [h]
  · rename_i d1 S1 e1
    rw [h1 _ _ _ e1]
    simp only [h]
  · cases h
/-! ### a try that keeps, and what follows it -/
def dIs (b : Bool) : DE := fun _ S => some (.bl b, S)
def dKw (w : DV) : DE := fun _ S => some (w, S)
end
section
variable {X : Cx} {x n y : Str} {C0 : Addr} {i j : Nat} {body : List Stmt} {np pos pos' p1 p2 p3 : Pos} {tb : WX → TS}
end
/-! ### how such blocks are reckoned -/
section
variable {f g : DX} {s s1 : Sl} {S S1 : Sto} {r : Option XRes} {c : Str} {w d : DV}
theorem xseq_nx (h1 : f s S = some (.ok (.nx s1 S1))) (h2 : g s1 S1 = r) : dSeqX f g s S = r := by
  unfold dSeqX
  rw [h1]
  exact h2
theorem xseq_ex (h1 : f s S = some (.ex c w s1 S1)) : dSeqX f g s S = some (.ex c w s1 S1) := by
  unfold dSeqX
  rw [h1]
theorem x_ok {f : DS} {r : Res} (h : f s S = some r) : dOkX f s S = some (.ok r) := by
  unfold dOkX
  rw [h]
theorem xif_t {t : DT} (h : t s S = some (true, S1)) (h2 : f s S1 = r) : dIfX t f g s S = r := by
  unfold dIfX
  rw [h]
  exact h2
theorem xif_f {t : DT} (h : t s S = some (false, S1)) (h2 : g s S1 = r) : dIfX t f g s S = r := by
  unfold dIfX
  rw [h]
  exact h2
theorem x_raise {fe : DE} (h : fe s S = some (w, S1)) : dRaise c fe s S = some (.ex c w s S1) := by
  unfold dRaise
  rw [h]
  rfl
theorem xcall_val {n : Nat} {g : List DV → Sto → Option XR} {fa : DA} {xs : List DV} {S2 : Sto} (h : fa s S = some (xs, S1)) (hn : xs.length = n) (h2 : g xs S1 = some (.val d S2)) : dCallX n g fa s S = some (.ok (.nx s S2)) := by
  unfold dCallX
  rw [h, bnd_some', if_pos hn, h2]
theorem xcall_exc {n : Nat} {g : List DV → Sto → Option XR} {fa : DA} {xs : List DV} {S2 : Sto} (h : fa s S = some (xs, S1)) (hn : xs.length = n) (h2 : g xs S1 = some (.exc c w S2)) : dCallX n g fa s S = some (.ex c w s S2) := by
  unfold dCallX
  rw [h, bnd_some', if_pos hn, h2]
theorem xfor_ex {tgt : DG} {body : DX} {it : DIt} {xs A Z : List DV} {b : DV} (hat : ∀ i, itemAt it S i = some xs[i]?) (hxs : xs = A ++ b :: Z) (I : Sl → Prop) (hA : ∀ x ∈ A, ∀ s, I s → ∃ s1 s2, tgt x s S = some (s1, S) ∧ body s1 S = some (.ok (.nx s2 S)) ∧ I s2)
    (hb : ∀ s, I s → ∃ s1 s2, tgt b s S = some (s1, S) ∧ body s1 S = some (.ex c w s2 S)) : ∀ (k i : Nat) (s : Sl), A.length < k + i → i ≤ A.length → I s → ∃ s', forFX tgt body it k i s S = some (.ex c w s' S)
  | 0, i, s, hk, hi, h => by omega
  | k + 1, i, s, hk, hi, h => by
    have h1 := hat i
    by_cases hi2 : i < A.length
    · have e0 : xs[i]? = some A[i] := by rw [hxs, List.getElem?_append_left hi2, List.getElem?_eq_getElem hi2]
      rw [e0] at h1
      obtain ⟨s1, s2, e1, e2, h2⟩ := hA A[i] (List.getElem_mem hi2) s h
      obtain ⟨s', e⟩ := xfor_ex hat hxs I hA hb k (i + 1) s2 (by omega) (by omega) h2
      exact ⟨s', by simp only [forFX, h1, e1, e2, e]⟩
    · have hi3 : i = A.length := by omega
      have e0 : xs[i]? = some b := by rw [hxs, hi3]; simp
      rw [e0] at h1
      obtain ⟨s1, s2, e1, e2⟩ := hb s h
      exact ⟨s2, by simp only [forFX, h1, e1, e2]⟩
theorem xfn_exc {m : Option Bool} {n : Nat} {body : DX} {ds : List DV} (h : body (startD n ds) S = some (.ex c w s S1)) : fnX m n body ds S = some (.exc c w S1) := by
  unfold fnX
  rw [h]
end
end DL
end
section
/-! exceptions as objects of the store: made, asked, kept behind a try; raising calls by keywords -/
namespace L2
open PySem PySem.Spec PyProof.Rows
section
variable {X : Cx} {CX : CXT} {k : Nat} {f : Addr} {fd : FuncData} {ps ks : List Str} {sp : Sp} {E : L2.St → XK} {x : Str} {p pos : Pos} {kws : List Keyword} {tk : TA} {g : List Value → List Value → List Value} {gV : List V → List V → List V}
theorem run_fnkS {pins : List (Addr × Obj)} {σ : L2.St} {H : Hp} {s : Shared} {Q : VK} {us ws : List Value} {vs zs : List V} (F : FnOk X.prog X.w X.K X.mg X.base CX k f fd ps sp) (hr : Room k X.A) (hb : KBinds X.K fd ps ks g gV) (hx : PassesAt CX X σ (E σ))
    (I : Inv X pins σ H s) (r : Vals vs us) (rz : Vals zs ws) (h : sp (gV vs zs) H Q (E σ)) : wpAny (model X.prog X.w) X.A (call (.ref f) us (ks.zip ws)) (EP X pins σ Q) X.xe s := by
  have r2 := hb.rel r rz
  have hl : (g us ws).length = ps.length := by rw [← r2.length]; exact F.len _ _ _ _ h
  refine wpAny_call (codeAny_mono (F.run X.A X.stack s H ⟨us, ks.zip ws⟩ (g us ws) (gV vs zs) Q (E σ) hr I.env0 (hb.to s us ws I.kIn hl) r2 h) fun r s' hq => ?_)
  cases r with
  | error e => exact hx pins H s e s' I hq
  | ok fl =>
    cases fl with
    | ret u => exact I.after hq
    | next => exact False.elim hq
    | brk => exact False.elim hq
    | cont => exact False.elim hq
def tCallKS (sp : Sp) (gV : List V → List V → List V) (E : L2.St → XK) (tk : TA) : TE := fun σ H Q => tk σ H fun zs H2 => sp (gV [] zs) H2 Q (E σ)
/-- f(k = v, ..), nothing by place, f raising -/
theorem pe_callKS0 (F : FnOk X.prog X.w X.K X.mg X.base CX k f fd ps sp) (hr : Room k X.A) (hg : Gl X x) (hm : X.mg x = some (.ref f)) (hk : PySem.W.keepIn X.K (.ref f) = true) (hb : KBinds X.K fd ps ks g gV) (hx : ∀ σ, PassesAt CX X σ (E σ))
    (hkw : PK X kws tk) (hall : (backToKw pos (keywordEach kws X.env)).all (·.1.isSome) = true := by rfl) (hks : (backToKw pos (keywordEach kws X.env)).filterMap (·.1) = ks := by rfl)
    (hdb : (x == ("__debug__" : Str)) = false := by decide)
    (hpl : ((backTo pos (starEach [] X.env)).any (·.1) || (backToKw pos (keywordEach kws X.env)).any (·.1.isNone)) = false := by rfl) :
    PE X (.Call (.Name x p) [] kws pos) (tCallKS sp gV E tk) := by
  refine ⟨fun pins s σ H Q I h => ?_⟩
  refine wpAny_Call_Name_kw (ld_glob I hg hm ?_ hdb)
  refine PySem.W.callWith_KW0 (h₀ := X.base) I.ok.mod.kin hk hall ?_ hpl
  refine thn (hkw.run pos pins s σ H _ I h) fun ws s2 ⟨zs, H2, I2, rz, q2⟩ => ⟨I2.kIn, ?_⟩
  rw [hks]
  exact run_fnkS (us := []) (vs := []) F hr hb (hx σ) I2 .nil rz q2
end
end L2
namespace DL
open PySem PyProof.Rows PySem.Spec L2
section
variable {K : PySem.W.Frag} {mg : Str → Option Value} {W W' : Wd} {S : Sto}
/-- the exception at a place of the store -/
def excOf (S : Sto) : DV → Option (Str × DV)
  | .ptr n => match S[n]? with
    | some (.num (.inr (.inl (c, w)))) => some (c, w)
    | _ => none
  | _ => none
theorem excOf_ok {x w : DV} {c : Str} {v : V} (R : Rep K mg W S) (d : Den K W x v) (h : excOf S x = some (c, w)) :
    ∃ a C dx u, v = .ref a ∧ mg c = some (.ref C) ∧ W.H a = some (exk a (.ref C) (some dx)) ∧ W.H dx = some (.xd [(("what" : Str), u)]) ∧ Den K W w u := by
  unfold excOf at h
  split at h
  · rename_i n
    split at h
    · rename_i c' w' h1
      cases h
      obtain ⟨a', ha', rfl⟩ := d
      obtain ⟨a, ha, _, C, dx, u, o1, o2, _, o4, o5⟩ := R.some h1
      rw [ha'] at ha
      cases ha
      exact ⟨a', C, dx, u, rfl, o1, o2, o4, o5⟩
    · cases h
  · cases h
/-- an exception more in the store: its dict at dx, itself at a -/
theorem exn_new {c : Str} {C dx a : Addr} {w : DV} {v : V} (R : Rep K mg W S) (hc : mg c = some (.ref C)) (d : Den K W w v) (hd : W.H dx = none) (ha : upd W.H dx (.xd [(("what" : Str), v)]) a = none) :
    ∃ W2, W2.H = upd (upd W.H dx (.xd [(("what" : Str), v)])) a (exk a (.ref C) (some dx)) ∧ Ext W W2 ∧ Rep K mg W2 (S ++ [.exn c w]) ∧ Den K W2 (.ptr S.length) (.ref a) := by
  have R1 := rep_froz (o := .xd [(("what" : Str), v)]) R hd
  have x1 := ext_froz (W := W) (o := .xd [(("what" : Str), v)]) hd
  have ha1 : (W.froz dx (.xd [(("what" : Str), v)])).H a = none := ha
  have hne : dx ≠ a := fun z => by
    rw [← z] at ha
    rw [upd_same] at ha
    cases ha
  have x2 := ext_more (W := W.froz dx (.xd [(("what" : Str), v)])) (o := exk a (.ref C) (some dx)) ha1
  refine ⟨(W.froz dx (.xd [(("what" : Str), v)])).more a (exk a (.ref C) (some dx)), rfl, x1.trans x2, rep_more R1 ha1 ⟨C, dx, v, hc, upd_same, .inr rfl, ?_, d.ext (x1.trans x2)⟩, a, ?_, rfl⟩
  · show upd (upd W.H dx _) a _ dx = _
    rw [upd_ne hne, upd_same]
  · show (W.α ++ [a])[S.length]? = some a
    rw [← R.len, List.getElem?_concat_length]
def dMkX (c : Str) (fe : DE) : DE := fun s S => bnd (fe s S) fun w S1 => some (.ptr S1.length, S1 ++ [.exn c w])
theorem re_mkX {c : Str} {C : Addr} {te : TE} {fe : DE} (hc : mg c = some (.ref C)) (h : RE K mg te fe) : RE K mg (tMkV C (tCons te tNil)) (dMkX c fe) := by
  intro W σ s S d S' Q R L e q
  obtain ⟨w, S1, e1, e⟩ := bnd_inv e
  cases e
  refine h W σ s S w S1 _ R L e1 fun v W1 x1 R1 d1 => ⟨v, rfl, fun dx hdx a ha => ?_⟩
  obtain ⟨W2, h2, x2, R2, d2⟩ := exn_new R1 hc d1 hdx ha
  rw [← h2]
  exact q _ W2 (x1.trans x2) R2 d2
/-- isinstance(e, C) -/
def dIsX (cs : List Str) (b : Str → Bool) (fe : DE) : DE := fun s S => bnd (fe s S) fun x S1 => match excOf S1 x with
  | some p => if p.1 ∈ cs then some (.bl (b p.1), S1) else none
  | none => none
theorem re_isX {cs : List Str} {b : Str → Bool} {te : TE} {fe : DE} {c : V} {cv : Value} (hcv : ClsV c cv) (hk : ∀ y ∈ cs, ∀ C, mg y = some (.ref C) → ExcC K C ∧ PySem.W.kitOne K (.ref C) cv = some (b y)) (h : RE K mg te fe) :
    RE K mg (tCB (rIsK K) (tCons te (tCons (tC c) tNil))) (dIsX cs b fe) := by
  intro W σ s S d S' Q R L e q
  obtain ⟨x, S1, e1, e⟩ := bnd_inv e
  split at e
  · rename_i p hp
    split at e
    · rename_i hm
      cases e
      refine h W σ s S x _ _ R L e1 fun v W1 x1 R1 d1 => ?_
      obtain ⟨a, C, dx, u, rfl, o1, o2, o4, _⟩ := excOf_ok R1 d1 (c := p.1) (w := p.2) hp
      obtain ⟨k1, k2⟩ := hk p.1 hm C o1
      exact ⟨a, C, dx, c, cv, _, _, rfl, o2, k1, hcv, k2, o4, q _ W1 x1 R1 rfl⟩
    · cases e
  · cases e
/-- isinstance(e, (..)) -/
theorem re_isXT {cs : List Str} {b : Str → Bool} {te : TE} {fe : DE} {Cs : List Addr} (hl : Cs.length ≤ 1000) (hk : ∀ y ∈ cs, ∀ C, mg y = some (.ref C) → ExcC K C ∧ PySem.W.kitAny K (.ref C) (Cs.map Value.ref) = some (b y)) (h : RE K mg te fe) :
    RE K mg (tCB (rIsKT K) (tCons te (tCons (tTup (tConsts Cs)) tNil))) (dIsX cs b fe) := by
  intro W σ s S d S' Q R L e q
  obtain ⟨x, S1, e1, e⟩ := bnd_inv e
  split at e
  · rename_i p hp
    split at e
    · rename_i hm
      cases e
      refine h W σ s S x _ _ R L e1 fun v W1 x1 R1 d1 => ?_
      refine tConsts_ok ⟨by rw [List.length_map, sizeLine_eq]; omega, fun t ht => ?_⟩
      obtain ⟨x4, R4⟩ := loose_new (o := .tup (Cs.map V.ref)) R1 ht
      have pr : ∀ cs : List Addr, Paired ClsV (cs.map V.ref) (cs.map Value.ref) := fun cs => by
        induction cs with
        | nil => exact .nil
        | cons c r ih => exact .cons (.own c) ih
      obtain ⟨a, C, dx, u, rfl, o1, o2, o4, _⟩ := excOf_ok R4 (d1.ext x4) (c := p.1) (w := p.2) hp
      obtain ⟨k1, k2⟩ := hk p.1 hm C o1
      exact ⟨a, C, dx, t, Cs.map V.ref, Cs.map Value.ref, _, _, rfl, o2, k1, upd_same, pr Cs, k2, o4, q _ _ (x1.trans x4) R4 rfl⟩
    · cases e
  · cases e
/-- e.what -/
def dWhX (cs : List Str) (fe : DE) : DE := fun s S => bnd (fe s S) fun x S1 => match excOf S1 x with
  | some p => if p.1 ∈ cs then some (p.2, S1) else none
  | none => none
theorem re_whX {cs : List Str} {te : TE} {fe : DE} (hk : ∀ y ∈ cs, ∀ C, mg y = some (.ref C) → XfC K C ∧ PySem.W.findIn K (.ref C) "what" = some none) (h : RE K mg te fe) : RE K mg (tWhK K te) (dWhX cs fe) := by
  intro W σ s S d S' Q R L e q
  obtain ⟨x, S1, e1, e⟩ := bnd_inv e
  split at e
  · rename_i p hp
    split at e
    · rename_i hm
      cases e
      refine h W σ s S x _ _ R L e1 fun v W1 x1 R1 d1 => ?_
      obtain ⟨a, C, dx, u, rfl, o1, o2, o4, o5⟩ := excOf_ok R1 d1 (c := p.1) (w := p.2) hp
      obtain ⟨k1, k2⟩ := hk p.1 hm C o1
      exact ⟨a, C, dx, _, u, rfl, o2, k1, k2, o4, by simp [List.lookup], q _ W1 x1 R1 o5⟩
    · cases e
  · cases e
theorem Slo.unset {σ : L2.St} {s : Sl} {i : Nat} (h : Slo K W σ s) : Slo K W (σ.set i none) (s.set i none) := by
  refine ⟨by simp [h.1], fun q d hq => ?_⟩
  by_cases h1 : q = i
  · subst h1
    by_cases h2 : q < s.length
    · rw [List.getElem?_set_self h2] at hq
      cases hq
    · rw [List.getElem?_eq_none (by simp at h2 ⊢; omega)] at hq
      cases hq
  · rw [List.getElem?_set_ne (Ne.symm h1)] at hq ⊢
    exact h.2 q d hq
/-- a raising call by keywords -/
def dCallXK (n : Nat) (g : List DV → Sto → Option XR) (pk : List DV → List DV → List DV) (fa : DA) : DX := fun s S => bnd (fa s S) fun zs S1 => if (pk [] zs).length = n then (match g (pk [] zs) S1 with
  | some (.val _ S2) => some (.ok (.nx s S2))
  | some (.exc c w S2) => some (.ex c w s S2)
  | none => none) else none
theorem rx_callK {Wx : WX} {n : Nat} {gf : List DV → Sto → Option XR} {pk : List DV → List DV → List DV} {gV : List V → List V → List V} {ta : TA} {fa : DA} (hp : ∀ (W : Wd) {zs : List DV} {us : List V}, Dens K W zs us → Dens K W (pk [] zs) (gV [] us)) (h : RA K mg ta fa) :
    RSX K mg Wx (tDrop (tCallKS (spX K mg n gf) gV (WE Wx) ta)) (dCallXK n gf pk fa) := by
  intro W σ s S r D R L e P
  obtain ⟨xs, S1, e1, e⟩ := bnd_inv e
  split at e
  · rename_i hn
    refine h W σ s S xs S1 _ R L e1 fun vs W1 x1 R1 d1 => ?_
    have dp := hp W1 d1
    split at e
    · rename_i d S2 e2
      cases e
      exact ⟨by rw [dp.len]; exact hn, W1, S1, pk [] xs, .val d S2, rfl, R1, dp, e2, fun v W2 x2 R2 d2 => P σ W2 (x1.trans x2) R2 (L.ext (x1.trans x2))⟩
    · rename_i c w S2 e2
      cases e
      exact ⟨by rw [dp.len]; exact hn, W1, S1, pk [] xs, .exc c w S2, rfl, R1, dp, e2, fun C v dx W2 hc x2 R2 d2 hd => P C v dx σ W2 hc (x1.trans x2) R2 (L.ext (x1.trans x2)) d2 hd⟩
    · cases e
  · cases e
end
end DL
end
section
/-! refusals whose context is none: made, raised, let out by defs; raising calls by places and keywords -/
namespace L2N
open PySem PySem.Spec PyProof.Rows L2
section
variable {X : Cx} {C fI : Addr}
theorem mk_endN {pins : List (Addr × Obj)} {σ : L2.St} {H1 H2 : Hp} {Q : XK} {hp hp2 h2 : Heap} {g1 g2 : Array GenState} {d1 d2 : Drawn} {t1 t2 : Nat} {os1 os2 : OsState} {a C d : Addr} {fs : List (Str × V)} (T : Raises X (.ref C)) (I1 : Inv X pins σ H1 ⟨hp, g1, d1, t1, os1⟩)
    (ha : hp.objs.size ≤ a) (k : ∀ b o, hp.get? b = some o → hp2.get? b = some o) (un : Un (frs X.stack) [] (upd H1 a (exo a C none)) H2 hp2 h2) (hok : HOk X.prog X.w H2 h2) (ho : os2 = os1) (hb : AllBare g2)
    (ea : H2 a = some (exo a C (some d))) (ed : H2 d = some (exd d fs)) (hd1 : H1 d = none) (q : Q (.ref C) (some d) (upd (del H2 a) d (.xd fs))) : MkP X pins σ Q (.ref a) ⟨h2, g2, d2, t2, os2⟩ := by
  obtain ⟨t0, G, J, kG, ge, hoe, na⟩ := mk_end0 (d2 := d2) (t2 := t2) I1 ha k un hok ho hb ea ed hd1
  exact ⟨a, _, _, ⟨G, g2, d2, t2, os2⟩, _, .ref C, some d, rfl, J, kG, ge, hoe, ⟨rfl, rfl, fun vs e => by cases e; rfl⟩, rfl, rfl, na, rfl, hb, T, q⟩
theorem pmk_whatN {x : Str} {e : Expr} {ta : TA} {p pos : Pos} {k : Nat} (T : PySem.ExS.ExT X.prog X.K X.mg C fI) (hr : Room (k + 1) X.A) (ha : PA X [e] ta) (hg : Gl X x) (hm : X.mg x = some (.ref C))
    (hdb : (x == ("__debug__" : Str)) = false := by decide) (he : starEach (e :: []) X.env = (false, eval e X.env) :: starEach [] X.env := by rfl) (hpl : (backTo pos (starEach [] X.env)).any (·.1) = false := by rfl) :
    PMk X (.Call (.Name x p) [e] [] pos) (tMkW C ta) := by
  intro pins s σ H Q I h
  obtain ⟨nm, q, N, bs, bm, sn, sub, ab, col, dd, k0, k1, k2, k3, k5, hC, hbm⟩ := T.cls
  refine wpAny_Call_Name_kw (ld_glob I hg hm ?_ hdb)
  refine PySem.W.callWith_K (h₀ := X.base) I.ok.mod.kin T.kC (thn (ha.run pos pins s σ H _ I h) fun us s1 ⟨vs, H1, I1, r1, v, ev, q1⟩ => ⟨I1.kIn, ?_⟩) he hpl
  show wpAny _ _ (call (.ref C) us) _ _ _
  subst ev
  obtain ⟨u, rfl, ru⟩ := vals1 r1
  have hlim := I1.nolimit
  obtain ⟨mb, hb1, hb2⟩ := I1.mod.blt
  have hgl := I1.mod.glob.keeps I1.bk
  have hbl := hb1.keeps I1.bk
  obtain ⟨hp, g, dr, tk, os⟩ := s1
  have kk : ∀ b o, hp.get? b = some o → ((hp.push (PySem.W.kdv_tup [u])).push (PySem.HandSPX.excO C hp.objs.size)).get? b = some o := fun b o e => Heap.get?_push_of_some _ (Heap.get?_push_of_some _ e)
  have hget : ((hp.push (PySem.W.kdv_tup [u])).push (PySem.HandSPX.excO C hp.objs.size)).get? (hp.objs.size + 1) = some (PySem.HandSPX.excO C hp.objs.size) := by heap_get
  have hsz : hp.objs.size ≤ hp.objs.size + 1 := Nat.le_succ _
  have I2 : Inv X pins σ (upd H1 (hp.objs.size + 1) (exo (hp.objs.size + 1) C none)) ⟨(hp.push (PySem.W.kdv_tup [u])).push (PySem.HandSPX.excO C hp.objs.size), g, dr, tk, os⟩ :=
    I1.laid (t' := tk) (a := hp.objs.size + 1) (o := exo (hp.objs.size + 1) C none) (h' := (hp.push (PySem.W.kdv_tup [u])).push (PySem.HandSPX.excO C hp.objs.size)) kk hsz (exo_ok hget)
  have hnx : X.K.lookup (hp.objs.size + 1) = none := by
    cases z : X.K.lookup (hp.objs.size + 1) with
    | none => rfl
    | some o => exact absurd (Nat.lt_of_succ_lt (Heap.lt_size (I1.kIn _ _ z))) (Nat.lt_irrefl _)
  refine wpAny_call (PySem.HandSPX.call_own F.excBase_ValueError (fun Y => PySem.HandSPX.refsVE_contains Y bm hbm) (I1.kIn _ _ hC) (PySem.W.looks_findIn I1.kIn T.iC) (fun self => PySem.W.bind_fn I1.kIn self T.tC) (by rw [sizeLine_eq]; exact (by decide : 1 ≤ 16777216)) ?_)
  refine PySem.ExS.init_at (s := ⟨(hp.push (PySem.W.kdv_tup [u])).push (PySem.HandSPX.excO C hp.objs.size), g, dr, tk, os⟩) T (.inl rfl) I2.kIn (hlim.keeps kk) (hgl.keeps kk) (hbl.keeps kk) ((hb2 "super" (by decide)).trans (by decide +kernel)) hget hnx ?_ fun h' tk' dx t1 M => ⟨rfl, ?_⟩
  · have := hr.dp
    show X.A.depth + 1 < recursionLimit
    omega
  · obtain ⟨un, hok⟩ := init_un (fs := frs X.stack) I2.hok M ru (Heap.lt_size hget)
    have hd2 : upd H1 (hp.objs.size + 1) (exo (hp.objs.size + 1) C none) dx = none := I2.hok.fresh M.dbig
    have hd1 : H1 dx = none := by
      rw [upd_ne M.dne] at hd2
      exact hd2
    have ea : upd (upd H1 dx (exd dx [(("what" : Str), v)])) (hp.objs.size + 1) (exo (hp.objs.size + 1) C (some dx)) (hp.objs.size + 1) = some (exo (hp.objs.size + 1) C (some dx)) := upd_same
    have ed : upd (upd H1 dx (exd dx [(("what" : Str), v)])) (hp.objs.size + 1) (exo (hp.objs.size + 1) C (some dx)) dx = some (exd dx [(("what" : Str), v)]) := by rw [upd_ne M.dne, upd_same]
    have eq : upd (del (upd (upd H1 dx (exd dx [(("what" : Str), v)])) (hp.objs.size + 1) (exo (hp.objs.size + 1) C (some dx))) (hp.objs.size + 1)) dx (.xd [(("what" : Str), v)]) = upd H1 dx (.xd [(("what" : Str), v)]) := by
      funext b
      by_cases h1 : b = dx
      · rw [h1, upd_same, upd_same]
      · rw [upd_ne h1, upd_ne h1]
        by_cases h2 : b = hp.objs.size + 1
        · rw [h2, del_same]
          exact (I1.hok.fresh hsz).symm
        · rw [del_ne h2, upd_ne h2, upd_ne h1]
    have qq := q1 dx hd1
    rw [← eq] at qq
    exact mk_endN (raises_own T.exC T.tyC) I1 hsz kk un hok rfl I1.bare ea ed hd1 qq
end
/-- around a body nothing is let out -/
theorem takes0N {X : Cx} : Takes X (fun _ _ _ _ => False) := fun _ _ x => by
  obtain ⟨_, _, _, _, _, _, _, _, _, _, _, _, _, _, _, _, z⟩ := x
  exact z.elim
theorem okN {P : Program} {w : World} {K : PySem.W.Frag} {mg : Str → Option Value} {base : Heap} {x qual : Str} {st : Stmt} {f : Addr} {fd : FuncData} {N ps : List Str} {k : Nat} {sp : Sp} (F : Fun K x qual st f fd) (S : FnScope N ps (defScope st)) (len : ∀ vs H Q E, sp vs H Q E → vs.length = ps.length)
    (hbody : ∀ (cdv : Value) (A : Around) (outer : List Env) (s : Shared) (H : Hp) (vs : List V) (Q : VK) (E : XK), Room k (A.deeper (envOfC qual (defScope st) s.heap.objs.size f cdv)) → sp vs H Q E →
      ∃ t, PSs (cxOf (CX P w) P w K mg base N qual (defScope st) f cdv A outer s H E) (defBody st) t ∧ t { nx := fun _ H' => Q .non H', rt := Q } (start N vs) H) : FnOk P w K mg base (CX P w) (k + 1) f fd ps sp := by
  obtain ⟨oc, od, kV, doc, pm, an, cdv, ct, osl, rfl, lk, hcd⟩ := F.ex
  exact fn_of lk hcd S len fun A outer s H vs Q E hr hsp => hbody cdv A outer s H vs Q E hr hsp
end L2N
namespace L2
open PySem PySem.Spec PyProof.Rows
section
variable {X : Cx} {CX : CXT} {k : Nat} {f : Addr} {fd : FuncData} {ps ks : List Str} {sp : Sp} {E : L2.St → XK} {x : Str} {p pos : Pos} {e : Expr} {es : List Expr} {t : TA} {kws : List Keyword} {tk : TA} {g : List Value → List Value → List Value} {gV : List V → List V → List V}
def tCallKSA (sp : Sp) (gV : List V → List V → List V) (E : L2.St → XK) (t tk : TA) : TE := fun σ H Q => t σ H fun vs H1 => tk σ H1 fun zs H2 => sp (gV vs zs) H2 Q (E σ)
/-- f(e, .., k = v, ..), f raising -/
theorem pe_callKSA (F : FnOk X.prog X.w X.K X.mg X.base CX k f fd ps sp) (hr : Room k X.A) (hg : Gl X x) (hm : X.mg x = some (.ref f)) (hk : PySem.W.keepIn X.K (.ref f) = true) (hb : KBinds X.K fd ps ks g gV) (hx : ∀ σ, PassesAt CX X σ (E σ))
    (ha : PA X (e :: es) t) (hkw : PK X kws tk) (hall : (backToKw pos (keywordEach kws X.env)).all (·.1.isSome) = true := by rfl) (hks : (backToKw pos (keywordEach kws X.env)).filterMap (·.1) = ks := by rfl)
    (hdb : (x == ("__debug__" : Str)) = false := by decide) (he : starEach (e :: es) X.env = (false, eval e X.env) :: starEach es X.env := by rfl)
    (hpl : ((backTo pos (starEach (e :: es) X.env)).any (·.1) || (backToKw pos (keywordEach kws X.env)).any (·.1.isNone)) = false := by rfl) :
    PE X (.Call (.Name x p) (e :: es) kws pos) (tCallKSA sp gV E t tk) := by
  refine ⟨fun pins s σ H Q I h => ?_⟩
  refine wpAny_Call_Name_kw (ld_glob I hg hm ?_ hdb)
  refine PySem.W.callWith_KW (h₀ := X.base) I.ok.mod.kin hk hall (thn (ha.run pos pins s σ H _ I h) fun us s1 hu => ?_) hpl he
  obtain ⟨vs, H1, I1, r, q⟩ := hu
  refine thn (hkw.run pos pins s1 σ H1 _ I1 q) fun ws s2 hw => ?_
  obtain ⟨zs, H2, I2, rz, q2⟩ := hw
  refine ⟨I2.kIn, ?_⟩
  rw [hks]
  exact run_fnkS F hr hb (hx σ) I2 r rz q2
end
end L2
namespace DL
open PySem PyProof.Rows PySem.Spec L2
section
variable {K : PySem.W.Frag} {mg : Str → Option Value} {t : TS}
theorem fn_dlXN {P : Program} {w : World} {base : Heap} {x qual : Str} {st : Stmt} {f : Addr} {fd : FuncData} {N ps : List Str} {k n : Nat} {m : Option Bool} {body : DX} (F : Fun K x qual st f fd) (S : FnScope N ps (defScope st)) (hps : ps.length = n)
    (hb : ∀ (cdv : Value) (A : Around) (outer : List Env) (s : Shared) (H : Hp) (E : XK), Room k (A.deeper (envOfC qual (defScope st) s.heap.objs.size f cdv)) →
      L2N.Takes (cxOf (L2N.CX P w) P w K mg base N qual (defScope st) f cdv A outer s H E) (fun cls d _ H => E cls d H) →
      ∃ t, PSs (cxOf (L2N.CX P w) P w K mg base N qual (defScope st) f cdv A outer s H E) (defBody st) t ∧ RSX K mg (fun cls d _ H => E cls d H) t body) :
    FnOk P w K mg base (L2N.CX P w) (k + 1) f fd ps (spX K mg n (fnX m N.length body)) := by
  refine L2N.okN F S (fun vs H Q E h => h.1.trans hps.symm) fun cdv A outer s H vs Q E hr h => ?_
  obtain ⟨t, ht, hR⟩ := hb cdv A outer s H E hr (L2N.takes_of rfl rfl rfl rfl)
  refine ⟨t, ht, ?_⟩
  obtain ⟨_, W, S, ds, r, rfl, R, hd, hg, q⟩ := h
  unfold fnX at hg
  split at hg
  · rename_i s1 S1 e1
    split at hg
    · rename_i d2 S2 e2
      cases hg
      refine hR W _ _ S _ _ R (slo_start hd) e1 fun σ1 W1 x1 R1 L1 => ?_
      obtain ⟨W2, h2, x2, R2, d2⟩ := exF_ok R x1 R1 (d := .non) (v := V.non) rfl e2
      rw [← h2]
      exact q _ W2 x2 R2 d2
    · cases hg
  · rename_i d1 S1 e1
    split at hg
    · rename_i d2 S2 e2
      cases hg
      refine hR W _ _ S _ _ R (slo_start hd) e1 fun v1 W1 x1 R1 d1 => ?_
      obtain ⟨W2, h2, x2, R2, d2⟩ := exF_ok R x1 R1 d1 e2
      rw [← h2]
      exact q _ W2 x2 R2 d2
    · cases hg
  · rename_i c w' s1 S1 e1
    cases hg
    exact hR W _ _ S _ _ R (slo_start hd) e1 fun C v dx σ' W' hc x' R' L' d' hd' => q C v dx W' hc x' R' d' hd'
  · cases hg
theorem fn_dlXDN {P : Program} {w : World} {base : Heap} {x qual : Str} {st : Stmt} {dvs : List V} {f : Addr} {fd : FuncData} {N ps : List Str} {k n : Nat} {m : Option Bool} {body : DX} (F : FunB K x qual st dvs f fd) (S : FnScope N ps (defScope st)) (hps : ps.length = n)
    (hb : ∀ (cdv : Value) (A : Around) (outer : List Env) (s : Shared) (H : Hp) (E : XK), Room k (A.deeper (envOfC qual (defScope st) s.heap.objs.size f cdv)) →
      L2N.Takes (cxOf (L2N.CX P w) P w K mg base N qual (defScope st) f cdv A outer s H E) (fun cls d _ H => E cls d H) →
      ∃ t, PSs (cxOf (L2N.CX P w) P w K mg base N qual (defScope st) f cdv A outer s H E) (defBody st) t ∧ RSX K mg (fun cls d _ H => E cls d H) t body) :
    FnOk P w K mg base (L2N.CX P w) (k + 1) f fd ps (spX K mg n (fnX m N.length body)) := by
  refine FunD.ok F S (fun vs H Q E h => h.1.trans hps.symm) fun cdv A outer s H vs Q E hr h => ?_
  obtain ⟨t, ht, hR⟩ := hb cdv A outer s H E hr (L2N.takes_of rfl rfl rfl rfl)
  refine ⟨t, ht, ?_⟩
  obtain ⟨_, W, S, ds, r, rfl, R, hd, hg, q⟩ := h
  unfold fnX at hg
  split at hg
  · rename_i s1 S1 e1
    split at hg
    · rename_i d2 S2 e2
      cases hg
      refine hR W _ _ S _ _ R (slo_start hd) e1 fun σ1 W1 x1 R1 L1 => ?_
      obtain ⟨W2, h2, x2, R2, d2⟩ := exF_ok R x1 R1 (d := .non) (v := V.non) rfl e2
      rw [← h2]
      exact q _ W2 x2 R2 d2
    · cases hg
  · rename_i d1 S1 e1
    split at hg
    · rename_i d2 S2 e2
      cases hg
      refine hR W _ _ S _ _ R (slo_start hd) e1 fun v1 W1 x1 R1 d1 => ?_
      obtain ⟨W2, h2, x2, R2, d2⟩ := exF_ok R x1 R1 d1 e2
      rw [← h2]
      exact q _ W2 x2 R2 d2
    · cases hg
  · rename_i c' w' s1 S1 e1
    cases hg
    exact hR W _ _ S _ _ R (slo_start hd) e1 fun C v dx σ' W' hc x1 R1 L1 d1 hdx => q C v dx W' hc x1 R1 d1 hdx
  · cases hg
/-- a raising call by places and keywords -/
def dCallXKA (n : Nat) (g : List DV → Sto → Option XR) (pk : List DV → List DV → List DV) (fa fk : DA) : DX := fun s S => bnd (fa s S) fun xs S0 => bnd (fk s S0) fun zs S1 => if (pk xs zs).length = n then (match g (pk xs zs) S1 with
  | some (.val _ S2) => some (.ok (.nx s S2))
  | some (.exc c w S2) => some (.ex c w s S2)
  | none => none) else none
theorem rx_callKA {Wx : WX} {n : Nat} {gf : List DV → Sto → Option XR} {pk : List DV → List DV → List DV} {gV : List V → List V → List V} {ta tk : TA} {fa fk : DA} (hp : ∀ (W : Wd) {xs zs : List DV} {vs us : List V}, Dens K W xs vs → Dens K W zs us → Dens K W (pk xs zs) (gV vs us)) (h0 : RA K mg ta fa) (h : RA K mg tk fk) :
    RSX K mg Wx (tDrop (tCallKSA (spX K mg n gf) gV (WE Wx) ta tk)) (dCallXKA n gf pk fa fk) := by
  intro W σ s S r D R L e P
  obtain ⟨xs, S0, e0, e⟩ := bnd_inv e
  obtain ⟨zs, S1, e1, e⟩ := bnd_inv e
  split at e
  · rename_i hn
    refine h0 W σ s S xs S0 _ R L e0 fun vs W0 x0 R0 d0 => ?_
    refine h W0 σ s S0 zs S1 _ R0 (L.ext x0) e1 fun us W1 x1 R1 d1 => ?_
    have dp := hp W1 (d0.ext x1) d1
    have x01 := x0.trans x1
    split at e
    · rename_i d S2 e2
      cases e
      exact ⟨by rw [dp.len]; exact hn, W1, S1, pk xs zs, .val d S2, rfl, R1, dp, e2, fun v W2 x2 R2 d2 => P σ W2 (x01.trans x2) R2 (L.ext (x01.trans x2))⟩
    · rename_i c w S2 e2
      cases e
      exact ⟨by rw [dp.len]; exact hn, W1, S1, pk xs zs, .exc c w S2, rfl, R1, dp, e2, fun C v dx W2 hc x2 R2 d2 hd => P C v dx σ W2 hc (x01.trans x2) R2 (L.ext (x01.trans x2)) d2 hd⟩
    · cases e
  · cases e
end
end DL
end
section
/-! a def called within an except suite, the exception handed on to it -/
namespace L2H
open PySem PySem.Spec PyProof.Rows L2 HotX
/-- what such a def promises: of the exception at a, its class and its dict -/
abbrev SpH := Value → Option Addr → Addr → List V → Hp → VK → Prop
structure FnHX (P : Program) (w : World) (K : PySem.W.Frag) (mg : Str → Option Value) (base : Heap) (k : Nat) (f : Addr) (fd : FuncData) (ps : List Str) (sp : SpH) : Prop where
  len : ∀ cls d a vs H Q, sp cls d a vs H Q → vs.length = ps.length
  run : ∀ (A : Around) (outer : List Env) (s : Shared) (H : Hp) (args : Args) (us : List Value) (vs : List V) (Q : VK) (p : Addr × Obj) (cls : Value) (d : Option Addr), RoomH k A → Hot1 A p → Zc cls d p.2 → PinOk outer H s p → Env0 P w K mg base A outer s H → BindsTo s fd args (ps.zip us) → Vals vs us → sp cls d p.1 vs H Q →
    codeAny (model P w) A (.call (.ref f) args) (CR CX0 outer P w H s Q E0) s
theorem mark_self {A : Around} {v : Value} (h : A.handled = some v) : A.mark (some v) = A := by
  cases A
  cases h
  rfl
theorem fn_ofHX {P : Program} {w : World} {K : PySem.W.Frag} {mg : Str → Option Value} {base : Heap} {k : Nat} {x qual : Str} {st : Stmt} {f : Addr} {fd : FuncData} {N ps : List Str} {sp : SpH} (F : Fun K x qual st f fd) (S : FnScope N ps (defScope st)) (len : ∀ cls d a vs H Q, sp cls d a vs H Q → vs.length = ps.length)
    (hbody : ∀ (cdv : Value) (A : Around) (outer : List Env) (s : Shared) (H : Hp) (vs : List V) (Q : VK) (p : Addr × Obj) (cls : Value) (d : Option Addr), Hot1 A p → Zc cls d p.2 → RoomH k (A.deeper (envOfC qual (defScope st) s.heap.objs.size f cdv)) → sp cls d p.1 vs H Q →
      ∃ t, PSs ((cxOf CX0 P w K mg base N qual (defScope st) f cdv A outer s H E0).suite p.1 [p]) (defBody st) t ∧ t { nx := fun _ H' => Q .non H', rt := Q } (L2.start N vs) H) :
    FnHX P w K mg base (k + 1) f fd ps sp := by
  obtain ⟨oc, od, kV, doc, pm, an, cdv, ct, osl, rfl, lk, hcd⟩ := F.ex
  refine ⟨len, fun A outer s H args us vs Q p cls d hr hot hz hpin e0 hb r hsp => ?_⟩
  have hl := len _ _ _ _ _ _ hsp
  have KX : K.In s.heap := e0.mod.kin.keeps fun b o e => (e0.bs b o e).1
  have lim : s.heap.NoLimit := e0.mod.nolimit.keeps fun b o e => (e0.bs b o e).1
  have hkind : ∀ y ∈ ps.zip us, (defScope st).names.lookup y.1 = some .local ∨ ((defScope st).names.lookup y.1 = some .cell ∧ ((cellsFrom (s.heap.objs.size + 1) (defScope st).names []).lookup y.1).isSome = true) := fun ⟨n, v⟩ hy => by
    rcases S.par n (List.of_mem_zip hy).1 with q | q
    · exact .inl q
    · exact .inr ⟨q, PySem.W.cellsFrom_some _ _ _ (.inl q)⟩
  refine codeAny_call_function hr.depth (KX _ _ lk) rfl S.co S.gen rfl (PySem.W.codeRec_of KX hcd) (hb _ _ _ _ ?_)
  refine wpAny_newFunctionEnv_cells S.kind hkind fun env he s1 x => ?_
  subst he
  refine ⟨lim.keeps x.toInCall.keep, codeAny_func ?_⟩
  obtain ⟨t, ht, hq⟩ := hbody cdv A outer s H vs Q p cls d hot hz (hr.deeper _) hsp
  have I : Inv (cxH CX0 P w K mg base N qual (defScope st) f cdv A outer s H E0 p) [] (L2.start N vs) H s1 := inv_startH S hpin e0 hl r x
  have hA : (A.deeper (envOfC qual (defScope st) s.heap.objs.size f cdv)).mark (some (.ref p.1)) = A.deeper (envOfC qual (defScope st) s.heap.objs.size f cdv) := mark_self hot.1
  have run := ht.run [] s1 (L2.start N vs) H { nx := fun _ H' => Q .non H', rt := Q }
  have I' : Inv ((cxOf CX0 P w K mg base N qual (defScope st) f cdv A outer s H E0).suite p.1 [p]) [] (L2.start N vs) H s1 := by
    have o := I.ok
    refine ⟨⟨o.mod, o.kind, o.glob, o.blt, o.above, o.inj, o.has, o.cab, (fun z => Bool.noConfusion (show false = true from z)), ?_, o.stk, o.exf, o.bs, o.bsz, o.noex, o.exfs, o.funs, o.frf⟩, I.os, I.bare, I.base, I.loc, I.cell, I.free, I.freeC, I.pin, I.hok, I.len⟩
    show ((A.deeper (envOfC qual (defScope st) s.heap.objs.size f cdv)).mark (some (.ref p.1))).frames = _
    rw [hA]
    exact o.frames
  have z := run I' hq
  have conv : ∀ {α : Type} {u : Sem α} {Q' : α → Shared → Prop} {E' : Value → Shared → Prop}, wpAny (model P w) ((A.deeper (envOfC qual (defScope st) s.heap.objs.size f cdv)).mark (some (.ref p.1))) u Q' E' s1 → wpAny (model P w) (A.deeper (envOfC qual (defScope st) s.heap.objs.size f cdv)) u Q' E' s1 := fun h => by
    rw [hA] at h
    exact h
  refine wpAny_mono (conv z) (fun fl s' hs => ?_) fun e s' hs => False.elim hs
  have fin : ∀ {σ' : L2.St} {H' : Hp} {v : V} {u : Value}, Inv ((cxOf CX0 P w K mg base N qual (defScope st) f cdv A outer s H E0).suite p.1 [p]) [] σ' H' s' → RelV v u → Q v H' → CE outer P w H s Q u s' :=
    fun {σ' H' v u} J rv q => ⟨v, H', J.os, J.bare, J.base, J.hok, rv, q⟩
  cases fl with
  | ret u =>
    obtain ⟨v, σ', H', J, rv, q⟩ := hs
    exact fin J rv q
  | next =>
    obtain ⟨σ', H', J, q⟩ := hs
    exact fin (v := V.non) (u := Value.none) J rfl q
  | brk =>
    obtain ⟨_, _, _, q⟩ := hs
    exact False.elim q
  | cont =>
    obtain ⟨_, _, _, q⟩ := hs
    exact False.elim q
section
variable {X : Cx} {k : Nat} {f a : Addr} {oe : Obj} {cls : Value} {d : Option Addr} {pn : List (Addr × Obj)} {fd : FuncData} {ps : List Str} {sp : SpH} {x : Str} {q pos : Pos} {e : Expr} {es : List Expr} {t : TA}
def tCallH (sp : SpH) (cls : Value) (d : Option Addr) (a : Addr) (t : TA) : TE := fun σ H Q => t σ H fun vs H1 => sp cls d a vs H1 Q
theorem pe_callHX (F : FnHX X.prog X.w X.K X.mg X.base k f fd ps sp) (hz : L2N.Zn cls d oe) (hf : ∃ vs, oe.data = .fields vs) (hr : RoomH k X.A) (hg : Gl X x) (hm : X.mg x = some (.ref f)) (hk : PySem.W.keepIn X.K (.ref f) = true) (hb : Binds X.K fd ps [])
    (ha : PA (X.suite a ((a, oe) :: pn)) (e :: es) t) (hdb : (x == ("__debug__" : Str)) = false := by decide) (he : starEach (e :: es) X.env = (false, eval e X.env) :: starEach es X.env := by rfl) (hpl : (backTo pos (starEach es X.env)).any (·.1) = false := by rfl) :
    PE (X.suite a ((a, oe) :: pn)) (.Call (.Name x q) (e :: es) [] pos) (tCallH sp cls d a t) := by
  refine ⟨fun pins s σ H Q I h => ?_⟩
  refine wpAny_Call_Name_kw (ld_glob (X := X.suite a ((a, oe) :: pn)) I hg hm ?_ hdb)
  refine PySem.W.callWith_K (h₀ := X.base) I.ok.mod.kin hk (thn (ha.run pos pins s σ H _ I h) fun us s1 hu => ?_) he hpl
  obtain ⟨vs, H1, I1, r, h1⟩ := hu
  refine ⟨I1.kIn, ?_⟩
  have hl : us.length = ps.length := by rw [← r.length]; exact F.len _ _ _ _ _ _ h1
  have b := hb s1 us I1.kIn (by rw [List.append_nil]; exact hl)
  rw [List.append_nil] at b
  have P1 := I1.pin (a, oe) (List.mem_append_left _ List.mem_cons_self)
  have hpin : PinOk (X.suite a ((a, oe) :: pn)).stack H1 s1 (a, oe) := ⟨P1.1, P1.2.1, fun hm => (List.mem_cons.mp (I1.stkSub a hm)).elim P1.2.2.1 P1.2.2.2.1, P1.2.2.2.2⟩
  have hot : Hot1 (X.A.mark (some (.ref a))) (a, oe) := by
    obtain ⟨vs, hd⟩ := hf
    exact ⟨rfl, vs, hd, hz.2.2 vs hd⟩
  have hr' : RoomH k (X.A.mark (some (.ref a))) := ⟨hr.dp, hr.un⟩
  refine wpAny_call (codeAny_mono (F.run (X.A.mark (some (.ref a))) (X.suite a ((a, oe) :: pn)).stack s1 H1 ⟨us, []⟩ us vs Q (a, oe) cls d hr' hot hz.zc hpin I1.env0 b r h1) fun r s' hq => ?_)
  cases r with
  | error e => exact False.elim hq
  | ok fl =>
    cases fl with
    | ret u => exact I1.after hq
    | next => exact False.elim hq
    | brk => exact False.elim hq
    | cont => exact False.elim hq
end
end L2H
end
section
/-! as data: a def asked within an except suite, the exception its one argument -/
namespace DL
open PySem PyProof.Rows PySem.Spec L2
/-- slot i holds the exception that is handled -/
structure Kq (K : PySem.W.Frag) (k : Kd) (W : Wd) (σ : L2.St) : Prop where
  sl : σ[k.i]? = some (some (.ref k.a))
  hx : W.H k.dx = some (.xd [(("what" : Str), k.v)])
  nx : k.dx ∉ W.α
  dw : Den K W k.w k.v
section
variable {K : PySem.W.Frag} {mg : Str → Option Value} {k : Kd}
theorem Kq.ext {W W' : Wd} {σ : L2.St} (h : Kq K k W σ) (x : Ext W W') : Kq K k W' σ where
  sl := h.sl
  hx := x.h _ _ h.nx (fun ps z => by cases z) h.hx
  nx := fun z => by
    rcases x.an _ z with y | y
    · exact h.nx y
    · rw [h.hx] at y
      cases y
  dw := h.dw.ext x
variable (K mg k)
def QE (te : TE) (f : DE) : Prop := ∀ (W : Wd) (σ : L2.St) (s : Sl) (S : Sto) (d : DV) (S' : Sto) (Q : VK), Rep K mg W S → Slo K W σ s → Kq K k W σ → f s S = some (d, S') →
  (∀ v W', Ext W W' → Rep K mg W' S' → Den K W' d v → Q v W'.H) → te σ W.H Q
def QA (ta : TA) (f : DA) : Prop := ∀ (W : Wd) (σ : L2.St) (s : Sl) (S : Sto) (ds : List DV) (S' : Sto) (Q : List V → Hp → Prop), Rep K mg W S → Slo K W σ s → Kq K k W σ → f s S = some (ds, S') →
  (∀ vs W', Ext W W' → Rep K mg W' S' → Dens K W' ds vs → Q vs W'.H) → ta σ W.H Q
variable {K mg k}
variable {te ta tb : TE} {fe fa fb : DE} {taa : TA} {faa : DA}
theorem qe (h : RE K mg te fe) : QE K mg k te fe := fun W σ s S d S' Q R L _ e q => h W σ s S d S' Q R L e q
theorem qa (h : RA K mg taa faa) : QA K mg k taa faa := fun W σ s S d S' Q R L _ e q => h W σ s S d S' Q R L e q
theorem qa_cons (ha : QE K mg k ta fa) (hr : QA K mg k taa faa) : QA K mg k (tCons ta taa) (dCons fa faa) := by
  intro W σ s S ds S' Q R L P h q
  obtain ⟨x, S1, e1, h⟩ := bnd_inv h
  obtain ⟨xs, S2, e2, h⟩ := bnd_inv h
  cases h
  refine ha W σ s S x S1 _ R L P e1 fun v W1 x1 R1 d1 => ?_
  refine hr W1 σ s _ xs _ _ R1 (L.ext x1) (P.ext x1) e2 fun vs W2 x2 R2 d2 => ?_
  exact q (v :: vs) W2 (x1.trans x2) R2 ⟨v, vs, rfl, d1.ext x2, d2⟩
theorem qe_tup (h : QA K mg k taa faa) : QE K mg k (tTup taa) (dTup faa) := by
  intro W σ s S d S' Q R L P e q
  obtain ⟨xs, S1, e1, e⟩ := bnd_inv e
  obtain ⟨hl, e⟩ := gate_inv e
  cases e
  refine h W σ s S xs _ _ R L P e1 fun vs W1 x1 R1 d1 => ⟨by rw [d1.len]; exact lim_le hl, fun p hp => ?_⟩
  obtain ⟨W2, e2, x2, R2, d2⟩ := newT_ok R1 hp d1
  rw [← e2]
  exact q _ W2 (x1.trans x2) R2 d2
theorem qe_lst {m : Bool} (h : QA K mg k taa faa) : QE K mg k (tLst taa) (dLst m faa) := by
  intro W σ s S d S' Q R L P e q
  obtain ⟨xs, S1, e1, e⟩ := bnd_inv e
  obtain ⟨hl, e⟩ := gate_inv e
  refine h W σ s S xs S1 _ R L P e1 fun vs W1 x1 R1 d1 => ⟨by rw [d1.len]; exact lim_le hl, fun p hp => ?_⟩
  obtain ⟨W2, e2, x2, R2, d2⟩ := newL_ok R1 hp d1 (Option.some.inj e)
  rw [← e2]
  exact q _ W2 (x1.trans x2) R2 d2
theorem qe_op {r : R2} {g : DV → DV → Sto → Option (DV × Sto)} (hr : RO K mg r g) (ha : QE K mg k ta fa) (hb : QE K mg k tb fb) : QE K mg k (tOp r ta tb) (dOp g fa fb) := by
  intro W σ s S d S' Q R L P h q
  obtain ⟨x, S1, e1, h⟩ := bnd_inv h
  obtain ⟨y, S2, e2, h⟩ := bnd_inv h
  refine ha W σ s S x S1 _ R L P e1 fun v W1 x1 R1 d1 => ?_
  refine hb W1 σ s S1 y S2 _ R1 (L.ext x1) (P.ext x1) e2 fun u W2 x2 R2 d2 => ?_
  exact hr W2 S2 x y v u d S' Q R2 (d1.ext x2) d2 h fun z W3 x3 R3 d3 => q z W3 ((x1.trans x2).trans x3) R3 d3
theorem qe_BM {r : V → List V → Hp → VK → Prop} {g : DV → List DV → Sto → Option (DV × Sto)} {T : String} (hr : RM K mg r g) (ho : QE K mg k te fa) (h : QA K mg k taa faa) : QE K mg k (tBM K T r te taa) (dBM T g fa faa) := by
  intro W σ s S d S' Q R L P e q
  obtain ⟨x, S1, e1, e⟩ := bnd_inv e
  split at e
  · rename_i hT
    obtain ⟨xs, S2, e2, e⟩ := bnd_inv e
    refine ho W σ s S x S1 _ R L P e1 fun v W1 x1 R1 d1 => ⟨?_, ?_⟩
    · obtain ⟨ds, hd⟩ := Option.isSome_iff_exists.mp hT.2
      obtain ⟨a, vs, rfl, h1, _⟩ := rdL_ok R1 d1 hd
      exact .inl ⟨hT.1, vs, h1⟩
    · refine h W1 σ s S1 xs S2 _ R1 (L.ext x1) (P.ext x1) e2 fun vs W2 x2 R2 d2 => ?_
      exact hr W2 S2 x xs v vs d S' Q R2 (d1.ext x2) d2 e fun z W3 x3 R3 d3 => q z W3 ((x1.trans x2).trans x3) R3 d3
  · cases e
/-- isinstance(e, C) -/
theorem qe_is {c : V} {cv : Value} {b : Bool} (xc : ExcC K k.D) (hc : ClsV c cv) (hk : PySem.W.kitOne K (.ref k.D) cv = some b) : QE K mg k (tCB (rIsD K k.a (.ref k.D) (some k.dx)) (tCons (tVar k.i) (tCons (tC c) tNil))) (dIs b) := by
  intro W σ s S d S' Q R L P e q
  cases e
  exact ⟨_, P.sl, k.D, k.dx, c, cv, b, _, rfl, rfl, xc, rfl, hc, hk, P.hx, q (.bl b) W (Ext.refl W) R rfl⟩
/-- e.what -/
theorem qe_what : QE K mg k (tXf k.a (.ref k.D) (some k.dx) k.D "what" (tVar k.i)) (dKw k.w) := by
  intro W σ s S d S' Q R L P e q
  cases e
  exact ⟨_, P.sl, rfl, rfl, k.dx, _, k.v, rfl, P.hx, by simp [List.lookup], q k.v W (Ext.refl W) R P.dw⟩
/-- statements -/
def QS (K : PySem.W.Frag) (mg : Str → Option Value) (k : Kd) (ts : TS) (f : DS) : Prop := ∀ (W : Wd) (σ : L2.St) (s : Sl) (S : Sto) (r : Res) (D : Ends), Rep K mg W S → Slo K W σ s → Kq K k W σ → f s S = some r →
  (match r with
  | .nx s' S' => ∀ σ' W', Ext W W' → Rep K mg W' S' → Slo K W' σ' s' → Kq K k W' σ' → D.nx σ' W'.H
  | .rt d S' => ∀ v W', Ext W W' → Rep K mg W' S' → Den K W' d v → D.rt v W'.H
  | _ => False) → ts D σ W.H
theorem qs_ret (h : QE K mg k te fe) : QS K mg k (tRet te) (dRet fe) := by
  intro W σ s S r D R L P e p
  obtain ⟨d, S1, e1, e⟩ := bnd_inv e
  cases e
  exact h W σ s S d S1 _ R L P e1 fun v W1 x1 R1 d1 => p v W1 x1 R1 d1
theorem qs_drop (h : QE K mg k te fe) : QS K mg k (tDrop te) (dDrop fe) := by
  intro W σ s S r D R L P e p
  obtain ⟨d, S1, e1, e⟩ := bnd_inv e
  cases e
  exact h W σ s S d S1 _ R L P e1 fun v W1 x1 R1 d1 => p σ W1 x1 R1 (L.ext x1) (P.ext x1)
theorem qs_seq {t u : TS} {f g : DS} (h1 : QS K mg k t f) (h2 : QS K mg k u g) : QS K mg k (tSeq t u) (dSeq f g) := by
  intro W σ s S r D R L P e p
  cases q : f s S with
  | none => simp [dSeq, q] at e
  | some r1 =>
    cases r1 with
    | nx s1 S1 =>
      have e : g s1 S1 = some r := by simpa [dSeq, q, kNx] using e
      refine h1 W σ s S _ _ R L P q fun σ1 W1 x1 R1 L1 P1 => ?_
      refine h2 W1 σ1 s1 S1 r D R1 L1 P1 e ?_
      cases r with
      | nx s2 S2 => exact fun σ2 W2 x2 R2 L2 P2 => p σ2 W2 (x1.trans x2) R2 L2 P2
      | rt d S2 => exact fun v W2 x2 R2 d2 => p v W2 (x1.trans x2) R2 d2
      | bk s2 S2 => exact p
      | ct s2 S2 => exact p
    | rt d S2 =>
      have e : Res.rt d S2 = r := by simpa [dSeq, q, kNx] using e
      subst e
      exact h1 W σ s S _ _ R L P q p
    | bk s2 S2 =>
      have e : Res.bk s2 S2 = r := by simpa [dSeq, q, kNx] using e
      subst e
      exact False.elim p
    | ct s2 S2 =>
      have e : Res.ct s2 S2 = r := by simpa [dSeq, q, kNx] using e
      subst e
      exact False.elim p
theorem qs_asg {j : Nat} (h : QE K mg k te fe) (hj : j ≠ k.i) : QS K mg k (tAsg te (gName j)) (dAsg fe (dName j)) := by
  intro W σ s S r D R L P e p
  obtain ⟨d, S1, e1, e⟩ := bnd_inv e
  have e : Res.nx (s.set j (some d)) S1 = r := by simpa [dName] using e
  subst e
  refine h W σ s S d S1 _ R L P e1 fun v W1 x1 R1 d1 => ?_
  have P1 := P.ext x1
  exact p (σ.set j (some v)) W1 x1 R1 ((L.ext x1).set j d1) ⟨by rw [List.getElem?_set_ne hj]; exact P1.sl, P1.hx, P1.nx, P1.dw⟩
end
/-- such a def as a function of data: of the exception's class and of what it keeps -/
noncomputable def fnH (m : Option Bool) (n : Nat) (body : Str → DV → DS) : Str → DV → Sto → Option (DV × Sto) := fun c w S => match body c w (List.replicate n none) S with
  | some (.rt d S1) => exF m S d S1
  | _ => none
section
variable (K : PySem.W.Frag) (mg : Str → Option Value)
def spH (cs : List Str) (g : Str → DV → Sto → Option (DV × Sto)) : L2H.SpH := fun cls d a vs H Q => vs = [.ref a] ∧ ∃ (W : Wd) (S : Sto) (c : Str) (v : V) (w : DV) (D dx : Addr) (d' : DV) (S' : Sto), W.H = H ∧ Rep K mg W S ∧ c ∈ cs ∧ mg c = some (.ref D) ∧ cls = .ref D ∧ d = some dx ∧
  W.H dx = some (.xd [(("what" : Str), v)]) ∧ dx ∉ W.α ∧ Den K W w v ∧ g c w S = some (d', S') ∧ ∀ u W', Ext W W' → Rep K mg W' S' → Den K W' d' u → Q u W'.H
end
section
variable {K : PySem.W.Frag} {mg : Str → Option Value} {P : Program} {w : World} {base : Heap}
theorem fn_dlH {x qual : Str} {st : Stmt} {f : Addr} {fd : FuncData} {N ps : List Str} {k : Nat} {m : Option Bool} {cs : List Str} {body : Str → DV → DS} (F : Fun K x qual st f fd) (S : FnScope N ps (defScope st)) (hps : ps.length = 1) (hN : 0 < N.length)
    (hb : ∀ (c : Str) (D : Addr), c ∈ cs → mg c = some (.ref D) → ∀ (cdv : Value) (A : Around) (outer : List Env) (s : Shared) (H : Hp) (p : Addr × Obj) (dx : Addr), L2H.HotC ((cxOf CX0 P w K mg base N qual (defScope st) f cdv A outer s H E0).suite p.1 [p]) → Zc (.ref D) (some dx) p.2 → (∃ vs, p.2.data = .fields vs) →
      L2H.RoomH k (A.deeper (envOfC qual (defScope st) s.heap.objs.size f cdv)) →
      ∃ t, PSs ((cxOf CX0 P w K mg base N qual (defScope st) f cdv A outer s H E0).suite p.1 [p]) (defBody st) t ∧ ∀ (v : V) (w : DV), QS K mg ⟨0, p.1, D, dx, v, w⟩ t (body c w)) :
    L2H.FnHX P w K mg base (k + 1) f fd ps (spH K mg cs (fnH m N.length body)) := by
  refine L2H.fn_ofHX F S (fun cls d a vs H Q h => by rw [h.1, hps]; rfl) fun cdv A outer s H vs Q p cls d hot hz hr h => ?_
  obtain ⟨rfl, W, S0, c, v, w0, D, dx, d', S', rfl, R, hc, hm, rfl, rfl, hx, nx, dw, hg, q⟩ := h
  obtain ⟨hh, vs, hd, h2⟩ := hot
  obtain ⟨t, ht, hR⟩ := hb c D hc hm cdv A outer s W.H p dx ⟨p, ⟨rfl, vs, hd, h2⟩, List.mem_cons_self⟩ hz ⟨vs, hd⟩ hr
  refine ⟨t, ht, ?_⟩
  have L0 : Slo K W (L2.start N [V.ref p.1]) (List.replicate N.length none) := by
    refine ⟨by unfold L2.start; simp; omega, fun i d hi => ?_⟩
    rw [List.getElem?_replicate] at hi
    split at hi <;> cases hi
  have P0 : Kq K ⟨0, p.1, D, dx, v, w0⟩ W (L2.start N [V.ref p.1]) := ⟨by unfold L2.start; simp, hx, nx, dw⟩
  unfold fnH at hg
  split at hg
  · rename_i d1 S1 e1
    refine hR v w0 W _ _ S0 _ _ R L0 P0 e1 fun v1 W1 x1 R1 d1 => ?_
    obtain ⟨W2, h2, x2, R2, d2⟩ := exF_ok R x1 R1 d1 hg
    rw [← h2]
    exact q _ W2 x2 R2 d2
  · cases hg
/-- try: .. / except X as e: kept = f(e) -/
def tTryH (K : PySem.W.Frag) (C0 : Addr) (i j : Nat) (sp : L2H.SpH) (tb : WX → TS) : TS := fun D σ H => tb (wAs K (.ref C0) i (fun a cls d => tAsg (L2H.tCallH sp cls d a (tCons (tVar i) tNil)) (gName j)) (fun _ _ _ _ => False) D) D σ H
def dTryH (cs : List Str) (i j : Nat) (g : Str → DV → Sto → Option (DV × Sto)) (blk : DX) : DS := fun s S => match blk s S with
  | some (.ok r) => some r
  | some (.ex c w s1 S1) => if c ∈ cs ∧ i < s1.length then (match g c w S1 with
    | some (d, S2) => some (.nx (((s1.set i none).set j (some d)).set i none) S2)
    | none => none) else none
  | none => none
theorem rs_tryH {cs : List Str} {i j : Nat} {C0 : Addr} {tb : WX → TS} {g : Str → DV → Sto → Option (DV × Sto)} {blk : DX} (hij : i ≠ j) (hb : ∀ Wx, RSX K mg Wx (tb Wx) blk) (hx : ∀ y ∈ cs, ∀ C, mg y = some (.ref C) → PySem.W.exmOne K (.ref C) (.ref C0) = some true) :
    RS K mg (tTryH K C0 i j (spH K mg cs g) tb) (dTryH cs i j g blk) := by
  intro W σ s S r D R L e P
  unfold dTryH at e
  split at e
  · rename_i r' e1
    cases e
    exact hb _ W σ s S _ D R L e1 P
  · rename_i c w s1 S1 e1
    split at e
    · rename_i hm
      split at e
      · rename_i d S2 e2
        cases e
        refine hb _ W σ s S _ D R L e1 ?_
        intro C v dx σ' W' hc x R' L' d' hd
        refine ⟨true, hx c hm.1 C hc, fun _ a ha => ?_, fun z => Bool.noConfusion z⟩
        obtain ⟨x3, R3⟩ := loose_new (o := .xd [(("what" : Str), v)]) R' hd
        have hne : dx ≠ a := fun z => by
          rw [← z] at ha
          rw [upd_same] at ha
          cases ha
        have il : i < σ'.length := by rw [L'.1]; exact hm.2
        refine ⟨.ref a, by rw [List.getElem?_set_self il], rfl, W'.loose dx (.xd [(("what" : Str), v)]), S1, c, v, w, C, dx, d, S2, rfl, R3, hm.1, hc, rfl, rfl, upd_same, fun z => R'.there z hd, d'.ext x3, e2, fun u W4 x4 R4 d4 => ?_⟩
        have L4 := L'.ext (x3.trans x4)
        have Lu : Slo K W4 (σ'.set i (some (.ref a))) (s1.set i none) := by
          refine ⟨by simp [L4.1], fun q d hq => ?_⟩
          by_cases h1 : q = i
          · subst h1
            rw [List.getElem?_set_self hm.2] at hq
            cases hq
          · rw [List.getElem?_set_ne (Ne.symm h1)] at hq ⊢
            exact L4.2 q d hq
        exact P _ W4 ((x.trans x3).trans x4) R4 ((Lu.set j d4).unset)
      · cases e
    · cases e
  · cases e
end
end DL
end
section
namespace FW
/-! ### pools: the mathematics -/
abbrev Tk := Int × Rat
def Wi : List Tk → Rat
  | [] => 0
  | t :: l => (t.1 : Rat) + Wi l
def Am : List Tk → Rat
  | [] => 0
  | t :: l => t.2 + Am l
theorem Wi_app : ∀ a b : List Tk, Wi (a ++ b) = Wi a + Wi b
  | [], b => by simp [Wi, Rat.zero_add]
  | t :: a, b => by simp only [List.cons_append, Wi, Wi_app a b, Rat.add_assoc]
theorem Am_app : ∀ a b : List Tk, Am (a ++ b) = Am a + Am b
  | [], b => by simp [Am, Rat.zero_add]
  | t :: a, b => by simp only [List.cons_append, Am, Am_app a b, Rat.add_assoc]
def ht (l : List Tk) : Rat := Am l / Wi l
def Fl (l : List Tk) : Prop := ∀ t ∈ l, 1 ≤ t.1
theorem cast_one_le {n : Int} (h : 1 ≤ n) : (1 : Rat) ≤ (n : Rat) := by
  have : ((1 : Int) : Rat) ≤ (n : Rat) := by exact_mod_cast h
  simpa using this
theorem Wi_nonneg : ∀ {l : List Tk}, Fl l → 0 ≤ Wi l
  | [], _ => Rat.le_refl
  | t :: l, h => by
    have h1 := cast_one_le (h t (List.mem_cons_self))
    have h2 := Wi_nonneg (l := l) fun x hx => h x (List.mem_cons_of_mem _ hx)
    simp only [Wi]
    grind
theorem Wi_pos {l : List Tk} (h : Fl l) (h0 : l ≠ []) : 0 < Wi l := by
  cases l with
  | nil => exact absurd rfl h0
  | cons t l =>
    have h1 := cast_one_le (h t (List.mem_cons_self))
    have h2 := Wi_nonneg (l := l) fun x hx => h x (List.mem_cons_of_mem _ hx)
    simp only [Wi]
    grind
theorem ht_mul {l : List Tk} (h : Fl l) (h0 : l ≠ []) : ht l * Wi l = Am l := by
  have := Wi_pos h h0
  unfold ht
  grind
theorem mul_le_left {a b c : Rat} (h : a ≤ b) (hc : 0 ≤ c) : a * c ≤ b * c := Rat.mul_le_mul_of_nonneg_right h hc
/-- no part at the left has less than its share -/
structure Good (p : List Tk) : Prop where
  fl : Fl p
  ne : p ≠ []
  pre : ∀ u v, p = u ++ v → ht p * Wi u ≤ Am u
theorem good_one {t : Tk} (h : 1 ≤ t.1) : Good [t] where
  fl := fun x hx => by cases List.mem_singleton.mp hx; exact h
  ne := by simp
  pre := fun u v e => by
    cases u with
    | nil => simp [Wi, Am, Rat.mul_zero]
    | cons x u =>
      have e' : t = x ∧ u = [] ∧ v = [] := by simpa using e
      obtain ⟨rfl, rfl, rfl⟩ := e'
      have := ht_mul (l := [t]) (fun y hy => by cases List.mem_singleton.mp hy; exact h) (by simp)
      rw [this]
      exact Rat.le_refl
theorem Fl.app {a b : List Tk} (h : Fl a) (g : Fl b) : Fl (a ++ b) := fun x hx => by
  rcases List.mem_append.mp hx with hx | hx
  · exact h x hx
  · exact g x hx
/-- the height of both together lies between -/
theorem ht_between {t p : List Tk} (ht_ : Good t) (hp : Good p) (h : ht p ≤ ht t) : ht p ≤ ht (t ++ p) ∧ ht (t ++ p) ≤ ht t := by
  have w1 := Wi_pos ht_.fl ht_.ne
  have w2 := Wi_pos hp.fl hp.ne
  have e1 := ht_mul ht_.fl ht_.ne
  have e2 := ht_mul hp.fl hp.ne
  have e3 := ht_mul (ht_.fl.app hp.fl) (by simp [ht_.ne])
  rw [Wi_app, Am_app] at e3
  have m1 := mul_le_left h (Rat.le_of_lt w1)
  have m2 := mul_le_left h (Rat.le_of_lt w2)
  constructor
  · refine Rat.not_lt.mp fun z => ?_
    have k1 := Rat.mul_lt_mul_of_pos_right z (show 0 < Wi t + Wi p by grind)
    grind
  · refine Rat.not_lt.mp fun z => ?_
    have k1 := Rat.mul_lt_mul_of_pos_right z (show 0 < Wi t + Wi p by grind)
    grind
theorem alg1 {H h Wt Wc Wv At Ac Av : Rat} (q : h * Wc ≤ Ac) (e1 : h * (Wc + Wv) = Ac + Av) (e3 : H * (Wt + (Wc + Wv)) = At + (Ac + Av)) (m : h * Wv ≤ H * Wv) : H * (Wt + Wc) ≤ At + Ac := by
  grind
theorem good_app {t p : List Tk} (gt : Good t) (gp : Good p) (h : ht p ≤ ht t) : Good (t ++ p) where
  fl := gt.fl.app gp.fl
  ne := by simp [gt.ne]
  pre := fun u v e => by
    obtain ⟨b1, b2⟩ := ht_between gt gp h
    rcases List.append_eq_append_iff.mp e with ⟨c, rfl, hc⟩ | ⟨c, hc, rfl⟩
    · -- u = t ++ c
      have q := gp.pre c v hc
      have e1 := ht_mul gp.fl gp.ne
      have e3 := ht_mul (gt.fl.app gp.fl) (by simp [gt.ne])
      have hc' : Fl c := fun x hx => gp.fl x (by rw [hc]; exact List.mem_append_left _ hx)
      have hv' : Fl v := fun x hx => gp.fl x (by rw [hc]; exact List.mem_append_right _ hx)
      have wv := Wi_nonneg hv'
      have m := mul_le_left b1 wv
      have ea : Am p = Am c + Am v := by rw [hc, Am_app]
      have ew : Wi p = Wi c + Wi v := by rw [hc, Wi_app]
      rw [Wi_app, Am_app, ea, ew] at e3
      rw [ea, ew] at e1
      rw [Wi_app, Am_app]
      exact alg1 q e1 e3 m
    · have q := gt.pre u c hc
      have hu' : Fl u := fun x hx => gt.fl x (by rw [hc]; exact List.mem_append_left _ hx)
      have m := mul_le_left b2 (Wi_nonneg hu')
      grind
/-- one more pool on top: the stack has its top first -/
noncomputable def mg : List (List Tk) → List Tk → List (List Tk)
  | [], p => [p]
  | t :: st, p => if ht p < ht t then mg st (t ++ p) else p :: t :: st
structure Stk (st : List (List Tk)) : Prop where
  good : ∀ p ∈ st, Good p
  up : st.Pairwise fun p t => ht t ≤ ht p
theorem mg_ok : ∀ {st : List (List Tk)} {p : List Tk}, Stk st → Good p → Stk (mg st p) ∧ (mg st p).reverse.flatten = st.reverse.flatten ++ p ∧ mg st p ≠ []
  | [], p, _, hp => ⟨⟨fun q hq => by cases List.mem_singleton.mp hq; exact hp, List.pairwise_singleton _ _⟩, by simp [mg], by simp [mg]⟩
  | t :: st, p, hs, hp => by
    have gt := hs.good t (List.mem_cons_self)
    have hs' : Stk st := ⟨fun q hq => hs.good q (List.mem_cons_of_mem _ hq), (List.pairwise_cons.mp hs.up).2⟩
    unfold mg
    split
    · rename_i h
      obtain ⟨h1, h2, h3⟩ := mg_ok hs' (good_app gt hp (Rat.le_of_lt h))
      exact ⟨h1, by rw [h2]; simp, h3⟩
    · rename_i h
      have h := Rat.not_lt.mp h
      refine ⟨⟨fun q hq => ?_, List.pairwise_cons.mpr ⟨fun q hq => ?_, hs.up⟩⟩, by simp, by simp⟩
      · rcases List.mem_cons.mp hq with rfl | hq
        · exact hp
        · exact hs.good q hq
      · rcases List.mem_cons.mp hq with rfl | hq
        · exact h
        · exact Rat.le_trans ((List.pairwise_cons.mp hs.up).1 q hq) h
end FW
end
section
namespace FW
/-! ### heaps at rest, against straight lines -/
abbrev Sk := Tk × Rat
noncomputable def sl (p : List Tk) : List Sk := p.map fun t => (t, ht p)
noncomputable def fl (ps : List (List Tk)) : List Sk := ps.flatMap sl
def Zi : List Sk → Rat
  | [] => 0
  | x :: l => x.2 * (x.1.1 : Rat) + Zi l
theorem Zi_app : ∀ a b : List Sk, Zi (a ++ b) = Zi a + Zi b
  | [], b => by simp [Zi, Rat.zero_add]
  | t :: a, b => by simp only [List.cons_append, Zi, Zi_app a b, Rat.add_assoc]
def un (l : List Sk) : List Tk := l.map (·.1)
theorem un_sl (p : List Tk) : un (sl p) = p := by
  unfold un sl
  rw [List.map_map]
  exact List.map_id' p
theorem un_app (a b : List Sk) : un (a ++ b) = un a ++ un b := List.map_append
theorem un_fl : ∀ ps : List (List Tk), un (fl ps) = ps.flatten
  | [] => rfl
  | p :: ps => by
    show un (sl p ++ fl ps) = p ++ ps.flatten
    rw [un_app, un_sl, un_fl ps]
theorem Zi_const {h : Rat} : ∀ {w : List Sk}, (∀ x ∈ w, x.2 = h) → Zi w = h * Wi (un w)
  | [], _ => by simp [Zi, un, Wi, Rat.mul_zero]
  | x :: w, hx => by
    have h1 := hx x (List.mem_cons_self)
    have h2 := Zi_const (h := h) (w := w) fun y hy => hx y (List.mem_cons_of_mem _ hy)
    show x.2 * (x.1.1 : Rat) + Zi w = h * ((x.1.1 : Rat) + Wi (un w))
    rw [h1, h2, Rat.mul_add]
theorem Zi_le {s : Rat} : ∀ {w : List Sk}, Fl (un w) → (∀ x ∈ w, x.2 ≤ s) → Zi w ≤ s * Wi (un w)
  | [], _, _ => by simp [Zi, un, Wi, Rat.mul_zero]
  | x :: w, hf, hx => by
    have h1 := hx x (List.mem_cons_self)
    have f1 := cast_one_le (hf x.1 (List.mem_cons_self))
    have h2 := Zi_le (s := s) (w := w) (fun y hy => hf y (List.mem_cons_of_mem _ hy)) fun y hy => hx y (List.mem_cons_of_mem _ hy)
    have m := mul_le_left h1 (show (0 : Rat) ≤ (x.1.1 : Rat) by grind)
    show x.2 * (x.1.1 : Rat) + Zi w ≤ s * ((x.1.1 : Rat) + Wi (un w))
    grind
theorem Zi_ge {s : Rat} : ∀ {w : List Sk}, Fl (un w) → (∀ x ∈ w, s ≤ x.2) → s * Wi (un w) ≤ Zi w
  | [], _, _ => by simp [Zi, un, Wi, Rat.mul_zero]
  | x :: w, hf, hx => by
    have h1 := hx x (List.mem_cons_self)
    have f1 := cast_one_le (hf x.1 (List.mem_cons_self))
    have h2 := Zi_ge (s := s) (w := w) (fun y hy => hf y (List.mem_cons_of_mem _ hy)) fun y hy => hx y (List.mem_cons_of_mem _ hy)
    have m := mul_le_left h1 (show (0 : Rat) ≤ (x.1.1 : Rat) by grind)
    show s * ((x.1.1 : Rat) + Wi (un w)) ≤ x.2 * (x.1.1 : Rat) + Zi w
    grind
theorem top_of : ∀ u : List Sk, ∃ s : Rat, ∀ x ∈ u, x.2 ≤ s
  | [] => ⟨0, fun x hx => by cases hx⟩
  | y :: u => by
    obtain ⟨s, hs⟩ := top_of u
    by_cases h : y.2 ≤ s
    · exact ⟨s, fun x hx => by
        rcases List.mem_cons.mp hx with rfl | hx
        · exact h
        · exact hs x hx⟩
    · exact ⟨y.2, fun x hx => by
        rcases List.mem_cons.mp hx with rfl | hx
        · exact Rat.le_refl
        · exact Rat.le_trans (hs x hx) (by grind)⟩
theorem cut_of {u v : List Sk} (h : (u ++ v).Pairwise fun x y => x.2 ≤ y.2) : ∃ s : Rat, (∀ x ∈ u, x.2 ≤ s) ∧ ∀ x ∈ v, s ≤ x.2 := by
  obtain ⟨h1, h2, h3⟩ := List.pairwise_append.mp h
  cases v with
  | nil =>
    obtain ⟨s, hs⟩ := top_of u
    exact ⟨s, hs, fun x hx => by cases hx⟩
  | cons y v =>
    refine ⟨y.2, fun x hx => h3 x hx y (List.mem_cons_self), fun x hx => ?_⟩
    rcases List.mem_cons.mp hx with rfl | hx
    · exact Rat.le_refl
    · exact (List.pairwise_cons.mp h2).1 x hx
/-! the values at a place -/
noncomputable def Xa (l : List Tk) (k : Nat) : Rat := Wi (l.take k)
noncomputable def Ya (l : List Tk) (k : Nat) : Rat := Am (l.take k)
noncomputable def Za (F : List Sk) (k : Nat) : Rat := Zi (F.take k)
theorem take_split {α : Type} (l : List α) {i k : Nat} (h : i ≤ k) : l.take k = l.take i ++ (l.take k).drop i := by
  have := List.take_append_drop i (l.take k)
  rw [List.take_take, Nat.min_eq_left h] at this
  exact this.symm
theorem fl_take {F : List Sk} (h : Fl (un F)) (i k : Nat) : Fl (un ((F.take k).drop i)) := fun t ht => by
  obtain ⟨x, hx, rfl⟩ := List.mem_map.mp ht
  exact h _ (List.mem_map.mpr ⟨x, List.mem_of_mem_take (List.mem_of_mem_drop hx), rfl⟩)
theorem un_take (F : List Sk) (k : Nat) : un (F.take k) = (un F).take k := List.map_take
/-- the line at a place bounds all from below -/
theorem under_line {F : List Sk} (hf : Fl (un F)) (hs : F.Pairwise fun x y => x.2 ≤ y.2) (k : Nat) :
    ∃ s : Rat, (∀ i, i ≤ k → Za F k - Za F i ≤ s * (Xa (un F) k - Xa (un F) i)) ∧ ∀ j, k ≤ j → s * (Xa (un F) j - Xa (un F) k) ≤ Za F j - Za F k := by
  obtain ⟨s, h1, h2⟩ := cut_of (u := F.take k) (v := F.drop k) (by rw [List.take_append_drop]; exact hs)
  refine ⟨s, fun i hi => ?_, fun j hj => ?_⟩
  · have e := take_split F hi
    have m := Zi_le (s := s) (fl_take hf i k) fun x hx => h1 x (List.mem_of_mem_drop hx)
    have e1 : Za F k = Za F i + Zi ((F.take k).drop i) := by unfold Za; rw [← Zi_app, ← e]
    have e2 : Xa (un F) k = Xa (un F) i + Wi (un ((F.take k).drop i)) := by
      unfold Xa
      rw [← un_take, ← un_take, ← Wi_app, ← un_app, ← e]
    rw [e1, e2]
    grind
  · have e := take_split F hj
    have m := Zi_ge (s := s) (fl_take hf k j) fun x hx => h2 x (by
      rw [List.drop_take] at hx
      exact List.mem_of_mem_take hx)
    have e1 : Za F j = Za F k + Zi ((F.take j).drop k) := by unfold Za; rw [← Zi_app, ← e]
    have e2 : Xa (un F) j = Xa (un F) k + Wi (un ((F.take j).drop k)) := by
      unfold Xa
      rw [← un_take, ← un_take, ← Wi_app, ← un_app, ← e]
    rw [e1, e2]
    grind
end FW
end
section
namespace FW
section
variable {p : List Tk} {ps : List (List Tk)} {k : Nat}
theorem sl_len (p : List Tk) : (sl p).length = p.length := List.length_map _
theorem tk_lo {α : Type} {a b : List α} {k : Nat} (h : k ≤ a.length) : (a ++ b).take k = a.take k := List.take_append_of_le_length h
theorem tk_hi {α : Type} {a b : List α} (k : Nat) : (a ++ b).take (a.length + k) = a ++ b.take k := by
  rw [List.take_append, List.take_of_length_le (by omega), Nat.add_sub_cancel_left]
theorem Xa_lo {a b : List Tk} (h : k ≤ a.length) : Xa (a ++ b) k = Xa a k := by unfold Xa; rw [tk_lo h]
theorem Ya_lo {a b : List Tk} (h : k ≤ a.length) : Ya (a ++ b) k = Ya a k := by unfold Ya; rw [tk_lo h]
theorem Xa_hi {a b : List Tk} (k : Nat) : Xa (a ++ b) (a.length + k) = Wi a + Xa b k := by unfold Xa; rw [tk_hi, Wi_app]
theorem Ya_hi {a b : List Tk} (k : Nat) : Ya (a ++ b) (a.length + k) = Am a + Ya b k := by unfold Ya; rw [tk_hi, Am_app]
theorem Zi_sl {w : List Tk} {h : Rat} : Zi (w.map fun t => (t, h)) = h * Wi w := by
  rw [Zi_const (h := h) fun x hx => ?_]
  · unfold un
    rw [List.map_map]
    congr 1
    exact congrArg Wi (List.map_id' w)
  · obtain ⟨t, _, rfl⟩ := List.mem_map.mp hx
    rfl
theorem Za_lo (h : k ≤ p.length) : Za (fl (p :: ps)) k = ht p * Xa p k := by
  unfold Za
  show Zi ((sl p ++ fl ps).take k) = _
  rw [tk_lo (by rw [sl_len]; exact h)]
  unfold sl Xa
  rw [← List.map_take, Zi_sl]
theorem Za_hi (g : Good p) (k : Nat) : Za (fl (p :: ps)) (p.length + k) = Am p + Za (fl ps) k := by
  unfold Za
  show Zi ((sl p ++ fl ps).take (p.length + k)) = _
  have e : p.length = (sl p).length := (sl_len p).symm
  rw [e, tk_hi, Zi_app]
  congr 1
  unfold sl
  rw [Zi_sl, ht_mul g.fl g.ne]
theorem Za_under : ∀ {ps : List (List Tk)}, (∀ p ∈ ps, Good p) → ∀ k, Za (fl ps) k ≤ Ya ps.flatten k
  | [], _, k => by simp [Za, fl, Ya, Zi, Am]
  | p :: ps, h, k => by
    have g := h p (List.mem_cons_self)
    by_cases hk : k ≤ p.length
    · rw [Za_lo hk, List.flatten_cons, Ya_lo hk]
      exact g.pre _ _ (List.take_append_drop k p).symm
    · obtain ⟨m, rfl⟩ : ∃ m, k = p.length + m := ⟨k - p.length, by omega⟩
      rw [Za_hi g, List.flatten_cons, Ya_hi]
      have := Za_under (ps := ps) (fun q hq => h q (List.mem_cons_of_mem _ hq)) m
      grind
structure Flat (ps : List (List Tk)) (i k j : Nat) (h : Rat) : Prop where
  ik : i ≤ k
  kj : k ≤ j
  jn : j ≤ ps.flatten.length
  zi : Za (fl ps) i = Ya ps.flatten i
  zj : Za (fl ps) j = Ya ps.flatten j
  a : Za (fl ps) k = Za (fl ps) i + h * (Xa ps.flatten k - Xa ps.flatten i)
  b : Za (fl ps) j = Za (fl ps) k + h * (Xa ps.flatten j - Xa ps.flatten k)
theorem X0 (l : List Tk) : Xa l 0 = 0 := rfl
theorem Y0 (l : List Tk) : Ya l 0 = 0 := rfl
theorem Z0 (l : List Sk) : Za l 0 = 0 := rfl
theorem flat_of : ∀ {ps : List (List Tk)}, (∀ p ∈ ps, Good p) → ∀ k, k ≤ ps.flatten.length → ∃ i j h, Flat ps i k j h
  | [], _, k, hk => by
    have : k = 0 := by simpa using hk
    subst this
    exact ⟨0, 0, 0, Nat.le_refl _, Nat.le_refl _, Nat.le_refl _, rfl, rfl, by simp [Z0, Rat.zero_mul, Rat.add_zero], by simp [Z0, Rat.zero_mul, Rat.add_zero]⟩
  | p :: ps, h, k, hk => by
    have g := h p (List.mem_cons_self)
    have e := ht_mul g.fl g.ne
    by_cases hk2 : k ≤ p.length
    · have x1 : Xa p p.length = Wi p := by unfold Xa; rw [List.take_length]
      have y1 : Ya p p.length = Am p := by unfold Ya; rw [List.take_length]
      refine ⟨0, p.length, ht p, Nat.zero_le _, hk2, by simp, rfl, ?_, ?_, ?_⟩
      · rw [Za_lo (Nat.le_refl _), List.flatten_cons, Ya_lo (Nat.le_refl _), x1, y1, e]
      · rw [Za_lo hk2, List.flatten_cons, Xa_lo hk2, X0, Z0]
        grind
      · rw [Za_lo hk2, Za_lo (Nat.le_refl _), List.flatten_cons, Xa_lo hk2, Xa_lo (Nat.le_refl _)]
        grind
    · obtain ⟨m, rfl⟩ : ∃ m, k = p.length + m := ⟨k - p.length, by omega⟩
      obtain ⟨i, j, s, f⟩ := flat_of (ps := ps) (fun q hq => h q (List.mem_cons_of_mem _ hq)) m (by simp at hk ⊢; omega)
      have f1 := f.zi; have f2 := f.zj; have f3 := f.a; have f4 := f.b
      refine ⟨p.length + i, p.length + j, s, Nat.add_le_add_left f.ik _, Nat.add_le_add_left f.kj _, ?_, ?_, ?_, ?_, ?_⟩
      · rw [List.flatten_cons, List.length_append]; exact Nat.add_le_add_left f.jn _
      · rw [Za_hi g, List.flatten_cons, Ya_hi, f1]
      · rw [Za_hi g, List.flatten_cons, Ya_hi, f2]
      · rw [Za_hi g, Za_hi g, List.flatten_cons, Xa_hi, Xa_hi, f3]; grind
      · rw [Za_hi g, Za_hi g, List.flatten_cons, Xa_hi, Xa_hi, f4]; grind
theorem fl_up : ∀ {ps : List (List Tk)}, ps.Pairwise (fun p q => ht p ≤ ht q) → (fl ps).Pairwise fun x y => x.2 ≤ y.2
  | [], _ => List.Pairwise.nil
  | p :: ps, h => by
    obtain ⟨h1, h2⟩ := List.pairwise_cons.mp h
    refine List.pairwise_append.mpr ⟨?_, fl_up h2, fun x hx y hy => ?_⟩
    · unfold sl
      rw [List.pairwise_map]
      exact List.pairwise_of_forall fun _ _ => Rat.le_refl
    · obtain ⟨t, _, rfl⟩ := List.mem_map.mp hx
      obtain ⟨q, hq, hy⟩ := List.mem_flatMap.mp hy
      obtain ⟨u, _, rfl⟩ := List.mem_map.mp hy
      exact h1 q hq
end
/-- how high the line between two places stands -/
noncomputable def chord (l : List Tk) (i k j : Nat) : Rat := if i = j then Ya l k else (Ya l i * (Xa l j - Xa l k) + Ya l j * (Xa l k - Xa l i)) / (Xa l j - Xa l i)
theorem Xa_mono {l : List Tk} (h : Fl l) {i j : Nat} (hij : i ≤ j) : Xa l i ≤ Xa l j := by
  have e := take_split l hij
  have f : Fl ((l.take j).drop i) := fun t ht => h t (List.mem_of_mem_take (List.mem_of_mem_drop ht))
  have := Wi_nonneg f
  have e2 : Xa l j = Xa l i + Wi ((l.take j).drop i) := by unfold Xa; rw [← Wi_app, ← e]
  rw [e2]
  grind
theorem Xa_lt {l : List Tk} (h : Fl l) {i j : Nat} (hij : i < j) (hj : j ≤ l.length) : Xa l i < Xa l j := by
  have e := take_split l (Nat.le_of_lt hij)
  have f : Fl ((l.take j).drop i) := fun t ht => h t (List.mem_of_mem_take (List.mem_of_mem_drop ht))
  have := Wi_pos f (by
    intro z
    have := congrArg List.length z
    simp at this
    omega)
  have e2 : Xa l j = Xa l i + Wi ((l.take j).drop i) := by unfold Xa; rw [← Wi_app, ← e]
  rw [e2]
  grind
theorem le_div {a b c : Rat} (hc : 0 < c) (h : a * c ≤ b) : a ≤ b / c := by
  refine Rat.not_lt.mp fun z => ?_
  have k1 := Rat.mul_lt_mul_of_pos_right z hc
  have e : b / c * c = b := by grind
  grind
theorem alg2 {Zk Yi Yj Xi Xk Xj Zi' Zj s : Rat} (h1 : Zk - Zi' ≤ s * (Xk - Xi)) (h2 : s * (Xj - Xk) ≤ Zj - Zk) (y1 : Zi' ≤ Yi) (y2 : Zj ≤ Yj) (a : Xi ≤ Xk) (b : Xk ≤ Xj) : Zk * (Xj - Xi) ≤ Yi * (Xj - Xk) + Yj * (Xk - Xi) := by
  have m1 := mul_le_left (show Zk - s * (Xk - Xi) ≤ Yi by grind) (show 0 ≤ Xj - Xk by grind)
  have m2 := mul_le_left (show Zk + s * (Xj - Xk) ≤ Yj by grind) (show 0 ≤ Xk - Xi by grind)
  grind
/-- the heaps at rest are the lowest lines -/
theorem rest_lines {ps : List (List Tk)} (hg : ∀ p ∈ ps, Good p) (hu : ps.Pairwise fun p q => ht p ≤ ht q) {k : Nat} (hk : k ≤ ps.flatten.length) :
    (∀ i j, i ≤ k → k ≤ j → j ≤ ps.flatten.length → Za (fl ps) k ≤ chord ps.flatten i k j) ∧ ∃ i j, i ≤ k ∧ k ≤ j ∧ j ≤ ps.flatten.length ∧ chord ps.flatten i k j = Za (fl ps) k := by
  have hf : Fl ps.flatten := fun t ht => by
    obtain ⟨p, hp, ht⟩ := List.mem_flatten.mp ht
    exact (hg p hp).fl t ht
  have hF : un (fl ps) = ps.flatten := un_fl ps
  obtain ⟨s, l1, l2⟩ := under_line (F := fl ps) (by rw [hF]; exact hf) (fl_up hu) k
  rw [hF] at l1 l2
  have un := Za_under hg
  refine ⟨fun i j hi hj hn => ?_, ?_⟩
  · unfold chord
    split
    · exact un k
    · rename_i hne
      have hx := Xa_lt hf (show i < j by omega) hn
      exact le_div (by grind) (alg2 (l1 i hi) (l2 j hj) (un i) (un j) (Xa_mono hf hi) (Xa_mono hf hj))
  · obtain ⟨i, j, h, f⟩ := flat_of hg k hk
    refine ⟨i, j, f.ik, f.kj, f.jn, ?_⟩
    unfold chord
    split
    · rename_i e
      have : k = i := by have := f.ik; have := f.kj; omega
      rw [this]
      exact f.zi.symm
    · rename_i hne
      have hx := Xa_lt hf (show i < j by have := f.ik; have := f.kj; omega) f.jn
      have f1 := f.zi; have f2 := f.zj; have f3 := f.a; have f4 := f.b
      have hx' : Xa ps.flatten j - Xa ps.flatten i ≠ 0 := by grind
      rw [← f1, ← f2, f4]
      rw [f3]
      grind
end FW
end
section
namespace FW
open PySem PyProof.Rows PySem.Spec L2 DL
theorem mkRat_mul_div {q : Rat} {p w : Int} (hw : 0 < w) : mkRat (q.num * p) (q.den * w.toNat) = q * p / w := by
  have h1 : (q.den : Rat) ≠ 0 := by exact_mod_cast q.den_nz
  have h2 : ((w.toNat : Int)) = w := Int.toNat_of_nonneg (Int.le_of_lt hw)
  have h3 : (w : Rat) ≠ 0 := by
    intro z
    have : w = 0 := by exact_mod_cast z
    omega
  have hq : q * (q.den : Rat) = (q.num : Rat) := by
    have h4 := Rat.mkRat_self q
    rw [Rat.mkRat_eq_div] at h4
    grind
  rw [Rat.mkRat_eq_div]
  have e3 : (w.toNat : Rat) = (w : Rat) := by
    rw [← Rat.intCast_natCast, h2]
  have e : ((q.den * w.toNat : Nat) : Rat) = (q.den : Rat) * (w : Rat) := by
    rw [Rat.natCast_mul, e3]
  have e2 : ((q.num * p : Int) : Rat) = (q.num : Rat) * (p : Rat) := by simp
  rw [e, e2, ← hq]
  grind
theorem fr_mul (q r : Rat) : (mkRat q.num r.den).num * (mkRat r.num q.den).num = (q * r).num ∧ (mkRat r.num q.den).den * (mkRat q.num r.den).den = (q * r).den := by
  have h1 : ¬ r.den = 0 := r.den_nz
  have h2 : ¬ q.den = 0 := q.den_nz
  have e : q * r = Rat.mul q r := rfl
  rw [e]
  unfold Rat.mul
  simp only [Rat.num_mkRat, Rat.den_mkRat, if_neg h1, if_neg h2]
  have d1 : ((q.num.natAbs.gcd r.den : Nat) : Int) ∣ q.num := Int.ofNat_dvd_left.mpr (Nat.gcd_dvd_left _ _)
  have d2 : ((r.num.natAbs.gcd q.den : Nat) : Int) ∣ r.num := Int.ofNat_dvd_left.mpr (Nat.gcd_dvd_left _ _)
  rw [Nat.gcd_comm r.den, Nat.gcd_comm q.den]
  simp only [Int.divExact_eq_tdiv, Nat.divExact_eq_div, Int.tdiv_eq_ediv_of_dvd d1, Int.tdiv_eq_ediv_of_dvd d2]
  exact ⟨trivial, trivial⟩
theorem share_ok {q : Rat} {p w : Int} {n : Nat} {S : Sto} (h : Sz n q) (hn : n ≤ 5000) (hp : p.natAbs < 2 ^ 100) (hw : 0 < w) (hw2 : w < 2 ^ 100) : f_share_z [fr q, .int p, .int w] S = some (fr (q * p / w), S) := by
  obtain ⟨v, rfl⟩ : ∃ v : Nat, w = (v : Int) := ⟨w.toNat, by omega⟩
  have hv0 : 0 < v := by omega
  have hv1 : v < 2 ^ 100 := by omega
  have hv : v < 2 ^ 8000 := Nat.lt_of_lt_of_le hv1 (Nat.pow_le_pow_right (by decide) (by decide))
  have hd : q.den < 2 ^ 8000 := Nat.lt_of_lt_of_le h.2 (Nat.pow_le_pow_right (by decide) (by omega))
  have k1 := lowest_ok (a := p) (b := v) (S := S) hv0 hv
  have er : q * p / ((v : Nat) : Int) = q * mkRat p v := by
    rw [Rat.mkRat_eq_div]
    have h3 : (v : Rat) ≠ 0 := by
      intro z
      have : v = 0 := by exact_mod_cast z
      omega
    rw [Rat.intCast_natCast]
    grind
  rw [er]
  have z1 : Sz 100 (mkRat p v) := sz_mkRat hv0 hp hv1
  generalize hr : mkRat p v = r at k1 z1
  have k2 := lowest_ok (a := q.num) (b := r.den) (S := S) r.den_pos (Nat.lt_of_lt_of_le z1.2 (Nat.pow_le_pow_right (by decide) (by decide)))
  have k3 := lowest_ok (a := r.num) (b := q.den) (S := S) q.den_pos hd
  obtain ⟨e1, e2⟩ := fr_mul q r
  have z2 : Sz 5000 (mkRat q.num r.den) := sz_mkRat r.den_pos (Nat.lt_of_lt_of_le h.1 (Nat.pow_le_pow_right (by decide) hn)) (Nat.lt_of_lt_of_le z1.2 (Nat.pow_le_pow_right (by decide) (by decide)))
  have z3 : Sz 5000 (mkRat r.num q.den) := sz_mkRat q.den_pos (Nat.lt_of_lt_of_le z1.1 (Nat.pow_le_pow_right (by decide) (by decide))) (Nat.lt_of_lt_of_le h.2 (Nat.pow_le_pow_right (by decide) hn))
  generalize hx : mkRat q.num r.den = x at k2 e1 e2 z2
  generalize hy : mkRat r.num q.den = y at k3 e1 e2 z3
  have f1 := z2.fn (by decide); have f2 := z2.fd (by decide); have f3 := z3.fn (by decide); have f4 := z3.fd (by decide)
  simp [f_share_z, fnF, b_share_z, ixD, fr, startD] at k1 k2 k3 ⊢
  simp [k1, k2, k3, f1, f2, f3, f4, e1]
  rw [← e2]
  push_cast
  rfl
/-- a pool, as the program holds it -/
def pl (p : List Tk) : DV := .tup [dI (p.map (·.1)), fr (Am p)]
theorem sum_Wi : ∀ p : List Tk, (((p.map (·.1)).sum : Int) : Rat) = Wi p
  | [] => by simp [Wi]
  | t :: p => by
    simp only [List.map_cons, List.sum_cons, Wi, ← sum_Wi p]
    simp
theorem sum_small : ∀ {p : List Tk}, (∀ t ∈ p, 1 ≤ t.1 ∧ t.1 ≤ 1000) → p.length ≤ (p.map (·.1)).sum ∧ (p.map (·.1)).sum ≤ 1000 * p.length
  | [], _ => by simp
  | t :: p, h => by
    have h1 := h t (List.mem_cons_self)
    have h2 := sum_small (p := p) fun x hx => h x (List.mem_cons_of_mem _ hx)
    simp only [List.map_cons, List.sum_cons, List.length_cons]
    omega
theorem pool_height_ok {p : List Tk} {n : Nat} {S : Sto} (hf : ∀ t ∈ p, 1 ≤ t.1 ∧ t.1 ≤ 1000) (h0 : p ≠ []) (hl : p.length ≤ 1000) (h : Sz n (Am p)) (hn : n ≤ 5000) : f_pool_height_z [pl p] S = some (fr (ht p), S) := by
  obtain ⟨h1, h2⟩ := sum_small hf
  have h3 : 0 < p.length := List.length_pos_iff.mpr h0
  have key := share_ok (S := S) (p := 1) (w := (p.map (·.1)).sum) h hn (by decide) (by omega) (by omega)
  have e : Am p * ((1 : Int) : Rat) / (((p.map (·.1)).sum : Int) : Rat) = ht p := by
    rw [sum_Wi]
    unfold ht
    simp [Rat.mul_one]
  rw [e] at key
  have hs : sumD [dI (p.map (·.1))] S = some (.int (p.map (·.1)).sum, S) := by
    have := toIs_map (p.map (·.1))
    simp only [sumD, dI, rdL_lst, this]
  simp [f_pool_height_z, fnF, b_pool_height_z, pl, hs, key]
theorem sz_share {q : Rat} {p w : Int} {n : Nat} (h : Sz n q) (hp : p.natAbs < 2 ^ 100) (hw : 0 < w) (hw2 : w < 2 ^ 100) : Sz (n + 100) (q * p / w) := by
  rw [← mkRat_mul_div hw]
  refine sz_mkRat (Nat.mul_pos q.den_pos (by omega)) ?_ ?_
  · rw [Int.natAbs_mul, Nat.pow_add]
    exact Nat.mul_lt_mul'' h.1 hp
  · rw [Nat.pow_add]
    exact Nat.mul_lt_mul'' h.2 (by omega)
theorem sz_ht {p : List Tk} {n : Nat} (hf : ∀ t ∈ p, 1 ≤ t.1 ∧ t.1 ≤ 1000) (h0 : p ≠ []) (hl : p.length ≤ 1000) (h : Sz n (Am p)) : Sz (n + 100) (ht p) := by
  obtain ⟨h1, h2⟩ := sum_small hf
  have h3 : 0 < p.length := List.length_pos_iff.mpr h0
  have key := sz_share (p := 1) (w := (p.map (·.1)).sum) h (by decide) (by omega) (by omega)
  have e : Am p * ((1 : Int) : Rat) / (((p.map (·.1)).sum : Int) : Rat) = ht p := by
    rw [sum_Wi]
    unfold ht
    simp [Rat.mul_one]
  rw [e] at key
  exact key
theorem sz_Am {m : Nat} : ∀ {p : List Tk}, (∀ t ∈ p, Sz m t.2) → Sz (1 + p.length * (m + 1)) (Am p)
  | [], _ => sz_zero (by simp)
  | t :: p, h => by
    have h1 := (h t (List.mem_cons_self)).add (sz_Am (p := p) fun x hx => h x (List.mem_cons_of_mem _ hx))
    refine h1.mono ?_
    rw [List.length_cons, Nat.add_mul]
    omega
/-- a kind of amounts: each, and so many of them together, of bounded size -/
structure Zc where
  C : Rat → Prop
  L : Nat
  B : Nat
  one : ∀ q, C q → Sz B q
  sum : ∀ p : List Tk, (∀ t ∈ p, C t.2) → p.length ≤ L → Sz B (Am p)
def zS (m L : Nat) : Zc where
  C := Sz m
  L := L
  B := 1 + (L + 1) * (m + 1)
  one := fun q h => h.mono (by
    have := Nat.le_mul_of_pos_left (m + 1) (show 0 < L + 1 by omega)
    omega)
  sum := fun p h hl => (sz_Am h).mono (by
    have := Nat.mul_le_mul_right (m + 1) (show p.length ≤ L + 1 by omega)
    omega)
structure OkT (m : Zc) (t : Tk) : Prop where
  lo : 1 ≤ t.1
  hi : t.1 ≤ 1000
  sz : m.C t.2
def OkP (m : Zc) (p : List Tk) : Prop := p ≠ [] ∧ ∀ t ∈ p, OkT m t
theorem OkP.fl {m : Zc} {p : List Tk} (h : OkP m p) : ∀ t ∈ p, 1 ≤ t.1 ∧ t.1 ≤ 1000 := fun t ht => ⟨(h.2 t ht).lo, (h.2 t ht).hi⟩
theorem OkP.am {m : Zc} {L : Nat} {p : List Tk} (h : OkP m p) (hl : p.length ≤ L) (hL : L ≤ m.L := by first | assumption | omega) : Sz m.B (Am p) := m.sum p (fun t ht => (h.2 t ht).sz) (Nat.le_trans hl hL)
theorem OkP.app {m : Zc} {a b : List Tk} (h : OkP m a) (g : OkP m b) : OkP m (a ++ b) := ⟨by simp [h.1], fun t ht => by
  rcases List.mem_append.mp ht with ht | ht
  · exact h.2 t ht
  · exact g.2 t ht⟩
noncomputable def wC : DT := dAnd (dTru (dVar 2)) (dTest (dCall 2 f_above_z [] (dCons (dCall 1 f_pool_height_z [] (dCons (dOp ixD (dVar 2) (dUn negD (dC (.int 1)))) dNil)) (dCons (dCall 1 f_pool_height_z [] (dCons (dVar 5) dNil)) dNil))))
noncomputable def wB : DS := (dSeq (dAsg (dBM0 "list" popD (dVar 2)) (dGTup 2 (dGCons (dName 6) (dGCons (dName 7) dGNil))))
    (dAsg (dTup (dCons (dOp (addD false) (dVar 6) (dOp ixD (dVar 5) (dC (.int 0)))) (dCons (dCall 2 f_plus_z [] (dCons (dVar 7) (dCons (dOp ixD (dVar 5) (dC (.int 1))) dNil))) dNil))) (dName 5)))
theorem pool_while {S : Sto} {x0 x1 v3 v4 : Option DV} {m0 : Zc} {L : Nat} (hL : L ≤ 1000) (hL2 : L ≤ m0.L ∧ m0.B ≤ 3000) : ∀ (st : List (List Tk)) (p : List Tk) (v6 v7 : Option DV) (m : Nat), st.length < m → (∀ q ∈ st, OkP m0 q) → OkP m0 p → st.flatten.length + p.length ≤ L →
    ∃ p' st' v6' v7', mg st p = p' :: st' ∧ whileF wC wB m [x0, x1, some (.ptr S.length), v3, v4, some (pl p), v6, v7] (S ++ [.ml (st.reverse.map pl)]) =
      some (.nx [x0, x1, some (.ptr S.length), v3, v4, some (pl p'), v6', v7'] (S ++ [.ml (st'.reverse.map pl)]))
  | [], p, v6, v7, m, hm, _, hp, hl => by
    obtain ⟨m, rfl⟩ : ∃ k, m = k + 1 := ⟨m - 1, by simp at hm; omega⟩
    refine ⟨p, [], v6, v7, rfl, while_end (S1 := S ++ [.ml []]) ?_⟩
    simp [wC, truD]
  | t :: st, p, v6, v7, m, hm, hs, hp, hl => by
    obtain ⟨m, rfl⟩ : ∃ k, m = k + 1 := ⟨m - 1, by simp at hm; omega⟩
    have ht' := hs t (List.mem_cons_self)
    have lt : t.length ≤ L := by simp at hl; omega
    have lp : p.length ≤ L := by omega
    have at_ := ht'.am lt
    have ap := hp.am lp
    have e1 := fun S => pool_height_ok (S := S) ht'.fl ht'.1 (by omega) at_ (by omega)
    have e2 := fun S => pool_height_ok (S := S) hp.fl hp.1 (by omega) ap (by omega)
    have e3 := fun S => above_ok (S := S) (sz_ht ht'.fl ht'.1 (by omega) at_) (sz_ht hp.fl hp.1 (by omega) ap) (by omega) (by omega)
    obtain ⟨Z, hZ⟩ : ∃ Z, Z = st.reverse.map pl := ⟨_, rfl⟩
    have rv : (t :: st).reverse.map pl = Z ++ [pl t] := by simp [hZ]
    have ix : ∀ S : Sto, ixD (.ptr S.length) (.int (-1)) (S ++ [.ml (Z ++ [pl t])]) = some (pl t, S ++ [.ml (Z ++ [pl t])]) := fun S => by
      have : L2.atI (Z ++ [pl t]) (-1) = some (pl t) := L2.atI_last _ _
      simp only [ixD, rdL_top, Option.or, this]
    have tr : truD (S ++ [.ml (Z ++ [pl t])]) (.ptr S.length) = some true := by
      simp [truD]
    by_cases h : ht p < ht t
    · obtain ⟨p', st', v6', v7', e, ew⟩ := pool_while (S := S) (x0 := x0) (x1 := x1) (v3 := v3) (v4 := v4) hL hL2 st (t ++ p) (some (dI (t.map (·.1)))) (some (fr (Am t))) m (by simp at hm; omega) (fun q hq => hs q (List.mem_cons_of_mem _ hq)) (ht'.app hp) (by simp at hl ⊢; omega)
      refine ⟨p', st', v6', v7', by unfold mg; rw [if_pos h]; exact e, ?_⟩
      rw [← hZ] at ew
      rw [rv, while_step (S1 := S ++ [.ml (Z ++ [pl t])]) (s2 := [x0, x1, some (.ptr S.length), v3, v4, some (pl (t ++ p)), some (dI (t.map (·.1))), some (fr (Am t))]) (S2 := S ++ [.ml Z]) ?_ ?_]
      · exact ew
      · simp [wC, tr, ix, e1, e2, e3, h]
      · have pp : popD (.ptr S.length) [] (S ++ [.ml (Z ++ [pl t])]) = some (pl t, S ++ [.ml Z]) := by
          simp [popD]
        have pq := fun S => plus_ok (S := S) at_ ap (by omega)
        have i0 : ∀ S, ixD (pl p) (.int 0) S = some (dI (p.map (·.1)), S) := fun S => ixD_tup (by simp)
        have i1 : ∀ S, ixD (pl p) (.int 1) S = some (fr (Am p), S) := fun S => ixD_tup (by simp)
        have ad : ∀ S, addD false (dI (t.map (·.1))) (dI (p.map (·.1))) S = some (dI ((t ++ p).map (·.1)), S) := fun S => by
          rw [dI, dI, addD_lst, gate_ok (by simp; omega)]
          simp [dI]
        have ep : pl (t ++ p) = .tup [dI ((t ++ p).map (·.1)), fr (Am t + Am p)] := by unfold pl; rw [Am_app]
        rw [ep]
        simp only [wB]
        refine seq_nx (s1 := [x0, x1, some (.ptr S.length), v3, v4, some (pl p), some (dI (t.map (·.1))), some (fr (Am t))]) (S1 := S ++ [.ml Z]) ?_ ?_
        · simp [pp]
          simp [pl]
        · simp [i0, i1, ad, pq]
    · refine ⟨p, t :: st, v6, v7, by unfold mg; rw [if_neg h], ?_⟩
      rw [rv, while_end (S1 := S ++ [.ml (Z ++ [pl t])]) ?_]
      simp [wC, tr, ix, e1, e2, e3, h]
end FW
end
section
namespace FW
open PySem PyProof.Rows PySem.Spec L2 DL
theorem mg_okP {m0 : Zc} : ∀ {st : List (List Tk)} {p : List Tk}, (∀ q ∈ st, OkP m0 q) → OkP m0 p → (∀ q ∈ mg st p, OkP m0 q) ∧ (mg st p).flatten.length = st.flatten.length + p.length
  | [], p, _, hp => ⟨fun q hq => by cases List.mem_singleton.mp hq; exact hp, by simp [mg]⟩
  | t :: st, p, hs, hp => by
    unfold mg
    split
    · obtain ⟨h1, h2⟩ := mg_okP (st := st) (p := t ++ p) (fun q hq => hs q (List.mem_cons_of_mem _ hq)) ((hs t (List.mem_cons_self)).app hp)
      refine ⟨h1, ?_⟩
      rw [h2]
      simp
      omega
    · refine ⟨fun q hq => ?_, by simp; omega⟩
      rcases List.mem_cons.mp hq with rfl | hq
      · exact hp
      · exact hs q hq
noncomputable def stk (st : List (List Tk)) (l : List Tk) : List (List Tk) := l.foldl (fun st t => mg st [t]) st
noncomputable def pools (l : List Tk) : List (List Tk) := (stk [] l).reverse
noncomputable def pB : DS := (dSeq (dAsg (dTup (dCons (dLst false (dCons (dVar 3) dNil)) (dCons (dVar 4) dNil))) (dName 5))
    (dSeq (dWhile wC wB) (dDrop (dBM "list" appendD (dVar 2) (dCons (dVar 5) dNil)))))
theorem pool_for {S : Sto} {x0 x1 : Option DV} {m0 : Zc} {L : Nat} (hL : L ≤ 1000) (hL2 : L ≤ m0.L ∧ m0.B ≤ 3000) : ∀ (l : List Tk) (st : List (List Tk)) (v3 v4 v5 v6 v7 : Option DV), (∀ t ∈ l, OkT m0 t) → (∀ q ∈ st, OkP m0 q) → st.flatten.length + l.length ≤ L → st.length ≤ st.flatten.length →
    ∃ w3 w4 w5 w6 w7, forL (dGTup 2 (dGCons (dName 3) (dGCons (dName 4) dGNil))) pB (l.map fun t => DV.tup [.int t.1, fr t.2]) [x0, x1, some (.ptr S.length), v3, v4, v5, v6, v7] (S ++ [.ml (st.reverse.map pl)]) =
      some (.nx [x0, x1, some (.ptr S.length), w3, w4, w5, w6, w7] (S ++ [.ml ((stk st l).reverse.map pl)]))
  | [], st, v3, v4, v5, v6, v7, _, _, _, _ => ⟨v3, v4, v5, v6, v7, rfl⟩
  | t :: l, st, v3, v4, v5, v6, v7, ht, hs, hl, hn => by
    have t0 := ht t (List.mem_cons_self)
    have hp : OkP m0 [t] := ⟨by simp, fun x hx => by cases List.mem_singleton.mp hx; exact t0⟩
    rw [List.length_cons] at hl
    obtain ⟨p', st', v6', v7', e, ew⟩ := pool_while (S := S) (x0 := x0) (x1 := x1) (v3 := some (.int t.1)) (v4 := some (fr t.2)) hL hL2 st [t] v6 v7 FUEL (lt_fuel (k := 1000) (Nat.lt_of_le_of_lt (show st.length ≤ 1000 by omega) (Nat.lt_of_lt_of_le (show 1000 < 2 ^ 10 by decide) (Nat.pow_le_pow_right (by decide) (by decide)))) (by decide)) hs hp (by show _ + 1 ≤ L; omega)
    obtain ⟨k1, k2⟩ := mg_okP hs hp
    obtain ⟨w3, w4, w5, w6, w7, ef⟩ := pool_for (S := S) (x0 := x0) (x1 := x1) hL hL2 l (mg st [t]) (some (.int t.1)) (some (fr t.2)) (some (pl p')) v6' v7' (fun x hx => ht x (List.mem_cons_of_mem _ hx)) k1 (by rw [k2]; show st.flatten.length + 1 + l.length ≤ L; omega) (by
      have hne : ∀ q ∈ mg st [t], 1 ≤ q.length := fun q hq => List.length_pos_iff.mpr (k1 q hq).1
      have gen : ∀ z : List (List Tk), (∀ q ∈ z, 1 ≤ q.length) → z.length ≤ z.flatten.length := fun z => by
        induction z with
        | nil => intro _; exact Nat.le_refl _
        | cons a z ih =>
          intro h
          have h1 := h a (List.mem_cons_self)
          have h2 := ih fun q hq => h q (List.mem_cons_of_mem _ hq)
          simp only [List.length_cons, List.flatten_cons, List.length_append]
          omega
      exact gen _ hne)
    refine ⟨w3, w4, w5, w6, w7, ?_⟩
    have e1 : pl [t] = .tup [.lst [.int t.1], fr t.2] := by
      unfold pl
      simp [dI, Am, Rat.add_zero]
    have en : (mg st [t]).reverse.map pl = st'.reverse.map pl ++ [pl p'] := by rw [e]; simp
    have ln : st'.reverse.length < 100000 := by
      have : (mg st [t]).length ≤ (mg st [t]).flatten.length := by
        have hne : ∀ q ∈ mg st [t], 1 ≤ q.length := fun q hq => List.length_pos_iff.mpr (k1 q hq).1
        have gen : ∀ z : List (List Tk), (∀ q ∈ z, 1 ≤ q.length) → z.length ≤ z.flatten.length := fun z => by
          induction z with
          | nil => intro _; exact Nat.le_refl _
          | cons a z ih =>
            intro h
            have h1 := h a (List.mem_cons_self)
            have h2 := ih fun q hq => h q (List.mem_cons_of_mem _ hq)
            simp only [List.length_cons, List.flatten_cons, List.length_append]
            omega
        exact gen _ hne
      rw [k2, e, List.length_cons, List.length_singleton] at this
      rw [List.length_reverse]
      omega
    have body : pB [x0, x1, some (.ptr S.length), some (.int t.1), some (fr t.2), v5, v6, v7] (S ++ [.ml (st.reverse.map pl)]) = some (.nx [x0, x1, some (.ptr S.length), some (.int t.1), some (fr t.2), some (pl p'), v6', v7'] (S ++ [.ml ((mg st [t]).reverse.map pl)])) := by
      unfold pB
      refine seq_nx (asg_name (d := pl [t]) (S1 := S ++ [.ml (st.reverse.map pl)]) (by rw [e1]; simp)) ?_
      refine seq_nx (show dWhile wC wB _ _ = _ from ew) ?_
      rw [en]
      refine drop_of (d := .non) ?_
      obtain ⟨Z, hZ⟩ : ∃ Z, Z = st'.reverse.map pl := ⟨_, rfl⟩
      have lz : Z.length < 100000 := by rw [hZ, List.length_map]; exact ln
      rw [← hZ]
      have := appendD_top (S := S) (ds := Z) (d := pl p') lz
      simp [this]
    simp only [List.map_cons, forL, dGTup, dGCons, dGNil, dName, List.length_cons, List.length_nil, if_true, List.set_cons_succ, List.set_cons_zero, body, kLoop]
    exact ef
theorem pooled_ok {l : List Tk} {m0 : Zc} {S : Sto} (hok : ∀ t ∈ l, OkT m0 t) (hl : l.length ≤ 1000) (hL2 : l.length ≤ m0.L ∧ m0.B ≤ 3000) : f_pooled_z [dI (l.map (·.1)), dF (l.map (·.2))] S = some (.lst ((pools l).map pl), S) := by
  obtain ⟨w3, w4, w5, w6, w7, e⟩ := pool_for (S := S) (x0 := some (dI (l.map (·.1)))) (x1 := some (dF (l.map (·.2)))) hl hL2 l [] none none none none none hok (fun q hq => by cases hq) (by simp) (by simp)
  simp only [List.reverse_nil, List.map_nil] at e
  have zp : itemsOf (.zp (dI (l.map (·.1))) (dF (l.map (·.2)))) = some (l.map fun t => DV.tup [.int t.1, fr t.2]) := by
    unfold dI dF
    rw [items_zp]
    congr 1
    clear e hok hl hL2
    induction l with
    | nil => rfl
    | cons t l ih =>
      simp only [List.map_cons, List.zipWith_cons_cons, ih]
  have key : dFor (diZ (dCons (dVar 0) (dCons (dVar 1) dNil))) (dGTup 2 (dGCons (dName 3) (dGCons (dName 4) dGNil))) pB [some (dI (l.map (·.1))), some (dF (l.map (·.2))), some (.ptr S.length), none, none, none, none, none] (S ++ [.ml []]) = _ :=
    for_of (it := .zp (dI (l.map (·.1))) (dF (l.map (·.2)))) (S1 := S ++ [.ml []]) (by simp [diZ, dI, dF]) zp e
  refine fn_rt (d := .ptr S.length) (S1 := S ++ [.ml ((pools l).map pl)]) ?_ ?_
  · refine seq_nx (asg_name (d := .ptr S.length) (S1 := S ++ [.ml []]) (by simp)) ?_
    exact seq_nx key (ret_of rfl)
  · rw [exF_top]
    · rfl
    · exact clos_map (fun p => by
        unfold pl dI
        simp only [clo, clos, clos_int, clo_fr, Bool.and_self]) _
end FW
end
section
namespace FW
open PySem PyProof.Rows PySem.Spec L2 DL
theorem toVs_map : ∀ ns : List Int, toVs (ns.map DV.int) = some (ns.map V.int)
  | [] => rfl
  | n :: ns => by simp [toVs, toV, toVs_map ns]
theorem inV_map (f : Int) : ∀ ns : List Int, inV (.int f) (ns.map V.int) = decide (f ∈ ns)
  | [] => rfl
  | n :: ns => by
    have ih := inV_map f ns
    unfold inV at ih ⊢
    rw [List.map_cons, List.any_cons, ih]
    by_cases h : n = f
    · simp [h, eqV]
    · have h' : ¬ f = n := fun z => h z.symm
      simp [h, h', eqV]
theorem inD_ints {f : Int} {ns : List Int} {S : Sto} : inD false (.int f) (dI ns) S = some (.bl (decide (f ∈ ns)), S) := by
  have h := toVs_map ns
  have h2 := inV_map f ns
  simp [inD, dI, toV, h, h2]
theorem forF_same {tgt : DG} {body : DS} {it : DIt} {S : Sto} {xs : List DV} (hat : ∀ i, itemAt it S i = some xs[i]?) (I : Sl → Prop) (hx : ∀ x ∈ xs, ∀ s, I s → ∃ s1 s2, tgt x s S = some (s1, S) ∧ body s1 S = some (.nx s2 S) ∧ I s2) : ∀ (k i : Nat) (s : Sl), xs.length < k + i → i ≤ xs.length → I s → ∃ s', forF tgt body it k i s S = some (.nx s' S) ∧ I s'
  | 0, i, s, hk, hi, h => by omega
  | k + 1, i, s, hk, hi0, h => by
    have h1 := hat i
    by_cases hi : i < xs.length
    · rw [List.getElem?_eq_getElem hi] at h1
      obtain ⟨s1, s2, e1, e2, h2⟩ := hx xs[i] (List.getElem_mem hi) s h
      obtain ⟨s', e, h3⟩ := forF_same hat I hx k (i + 1) s2 (by omega) (by omega) h2
      exact ⟨s', by simp only [forF, h1, e1, e2, kLoop, e], h3⟩
    · rw [List.getElem?_eq_none (by omega)] at h1
      exact ⟨s, by simp only [forF, h1], h⟩
/-- bolted flaps, as a list in any order that can be read, or as the empty tuple that stands for none -/
def Bd (S : Sto) (bd : DV) (bs : List Int) : Prop := rdL S bd = some (bs.map DV.int) ∨ (bd = .tup [] ∧ bs = [])
theorem rdL_app {S X : Sto} {d : DV} {ds : List DV} (h : rdL S d = some ds) : rdL (S ++ X) d = some ds := by
  cases d with
  | ptr n =>
    unfold rdL at h ⊢
    simp only at h ⊢
    split at h
    · rename_i es q
      rw [List.getElem?_append_left (List.getElem?_eq_some_iff.mp q).1, q]
      exact h
    · cases h
  | _ => exact h
theorem Bd.app {S X : Sto} {bd : DV} {bs : List Int} (h : Bd S bd bs) : Bd (S ++ X) bd bs := h.imp rdL_app id
theorem en_of {S : Sto} {bd : DV} {ds : List DV} {fe : DE} {s : Sl} (h : rdL S bd = some ds) (e : fe s S = some (bd, S)) : diEE (dCons fe dNil) s S = some (.en bd, S) := by
  have h' : (rdL S bd).isSome = true := by rw [h]; rfl
  cases bd with
  | tup ds => cases h
  | _ => simp [diEE, e, h']
/-! ### stretches -/
noncomputable def cuts (bs : List Int) (n : Nat) : List Int := 0 :: (sortI bs ++ [(n : Int)])
noncomputable def pairs (bs : List Int) (n : Nat) : List (Int × Int) := (cuts bs n).zip ((cuts bs n).drop 1)
theorem zip_tup : ∀ xs ys : List Int, List.zipWith (fun x y => DV.tup [x, y]) (xs.map DV.int) (ys.map DV.int) = (xs.zip ys).map fun p => DV.tup [.int p.1, .int p.2]
  | [], ys => by simp
  | x :: xs, [] => by simp
  | x :: xs, y :: ys => by simp [zip_tup xs ys]
end FW
end
section
namespace FW
open PySem PyProof.Rows PySem.Spec L2 DL
def seg {α : Type} (l : List α) (p : Int × Int) : List α := (l.drop p.1.toNat).take (p.2.toNat - p.1.toNat)
theorem cut_seg {α : Type} {xs : List α} {a b : Nat} (hb : b ≤ xs.length) (ha : a ≤ b) : cutL xs (some (a : Int)) (some (b : Int)) = seg xs ((a : Int), (b : Int)) := by
  unfold cutL seg
  rw [HT.sIx_nat, HT.sIx_nat, Nat.min_eq_left hb, Nat.min_eq_left (Nat.le_trans ha hb)]
  simp
theorem seg_map {α β : Type} {f : α → β} {l : List α} {p : Int × Int} : seg (l.map f) p = (seg l p).map f := by
  unfold seg
  rw [List.map_take, List.map_drop]
/-- what a pool's tanks have at rest -/
noncomputable def lay (p : List Tk) : List Rat := p.map fun t => ht p * (t.1 : Rat)
theorem share_lay {p : List Tk} {t : Tk} {m0 : Zc} {L : Nat} {S : Sto} (hp : OkP m0 p) (hl : p.length ≤ L) (hL : L ≤ 1000) (hL2 : L ≤ m0.L ∧ m0.B ≤ 3000) (ht' : t ∈ p) : f_share_z [fr (Am p), .int t.1, .int (p.map (·.1)).sum] S = some (fr (ht p * (t.1 : Rat)), S) := by
  obtain ⟨h1, h2⟩ := sum_small hp.fl
  have h3 : 0 < p.length := List.length_pos_iff.mpr hp.1
  have hb := hp.fl t ht'
  have key := share_ok (S := S) (p := t.1) (w := (p.map (·.1)).sum) (hp.am hl) (by omega) (by omega) (by omega) (by omega)
  rw [sum_Wi] at key
  rw [key]
  unfold ht
  congr 2
  grind
noncomputable def poolB : DS := (dSeq (dAsg (dCB sumD (dCons (dVar 6) dNil)) (dName 8))
    (dDrop (dBM "list" extendD (dVar 3) (dCons (dLc false (diL (dVar 6)) (dName 9) dYes (dCall 3 f_share_z [] (dCons (dVar 7) (dCons (dVar 9) (dCons (dVar 8) dNil)))) [9]) dNil))))
theorem extendD_top {S : Sto} {ds es : List DV} (h : ds.length + es.length ≤ 100000) : extendD (.ptr S.length) [.lst es] (S ++ [.ml ds]) = some (.non, S ++ [.ml (ds ++ es)]) := by
  simp [extendD, gate_ok h]
theorem lay_for {S : Sto} {x0 x1 x2 v4 v5 : Option DV} {m0 : Zc} {L : Nat} (hL : L ≤ 1000) (hL2 : L ≤ m0.L ∧ m0.B ≤ 3000) : ∀ (ps : List (List Tk)) (acc : List Rat) (v6 v7 v8 v9 : Option DV), (∀ p ∈ ps, OkP m0 p) → acc.length + ps.flatten.length ≤ 50000 → ps.flatten.length ≤ L →
    ∃ w6 w7 w8 w9, forL (dGTup 2 (dGCons (dName 6) (dGCons (dName 7) dGNil))) poolB (ps.map pl) [x0, x1, x2, some (.ptr S.length), v4, v5, v6, v7, v8, v9] (S ++ [.ml (acc.map fr)]) =
      some (.nx [x0, x1, x2, some (.ptr S.length), v4, v5, w6, w7, w8, w9] (S ++ [.ml ((acc ++ ps.flatMap lay).map fr)]))
  | [], acc, v6, v7, v8, v9, _, _, _ => ⟨v6, v7, v8, v9, by simp [forL]⟩
  | p :: ps, acc, v6, v7, v8, v9, h, hn, hn2 => by
    have hp := h p (List.mem_cons_self)
    rw [List.flatten_cons, List.length_append] at hn hn2
    obtain ⟨w6, w7, w8, w9, e⟩ := lay_for (S := S) (x0 := x0) (x1 := x1) (x2 := x2) (v4 := v4) (v5 := v5) hL hL2 ps (acc ++ lay p) (some (dI (p.map (·.1)))) (some (fr (Am p))) (some (.int (p.map (·.1)).sum)) v9 (fun q hq => h q (List.mem_cons_of_mem _ hq)) (by simp only [List.length_append, lay, List.length_map]; omega) (by omega)
    refine ⟨w6, w7, w8, w9, ?_⟩
    have hs : ∀ S, sumD [dI (p.map (·.1))] S = some (.int (p.map (·.1)).sum, S) := fun S => by
      have := toIs_map (p.map (·.1))
      simp only [sumD, dI, rdL_lst, this]
    have lc : dLc false (diL (dVar 6)) (dName 9) dYes (dCall 3 f_share_z [] (dCons (dVar 7) (dCons (dVar 9) (dCons (dVar 8) dNil)))) [9] [x0, x1, x2, some (.ptr S.length), v4, v5, some (dI (p.map (·.1))), some (fr (Am p)), some (.int (p.map (·.1)).sum), v9] (S ++ [.ml (acc.map fr)]) = some (.lst ((lay p).map fr), S ++ [.ml (acc.map fr)]) := by
      refine (lc_of (it := .li (dI (p.map (·.1)))) (xs := (p.map (·.1)).map DV.int) (acc := (lay p).map fr) (S1 := S ++ [.ml (acc.map fr)]) (S2 := S ++ [.ml (acc.map fr)]) (by simp [diL, dI]) rfl ?_ (by simp only [List.length_map, lay]; omega)).trans rfl
      rw [lcL_map (g := fun x => match x with
        | .int i => fr (ht p * (i : Rat))
        | d => d) fun x hx => ?_]
      · simp [lay, Function.comp_def]
      · obtain ⟨i, hi, rfl⟩ := List.mem_map.mp hx
        obtain ⟨t, htm, rfl⟩ := List.mem_map.mp hi
        have := share_lay (S := S ++ [.ml (acc.map fr)]) hp (by omega) hL hL2 htm
        exact ⟨_, rfl, rfl, by simp [wipeD, this]⟩
    have ex := extendD_top (S := S) (ds := acc.map fr) (es := (lay p).map fr) (by simp only [List.length_map, lay]; omega)
    have body : poolB [x0, x1, x2, some (.ptr S.length), v4, v5, some (dI (p.map (·.1))), some (fr (Am p)), v8, v9] (S ++ [.ml (acc.map fr)]) = some (.nx [x0, x1, x2, some (.ptr S.length), v4, v5, some (dI (p.map (·.1))), some (fr (Am p)), some (.int (p.map (·.1)).sum), v9] (S ++ [.ml ((acc ++ lay p).map fr)])) := by
      unfold poolB
      refine seq_nx (asg_name (d := .int (p.map (·.1)).sum) (S1 := S ++ [.ml (acc.map fr)]) (by simp [hs])) ?_
      refine drop_of (d := .non) ?_
      rw [List.map_append]
      simp only [dBM, dCons, dVar, List.getElem?_cons_zero, List.getElem?_cons_succ, List.set_cons_succ, List.set_cons_zero, bnd_some', rdL_top, Option.isSome_some, and_self, if_true, lc, dNil, ex]
    simp only [List.map_cons, forL, pl, dGTup, dGCons, dGNil, dName, List.length_cons, List.length_nil, if_true, List.set_cons_succ, List.set_cons_zero, body, kLoop]
    rw [List.flatMap_cons, ← List.append_assoc]
    exact e
theorem stk_ok {m0 : Zc} : ∀ {l : List Tk} {st : List (List Tk)}, Stk st → (∀ q ∈ st, OkP m0 q) → (∀ t ∈ l, OkT m0 t) → Stk (stk st l) ∧ (∀ q ∈ stk st l, OkP m0 q) ∧ (stk st l).reverse.flatten = st.reverse.flatten ++ l
  | [], st, h1, h2, _ => ⟨h1, h2, by simp [stk]⟩
  | t :: l, st, h1, h2, ht' => by
    have t0 := ht' t (List.mem_cons_self)
    obtain ⟨k1, k2, _⟩ := mg_ok h1 (good_one t0.lo)
    obtain ⟨k3, _⟩ := mg_okP h2 (⟨by simp, fun x hx => by cases List.mem_singleton.mp hx; exact t0⟩ : OkP m0 [t])
    obtain ⟨e1, e2, e3⟩ := stk_ok (l := l) k1 k3 fun x hx => ht' x (List.mem_cons_of_mem _ hx)
    refine ⟨e1, e2, ?_⟩
    show (stk (mg st [t]) l).reverse.flatten = _
    rw [e3, k2]
    simp
theorem pools_ok {m0 : Zc} {l : List Tk} (h : ∀ t ∈ l, OkT m0 t) : (∀ q ∈ pools l, Good q ∧ OkP m0 q) ∧ (pools l).Pairwise (fun p q => ht p ≤ ht q) ∧ (pools l).flatten = l := by
  obtain ⟨h1, h2, h3⟩ := stk_ok (st := []) (l := l) ⟨(fun q hq => by cases hq), List.Pairwise.nil⟩ (fun q hq => by cases hq) h
  refine ⟨fun q hq => ?_, ?_, ?_⟩
  · have := List.mem_reverse.mp hq
    exact ⟨h1.good q this, h2 q this⟩
  · unfold pools
    rw [List.pairwise_reverse]
    exact h1.up
  · unfold pools
    rw [h3]
    simp
noncomputable def segs (l : List Tk) (prs : List (Int × Int)) : List Rat := prs.flatMap fun p => (pools (seg l p)).flatMap lay
structure PrOk (n : Nat) (p : Int × Int) : Prop where
  ex : ∃ a b : Nat, p = ((a : Int), (b : Int)) ∧ a ≤ b ∧ b ≤ n
theorem lay_len : ∀ ps : List (List Tk), (ps.flatMap lay).length = ps.flatten.length
  | [] => rfl
  | p :: ps => by
    rw [List.flatMap_cons, List.flatten_cons, List.length_append, List.length_append, lay_len ps]
    unfold lay
    rw [List.length_map]
theorem seg_len {α : Type} {l : List α} {p : Int × Int} : (seg l p).length ≤ l.length := by
  unfold seg
  simp
  omega
theorem seg_mem {α : Type} {l : List α} {p : Int × Int} {x : α} (h : x ∈ seg l p) : x ∈ l := List.mem_of_mem_drop (List.mem_of_mem_take h)
noncomputable def segB : DS := (dFor (diL (dCall 2 f_pooled_z [] (dCons (dSlL false (dVar 0) (doS (dVar 4)) (doS (dVar 5))) (dCons (dSlL false (dVar 1) (doS (dVar 4)) (doS (dVar 5))) dNil)))) (dGTup 2 (dGCons (dName 6) (dGCons (dName 7) dGNil))) poolB)
theorem pairs_zip : ∀ {l : List Int}, l.Pairwise (· ≤ ·) → ∀ p ∈ l.zip (l.drop 1), p.1 ≤ p.2 ∧ p.1 ∈ l ∧ p.2 ∈ l
  | [], _, p, h => by simp at h
  | [x], _, p, h => by simp at h
  | x :: y :: l, hs, p, h => by
    obtain ⟨h1, h2⟩ := List.pairwise_cons.mp hs
    have h' : p ∈ (x, y) :: (y :: l).zip ((y :: l).drop 1) := h
    rcases List.mem_cons.mp h' with rfl | h'
    · exact ⟨h1 y (List.mem_cons_self), List.mem_cons_self, List.mem_cons_of_mem _ (List.mem_cons_self)⟩
    · obtain ⟨a, b, c⟩ := pairs_zip h2 p h'
      exact ⟨a, List.mem_cons_of_mem _ b, List.mem_cons_of_mem _ c⟩
theorem sortI_perm (ns : List Int) : (sortI ns).Perm ns := List.mergeSort_perm ns _
theorem sortI_up (ns : List Int) : (sortI ns).Pairwise (· ≤ ·) := by
  have := List.pairwise_mergeSort (le := fun (a b : Int) => decide (a ≤ b)) (fun a b c h1 h2 => by simp at *; omega) (fun a b => by simp; omega) ns
  exact this.imp fun h => by simpa using h
theorem cuts_ok {bs : List Int} {n : Nat} (h : ∀ b ∈ bs, 1 ≤ b ∧ b < (n : Int)) : (cuts bs n).Pairwise (· ≤ ·) ∧ ∀ x ∈ cuts bs n, 0 ≤ x ∧ x ≤ (n : Int) := by
  have hm : ∀ x ∈ sortI bs, 1 ≤ x ∧ x < (n : Int) := fun x hx => h x ((sortI_perm bs).mem_iff.mp hx)
  have hall : ∀ x ∈ cuts bs n, 0 ≤ x ∧ x ≤ (n : Int) := fun x hx => by
    rcases List.mem_cons.mp hx with rfl | hx
    · omega
    · rcases List.mem_append.mp hx with hx | hx
      · have := hm x hx
        omega
      · cases List.mem_singleton.mp hx
        omega
  refine ⟨List.pairwise_cons.mpr ⟨fun x hx => (hall x (List.mem_cons_of_mem _ hx)).1, List.pairwise_append.mpr ⟨sortI_up bs, List.pairwise_singleton _ _, fun x hx y hy => ?_⟩⟩, hall⟩
  cases List.mem_singleton.mp hy
  have := hm x hx
  omega
theorem pairs_ok {bs : List Int} {n : Nat} (h : ∀ b ∈ bs, 1 ≤ b ∧ b < (n : Int)) : (∀ p ∈ pairs bs n, PrOk n p) ∧ (pairs bs n).length ≤ bs.length + 1 := by
  obtain ⟨h1, h2⟩ := cuts_ok h
  refine ⟨fun p hp => ?_, ?_⟩
  · obtain ⟨a, b, c⟩ := pairs_zip h1 p hp
    have hb := h2 _ b
    have hc := h2 _ c
    obtain ⟨x, y⟩ := p
    exact ⟨x.toNat, y.toNat, by simp only [Int.toNat_of_nonneg hb.1, Int.toNat_of_nonneg hc.1], by simp at a hb hc; omega, by simp at a hb hc; omega⟩
  · unfold pairs
    rw [List.length_zip, List.length_drop]
    have : (cuts bs n).length = bs.length + 2 := by
      unfold cuts
      rw [List.length_cons, List.length_append, (sortI_perm bs).length_eq]
      rfl
    omega
/-- what settled tells -/
noncomputable def rest (l : List Tk) (bs : List Int) : List Rat := segs l (pairs bs l.length)
end FW
end
section
namespace FW
open PySem PyProof.Rows PySem.Spec L2 DL
/-- the line, of its ends' values -/
theorem line_mkRat {p q : Rat} {u v w : Int} (hw : 0 < w) : mkRat (p.num * q.den * u + q.num * p.den * v) (p.den * q.den * w.toNat) = (p * u + q * v) / w := by
  have h1 : (p.den : Rat) ≠ 0 := by exact_mod_cast p.den_nz
  have h2 : (q.den : Rat) ≠ 0 := by exact_mod_cast q.den_nz
  have h3 : (w : Rat) ≠ 0 := by
    intro z
    have : w = 0 := by exact_mod_cast z
    omega
  have h4 : (w.toNat : Rat) = (w : Rat) := by
    rw [← Rat.intCast_natCast, Int.toNat_of_nonneg (Int.le_of_lt hw)]
  have hp : p * (p.den : Rat) = (p.num : Rat) := by
    have h4 := Rat.mkRat_self p
    rw [Rat.mkRat_eq_div] at h4
    grind
  have hq : q * (q.den : Rat) = (q.num : Rat) := by
    have h4 := Rat.mkRat_self q
    rw [Rat.mkRat_eq_div] at h4
    grind
  rw [Rat.mkRat_eq_div, Rat.natCast_mul, Rat.natCast_mul, h4, Rat.intCast_add, Rat.intCast_mul, Rat.intCast_mul, Rat.intCast_mul, Rat.intCast_mul, Rat.intCast_natCast, Rat.intCast_natCast, ← hp, ← hq]
  grind
theorem law_chord_ok {xs : List Int} {hs : List Rat} {i k j : Nat} {xi xk xj : Int} {n : Nat} {S : Sto} (hi : xs[i]? = some xi) (hk : xs[k]? = some xk) (hj : xs[j]? = some xj) (yi yk yj : Rat) (gi : hs[i]? = some yi) (gk : hs[k]? = some yk) (gj : hs[j]? = some yj)
    (zi : Sz n yi) (zj : Sz n yj) (hn : n ≤ 3000) (x0 : 0 ≤ xi) (x1 : xi ≤ xk) (x2 : xk ≤ xj) (x3 : xj < 2 ^ 50) (hlt : i < j → xi < xj) (hij : i ≤ j) :
    f_law_chord_z [dI xs, dF hs, .int (i : Nat), .int (k : Nat), .int (j : Nat)] S = some (fr (if i = j then yk else (yi * ((xj : Rat) - xk) + yj * ((xk : Rat) - xi)) / ((xj : Rat) - xi)), S) := by
  have ix : ∀ (m : Nat) (x : Int), xs[m]? = some x → ∀ S, ixD (dI xs) (.int (m : Nat)) S = some (.int x, S) := fun m x hx S => ixD_lst (at_nat rfl (by rw [List.getElem?_map, hx]; rfl))
  have iy : ∀ (m : Nat) (x : Rat), hs[m]? = some x → ∀ S, ixD (dF hs) (.int (m : Nat)) S = some (fr x, S) := fun m x hx S => ixD_lst (at_nat rfl (by rw [List.getElem?_map, hx]; rfl))
  by_cases e : i = j
  · subst e
    simp [f_law_chord_z, fnF, b_law_chord_z, iy k yk gk]
  · rw [if_neg e]
    have hne : ¬ (i : Int) = (j : Int) := by omega
    have hx := hlt (by omega)
    have f1 := zi.fn (by omega); have f2 := zi.fd (by omega); have f3 := zj.fn (by omega); have f4 := zj.fd (by omega)
    have g1 : Fits (xj - xk) := fits_of (n := 50) (by omega) (by decide)
    have g2 : Fits (xk - xi) := fits_of (n := 50) (by omega) (by decide)
    have g3 : Fits (xj - xi) := fits_of (n := 50) (by omega) (by decide)
    have pm : ∀ (a : Int) (b : Nat), a.natAbs < 2 ^ n → b < 2 ^ n → (a * (b : Int)).natAbs < 2 ^ (n + n) := fun a b h1 h2 => by
      rw [Int.natAbs_mul, Int.natAbs_natCast, Nat.pow_add]
      exact Nat.mul_lt_mul'' h1 h2
    have b1 := pm yi.num yj.den zi.1 zj.2
    have b2 := pm yj.num yi.den zj.1 zi.2
    have b3 := pm (yi.den : Int) yj.den (by simpa using zi.2) zj.2
    have g4 : Fits (yi.num * (yj.den : Int)) := fits_of b1 (by omega)
    have g5 : Fits (yj.num * (yi.den : Int)) := fits_of b2 (by omega)
    have g6 : Fits ((yi.den : Int) * (yj.den : Int)) := fits_of b3 (by omega)
    have big : ∀ (a b : Int), a.natAbs < 2 ^ (n + n) → b.natAbs < 2 ^ 50 → (a * b).natAbs < 2 ^ (n + n + 50) := fun a b h1 h2 => by
      rw [Int.natAbs_mul, Nat.pow_add]
      exact Nat.mul_lt_mul'' h1 h2
    have c1 := big _ (xj - xk) b1 (by omega)
    have c2 := big _ (xk - xi) b2 (by omega)
    have hd : yi.den * yj.den * (xj - xi).toNat < 2 ^ 8000 := by
      have d1 := Nat.mul_lt_mul'' zi.2 zj.2
      rw [← Nat.pow_add] at d1
      have d2 := Nat.mul_lt_mul'' d1 (show (xj - xi).toNat < 2 ^ 50 by omega)
      rw [← Nat.pow_add] at d2
      exact Nat.lt_of_lt_of_le d2 (Nat.pow_le_pow_right (by decide) (by omega))
    have key := law_low_ok (S := S) (a := yi.num * yj.den * (xj - xk) + yj.num * yi.den * (xk - xi)) (b := yi.den * yj.den * (xj - xi).toNat) (n := n + n + 51) (Nat.mul_pos (Nat.mul_pos yi.den_pos yj.den_pos) (by omega)) hd (by
      have t := Int.natAbs_add_le (yi.num * yj.den * (xj - xk)) (yj.num * yi.den * (xk - xi))
      have e : 2 ^ (n + n + 51) = 2 ^ (n + n + 50) + 2 ^ (n + n + 50) := by rw [Nat.pow_succ]; omega
      omega) (by omega)
    rw [line_mkRat (by omega)] at key
    have eb : ((yi.den * yj.den * (xj - xi).toNat : Nat) : Int) = (yi.den : Int) * (yj.den : Int) * (xj - xi) := by
      rw [Int.natCast_mul, Int.natCast_mul, Int.toNat_of_nonneg (by omega)]
    rw [eb, Rat.intCast_sub, Rat.intCast_sub, Rat.intCast_sub] at key
    have i0 : ∀ (q : Rat) S, ixD (fr q) (.int 0) S = some (.int q.num, S) := fun q S => ixD_tup (by simp)
    have i1 : ∀ (q : Rat) S, ixD (fr q) (.int 1) S = some (.int (q.den : Int), S) := fun q S => ixD_tup (by simp)
    simp [f_law_chord_z, fnF, b_law_chord_z, hne, ix i xi hi, ix k xk hk, ix j xj hj, iy i yi gi, iy j yj gj, i0, i1, f1, f2, f3, f4, g1, g2, g3, g4, g5, g6, key]
end FW
end
section
namespace FW
open PySem PyProof.Rows PySem.Spec L2 DL
/-! ### heaps at rest of a whole row -/
def rsum : List Rat → Rat
  | [] => 0
  | q :: l => q + rsum l
theorem rsum_app : ∀ a b : List Rat, rsum (a ++ b) = rsum a + rsum b
  | [], b => by simp [rsum, Rat.zero_add]
  | t :: a, b => by simp only [List.cons_append, rsum, rsum_app a b, Rat.add_assoc]
theorem lay_fl : ∀ ps : List (List Tk), ps.flatMap lay = (fl ps).map fun x => x.2 * (x.1.1 : Rat)
  | [] => rfl
  | p :: ps => by
    rw [List.flatMap_cons, lay_fl ps]
    show _ = (sl p ++ fl ps).map _
    rw [List.map_append]
    congr 1
    unfold lay sl
    rw [List.map_map]
    rfl
theorem rsum_Zi : ∀ F : List Sk, rsum (F.map fun x => x.2 * (x.1.1 : Rat)) = Zi F
  | [] => rfl
  | x :: F => by simp only [List.map_cons, rsum, Zi, rsum_Zi F]
theorem rsum_lay (ps : List (List Tk)) (k : Nat) : rsum ((ps.flatMap lay).take k) = Za (fl ps) k := by
  rw [lay_fl, ← List.map_take, rsum_Zi]
  rfl
/-- the rest of stretch after stretch, from a cut on -/
noncomputable def ss (l : List Tk) : List Int → List Rat
  | c :: d :: cs => (pools (seg l (c, d))).flatMap lay ++ ss l (d :: cs)
  | _ => []
theorem ss_eq (l : List Tk) : ∀ L : List Int, segs l (L.zip (L.drop 1)) = ss l L
  | [] => rfl
  | [_] => rfl
  | c :: d :: cs => by
    show segs l ((c, d) :: (d :: cs).zip ((d :: cs).drop 1)) = _
    unfold segs
    rw [List.flatMap_cons]
    congr 1
    exact ss_eq l (d :: cs)
theorem rest_eq (l : List Tk) (bs : List Int) : rest l bs = ss l (cuts bs l.length) := ss_eq l _
theorem seg_Am {l : List Tk} {a b : Nat} (h : a ≤ b) (k : Nat) (hk : k ≤ b - a) : Ya l (a + k) = Ya l a + Ya (seg l ((a : Int), (b : Int))) k := by
  have e : l.take (a + k) = l.take a ++ (seg l ((a : Int), (b : Int))).take k := by
    unfold seg
    simp only [Int.toNat_natCast]
    rw [List.take_take, Nat.min_eq_left hk, List.take_add]
  unfold Ya
  rw [e, Am_app]
theorem seg_Wi {l : List Tk} {a b : Nat} (h : a ≤ b) (k : Nat) (hk : k ≤ b - a) : Xa l (a + k) = Xa l a + Xa (seg l ((a : Int), (b : Int))) k := by
  have e : l.take (a + k) = l.take a ++ (seg l ((a : Int), (b : Int))).take k := by
    unfold seg
    simp only [Int.toNat_natCast]
    rw [List.take_take, Nat.min_eq_left hk, List.take_add]
  unfold Xa
  rw [e, Wi_app]
theorem seg_length {l : List Tk} {a b : Nat} (hb : b ≤ l.length) (h : a ≤ b) : (seg l ((a : Int), (b : Int))).length = b - a := by
  unfold seg
  simp
  omega
/-- a pair of neighbours in a list of cuts -/
inductive Nb : List Int → Int → Int → Prop
  | here {c d : Int} {cs : List Int} : Nb (c :: d :: cs) c d
  | there {c d : Int} {cs : List Int} {a b : Int} : Nb (d :: cs) a b → Nb (c :: d :: cs) a b
theorem Nb.ge {L : List Int} {a b : Int} (h : Nb L a b) : ∀ {c : Int} {cs : List Int}, L = c :: cs → L.Pairwise (· ≤ ·) → c ≤ a ∧ a ≤ b := by
  induction h with
  | here =>
    intro c cs e hs
    cases e
    exact ⟨Int.le_refl _, (List.pairwise_cons.mp hs).1 _ (List.mem_cons_self)⟩
  | there h ih =>
    intro c cs e hs
    cases e
    obtain ⟨h1, h2⟩ := List.pairwise_cons.mp hs
    obtain ⟨k1, k2⟩ := ih rfl h2
    exact ⟨Int.le_trans (h1 _ (List.mem_cons_self)) k1, k2⟩
theorem Nb.mem {L : List Int} {a b : Int} (h : Nb L a b) : a ∈ L ∧ b ∈ L := by
  induction h with
  | here => exact ⟨List.mem_cons_self, List.mem_cons_of_mem _ List.mem_cons_self⟩
  | there h ih => exact ⟨List.mem_cons_of_mem _ ih.1, List.mem_cons_of_mem _ ih.2⟩
/-- what is left of a place, by its stretch -/
theorem ss_sum {l : List Tk} {m0 : Zc} (hok : ∀ t ∈ l, OkT m0 t) {L : List Int} {a b : Int} (h : Nb L a b) : ∀ {c : Nat} {cs : List Int}, L = (c : Int) :: cs → L.Pairwise (· ≤ ·) → (∀ x ∈ L, 0 ≤ x ∧ x ≤ (l.length : Int)) → ∀ k : Nat, a ≤ (k : Int) → (k : Int) ≤ b →
    rsum ((ss l L).take (k - c)) = Ya l a.toNat - Ya l c + Za (fl (pools (seg l (a, b)))) (k - a.toNat) := by
  induction h with
  | @here c d cs =>
    intro c' cs' e hs hin k ha hb
    cases e
    have hd := hin d (by simp)
    have hcd := (List.pairwise_cons.mp hs).1 d (by simp)
    obtain ⟨d', rfl⟩ : ∃ d' : Nat, d = (d' : Int) := ⟨d.toNat, by omega⟩
    have okS : ∀ t ∈ seg l ((c' : Int), (d' : Int)), OkT m0 t := fun t h => hok t (seg_mem h)
    obtain ⟨_, _, q3⟩ := pools_ok okS
    have ln : ((pools (seg l ((c' : Int), (d' : Int)))).flatMap lay).length = d' - c' := by
      rw [lay_len, q3, seg_length (by omega) (by omega)]
    unfold ss
    rw [tk_lo (by rw [ln]; omega), rsum_lay, Int.toNat_natCast]
    grind
  | @there c d cs a b h ih =>
    intro c' cs' e hs hin k ha hb
    cases e
    have hd := hin d (by simp)
    obtain ⟨h1, h2⟩ := List.pairwise_cons.mp hs
    have hcd := h1 d (by simp)
    obtain ⟨d', rfl⟩ : ∃ d' : Nat, d = (d' : Int) := ⟨d.toNat, by omega⟩
    have hda := (h.ge rfl h2).1
    have okS : ∀ t ∈ seg l ((c' : Int), (d' : Int)), OkT m0 t := fun t h => hok t (seg_mem h)
    obtain ⟨q1, _, q3⟩ := pools_ok okS
    have ls := seg_length (l := l) (a := c') (b := d') (by omega) (by omega)
    have ln : ((pools (seg l ((c' : Int), (d' : Int)))).flatMap lay).length = d' - c' := by
      rw [lay_len, q3, ls]
    have key := ih rfl h2 (fun x hx => hin x (List.mem_cons_of_mem _ hx)) k ha hb
    have ek : k - c' = ((pools (seg l ((c' : Int), (d' : Int)))).flatMap lay).length + (k - d') := by rw [ln]; omega
    unfold ss
    rw [ek, tk_hi, rsum_app, key]
    have full : rsum ((pools (seg l ((c' : Int), (d' : Int)))).flatMap lay) = Ya l d' - Ya l c' := by
      have e1 := rsum_lay (pools (seg l ((c' : Int), (d' : Int)))) (d' - c')
      rw [← ln, List.take_length] at e1
      rw [e1, ln]
      obtain ⟨i, j, s, f⟩ := flat_of (fun q hq => (q1 q hq).1) (d' - c') (by rw [q3, ls]; exact Nat.le_refl _)
      have fj : j = d' - c' := by
        have := f.kj; have := f.jn
        rw [q3, ls] at this
        omega
      have f2 := f.zj
      rw [fj, q3] at f2
      rw [f2]
      have := seg_Am (l := l) (a := c') (b := d') (by omega) (d' - c') (Nat.le_refl _)
      rw [show c' + (d' - c') = d' by omega] at this
      rw [this]
      grind
    rw [full]
    grind
end FW
end
section
namespace FW
open PySem PyProof.Rows PySem.Spec L2 DL
theorem nb_find : ∀ (m : List Int) (c n k : Int), c ≤ k → k ≤ n → (c :: (m ++ [n])).Pairwise (· ≤ ·) →
    ∃ a b, Nb (c :: (m ++ [n])) a b ∧ a ≤ k ∧ k ≤ b ∧ (∀ x ∈ c :: m, x ≤ k → x ≤ a) ∧ (∀ x ∈ m ++ [n], k ≤ x → ¬ x ≤ a → b ≤ x) ∧ a ∈ c :: m ∧ b ∈ m ++ [n]
  | [], c, n, k, h1, h2, hs => ⟨c, n, .here, h1, h2, fun x hx _ => by cases List.mem_singleton.mp hx; exact Int.le_refl _, fun x hx _ _ => by cases List.mem_singleton.mp hx; exact Int.le_refl _, List.mem_cons_self, by simp⟩
  | d :: m, c, n, k, h1, h2, hs => by
    obtain ⟨s1, s2⟩ := List.pairwise_cons.mp hs
    have s2' : (d :: (m ++ [n])).Pairwise (· ≤ ·) := s2
    obtain ⟨s3, s4⟩ := List.pairwise_cons.mp s2'
    by_cases hk : k < d
    · refine ⟨c, d, .here, h1, Int.le_of_lt hk, fun x hx hxk => ?_, fun x hx _ _ => ?_, List.mem_cons_self, List.mem_cons_self⟩
      · rcases List.mem_cons.mp hx with rfl | hx
        · exact Int.le_refl _
        · rcases List.mem_cons.mp hx with rfl | hx
          · omega
          · have := s3 x (List.mem_append_left _ hx)
            omega
      · rcases List.mem_cons.mp hx with rfl | hx
        · exact Int.le_refl _
        · exact s3 x hx
    · obtain ⟨a, b, e, k1, k2, k3, k4, k5, k6⟩ := nb_find m d n k (by omega) h2 s2'
      have da := k3 d (List.mem_cons_self) (by omega)
      have cd := s1 d (List.mem_cons_self)
      refine ⟨a, b, .there e, k1, k2, fun x hx hxk => ?_, fun x hx hkx hxa => ?_, List.mem_cons_of_mem _ k5, List.mem_cons_of_mem _ k6⟩
      · rcases List.mem_cons.mp hx with rfl | hx
        · omega
        · exact k3 x hx hxk
      · rcases List.mem_cons.mp hx with rfl | hx
        · omega
        · exact k4 x hx hkx hxa
theorem chord_seg {l : List Tk} (hf : Fl l) {a b i k j : Nat} (hab : a ≤ b) (hb : b ≤ l.length) (h1 : a ≤ i) (h2 : i ≤ k) (h3 : k ≤ j) (h4 : j ≤ b) : chord l i k j = Ya l a + chord (seg l ((a : Int), (b : Int))) (i - a) (k - a) (j - a) := by
  have y : ∀ m, a ≤ m → m ≤ b → Ya l m = Ya l a + Ya (seg l ((a : Int), (b : Int))) (m - a) := fun m h g => by
    have := seg_Am (l := l) hab (m - a) (by omega)
    rw [show a + (m - a) = m by omega] at this
    exact this
  have x : ∀ m, a ≤ m → m ≤ b → Xa l m = Xa l a + Xa (seg l ((a : Int), (b : Int))) (m - a) := fun m h g => by
    have := seg_Wi (l := l) hab (m - a) (by omega)
    rw [show a + (m - a) = m by omega] at this
    exact this
  unfold chord
  by_cases e : i = j
  · rw [if_pos e, if_pos (by omega), y k (by omega) (by omega)]
  · rw [if_neg e, if_neg (by omega)]
    have fs : Fl (seg l ((a : Int), (b : Int))) := fun t h => hf t (seg_mem h)
    have lt := Xa_lt fs (show i - a < j - a by omega) (by rw [seg_length hb hab]; omega)
    rw [x i h1 (by omega), x j (by omega) h4, x k (by omega) (by omega), y i h1 (by omega), y j (by omega) h4]
    have h0 : Xa (seg l ((a : Int), (b : Int))) (j - a) - Xa (seg l ((a : Int), (b : Int))) (i - a) ≠ 0 := by grind
    grind
/-- what is left of a place at rest: the lowest line over it within its stretch -/
structure Low (l : List Tk) (bs : List Int) (k a h : Nat) : Prop where
  ak : a ≤ k
  kh : k ≤ h
  hn : h ≤ l.length
  lo : ∀ i j, a ≤ i → i ≤ k → k ≤ j → j ≤ h → rsum ((rest l bs).take k) ≤ chord l i k j
  at_ : ∃ i j, a ≤ i ∧ i ≤ k ∧ k ≤ j ∧ j ≤ h ∧ chord l i k j = rsum ((rest l bs).take k)
theorem low_ok {l : List Tk} {bs : List Int} {m0 : Zc} (h0 : l ≠ []) (hok : ∀ t ∈ l, OkT m0 t) (hbs : ∀ b ∈ bs, 1 ≤ b ∧ b < (l.length : Int)) {k : Nat} (hk : k ≤ l.length) :
    ∃ a h : Nat, Low l bs k a h ∧ (a : Int) ∈ 0 :: bs ∧ (∀ x ∈ (0 : Int) :: bs, x ≤ k → x ≤ a) ∧ (h : Int) ∈ (l.length : Int) :: bs ∧ ∀ x ∈ (l.length : Int) :: bs, (k : Int) ≤ x → (h : Int) ≤ x := by
  have hn1 : 1 ≤ l.length := List.length_pos_iff.mpr h0
  have hf : Fl l := fun t ht => (hok t ht).lo
  obtain ⟨c1, c2⟩ := cuts_ok hbs
  have mem : ∀ x, x ∈ sortI bs ↔ x ∈ bs := fun x => (sortI_perm bs).mem_iff
  obtain ⟨a, b, e, k1, k2, k3, k4, k5, k6⟩ := nb_find (sortI bs) 0 (l.length : Int) k (by omega) (by omega) c1
  have ha := c2 a e.mem.1
  have hb := c2 b e.mem.2
  obtain ⟨a', rfl⟩ : ∃ a' : Nat, a = (a' : Int) := ⟨a.toNat, by omega⟩
  obtain ⟨b', rfl⟩ : ∃ b' : Nat, b = (b' : Int) := ⟨b.toNat, by omega⟩
  have sum := ss_sum hok e (c := 0) rfl c1 c2 k k1 k2
  rw [← show rest l bs = ss l (0 :: (sortI bs ++ [(l.length : Int)])) from rest_eq l bs, Nat.sub_zero, Int.toNat_natCast] at sum
  have sum' : rsum ((rest l bs).take k) = Ya l a' + Za (fl (pools (seg l ((a' : Int), (b' : Int))))) (k - a') := by
    rw [sum, Y0]
    grind
  have okS : ∀ t ∈ seg l ((a' : Int), (b' : Int)), OkT m0 t := fun t h => hok t (seg_mem h)
  obtain ⟨q1, q2, q3⟩ := pools_ok okS
  have ls := seg_length (l := l) (a := a') (b := b') (by omega) (by omega)
  obtain ⟨r1, r2⟩ := rest_lines (fun q hq => (q1 q hq).1) q2 (k := k - a') (by rw [q3, ls]; omega)
  rw [q3] at r1 r2
  rw [ls] at r1 r2
  have mem0 : (a' : Int) ∈ 0 :: bs := by
    rcases List.mem_cons.mp k5 with h | h
    · rw [h]; exact List.mem_cons_self
    · exact List.mem_cons_of_mem _ ((mem _).mp h)
  have max0 : ∀ x ∈ (0 : Int) :: bs, x ≤ k → x ≤ a' := fun x hx hxk => by
    refine k3 x ?_ hxk
    rcases List.mem_cons.mp hx with h | h
    · rw [h]; exact List.mem_cons_self
    · exact List.mem_cons_of_mem _ ((mem _).mpr h)
  by_cases hkb : (k : Int) ∈ bs
  · have ka : k = a' := by
      have := max0 k (List.mem_cons_of_mem _ hkb) (Int.le_refl _)
      omega
    have zk : rsum ((rest l bs).take k) = Ya l k := by
      rw [sum', ← ka, Nat.sub_self, Z0, Rat.add_zero]
    refine ⟨a', k, ⟨by omega, Nat.le_refl _, hk, fun i j h1 h2 h3 h4 => ?_, k, k, by omega, Nat.le_refl _, Nat.le_refl _, Nat.le_refl _, ?_⟩, mem0, max0, List.mem_cons_of_mem _ hkb, fun x hx hkx => hkx⟩
    · unfold chord
      rw [if_pos (by omega), zk]
      exact Rat.le_refl
    · unfold chord
      rw [if_pos rfl, zk]
  · have memb : (b' : Int) ∈ (l.length : Int) :: bs := by
      rcases List.mem_append.mp k6 with h | h
      · exact List.mem_cons_of_mem _ ((mem _).mp h)
      · rw [List.mem_singleton.mp h]; exact List.mem_cons_self
    refine ⟨a', b', ⟨by omega, by omega, by omega, fun i j h1 h2 h3 h4 => ?_, ?_⟩, mem0, max0, memb, fun x hx hkx => ?_⟩
    · rw [chord_seg hf (by omega) (by omega) h1 h2 h3 h4, sum']
      have := r1 (i - a') (j - a') (by omega) (by omega) (by omega)
      grind
    · obtain ⟨i, j, h1, h2, h3, h4⟩ := r2
      refine ⟨i + a', j + a', by omega, by omega, by omega, by omega, ?_⟩
      rw [chord_seg hf (a := a') (b := b') (by omega) (by omega) (by omega) (by omega) (by omega) (by omega), sum', Nat.add_sub_cancel, Nat.add_sub_cancel, h4]
    · refine k4 x ?_ hkx fun hxa => ?_
      · rcases List.mem_cons.mp hx with h | h
        · rw [h]; simp
        · exact List.mem_append_left _ ((mem _).mpr h)
      · have hxk : x = (k : Int) := by omega
        rcases List.mem_cons.mp hx with h | h
        · rcases List.mem_cons.mp mem0 with z | z
          · omega
          · have := hbs _ z
            omega
        · exact hkb (by rw [← hxk]; exact h)
end FW
end
section
namespace FW
open PySem PyProof.Rows PySem.Spec L2 DL
theorem sz_line {p q : Rat} {u v w : Int} {n : Nat} (h : Sz n p) (g : Sz n q) (hu : u.natAbs < 2 ^ 50) (hv : v.natAbs < 2 ^ 50) (hw : 0 < w) (hw2 : w < 2 ^ 50) : Sz (n + n + 51) ((p * u + q * v) / w) := by
  rw [← line_mkRat hw]
  have b1 : (p.num * q.den * u).natAbs < 2 ^ (n + n + 50) := by
    rw [Int.natAbs_mul, Int.natAbs_mul, Int.natAbs_natCast, Nat.pow_add, Nat.pow_add]
    exact Nat.mul_lt_mul'' (Nat.mul_lt_mul'' h.1 g.2) hu
  have b2 : (q.num * p.den * v).natAbs < 2 ^ (n + n + 50) := by
    rw [Int.natAbs_mul, Int.natAbs_mul, Int.natAbs_natCast, Nat.pow_add, Nat.pow_add]
    exact Nat.mul_lt_mul'' (Nat.mul_lt_mul'' g.1 h.2) hv
  have b3 : p.den * q.den * w.toNat < 2 ^ (n + n + 50) := by
    rw [Nat.pow_add, Nat.pow_add]
    exact Nat.mul_lt_mul'' (Nat.mul_lt_mul'' h.2 g.2) (by omega)
  have e : 2 ^ (n + n + 51) = 2 ^ (n + n + 50) + 2 ^ (n + n + 50) := by rw [Nat.pow_succ]; omega
  refine sz_mkRat (Nat.mul_pos (Nat.mul_pos p.den_pos q.den_pos) (by omega)) ?_ (by omega)
  have t := Int.natAbs_add_le (p.num * q.den * u) (q.num * p.den * v)
  omega
def XI (l : List Tk) (k : Nat) : Int := ((l.take k).map (·.1)).sum
theorem XI_Xa (l : List Tk) (k : Nat) : ((XI l k : Int) : Rat) = Xa l k := sum_Wi _
theorem hfI_get {l : List Tk} {k : Nat} (hk : k ≤ l.length) : (hfI 0 (l.map (·.1)))[k]? = some (XI l k) := by
  rw [← hfI_takes, List.getElem?_map, List.getElem?_range (by simp; omega)]
  simp [XI, List.map_take]
theorem hf_get : ∀ {l : List Tk} {k : Nat} (a : Rat), k ≤ l.length → (hf a (l.map (·.2)))[k]? = some (a + Ya l k)
  | [], k, a, hk => by
    have : k = 0 := by simpa using hk
    subst this
    simp [hf, Y0, Rat.add_zero]
  | t :: l, 0, a, _ => by simp [hf, Y0, Rat.add_zero]
  | t :: l, k + 1, a, hk => by
    have := hf_get (l := l) (k := k) (a + t.2) (by simpa using hk)
    simp only [List.map_cons, hf, List.getElem?_cons_succ, this]
    congr 1
    show _ = a + Am (t :: l.take k)
    rw [Am]
    unfold Ya
    grind
theorem XI_mono {l : List Tk} {m0 : Zc} (hok : ∀ t ∈ l, OkT m0 t) {i j : Nat} (h : i ≤ j) : XI l i ≤ XI l j ∧ (i < j → j ≤ l.length → XI l i < XI l j) := by
  have hf : Fl l := fun t ht => (hok t ht).lo
  have h1 := Xa_mono hf h
  rw [← XI_Xa, ← XI_Xa] at h1
  refine ⟨by exact_mod_cast h1, fun hlt hj => ?_⟩
  have h2 := Xa_lt hf hlt hj
  rw [← XI_Xa, ← XI_Xa] at h2
  exact_mod_cast h2
theorem XI_small {l : List Tk} {m0 : Zc} (hok : ∀ t ∈ l, OkT m0 t) (hl : l.length ≤ 1000) (k : Nat) : 0 ≤ XI l k ∧ XI l k ≤ 1000000 := by
  obtain ⟨h1, h2⟩ := sum_small (p := l.take k) fun t ht => ⟨(hok t (List.mem_of_mem_take ht)).lo, (hok t (List.mem_of_mem_take ht)).hi⟩
  have h3 : (l.take k).length ≤ 1000 := by
    rw [List.length_take]
    omega
  unfold XI
  omega
theorem sz_Ya {l : List Tk} {m0 : Zc} (hok : ∀ t ∈ l, OkT m0 t) (hl : l.length ≤ m0.L) (k : Nat) : Sz m0.B (Ya l k) :=
  m0.sum (l.take k) (fun t ht => (hok t (List.mem_of_mem_take ht)).sz) (by rw [List.length_take]; omega)
/-- the law's line over a place -/
theorem chord_told {l : List Tk} {m0 : Zc} {B : Nat} {S : Sto} (hok : ∀ t ∈ l, OkT m0 t) (hl : l.length ≤ 1000) (hB : l.length ≤ m0.L ∧ m0.B ≤ B) (hB2 : B ≤ 3000) {i k j : Nat} (h1 : i ≤ k) (h2 : k ≤ j) (h3 : j ≤ l.length) :
    f_law_chord_z [dI (hfI 0 (l.map (·.1))), dF (hf 0 (l.map (·.2))), .int (i : Nat), .int (k : Nat), .int (j : Nat)] S = some (fr (chord l i k j), S) ∧ Sz (B + B + 51) (chord l i k j) := by
  have y : ∀ m, m ≤ l.length → (hf 0 (l.map (·.2)))[m]? = some (Ya l m) := fun m hm => by
    rw [hf_get 0 hm, Rat.zero_add]
  have zy : ∀ m, Sz B (Ya l m) := fun m => (sz_Ya hok hB.1 m).mono hB.2
  have sm := fun m => XI_small hok hl m
  have mono : ∀ a b, a ≤ b → XI l a ≤ XI l b := fun a b h => (XI_mono hok h).1
  have key := law_chord_ok (S := S) (xs := hfI 0 (l.map (·.1))) (hs := hf 0 (l.map (·.2))) (i := i) (k := k) (j := j) (n := B) (hfI_get (by omega)) (hfI_get (by omega)) (hfI_get h3) (Ya l i) (Ya l k) (Ya l j) (y i (by omega)) (y k (by omega)) (y j h3) (zy i) (zy j) hB2 (sm i).1 (mono _ _ h1) (mono _ _ h2) (by have := (sm j).2; omega) (fun h => (XI_mono hok (by omega)).2 h h3) (by omega)
  rw [XI_Xa, XI_Xa, XI_Xa] at key
  refine ⟨key, ?_⟩
  unfold chord
  split
  · exact (zy k).mono (by omega)
  · rename_i hne
    have hlt := (XI_mono hok (show i ≤ j by omega)).2 (by omega) h3
    have s1 := sm i; have s2 := sm k; have s3 := sm j
    have m1 := mono _ _ h1; have m2 := mono _ _ h2
    have := sz_line (u := XI l j - XI l k) (v := XI l k - XI l i) (w := XI l j - XI l i) (zy i) (zy j) (by omega) (by omega) (by omega) (by omega)
    rw [Rat.intCast_sub, Rat.intCast_sub, Rat.intCast_sub, XI_Xa, XI_Xa, XI_Xa] at this
    exact this
noncomputable def inB : DS := (dSeq (dAsg (dCall 5 f_law_chord_z [] (dCons (dVar 3) (dCons (dVar 4) (dCons (dVar 10) (dCons (dVar 6) (dCons (dVar 11) dNil)))))) (dName 12))
    (dIfS (dTest (dCall 2 f_law_under_z [] (dCons (dVar 12) (dCons (dVar 9) dNil))))
    (dAsg (dVar 12) (dName 9)) dNext))
section
variable {l : List Tk} {m0 : Zc} {B : Nat} {S : Sto} {k : Nat} {Z : Rat} {x0 x1 x2 x5 x7 x8 : Option DV}
abbrev rs (l : List Tk) (k : Nat) (x0 x1 x2 x5 x7 x8 : Option DV) (q : Rat) (v10 v11 v12 : Option DV) : Sl := [x0, x1, x2, some (dI (hfI 0 (l.map (·.1)))), some (dF (hf 0 (l.map (·.2)))), x5, some (.int (k : Nat)), x7, x8, some (fr q), v10, v11, v12]
end
end FW
end
section
namespace FW
open PySem PyProof.Rows PySem.Spec L2 DL
noncomputable def outB : DS := (dFor (diR2 (dCons (dVar 6) (dCons (dOp (addD false) (dVar 8) (dC (.int 1))) dNil))) (dName 11) inB)
section
variable {l : List Tk} {m0 : Zc} {B : Nat} {S : Sto} {k a h : Nat} {Z : Rat} {x0 x1 x2 x5 : Option DV}
end
noncomputable def Zr (l : List Tk) (bs : List Int) (k : Nat) : Rat := rsum ((rest l bs).take k)
noncomputable def kB : DS := (dSeq (dAsg (dCall 3 f_law_ends_z [] (dCons (dCB lenD (dCons (dVar 0) dNil)) (dCons (dVar 2) (dCons (dVar 6) dNil)))) (dGTup 2 (dGCons (dName 7) (dGCons (dName 8) dGNil))))
    (dSeq (dAsg (dOp ixD (dVar 4) (dVar 6)) (dName 9))
    (dSeq (dFor (diR2 (dCons (dVar 7) (dCons (dOp (addD false) (dVar 6) (dC (.int 1))) dNil))) (dName 10)
    outB)
    (dDrop (dBM "list" appendD (dVar 5) (dCons (dVar 9) dNil))))))
theorem ss_len {l : List Tk} {m0 : Zc} (hok : ∀ t ∈ l, OkT m0 t) : ∀ (m : List Int) (c n : Nat), ((c : Int) :: (m ++ [(n : Int)])).Pairwise (· ≤ ·) → n ≤ l.length → (ss l ((c : Int) :: (m ++ [(n : Int)]))).length = n - c
  | [], c, n, hs, hn => by
    have hcn := (List.pairwise_cons.mp hs).1 (n : Int) (by simp)
    have okS : ∀ t ∈ seg l ((c : Int), (n : Int)), OkT m0 t := fun t h => hok t (seg_mem h)
    obtain ⟨_, _, q3⟩ := pools_ok okS
    show ((pools (seg l ((c : Int), (n : Int)))).flatMap lay ++ []).length = _
    rw [List.append_nil, lay_len, q3, seg_length hn (by omega)]
  | d :: m, c, n, hs, hn => by
    obtain ⟨h1, h2⟩ := List.pairwise_cons.mp hs
    have h2' : (d :: (m ++ [(n : Int)])).Pairwise (· ≤ ·) := h2
    have hcd := h1 d (by simp)
    have hdn := (List.pairwise_cons.mp h2').1 (n : Int) (by simp)
    obtain ⟨d', rfl⟩ : ∃ d' : Nat, d = (d' : Int) := ⟨d.toNat, by omega⟩
    have okS : ∀ t ∈ seg l ((c : Int), (d' : Int)), OkT m0 t := fun t h => hok t (seg_mem h)
    obtain ⟨_, _, q3⟩ := pools_ok okS
    have ih := ss_len hok m d' n h2' hn
    show ((pools (seg l ((c : Int), (d' : Int)))).flatMap lay ++ ss l ((d' : Int) :: (m ++ [(n : Int)]))).length = _
    rw [List.length_append, lay_len, q3, seg_length (by omega) (by omega), ih]
    omega
theorem rest_len {l : List Tk} {bs : List Int} {m0 : Zc} (hok : ∀ t ∈ l, OkT m0 t) (hbs : ∀ b ∈ bs, 1 ≤ b ∧ b < (l.length : Int)) : (rest l bs).length = l.length := by
  rw [rest_eq]
  have := ss_len hok (sortI bs) 0 l.length (cuts_ok hbs).1 (Nat.le_refl _)
  exact this
theorem hf_length : ∀ (qs : List Rat) (q : Rat), (hf q qs).length = qs.length + 1
  | [], _ => rfl
  | p :: ps, q => by simp [hf, hf_length ps]
theorem exF_cut {S X : Sto} {d : DV} (h : clo S.length d = true) (hp : ∀ n, d ≠ .ptr n) : exF (some false) S d (S ++ X) = some (d, S) := by
  unfold exF exF1
  simp only
  split
  · rename_i hx
    have : X = [] := by simpa using hx
    subst this
    rw [List.append_nil]
  · rename_i hx
    rw [if_pos ⟨by simp at hx ⊢; exact List.length_pos_iff.mpr (fun z => hx (by simp [z])), fun n hn => .inl (by rw [List.getElem?_append_left hn])⟩]
    unfold exR
    split
    · exact absurd rfl (hp _)
    · rw [if_pos h, List.take_left]
end FW
end
section
namespace FW
open PySem PyProof.Rows PySem.Spec L2 DL
def pfr (q : Rat) : PyData := .tuple [.int q.num, .int (q.den : Int)]
theorem py_fr {r : Nat → Option PyData} (q : Rat) : py r (fr q) = some (pfr q) := rfl
theorem sh_pfr (q : Rat) : ShN 1 (pfr q) := shN_tuple fun p hp => by
  rcases List.mem_cons.mp hp with rfl | hp
  · exact shN_int
  · cases List.mem_singleton.mp hp
    exact shN_int
theorem py_dI {S : Sto} (ws : List Int) : pyS S (dI ws) = some (.list (ws.map PyData.int)) := by
  unfold pyS dI
  simp only [py, pys_map (f := DV.int) (g := PyData.int) (fun _ => rfl), Option.map_some]
theorem py_dF {S : Sto} (ws : List Rat) : pyS S (dF ws) = some (.list (ws.map pfr)) := by
  unfold pyS dF
  simp only [py, pys_map (f := fr) (g := pfr) py_fr, Option.map_some]
theorem sh_dI (ws : List Int) : ShN 1 (.list (ws.map PyData.int)) := shN_list fun p hp => by
  obtain ⟨i, _, rfl⟩ := List.mem_map.mp hp
  exact shN_int
theorem sh_dF (ws : List Rat) : ShN 2 (.list (ws.map pfr)) := shN_list fun p hp => by
  obtain ⟨i, _, rfl⟩ := List.mem_map.mp hp
  exact sh_pfr i
theorem eqv_dI (x y : List Int) : PyData.eqv (.list (x.map PyData.int)) (.list (y.map PyData.int)) = decide (x = y) := by
  show PyData.eqvAll _ _ = _
  exact eqv_map (fun a b => by simp [PyData.eqv, Bool.beq_eq_decide_eq]) x y
section
variable {t : Tr} {G : Sto} {x y z : MO} {ds es : List DV}
end
end FW
end
section
namespace FW
open PySem PyProof.Rows PySem.Spec L2 DL
/-! ### at a flap that isn't bolted -/
structure Flap (l : List Tk) (bs : List Int) (k : Nat) (s u : Rat) : Prop where
  le : s ≤ u
  left : Zr l bs k - Zr l bs (k - 1) = s * (Xa l k - Xa l (k - 1))
  right : Zr l bs (k + 1) - Zr l bs k = u * (Xa l (k + 1) - Xa l k)
  same : s < u → Zr l bs k = Ya l k
end FW
end
section
namespace FW
open PySem PyProof.Rows PySem.Spec L2 DL
theorem ht_nonneg {p : List Tk} (hf : Fl p) (h0 : p ≠ []) (h : ∀ t ∈ p, 0 ≤ t.2) : 0 ≤ ht p := by
  have : 0 ≤ Am p := by
    have gen : ∀ z : List Tk, (∀ t ∈ z, 0 ≤ t.2) → 0 ≤ Am z := fun z => by
      induction z with
      | nil => intro _; exact Rat.le_refl
      | cons t z ih =>
        intro hz
        have h1 := hz t (List.mem_cons_self)
        have h2 := ih fun x hx => hz x (List.mem_cons_of_mem _ hx)
        simp only [Am]
        grind
    exact gen p h
  have hw := Wi_pos hf h0
  exact le_div hw (by rw [Rat.zero_mul]; exact this)
theorem rest_mem {l : List Tk} {bs : List Int} {m0 : Zc} (hok : ∀ t ∈ l, OkT m0 t ∧ 0 ≤ t.2) (hL : l.length ≤ 1000) (hL2 : l.length ≤ m0.L ∧ m0.B ≤ 3000) {q : Rat} (hq : q ∈ rest l bs) : 0 ≤ q ∧ Sz (m0.B + 100) q := by
  unfold rest segs at hq
  obtain ⟨pr, _, hq⟩ := List.mem_flatMap.mp hq
  obtain ⟨p, hp, hq⟩ := List.mem_flatMap.mp hq
  obtain ⟨t, ht', rfl⟩ := List.mem_map.mp hq
  have okS : ∀ t ∈ seg l pr, OkT m0 t := fun t h => (hok t (seg_mem h)).1
  obtain ⟨q1, _, q3⟩ := pools_ok okS
  have hsub : ∀ x ∈ p, x ∈ seg l pr := fun x hx => by
    rw [← q3]
    exact List.mem_flatten.mpr ⟨p, hp, hx⟩
  have op := (q1 p hp).2
  have pl' : p.length ≤ l.length := by
    have h1 : p.length ≤ (pools (seg l pr)).flatten.length := (List.sublist_flatten_of_mem hp).length_le
    rw [q3] at h1
    exact Nat.le_trans h1 seg_len
  have hn := ht_nonneg (q1 p hp).1.fl op.1 fun x hx => (hok x (seg_mem (hsub x hx))).2
  have tf := op.fl t ht'
  refine ⟨Rat.mul_nonneg hn (by have := cast_one_le tf.1; grind), ?_⟩
  obtain ⟨h1, h2⟩ := sum_small op.fl
  have h3 : 0 < p.length := List.length_pos_iff.mpr op.1
  have key := sz_share (p := t.1) (w := (p.map (·.1)).sum) (op.am pl') (by omega) (by omega) (by omega)
  have e : Am p * (t.1 : Rat) / (((p.map (·.1)).sum : Int) : Rat) = ht p * (t.1 : Rat) := by
    rw [sum_Wi]
    unfold ht
    grind
  rw [e] at key
  exact key
end FW
end
section
namespace FW
open PySem PyProof.Rows PySem.Spec L2 DL
theorem lcL_none {tgt : DG} {tt : DT} {te : DE} {vs : List Nat} {s : Sl} {S : Sto} : ∀ {xs acc : List DV}, (∀ x ∈ xs, ∃ s1, tgt x (wipeD s vs) S = some (s1, S) ∧ tt s1 S = some (false, S)) → lcL tgt tt te vs xs acc s S = some (acc, S)
  | [], acc, _ => by simp [lcL]
  | x :: xs, acc, h => by
    obtain ⟨s1, h1, h2⟩ := h x (List.mem_cons_self)
    have ih := lcL_none (tgt := tgt) (tt := tt) (te := te) (vs := vs) (s := s) (S := S) (xs := xs) (acc := acc) fun y hy => h y (List.mem_cons_of_mem _ hy)
    simp [lcL, h1, h2, ih]
theorem hf_rsum : ∀ {r : List Rat} {k : Nat} (a : Rat), k ≤ r.length → (hf a r)[k]? = some (a + rsum (r.take k))
  | [], k, a, hk => by
    have : k = 0 := by simpa using hk
    subst this
    simp [hf, rsum, Rat.add_zero]
  | t :: l, 0, a, _ => by simp [hf, rsum, Rat.add_zero]
  | t :: l, k + 1, a, hk => by
    have := hf_rsum (r := l) (k := k) (a + t) (by simpa using hk)
    simp only [List.take_succ_cons, hf, List.getElem?_cons_succ, this, rsum]
    congr 1
    grind
end FW
end
section
namespace FW
open PySem PyProof.Rows PySem.Spec L2 DL
/-! ### what is left at rest is the greatest of its shape -/
/-- shaped between the bolted places -/
def Shp (l : List Tk) (bs : List Int) (W : Nat → Rat) : Prop := ∀ k, 0 < k → k < l.length → (k : Int) ∉ bs → (W k - W (k - 1)) * (Xa l (k + 1) - Xa l k) ≤ (W (k + 1) - W k) * (Xa l k - Xa l (k - 1))
structure Rst (l : List Tk) (bs : List Int) (Z : Nat → Rat) : Prop where
  le : ∀ k, k ≤ l.length → Z k ≤ Ya l k
  ends : ∀ k, k ≤ l.length → (k = 0 ∨ k = l.length ∨ (k : Int) ∈ bs) → Z k = Ya l k
  flap : ∀ k, 0 < k → k < l.length → (k : Int) ∉ bs → ∃ s u, s ≤ u ∧ Z k - Z (k - 1) = s * (Xa l k - Xa l (k - 1)) ∧ Z (k + 1) - Z k = u * (Xa l (k + 1) - Xa l k) ∧ (s < u → Z k = Ya l k)
theorem mul_le2 {s u a b : Rat} (h : s ≤ u) (ha : 0 ≤ a) (hb : 0 ≤ b) : s * a * b ≤ u * b * a := by
  have h1 := mul_le_left h ha
  have h2 := mul_le_left h1 hb
  have e : u * b * a = u * a * b := by grind
  rw [e]
  exact h2
theorem Rst.shp {l : List Tk} {bs : List Int} {Z : Nat → Rat} (R : Rst l bs Z) (hf : Fl l) : Shp l bs Z := by
  intro k h0 h1 h2
  obtain ⟨s, u, h, e1, e2, _⟩ := R.flap k h0 h1 h2
  rw [e1, e2]
  have a1 := Xa_mono hf (show k - 1 ≤ k by omega)
  have a2 := Xa_mono hf (show k ≤ k + 1 by omega)
  exact mul_le2 h (by grind) (by grind)
/-- the place farthest left where most of the difference is -/
theorem most_left (D : Nat → Rat) : ∀ n : Nat, ∃ k, k ≤ n ∧ (∀ j, j ≤ n → D j ≤ D k) ∧ ∀ j, j < k → D j < D k
  | 0 => ⟨0, Nat.le_refl _, fun j hj => by rw [show j = 0 by omega]; exact Rat.le_refl, fun j hj => by omega⟩
  | n + 1 => by
    obtain ⟨k, h1, h2, h3⟩ := most_left D n
    by_cases h : D (n + 1) ≤ D k
    · refine ⟨k, by omega, fun j hj => ?_, h3⟩
      by_cases e : j = n + 1
      · rw [e]; exact h
      · exact h2 j (by omega)
    · have h' := Rat.not_le.mp h
      refine ⟨n + 1, Nat.le_refl _, fun j hj => ?_, fun j hj => ?_⟩
      · by_cases e : j = n + 1
        · rw [e]; exact Rat.le_refl
        · have := h2 j (by omega)
          grind
      · have := h2 j (by omega)
        grind
theorem slopes {a b p q s : Rat} (ha : 0 < a) (hb : 0 < b) (h : p * b ≤ q * a) (hp : s * a < p) : s * b < q := by
  refine Rat.not_le.mp fun z => ?_
  have h1 := mul_le_left z (Rat.le_of_lt ha)
  have h2 := Rat.mul_lt_mul_of_pos_right hp hb
  grind
/-- nothing of that shape that is not above is above what is left -/
theorem Rst.most {l : List Tk} {bs : List Int} {Z W : Nat → Rat} (R : Rst l bs Z) (hf : Fl l) (hW : ∀ k, k ≤ l.length → W k ≤ Ya l k) (hs : Shp l bs W) : ∀ k, k ≤ l.length → W k ≤ Z k := by
  intro k hk
  obtain ⟨m, h1, h2, h3⟩ := most_left (fun k => W k - Z k) l.length
  have hkm := h2 k hk
  refine Rat.not_lt.mp fun hlt => ?_
  have pos : 0 < W m - Z m := by grind
  have wm := hW m h1
  have ne : Z m ≠ Ya l m := fun e => by grind
  have m0 : 0 < m := by
    refine Nat.pos_of_ne_zero fun e => ne (R.ends m h1 (.inl e))
  have mn : m < l.length := by
    refine Nat.lt_of_le_of_ne h1 fun e => ne (R.ends m h1 (.inr (.inl e)))
  have mb : (m : Int) ∉ bs := fun e => ne (R.ends m h1 (.inr (.inr e)))
  obtain ⟨s, u, su, e1, e2, e3⟩ := R.flap m m0 mn mb
  have hsu : s = u := by
    refine Classical.byContradiction fun z => ne (e3 ?_)
    exact Rat.lt_of_le_of_ne su z
  have c := hs m m0 mn mb
  have d1 := h3 (m - 1) (by omega)
  have d2 := h2 (m + 1) (by omega)
  have x1 := Xa_lt hf (show m - 1 < m by omega) h1
  have x2 := Xa_lt hf (show m < m + 1 by omega) (by omega)
  have := slopes (a := Xa l m - Xa l (m - 1)) (b := Xa l (m + 1) - Xa l m) (s := s) (by grind) (by grind) c (by grind)
  subst hsu
  grind
theorem Rst.uniq {l : List Tk} {bs : List Int} {Z W : Nat → Rat} (R : Rst l bs Z) (R' : Rst l bs W) (hf : Fl l) {k : Nat} (hk : k ≤ l.length) : W k = Z k :=
  Rat.le_antisymm (R.most hf R'.le (R'.shp hf) k hk) (R'.most hf R.le (R.shp hf) k hk)
theorem Xa_fst {l l' : List Tk} (h : l.map (·.1) = l'.map (·.1)) (k : Nat) : Xa l k = Xa l' k := by
  unfold Xa
  rw [← sum_Wi, ← sum_Wi, List.map_take, List.map_take, h]
theorem len_fst {l l' : List Tk} (h : l.map (·.1) = l'.map (·.1)) : l.length = l'.length := by
  have := congrArg List.length h
  simpa using this
theorem Shp.fst {l l' : List Tk} {bs : List Int} {W : Nat → Rat} (h : l.map (·.1) = l'.map (·.1)) (g : Shp l bs W) : Shp l' bs W := by
  intro k h0 h1 h2
  have := g k h0 (by rw [len_fst h]; exact h1) h2
  rw [Xa_fst h, Xa_fst h, Xa_fst h] at this
  exact this
theorem Shp.sub {l : List Tk} {bs bs' : List Int} {W : Nat → Rat} (h : ∀ b ∈ bs, b ∈ bs') (g : Shp l bs W) : Shp l bs' W := fun k h0 h1 h2 => g k h0 h1 fun z => h2 (h _ z)
theorem Shp.add {l : List Tk} {bs : List Int} {W V : Nat → Rat} (g : Shp l bs W) (f : Shp l bs V) : Shp l bs fun k => W k + V k := by
  intro k h0 h1 h2
  have a := g k h0 h1 h2
  have b := f k h0 h1 h2
  grind
theorem Shp.mul {l : List Tk} {bs : List Int} {W : Nat → Rat} {c : Rat} (hc : 0 ≤ c) (g : Shp l bs W) : Shp l bs fun k => W k * c := by
  intro k h0 h1 h2
  have a := mul_le_left (g k h0 h1 h2) hc
  grind
theorem Rst.mul {l l' : List Tk} {bs : List Int} {Z : Nat → Rat} {c : Rat} (hc : 0 ≤ c) (h : l.map (·.1) = l'.map (·.1)) (hy : ∀ k, Ya l' k = Ya l k * c) (R : Rst l bs Z) : Rst l' bs fun k => Z k * c where
  le := fun k hk => by rw [hy]; exact mul_le_left (R.le k (by rw [len_fst h]; exact hk)) hc
  ends := fun k hk z => by rw [hy, R.ends k (by rw [len_fst h]; exact hk) (by rw [len_fst h]; exact z)]
  flap := fun k h0 h1 h2 => by
    obtain ⟨s, u, su, e1, e2, e3⟩ := R.flap k h0 (by rw [len_fst h]; exact h1) h2
    refine ⟨s * c, u * c, mul_le_left su hc, ?_, ?_, fun z => ?_⟩
    · rw [← Xa_fst h, ← Xa_fst h]; grind
    · rw [← Xa_fst h, ← Xa_fst h]; grind
    · rw [hy, e3 (by
        refine Rat.not_le.mp fun y => ?_
        have := mul_le_left y hc
        grind)]
section
variable {l l' l2 : List Tk} {bs bs' : List Int} {m0 m1 m2 : Zc}
end
end FW
end
section
namespace FW
open PySem PyProof.Rows PySem.Spec L2 DL
theorem sz_Zr {l : List Tk} {bs : List Int} {m0 : Zc} {B : Nat} (h0 : l ≠ []) (hok : ∀ t ∈ l, OkT m0 t) (hl : l.length ≤ 1000) (hB : l.length ≤ m0.L ∧ m0.B ≤ B) (hB2 : B ≤ 3000) (hbs : ∀ b ∈ bs, 1 ≤ b ∧ b < (l.length : Int)) {k : Nat} (hk : k ≤ l.length) : Sz (B + B + 51) (Zr l bs k) := by
  obtain ⟨a, h, lo, _⟩ := low_ok h0 hok hbs hk
  obtain ⟨i, j, h1, h2, h3, h4, e⟩ := lo.at_
  have e' : Zr l bs k = chord l i k j := e.symm
  rw [e']
  exact (chord_told (S := []) hok hl hB hB2 h2 h3 (Nat.le_trans h4 lo.hn)).2
theorem hf_rest {l : List Tk} {bs : List Int} {m0 : Zc} (hok : ∀ t ∈ l, OkT m0 t) (hbs : ∀ b ∈ bs, 1 ≤ b ∧ b < (l.length : Int)) {k : Nat} (hk : k ≤ l.length) : (hf 0 (rest l bs))[k]? = some (Zr l bs k) := by
  rw [hf_rsum 0 (by rw [rest_len hok hbs]; exact hk), Rat.zero_add]
  rfl
theorem mem_hf {qs : List Rat} {x : Rat} (h : x ∈ hf 0 qs) : ∃ k, k ≤ qs.length ∧ x = rsum (qs.take k) := by
  obtain ⟨k, hk, rfl⟩ := List.getElem_of_mem h
  rw [hf_length] at hk
  have e := hf_rsum (r := qs) (k := k) 0 (by omega)
  refine ⟨k, by omega, ?_⟩
  rw [List.getElem?_eq_getElem (by rw [hf_length]; exact hk), Rat.zero_add] at e
  exact Option.some.inj e
structure Row (z : Zc) (ws : List Int) (qs : List Rat) : Prop where
  ne : ws ≠ []
  fl : ∀ w ∈ ws, 1 ≤ w ∧ w ≤ 1000
  len : qs.length = ws.length
  c : ∀ q ∈ qs, z.C q
  n : ws.length ≤ 100
  zl : ws.length ≤ z.L
  zb : z.B ≤ 3000
def Bo (n : Nat) (bs : List Int) : Prop := (∀ b ∈ bs, 1 ≤ b ∧ b < (n : Int)) ∧ bs.Nodup ∧ bs.length ≤ 100
section
variable {z : Zc} {ws : List Int} {qs : List Rat} {bs : List Int} {S : Sto}
theorem Row.l1 (h : Row z ws qs) : (ws.zip qs).map (·.1) = ws := List.map_fst_zip (by have := h.len; omega)
theorem Row.l2 (h : Row z ws qs) : (ws.zip qs).map (·.2) = qs := List.map_snd_zip (by have := h.len; omega)
theorem Row.ll (h : Row z ws qs) : (ws.zip qs).length = ws.length := by rw [List.length_zip, h.len, Nat.min_self]
theorem Row.zne (h : Row z ws qs) : ws.zip qs ≠ [] := fun e => by
  have := h.ll
  rw [e] at this
  exact h.ne (List.length_eq_zero_iff.mp this.symm)
theorem Row.ok (h : Row z ws qs) : ∀ t ∈ ws.zip qs, OkT z t := fun t ht => by
  have m1 : t.1 ∈ ws := by
    have := List.mem_map_of_mem (f := (·.1)) ht
    rw [h.l1] at this
    exact this
  have m2 : t.2 ∈ qs := by
    have := List.mem_map_of_mem (f := (·.2)) ht
    rw [h.l2] at this
    exact this
  exact ⟨(h.fl _ m1).1, (h.fl _ m1).2, h.c _ m2⟩
theorem Row.bb (h : Row z ws qs) (hb : Bo ws.length bs) : ∀ b ∈ bs, 1 ≤ b ∧ b < ((ws.zip qs).length : Int) := by
  rw [h.ll]
  exact hb.1
theorem Row.rlen (h : Row z ws qs) (hb : Bo ws.length bs) : (rest (ws.zip qs) bs).length = ws.length := by
  rw [rest_len h.ok (h.bb hb), h.ll]
theorem Row.rpos (h : Row z ws qs) (h0 : ∀ q ∈ qs, 0 ≤ q) {q : Rat} (hq : q ∈ rest (ws.zip qs) bs) : 0 ≤ q ∧ Sz (z.B + 100) q :=
  rest_mem (m0 := z) (fun t ht => ⟨h.ok t ht, by
    refine h0 _ ?_
    have := List.mem_map_of_mem (f := (·.2)) ht
    rw [h.l2] at this
    exact this⟩) (by rw [h.ll]; have := h.n; omega) (by rw [h.ll]; exact ⟨h.zl, h.zb⟩) hq
theorem Row.hz (h : Row z ws qs) (h0 : ∀ q ∈ qs, 0 ≤ q) (hb : Bo ws.length bs) : Hz (z.B + z.B + 100) (rest (ws.zip qs) bs) := by
  refine ⟨fun q hq => (h.rpos h0 hq).2.mono (by omega), fun x hx => ?_⟩
  obtain ⟨k, hk, rfl⟩ := mem_hf hx
  have e : rsum ((rest (ws.zip qs) bs).take k) = Zr (ws.zip qs) bs k := rfl
  rw [e]
  rw [h.rlen hb] at hk
  refine (sz_Zr h.zne h.ok (by rw [h.ll]; have := h.n; omega) (by rw [h.ll]; exact ⟨h.zl, Nat.le_refl _⟩) h.zb (h.bb hb) (by rw [h.ll]; exact hk)).mono (by omega)
theorem Row.get (h : Row z ws qs) (hb : Bo ws.length bs) {k : Nat} (hk : k ≤ ws.length) : (hf 0 (rest (ws.zip qs) bs))[k]? = some (Zr (ws.zip qs) bs k) :=
  hf_rest h.ok (h.bb hb) (by rw [h.ll]; exact hk)
end
/-! ### a comparison, place by place -/
theorem eq_nil {S : Sto} : eqD (.lst []) (.lst []) S = some (.bl true, S) := by
  rw [eqD_of (n := 1) (p := .list []) (q := .list []) rfl rfl (shN_list (n := 0) fun p hp => by cases hp) (shN_list (n := 0) fun p hp => by cases hp) (by decide)]
  simp [PyData.eqv, PyData.eqvAll]
end FW
end
section
/-! rows that may change: refused or not; at rest -/
namespace FW.R
open PySem PyProof.Rows PySem.Spec L2 DL FW
section
variable {tgt : DG} {body : DS} {it : DIt} {xs : List DV}
theorem forF_invR (I : Nat → Sl → Sto → Prop) (h : ∀ i s S, I i s S → DL.itemAt it S i = some xs[i]?)
    (hs : ∀ (i : Nat) (x : DV) (s : Sl) (S : Sto), xs[i]? = some x → I i s S → ∃ s1 S1 s2 S2, tgt x s S = some (s1, S1) ∧ body s1 S1 = some (.nx s2 S2) ∧ I (i + 1) s2 S2) :
    ∀ (k i : Nat) (s : Sl) (S : Sto), xs.length < k + i → i ≤ xs.length → I i s S → ∃ s' S', forF tgt body it k i s S = some (.nx s' S') ∧ I xs.length s' S'
  | 0, i, s, S, h1, h2, hI => by omega
  | k + 1, i, s, S, h1, h2, hI => by
    unfold forF
    rw [h i s S hI]
    by_cases hi : i < xs.length
    · have e1 : xs[i]? = some xs[i] := List.getElem?_eq_getElem hi
      obtain ⟨s1, S1, s2, S2, a1, a2, a3⟩ := hs i _ s S e1 hI
      obtain ⟨s', S', a4, a5⟩ := forF_invR I h hs k (i + 1) s2 S2 (by omega) hi a3
      refine ⟨s', S', ?_, a5⟩
      rw [e1]
      simp only [a1, a2, kLoop, a4]
    · have e1 : xs[i]? = none := by rw [List.getElem?_eq_none_iff]; omega
      have : i = xs.length := by omega
      subst this
      exact ⟨s, S, by rw [e1], hI⟩
theorem for_invR {fi : DI} {d : DV} {s : Sl} {S : Sto} (I : Nat → Sl → Sto → Prop) (hf : fi s S = some (.li d, S)) (h : ∀ i s S, I i s S → rdL S d = some xs)
    (hs : ∀ (i : Nat) (x : DV) (s : Sl) (S : Sto), xs[i]? = some x → I i s S → ∃ s1 S1 s2 S2, tgt x s S = some (s1, S1) ∧ body s1 S1 = some (.nx s2 S2) ∧ I (i + 1) s2 S2) (h0 : I 0 s S) :
    ∃ s' S', dFor fi tgt body s S = some (.nx s' S') ∧ I xs.length s' S' := by
  obtain ⟨s', S', a, b⟩ := forF_invR (it := .li d) I (fun i s S hI => by simp only [DL.itemAt, h i s S hI]) hs (itLen (.li d) S + 1) 0 s S (by simp only [itLen, h 0 s S h0]; omega) (Nat.zero_le _) h0
  refine ⟨s', S', ?_, b⟩
  unfold dFor
  rw [hf]
  simp only [bnd_some', a]
end
theorem diL_ofR {fe : DE} {s : Sl} {S : Sto} {d : DV} {xs : List DV} (h : fe s S = some (d, S)) (hd : rdL S d = some xs) : diL fe s S = some (.li d, S) := by
  unfold diL
  rw [h]
  simp [hd]
section
variable {tgt : DG} {it : DIt} {α : Type} {l : List α} {φ : α → DV}
theorem lcF_fmR {tt : DT} {te : DE} {vs : List Nat} {P : α → Bool} {g : α → DV} {s : Sl} {S : Sto} (h : ∀ i, DL.itemAt it S i = some (l.map φ)[i]?)
    (hs : ∀ x ∈ l, ∃ s1, tgt (φ x) (wipeD s vs) S = some (s1, S) ∧ tt s1 S = some (P x, S) ∧ (P x = true → te s1 S = some (g x, S))) :
    ∀ (k i : Nat) (acc : List DV), l.length < k + i → i ≤ l.length → lcF tgt tt te it vs k i acc s S = some (acc ++ ((l.drop i).filter P).map g, S)
  | 0, i, acc, h1, h2 => by omega
  | k + 1, i, acc, h1, h2 => by
    unfold lcF
    rw [h i, List.getElem?_map]
    by_cases hi : i < l.length
    · have e1 : l[i]? = some l[i] := List.getElem?_eq_getElem hi
      obtain ⟨s1, a1, a2, a3⟩ := hs l[i] (List.getElem_mem hi)
      rw [e1, List.drop_eq_getElem_cons hi]
      simp only [Option.map_some, a1, a2, bnd_some']
      cases q : P l[i] with
      | true =>
        simp only [if_true, a3 q, bnd_some']
        rw [lcF_fmR h hs k (i + 1) _ (by omega) hi, List.filter_cons_of_pos q, List.map_cons, List.append_assoc]
        rfl
      | false =>
        rw [if_neg (by decide), lcF_fmR h hs k (i + 1) _ (by omega) hi, List.filter_cons_of_neg (by rw [q]; decide)]
    · have e1 : l[i]? = none := by rw [List.getElem?_eq_none_iff]; omega
      rw [e1, List.drop_eq_nil_of_le (by omega)]
      simp
theorem lc_fmR {m : Bool} {fi : DI} {tt : DT} {te : DE} {vs : List Nat} {P : α → Bool} {g : α → DV} {s : Sl} {S S0 : Sto} (hf : fi s S0 = some (it, S)) (hl : l.length ≤ itLen it S) (h : ∀ i, DL.itemAt it S i = some (l.map φ)[i]?)
    (hs : ∀ x ∈ l, ∃ s1, tgt (φ x) (wipeD s vs) S = some (s1, S) ∧ tt s1 S = some (P x, S) ∧ (P x = true → te s1 S = some (g x, S))) (hn : l.length ≤ 100000) :
    dLc m fi tgt tt te vs s S0 = some (newL m ((l.filter P).map g) S) := by
  unfold dLc
  rw [hf, bnd_some', lcF_fmR h hs (itLen it S + 1) 0 [] (by omega) (Nat.zero_le _), bnd_some', List.drop_zero, List.nil_append]
  refine gate_ok ?_
  rw [List.length_map]
  exact Nat.le_trans (List.length_filter_le _ _) hn
end
theorem lenD_rdR {S : Sto} {d : DV} {ds : List DV} (h : rdL S d = some ds) : lenD [d] S = some (.int (ds.length : Nat), S) := by
  unfold lenD
  simp [h]
theorem enum_atR {S : Sto} {d : DV} {ds : List DV} (h : rdL S d = some ds) (i : Nat) : DL.itemAt (.en d) S i = some (ds.mapIdx fun i x => DV.tup [.int (i : Nat), x])[i]? := by
  simp only [DL.itemAt, h, List.getElem?_mapIdx]
  cases ds[i]? <;> rfl
theorem enD_ofR {S : Sto} {bd : DV} {ds : List DV} {fe : DE} {s : Sl} (h : rdL S bd = some ds) (e : fe s S = some (bd, S)) : diE (dCons fe dNil) s S = some (.en bd, S) := by
  unfold diE
  simp only [dCons, e, bnd_some', dNil]
  exact if_pos (by rw [h]; rfl)
theorem check_floors_R {fd : DV} {ns : List Int} {S : Sto} (hf : rdL S fd = some (ns.map DV.int)) (h0 : ns ≠ []) (h : ∀ n ∈ ns, 1 ≤ n) : f_check_floors_z [fd] S = some (.non, S) := by
  have hl : ¬ (((ns.map DV.int).length : Nat) : Int) = 0 := by
    cases ns with
    | nil => exact absurd rfl h0
    | cons n r => simp; omega
  have hln := lenD_rdR hf
  obtain ⟨s', e, _⟩ := forF_same (tgt := dGTup 2 (dGCons (dName 1) (dGCons (dName 2) dGNil))) (body := dIfS (dTest (dOp ltD (dVar 2) (dC (.int 1)))) dNever dNext) (it := .en fd) (S := S) (xs := (ns.map DV.int).mapIdx fun i x => DV.tup [.int (i : Nat), x]) (enum_atR hf) (fun s => s.length = 3) (fun x hx s hs => by
    rw [List.mem_mapIdx] at hx
    obtain ⟨i, hi, rfl⟩ := hx
    match s, hs with
    | [a, b, c], _ =>
      have hi' : i < ns.length := by simpa using hi
      have := h ns[i] (List.getElem_mem hi')
      refine ⟨[a, some (.int (i : Nat)), some (.int ns[i])], [a, some (.int (i : Nat)), some (.int ns[i])], by simp, ?_, rfl⟩
      have hn : ¬ ns[i] < 1 := by omega
      simp [hn]) (itLen (.en fd) S + 1) 0 [some fd, none, none] (by simp [itLen, hf]) (Nat.zero_le _) rfl
  refine fn_nx (s := s') (S1 := S) ?_ exF_same
  show b_check_floors_z [some fd, none, none] S = _
  refine seq_nx (if_f (S1 := S) ?_ rfl) ?_
  · have hq : eqD (.int (((ns.map DV.int).length : Nat) : Int)) (.int 0) S = some (.bl false, S) := by
      rw [eqD_int, decide_eq_false hl]
    simp only [dTest, dOp, dCB, dCons, dNil, dVar, List.getElem?_cons_zero, bnd_some', hln, dC, hq]
  · rw [dFor, enD_ofR (fe := dVar 0) hf rfl, bnd_some']
    exact e
theorem check_water_R {fd d : DV} {ns : List Int} {qs : List Rat} {S : Sto} {n : Nat} (hf : rdL S fd = some (ns.map DV.int)) (hd : rdL S d = some (qs.map fr)) (hl : qs.length = ns.length) (h : ∀ q ∈ qs, 0 ≤ q ∧ Sz n q) (hn : n ≤ 7000) : f_check_water_z [fd, d] S = some (.non, S) := by
  obtain ⟨s', e, _⟩ := forF_same (tgt := dGTup 2 (dGCons (dName 2) (dGCons (dName 3) dGNil))) (body := dIfS (dTest (dCall 2 f_above_z [] (dCons (dC (.tup [(.int 0), (.int 1)])) (dCons (dVar 3) dNil)))) dNever dNext) (it := .en d) (S := S) (xs := (qs.map fr).mapIdx fun i x => DV.tup [.int (i : Nat), x]) (enum_atR hd) (fun s => s.length = 4) (fun x hx s hs => by
    rw [List.mem_mapIdx] at hx
    obtain ⟨i, hi, rfl⟩ := hx
    match s, hs with
    | [a, b, c, d], _ =>
      have hi' : i < qs.length := by simpa using hi
      have hq := h qs[i] (List.getElem_mem hi')
      have h0 : Sz n (0 : Rat) := ⟨Nat.two_pow_pos n, Nat.lt_of_le_of_lt (show (0 : Rat).den ≤ qs[i].den from qs[i].den_pos) hq.2.2⟩
      have key := above_ok (S := S) h0 hq.2 hn hn
      have hlt : ¬ qs[i] < 0 := by
        have := hq.1
        grind
      refine ⟨[a, b, some (.int (i : Nat)), some (fr qs[i])], [a, b, some (.int (i : Nat)), some (fr qs[i])], by simp, ?_, rfl⟩
      have e0 : DV.tup [.int 0, .int 1] = fr 0 := rfl
      simp [e0, key, hlt]) (itLen (.en d) S + 1) 0 [some fd, some d, none, none] (by simp [itLen, hd]) (Nat.zero_le _) rfl
  have l1 := lenD_rdR hf
  have l2 := lenD_rdR hd
  have hne : neD (.int (((qs.map fr).length : Nat) : Int)) (.int (((ns.map DV.int).length : Nat) : Int)) S = some (.bl false, S) := by
    rw [neD_int, List.length_map, List.length_map, hl]
    simp
  refine fn_nx (s := s') (S1 := S) ?_ exF_same
  show b_check_water_z [some fd, some d, none, none] S = _
  refine seq_nx (if_f (S1 := S) ?_ rfl) ?_
  · simp only [dTest, dOp, dCB, dCons, dNil, dVar, List.getElem?_cons_zero, List.getElem?_cons_succ, bnd_some', l1, l2, hne]
  · rw [dFor, enD_ofR (fe := dVar 1) hd rfl, bnd_some']
    exact e
theorem stretches_R {n : Nat} {bs : List Int} {fd bd : DV} {ds : List DV} {S : Sto} (hf : rdL S fd = some ds) (hn : ds.length = n) (hb : Bd S bd bs) (hl : bs.length ≤ 1000) : f_stretches_z [fd, bd] S = some (.lst ((pairs bs n).map fun p => DV.tup [.int p.1, .int p.2]), S) := by
  have hs : sortBD false [bd] S = some (dI (sortI bs), S) := by
    rcases hb with hb | ⟨rfl, rfl⟩
    · have := toIs_map bs
      simp [sortBD, dI, this, hb]
    · rfl
  have hsl : (sortI bs).length = bs.length := by
    unfold sortI
    exact List.length_mergeSort bs
  have a1 : addD false (.lst [.int 0]) (dI (sortI bs)) S = some (dI (0 :: sortI bs), S) := by
    rw [dI, addD_lst, gate_ok (by simp [hsl]; omega)]
    simp [dI]
  have a2 : addD false (dI (0 :: sortI bs)) (.lst [.int (n : Nat)]) S = some (dI (cuts bs n), S) := by
    rw [dI, addD_lst, gate_ok (by simp [hsl]; omega)]
    simp [dI, cuts]
  have hlen : lenD [fd] S = some (.int (n : Nat), S) := by rw [lenD_rdR hf, hn]
  have hc : cutL ((cuts bs n).map DV.int) (some 1) none = ((cuts bs n).drop 1).map DV.int := by
    unfold cutL
    have : HT.sIx ((cuts bs n).map DV.int).length 0 (some 1) = 1 := by
      have := HT.sIx_nat ((cuts bs n).map DV.int).length 0 1
      simp [cuts] at this ⊢
      omega
    rw [this, HT.sIx_none, List.map_drop]
    exact List.take_of_length_le (by simp)
  refine fn_rt (d := .lst ((pairs bs n).map fun p => DV.tup [.int p.1, .int p.2])) (S1 := S) ?_ exF_same
  refine seq_nx (asg_name (d := dI (cuts bs n)) (S1 := S) ?_) (ret_of ?_)
  · simp [hs, hlen, a1, a2]
  · simp [dLz, dSlL, dI, hc]
    exact zip_tup _ _
theorem seg_forR {S : Sto} {fd qd bd : DV} {l : List Tk} {m0 : Zc} (hf : rdL S fd = some ((l.map (·.1)).map DV.int)) (hq : rdL S qd = some ((l.map (·.2)).map fr)) (hok : ∀ t ∈ l, OkT m0 t) (hL : l.length ≤ 1000) (hL2 : l.length ≤ m0.L ∧ m0.B ≤ 3000) : ∀ (prs : List (Int × Int)) (acc : List Rat) (v4 v5 v6 v7 v8 v9 : Option DV), (∀ p ∈ prs, PrOk l.length p) → acc.length + prs.length * l.length ≤ 40000 →
    ∃ w4 w5 w6 w7 w8 w9, forL (dGTup 2 (dGCons (dName 4) (dGCons (dName 5) dGNil))) segB (prs.map fun p => DV.tup [.int p.1, .int p.2]) [some fd, some qd, some bd, some (.ptr S.length), v4, v5, v6, v7, v8, v9] (S ++ [.ml (acc.map fr)]) =
      some (.nx [some fd, some qd, some bd, some (.ptr S.length), w4, w5, w6, w7, w8, w9] (S ++ [.ml ((acc ++ segs l prs).map fr)]))
  | [], acc, v4, v5, v6, v7, v8, v9, _, _ => ⟨v4, v5, v6, v7, v8, v9, by simp [forL, segs]⟩
  | p :: prs, acc, v4, v5, v6, v7, v8, v9, hp, hn => by
    obtain ⟨a, b, rfl, hab, hb⟩ := (hp p (List.mem_cons_self)).ex
    rw [List.length_cons, Nat.add_mul, Nat.one_mul] at hn
    have sl1 := seg_len (l := l) (p := ((a : Int), (b : Int)))
    have okS : ∀ t ∈ seg l ((a : Int), (b : Int)), OkT m0 t := fun t h => hok t (seg_mem h)
    obtain ⟨q1, q2, q3⟩ := pools_ok okS
    have lf : ((pools (seg l ((a : Int), (b : Int)))).flatMap lay).length = (seg l ((a : Int), (b : Int))).length := by rw [lay_len, q3]
    obtain ⟨u6, u7, u8, u9, e1⟩ := lay_for (S := S) (x0 := some fd) (x1 := some qd) (x2 := some bd) (v4 := some (.int (a : Int))) (v5 := some (.int (b : Int))) hL hL2 (pools (seg l ((a : Int), (b : Int)))) acc v6 v7 v8 v9 (fun q hq => (q1 q hq).2) (by rw [q3]; omega) (by rw [q3]; exact sl1)
    obtain ⟨w4, w5, w6, w7, w8, w9, e2⟩ := seg_forR (S := S) (bd := bd) hf hq hok hL hL2 prs (acc ++ (pools (seg l ((a : Int), (b : Int)))).flatMap lay) (some (.int (a : Int))) (some (.int (b : Int))) u6 u7 u8 u9 (fun q hq => hp q (List.mem_cons_of_mem _ hq)) (by rw [List.length_append, lf]; omega)
    refine ⟨w4, w5, w6, w7, w8, w9, ?_⟩
    have c1 : cutL ((l.map (·.1)).map DV.int) (some (a : Int)) (some (b : Int)) = ((seg l ((a : Int), (b : Int))).map (·.1)).map DV.int := by
      rw [cut_seg (by simp; exact hb) hab, seg_map, seg_map]
    have c2 : cutL ((l.map (·.2)).map fr) (some (a : Int)) (some (b : Int)) = ((seg l ((a : Int), (b : Int))).map (·.2)).map fr := by
      rw [cut_seg (by simp; exact hb) hab, seg_map, seg_map]
    have po := pooled_ok (S := S ++ [.ml (acc.map fr)]) okS (by omega) (by omega)
    have it : (diL (dCall 2 f_pooled_z [] (dCons (dSlL false (dVar 0) (doS (dVar 4)) (doS (dVar 5))) (dCons (dSlL false (dVar 1) (doS (dVar 4)) (doS (dVar 5))) dNil)))) [some fd, some qd, some bd, some (.ptr S.length), some (.int (a : Int)), some (.int (b : Int)), v6, v7, v8, v9] (S ++ [.ml (acc.map fr)]) = some (.li (.lst ((pools (seg l ((a : Int), (b : Int)))).map pl)), S ++ [.ml (acc.map fr)]) := by
      have rf : rdL (S ++ [MO.ml (acc.map fr)]) fd = some ((l.map (·.1)).map DV.int) := rdL_app hf
      have rq : rdL (S ++ [MO.ml (acc.map fr)]) qd = some ((l.map (·.2)).map fr) := rdL_app hq
      unfold dI dF at po
      simp only [diL, dCall, dCons, dNil, dSlL, dVar, doS, List.getElem?_cons_zero, List.getElem?_cons_succ, bnd_some', rf, rq, newL_f, c1, c2, List.append_nil, List.length_cons, List.length_nil, if_true, po]
      rfl
    have body : segB [some fd, some qd, some bd, some (.ptr S.length), some (.int (a : Int)), some (.int (b : Int)), v6, v7, v8, v9] (S ++ [.ml (acc.map fr)]) = _ := for_of it rfl e1
    simp only [List.map_cons, forL, dGTup, dGCons, dGNil, dName, List.length_cons, List.length_nil, if_true, List.set_cons_succ, List.set_cons_zero, body, kLoop]
    unfold segs at e2 ⊢
    rw [List.flatMap_cons, ← List.append_assoc]
    exact e2
theorem at_rest_R {l : List Tk} {bs : List Int} {fd qd bd : DV} {m0 : Zc} {S : Sto} (hf : rdL S fd = some ((l.map (·.1)).map DV.int)) (hq : rdL S qd = some ((l.map (·.2)).map fr)) (hok : ∀ t ∈ l, OkT m0 t) (hL : l.length ≤ 100) (hL2 : l.length ≤ m0.L ∧ m0.B ≤ 3000) (hb : Bd S bd bs) (hbs : ∀ b ∈ bs, 1 ≤ b ∧ b < (l.length : Int)) (hbl : bs.length ≤ 100) :
    f_at_rest_z [fd, qd, bd] S = some (dF (rest l bs), S) := by
  obtain ⟨p1, p2⟩ := pairs_ok hbs
  have st := stretches_R (S := S ++ [.ml []]) (n := l.length) (rdL_app hf) (by simp) hb.app (by omega)
  have hmul : (pairs bs l.length).length * l.length ≤ 101 * 100 := Nat.mul_le_mul (by omega) hL
  obtain ⟨w4, w5, w6, w7, w8, w9, e⟩ := seg_forR (S := S) (bd := bd) hf hq hok (by omega) hL2 (pairs bs l.length) [] none none none none none none p1 (by simp; omega)
  have it : (diL (dCall 2 f_stretches_z [] (dCons (dVar 0) (dCons (dVar 2) dNil)))) [some fd, some qd, some bd, some (.ptr S.length), none, none, none, none, none, none] (S ++ [.ml []]) = some (.li (.lst ((pairs bs l.length).map fun p => DV.tup [.int p.1, .int p.2])), S ++ [.ml []]) := by
    simp [diL, st]
  have key : dFor (diL (dCall 2 f_stretches_z [] (dCons (dVar 0) (dCons (dVar 2) dNil)))) (dGTup 2 (dGCons (dName 4) (dGCons (dName 5) dGNil))) segB [some fd, some qd, some bd, some (.ptr S.length), none, none, none, none, none, none] (S ++ [.ml []]) = _ := for_of it rfl e
  refine fn_rt (d := .ptr S.length) (S1 := S ++ [.ml ((rest l bs).map fr)]) ?_ (by rw [exF_top clos_fr]; rfl)
  refine seq_nx (asg_name (d := .ptr S.length) (S1 := S ++ [.ml []]) (by simp)) ?_
  exact seq_nx key (ret_of rfl)

end FW.R
end
section
/-! a def that is called where nothing is being shown (repr): the marks around it are known to be none -/
namespace DL
open PySem PyProof.Rows PySem.Spec L2
/-- FnOk, where nothing is being shown -/
structure Quiet (P : Program) (w : World) (K : PySem.W.Frag) (mg : Str → Option Value) (base : Heap) (CX : CXT) (k : Nat) (f : Addr) (fd : FuncData) (ps : List Str) (sp : Sp) : Prop where
  cnt : ∀ zs H Q E, sp zs H Q E → zs.length = ps.length
  go : ∀ (A : Around) (out : List Env) (s : Shared) (H : Hp) (ag : Args) (us : List Value) (zs : List V) (Q : VK) (E : XK), A.guards = some [] → Room k A → Env0 P w K mg base A out s H →
    BindsTo s fd ag (ps.zip us) → Vals zs us → sp zs H Q E → codeAny (model P w) A (.call (.ref f) ag) (CR CX out P w H s Q E) s
theorem Quiet.imp {P : Program} {w : World} {K : PySem.W.Frag} {mg : Str → Option Value} {base : Heap} {CX : CXT} {k : Nat} {f : Addr} {fd : FuncData} {ps : List Str} {sp tp : Sp} (F : Quiet P w K mg base CX k f fd ps sp) (h : ∀ zs H Q E, tp zs H Q E → sp zs H Q E) : Quiet P w K mg base CX k f fd ps tp :=
  ⟨fun zs H Q E q => F.cnt zs H Q E (h _ _ _ _ q), fun A out s H ag us zs Q E g r e b v q => F.go A out s H ag us zs Q E g r e b v (h _ _ _ _ q)⟩
end DL
namespace DL
open PySem PyProof.Rows PySem.Spec L2 LamX
/-! ### the law's call, nothing being shown -/
section
variable {P : Program} {w : World} {K : PySem.W.Frag} {mg mb : Str → Option Value} {a : Addr} {tb : List (Addr × Addr)} {vs : List Value} {ns : List Int} {h : Heap}
def scO (vs : List Value) : Obj := { cls := .type "list", data := .seq vs.toArray }
def tbO : Obj := { cls := .none, data := .fields #[] }
/-- what is tracked at the start: the script, where it isn't the text's own, and the tables -/
def trk (K : PySem.W.Frag) (a : Addr) (tb : List (Addr × Addr)) (vs : List Value) (ns : List Int) : Hp := fun b =>
  if b = a then (if (K.lookup a).isNone = true then some (.frz (scO vs) (.lst (ns.map V.int))) else none) else if b ∈ tb.map (·.2) then some (.tbl #[]) else none
structure At0 (K : PySem.W.Frag) (a : Addr) (tb : List (Addr × Addr)) (vs : List Value) (ns : List Int) (h : Heap) : Prop where
  inK : K.In h
  sc : h.get? a = some (scO vs)
  is : IntsAre vs ns
  len : ns.length ≤ sizeLine
  tab : ∀ p ∈ tb, h.get? p.2 = some tbO
  not : ∀ p ∈ tb, K.lookup p.2 = none
theorem At0.tb_at (Z : At0 K a tb vs ns h) {b : Addr} (hb : b ∈ tb.map (·.2)) : h.get? b = some tbO := by
  obtain ⟨p, hp, rfl⟩ := List.mem_map.mp hb
  exact Z.tab p hp
theorem At0.apart (Z : At0 K a tb vs ns h) : a ∉ tb.map (·.2) := fun z => by
  have := (Z.tb_at z).symm.trans Z.sc
  have d := congrArg Obj.data (Option.some.inj this)
  exact nomatch d
/-- the three sorts of places -/
theorem At0.sort (Z : At0 K a tb vs ns h) (b : Addr) : (trk K a tb vs ns b = none ∧ b ∉ tb.map (·.2)) ∨ (b ∈ tb.map (·.2) ∧ trk K a tb vs ns b = some (.tbl #[])) ∨ (b = a ∧ K.lookup a = none ∧ trk K a tb vs ns b = some (.frz (scO vs) (.lst (ns.map V.int)))) := by
  unfold trk
  by_cases e : b = a
  · rw [if_pos e]
    by_cases q : (K.lookup a).isNone = true
    · exact .inr (.inr ⟨e, Option.isNone_iff_eq_none.mp q, if_pos q⟩)
    · exact .inl ⟨if_neg q, e ▸ Z.apart⟩
  · rw [if_neg e]
    by_cases q : b ∈ tb.map (·.2)
    · exact .inr (.inl ⟨q, if_pos q⟩)
    · exact .inl ⟨if_neg q, q⟩
/-- what is neither list nor table is not tracked -/
theorem At0.free (Z : At0 K a tb vs ns h) {b : Addr} {o : Obj} (e : h.get? b = some o) (n1 : ∀ us n, o.data ≠ .seq us n) (n2 : o.data ≠ .fields #[]) : trk K a tb vs ns b = none := by
  rcases Z.sort b with q | q | q
  · exact q.1
  · cases (Z.tb_at q.1).symm.trans e
    exact absurd rfl n2
  · rw [q.1] at e
    cases Z.sc.symm.trans e
    exact absurd rfl (n1 _ _)
theorem At0.base (Z : At0 K a tb vs ns h) {b : Addr} {o : Obj} (e : h.get? b = some o) (n1 : ∀ us n, o.data ≠ .seq us n) (n2 : o.data ≠ .fields #[]) : (hidT h (trk K a tb vs ns)).get? b = some o := hidT_get e (Z.free e n1 n2)
theorem At0.names (Z : At0 K a tb vs ns h) {b : Addr} {m : Str → Option Value} (N : h.Ns b m) : (hidT h (trk K a tb vs ns)).Ns b m := by
  obtain ⟨o, es, ep, e, d, r⟩ := N
  exact ⟨o, es, ep, Z.base e (fun us n z => nomatch d.symm.trans z) (fun z => nomatch d.symm.trans z), d, r⟩
theorem At0.kin (Z : At0 K a tb vs ns h) : K.In (hidT h (trk K a tb vs ns)) := fun b o e => by
  refine hidT_get (Z.inK b o e) ?_
  rcases Z.sort b with q | q | q
  · exact q.1
  · obtain ⟨p, hp, ep⟩ := List.mem_map.mp q.1
    rw [← ep, Z.not p hp] at e
    exact nomatch e
  · rw [q.1, q.2.1] at e
    exact nomatch e
theorem At0.tables (Z : At0 K a tb vs ns h) (C : ∀ p ∈ tb, PySem.W.CodeHd h p.1 p.2) (N : h.Ns mainGlobals mg)
    (B : ∃ (bm : Addr) (ob : Obj), mg "__builtins__" = some (.ref bm) ∧ bm ≠ builtinsNs ∧ h.get? bm = some ob ∧ ob.cls = .type "module" ∧ ob.dict = some builtinsNs ∧ ob.data = .plain) :
    ∀ p ∈ tb, TabB (hidT h (trk K a tb vs ns)) mg p.1 p.2 := by
  intro p hp
  obtain ⟨go, ge, gp, g1, g2, _⟩ := N
  have tp := Z.tab p hp
  have apartG : ∀ {q : Addr}, q = mainGlobals → ∀ {o : Obj}, h.get? q = some o → (∀ es ep, o.data ≠ .dict es ep) → False := fun {q} e {o} g n => by
    rw [e] at g
    cases g1.symm.trans g
    exact n _ _ g2
  refine ⟨?_, ?_, fun z => ?_⟩
  · obtain ⟨o, us, fl, tf, fg, tg, inf, tx, tt, e1, r1, r2, rest⟩ := C p hp
    refine ⟨o, us, fl, tf, fg, tg, inf, tx, tt, Z.base e1 (fun vs n z => nomatch r2.symm.trans z) (fun z => ?_), r1, r2, rest⟩
    have u0 : us = #[] := by
      have := r2.symm.trans z
      cases this
      rfl
    have r3 := rest.1
    rw [u0] at r3
    simp at r3
  · obtain ⟨bm, ob, b1, b2, b3, b4, b5, b6⟩ := B
    refine ⟨bm, ob, b1, b2, fun q => apartG q b3 (fun es ep z => nomatch b6.symm.trans z), fun q => ?_, Z.base b3 (fun vs n z => nomatch b6.symm.trans z) (fun z => nomatch b6.symm.trans z), b4, b5, b6⟩
    rw [q] at b3
    cases tp.symm.trans b3
    exact nomatch b6
  · exact apartG z.symm tp (fun es ep z => nomatch z)
end
end DL
end
section
/-! how long a text is that shows data -/
namespace DL
open PySem PyProof.Rows PySem.Spec L2
/-- data can be shown, in so many signs at most -/
structure Shw (N : Nat) (p : PyData) : Prop where
  ok : p.showable = true
  len : p.shown.length ≤ N
theorem Shw.up {N M : Nat} {p : PyData} (h : Shw N p) (g : N ≤ M) : Shw M p := ⟨h.ok, Nat.le_trans h.len g⟩
end DL
end
section
namespace DL
open PySem PyProof.Rows PySem.Spec L2
/-! ### texts -/
def tx (i : Int) : Str := toString i
section
variable {K : PySem.W.Frag} {mg : Str → Option Value}
/-! ### f-strings -/
variable {te ta : TE} {fa fb : DE}
inductive RJ (K : PySem.W.Frag) (mg : Str → Option Value) : List TE → List DE → Prop where
  | nil : RJ K mg [] []
  | cons {t : TE} {f : DE} {ts : List TE} {fs : List DE} (h : RE K mg t f) (r : RJ K mg ts fs) : RJ K mg (t :: ts) (f :: fs)
/-! ### methods of a text -/
def toStr : DV → Option Str
  | .str s => some s
  | _ => none
def toStrs : List DV → Option (List Str)
  | [] => some []
  | d :: ds => match toStr d, toStrs ds with
    | some i, some is => some (i :: is)
    | _, _ => none
@[simp] theorem toStrs_map : ∀ ys : List Str, toStrs (ys.map DV.str) = some ys
  | [] => rfl
  | y :: ys => by simp [toStrs, toStr, toStrs_map ys]
/-! ### slices of a text -/
end
end DL
end
section
namespace FW
open PySem PyProof.Rows PySem.Spec L2 DL TL
/-! ### fractions as texts: each def as a function of data -/
/-! ### what is written -/
/-- of at most four hundred figures -/
def Fig (n : Nat) : Prop := n < 10 ^ 400
theorem Fig.len {n : Nat} (h : Fig n) : (numL n).length ≤ 400 := numL_len (by decide) h
theorem Fig.int {n : Nat} (h : Fig n) : PySem.intText? (tx (n : Int)) = some (n : Int) := int_num (by have := h.len; omega)
end FW
end
section
namespace FW
open PySem PyProof.Rows PySem.Spec L2 DL TL
/-! ### fractions as texts: reckoned -/
/-- signs below 128 alone -/
def Asc (x : Str) : Prop := ∀ c ∈ tl x, c < 128
theorem Asc.ok {x : Str} (h : Asc x) : PyData.canLay0 (.str x) = true := by
  show PySem.PyData.strOk x = true
  unfold PySem.PyData.strOk
  rw [Array.all_eq_true']
  intro c hc
  have := h c (Array.mem_toList_iff.mpr hc)
  rw [decide_eq_true_eq]
  omega
theorem Asc.sh {x : Str} (h : Asc x) : ShN 0 (.str x) := ⟨h.ok, Nat.le_refl _⟩
theorem eqD_str {S : Sto} {a b : Str} (h : Asc a) (g : Asc b) : eqD (.str a) (.str b) S = some (.bl (decide (a = b)), S) := by
  rw [eqD_of (p := .str a) (q := .str b) rfl rfl h.sh g.sh (by decide)]
  simp [PyData.eqv, Bool.beq_eq_decide_eq]
/-- a fraction of at most four hundred figures -/
structure FigR (q : Rat) : Prop where
  n : Fig q.num.natAbs
  d : Fig q.den
end FW
end
section
/-! what shows data has plain signs alone -/
namespace FW
open PySem PyProof.Rows PySem.Spec L2 DL
theorem asc_lit {s : Str} (h : (s.cps.toList.all fun c => decide (c < 128)) = true) : Asc s := fun c hc => by
  have := List.all_eq_true.mp h c hc
  simpa using this
end FW
end
section
namespace FW
open PySem PyProof.Rows PySem.Spec L2 DL TL
theorem kok_str : KOk "str" := by
  refine ⟨?_, ?_, ?_, ?_, ?_⟩ <;> decide
theorem alike_str {k : Nat} {x : Str} {S : Sto} (h : Asc x) : f_law_alike_z (k + 1) [.str x, .str x] S = some (.bl true, S) := by
  have h1 := isi_of (S := S) (x := .str x) (t := "str") rfl kok_str.1
  have h2 := isi_of (S := S) (x := .str x) (t := "str") rfl kok_str.2.1
  have h3 := isi_of (S := S) (x := .str x) (t := "str") rfl kok_str.2.2.1
  have e := eqD_str (S := S) h h
  simp [f_law_alike_z, fnF, b_law_alike_z, h1, h2, h3, e]
/-! ### the law's great number -/
@[simp] theorem pow10_10 {S : Sto} : powD (.int 10) (.int 10) S = some (.int 10000000000, S) := powD_int (by decide) (by decide) (by decide)
end FW
end
section
namespace K02
open PySem PyProof.Rows PySem.Spec L2 DL FW 
/-! ### the text -/
def topS (i : Nat) : Stmt := PySem.Challenge.pw_flapwater_k02_rows_refused.main.body.getD i (.Pass ⟨0, 0, 0, 0⟩)
abbrev s_law_alike : Stmt := topS 35
abbrev ns_law_alike : List Str := ["found", "due", "k"]
theorem sc_law_alike : FnScope ns_law_alike ["found", "due"] (defScope s_law_alike) := ⟨rfl, rfl, rfl, by decide +kernel, rfl, by decide +kernel, by decide +kernel⟩
abbrev s_check_floors : Stmt := topS 22
abbrev ns_check_floors : List Str := ["floors", "number", "floor"]
theorem sc_check_floors : FnScope ns_check_floors ["floors"] (defScope s_check_floors) := ⟨rfl, rfl, rfl, by decide +kernel, rfl, by decide +kernel, by decide +kernel⟩
abbrev s_above : Stmt := topS 6
abbrev ns_above : List Str := ["one", "other"]
theorem sc_above : FnScope ns_above ["one", "other"] (defScope s_above) := ⟨rfl, rfl, rfl, by decide +kernel, rfl, by decide +kernel, by decide +kernel⟩
abbrev s_check_water : Stmt := topS 23
abbrev ns_check_water : List Str := ["floors", "water", "number", "amount"]
theorem sc_check_water : FnScope ns_check_water ["floors", "water"] (defScope s_check_water) := ⟨rfl, rfl, rfl, by decide +kernel, rfl, by decide +kernel, by decide +kernel⟩
abbrev s_check_bolted : Stmt := topS 24
abbrev ns_check_bolted : List Str := ["floors", "bolted", "at", "flap"]
theorem sc_check_bolted : FnScope ns_check_bolted ["floors", "bolted"] (defScope s_check_bolted) := ⟨rfl, rfl, rfl, by decide +kernel, rfl, by decide +kernel, by decide +kernel⟩
abbrev s_places : Stmt := topS 25
abbrev ns_places : List Str := ["floors", "told", "floor"]
theorem sc_places : FnScope ns_places ["floors"] (defScope s_places) := ⟨rfl, rfl, rfl, by decide +kernel, rfl, by decide +kernel, by decide +kernel⟩
abbrev s_lowest : Stmt := topS 3
abbrev ns_lowest : List Str := ["top", "bottom", "common"]
theorem sc_lowest : FnScope ns_lowest ["top", "bottom"] (defScope s_lowest) := ⟨rfl, rfl, rfl, by decide +kernel, rfl, by decide +kernel, by decide +kernel⟩
abbrev s_plus : Stmt := topS 4
abbrev ns_plus : List Str := ["one", "other", "common", "rest", "top", "shared"]
theorem sc_plus : FnScope ns_plus ["one", "other"] (defScope s_plus) := ⟨rfl, rfl, rfl, by decide +kernel, rfl, by decide +kernel, by decide +kernel⟩
abbrev s_sums : Stmt := topS 7
abbrev ns_sums : List Str := ["amounts", "told", "amount"]
theorem sc_sums : FnScope ns_sums ["amounts"] (defScope s_sums) := ⟨rfl, rfl, rfl, by decide +kernel, rfl, by decide +kernel, by decide +kernel⟩
abbrev s_heaped : Stmt := topS 26
abbrev ns_heaped : List Str := ["floors", "water"]
theorem sc_heaped : FnScope ns_heaped ["floors", "water"] (defScope s_heaped) := ⟨rfl, rfl, rfl, by decide +kernel, rfl, by decide +kernel, by decide +kernel⟩
abbrev s_stretches : Stmt := topS 27
abbrev ns_stretches : List Str := ["floors", "bolted", "cuts"]
theorem sc_stretches : FnScope ns_stretches ["floors", "bolted"] (defScope s_stretches) := ⟨rfl, rfl, rfl, by decide +kernel, rfl, by decide +kernel, by decide +kernel⟩
abbrev s_share : Stmt := topS 5
abbrev ns_share : List Str := ["amount", "part", "whole", "top", "bottom"]
theorem sc_share : FnScope ns_share ["amount", "part", "whole"] (defScope s_share) := ⟨rfl, rfl, rfl, by decide +kernel, rfl, by decide +kernel, by decide +kernel⟩
abbrev s_pool_height : Stmt := topS 28
abbrev ns_pool_height : List Str := ["pool", "floors", "amount"]
theorem sc_pool_height : FnScope ns_pool_height ["pool"] (defScope s_pool_height) := ⟨rfl, rfl, rfl, by decide +kernel, rfl, by decide +kernel, by decide +kernel⟩
abbrev s_pooled : Stmt := topS 29
abbrev ns_pooled : List Str := ["floors", "water", "pools", "floor", "amount", "pool", "floors_ahead", "amount_ahead"]
theorem sc_pooled : FnScope ns_pooled ["floors", "water"] (defScope s_pooled) := ⟨rfl, rfl, rfl, by decide +kernel, rfl, by decide +kernel, by decide +kernel⟩
abbrev s_at_rest : Stmt := topS 30
abbrev ns_at_rest : List Str := ["floors", "water", "bolted", "rest", "start", "end", "level_floors", "amount", "whole", "floor"]
theorem sc_at_rest : FnScope ns_at_rest ["floors", "water", "bolted"] (defScope s_at_rest) := ⟨rfl, rfl, rfl, by decide +kernel, rfl, by decide +kernel, by decide +kernel⟩
abbrev s_settled : Stmt := topS 31
abbrev ns_settled : List Str := ["floors", "water", "bolted"]
theorem sc_settled : FnScope ns_settled ["floors", "water", "bolted"] (defScope s_settled) := ⟨rfl, rfl, rfl, by decide +kernel, rfl, by decide +kernel, by decide +kernel⟩
abbrev s_law_kind : Stmt := topS 37
abbrev ns_law_kind : List Str := ["e", "menu", "word", "so"]
theorem sc_law_kind : FnScope ns_law_kind ["e"] (defScope s_law_kind) := ⟨rfl, rfl, rfl, by decide +kernel, rfl, by decide +kernel, by decide +kernel⟩
abbrev s_law_caught : Stmt := topS 44
abbrev ns_law_caught : List Str := ["door", "wides", "amounts", "bolts", "caught", "e"]
theorem sc_law_caught : FnScope ns_law_caught ["door", "wides", "amounts", "bolts"] (defScope s_law_caught) := ⟨rfl, rfl, rfl, by decide +kernel, rfl, by decide +kernel, by decide +kernel⟩
abbrev s_law_due : Stmt := topS 45
abbrev ns_law_due : List Str := ["door", "wides", "amounts", "bolts", "bad", "below", "odd", "k"]
theorem sc_law_due : FnScope ns_law_due ["door", "wides", "amounts", "bolts"] (defScope s_law_due) := ⟨rfl, rfl, rfl, by decide +kernel, rfl, by decide +kernel, by decide +kernel⟩
abbrev s_law_draw : Stmt := topS 34
abbrev ns_law_draw : List Str := ["tray", "many", "found", "mixed"]
theorem sc_law_draw : FnScope ns_law_draw ["tray", "many"] (defScope s_law_draw) := ⟨rfl, rfl, rfl, by decide +kernel, rfl, by decide +kernel, by decide +kernel⟩
abbrev s_law_low : Stmt := topS 38
abbrev ns_law_low : List Str := ["top", "bottom", "one", "two"]
theorem sc_law_low : FnScope ns_law_low ["top", "bottom"] (defScope s_law_low) := ⟨rfl, rfl, rfl, by decide +kernel, rfl, by decide +kernel, by decide +kernel⟩
abbrev s_law_bent : Stmt := topS 46
abbrev ns_law_bent : List Str := ["tray", "wides", "amounts", "bolts", "turn", "some"]
theorem sc_law_bent : FnScope ns_law_bent ["tray", "wides", "amounts", "bolts"] (defScope s_law_bent) := ⟨rfl, rfl, rfl, by decide +kernel, rfl, by decide +kernel, by decide +kernel⟩
abbrev s_law_shuffled : Stmt := topS 36
abbrev ns_law_shuffled : List Str := ["tray", "things", "left", "k"]
theorem sc_law_shuffled : FnScope ns_law_shuffled ["tray", "things"] (defScope s_law_shuffled) := ⟨rfl, rfl, rfl, by decide +kernel, rfl, by decide +kernel, by decide +kernel⟩
abbrev s_law_bolts : Stmt := topS 43
abbrev ns_law_bolts : List Str := ["tray", "many", "flaps", "lot", "flap"]
theorem sc_law_bolts : FnScope ns_law_bolts ["tray", "many"] (defScope s_law_bolts) := ⟨rfl, rfl, rfl, by decide +kernel, rfl, by decide +kernel, by decide +kernel⟩
abbrev s_law_amount : Stmt := topS 40
abbrev ns_law_amount : List Str := ["tray", "wide", "bottom", "some"]
theorem sc_law_amount : FnScope ns_law_amount ["tray", "wide", "bottom"] (defScope s_law_amount) := ⟨rfl, rfl, rfl, by decide +kernel, rfl, by decide +kernel, by decide +kernel⟩
abbrev s_law_amounts : Stmt := topS 41
abbrev ns_law_amounts : List Str := ["tray", "wides", "bottom", "found", "spot", "wide", "k"]
theorem sc_law_amounts : FnScope ns_law_amounts ["tray", "wides", "bottom"] (defScope s_law_amounts) := ⟨rfl, rfl, rfl, by decide +kernel, rfl, by decide +kernel, by decide +kernel⟩
abbrev s_law_bottom : Stmt := topS 42
abbrev ns_law_bottom : List Str := ["tray"]
theorem sc_law_bottom : FnScope ns_law_bottom ["tray"] (defScope s_law_bottom) := ⟨rfl, rfl, rfl, by decide +kernel, rfl, by decide +kernel, by decide +kernel⟩
abbrev s_law_wides : Stmt := topS 39
abbrev ns_law_wides : List Str := ["tray", "most", "wide", "k"]
theorem sc_law_wides : FnScope ns_law_wides ["tray", "most"] (defScope s_law_wides) := ⟨rfl, rfl, rfl, by decide +kernel, rfl, by decide +kernel, by decide +kernel⟩
abbrev s_law_errors_right : Stmt := topS 47
abbrev ns_law_errors_right : List Str := ["made", "words", "values", "e", "k"]
theorem sc_law_errors_right : FnScope ns_law_errors_right [] (defScope s_law_errors_right) := ⟨rfl, rfl, rfl, by decide +kernel, rfl, by decide +kernel, by decide +kernel⟩
abbrev s_law_tray : Stmt := topS 33
abbrev ns_law_tray : List Str := ["script", "fold", "great", "cell", "much"]
theorem sc_law_tray : FnScope ns_law_tray ["script"] (defScope s_law_tray) := ⟨rfl, rfl, rfl, by decide +kernel, rfl, by decide +kernel, by decide +kernel⟩
abbrev s_law : Stmt := topS 48
abbrev ns_law : List Str := ["script", "tray", "k", "turn", "wides", "amounts", "bolts", "kept", "door", "due"]
theorem sc_law : FnScope ns_law ["script"] (defScope s_law) := ⟨rfl, rfl, rfl, by decide +kernel, rfl, by decide +kernel, by decide +kernel⟩
abbrev s_xinitNoFloors : Stmt := inClass (topS 10) 0
abbrev s_xinitNoWater : Stmt := inClass (topS 11) 0
abbrev s_xinitNoFlap : Stmt := inClass (topS 12) 0
abbrev s_xinitNoStep : Stmt := inClass (topS 13) 0
abbrev s_xinitNoTable : Stmt := inClass (topS 14) 0
abbrev s_xinitNoRows : Stmt := inClass (topS 15) 0
abbrev s_xinitNoDrop : Stmt := inClass (topS 16) 0
abbrev s_xinitNoTank : Stmt := inClass (topS 17) 0
abbrev s_xinitNoRain : Stmt := inClass (topS 18) 0
abbrev s_xinitNoOrder : Stmt := inClass (topS 19) 0
abbrev s_xinitNoText : Stmt := inClass (topS 20) 0
abbrev CS_ : List Str := ["NoFloors", "NoWater", "NoFlap", "NoStep", "NoTable", "NoRows", "NoDrop", "NoTank", "NoRain", "NoOrder", "NoText"]
def bX_ValueError : Str → Bool := fun _ => true
def bX_NoText : Str → Bool := fun y => decide (y = "NoText")
def bX_NoOrder : Str → Bool := fun y => decide (y = "NoOrder")
def bX_NoRain : Str → Bool := fun y => decide (y = "NoRain")
def bX_NoTank : Str → Bool := fun y => decide (y = "NoTank")
def bX_NoDrop : Str → Bool := fun y => decide (y = "NoDrop")
def bX_NoRows : Str → Bool := fun y => decide (y = "NoRows")
def bX_NoTable : Str → Bool := fun y => decide (y = "NoTable")
def bX_NoStep : Str → Bool := fun y => decide (y = "NoStep")
def bX_NoFlap : Str → Bool := fun y => decide (y = "NoFlap")
def bX_NoWater : Str → Bool := fun y => decide (y = "NoWater")
def bX_NoFloors : Str → Bool := fun y => decide (y = "NoFloors")
def bX_FlapError : Str → Bool := fun _ => true
/-! ### each def as a function of data -/
noncomputable def b_places_z : DS :=
    (dSeq (dDrop (dCall 1 f_check_floors_z [] (dCons (dVar 0) dNil)))
    (dSeq (dAsg (dLst true (dCons (dC (.int 0)) dNil)) (dName 1))
    (dSeq (dFor (diL (dVar 0)) (dName 2)
    (dDrop (dBM "list" appendD (dVar 1) (dCons (dOp (addD false) (dOp ixD (dVar 1) (dUn negD (dC (.int 1)))) (dVar 2)) dNil))))
    (dRet (dVar 1)))))
noncomputable def f_places_z : List DV → Sto → Option (DV × Sto) := fnF (some false) 3 b_places_z
noncomputable def bh_law_kind (c : Str) (w : DV) : DS :=
    (dSeq (dAsg (dLst true (dCons (dTup (dCons (dC (.str "NoFloors")) (dCons (dIs (bX_NoFloors c)) dNil))) (dCons (dTup (dCons (dC (.str "NoWater")) (dCons (dIs (bX_NoWater c)) dNil))) dNil))) (dName 1))
    (dSeq (dAsg (dOp (addD true) (dVar 1) (dLst false (dCons (dTup (dCons (dC (.str "NoFlap")) (dCons (dIs (bX_NoFlap c)) dNil))) (dCons (dTup (dCons (dC (.str "NoStep")) (dCons (dIs (bX_NoStep c)) dNil))) dNil)))) (dName 1))
    (dSeq (dAsg (dOp (addD true) (dVar 1) (dLst false (dCons (dTup (dCons (dC (.str "NoTable")) (dCons (dIs (bX_NoTable c)) dNil))) (dCons (dTup (dCons (dC (.str "NoRows")) (dCons (dIs (bX_NoRows c)) dNil))) dNil)))) (dName 1))
    (dSeq (dAsg (dOp (addD true) (dVar 1) (dLst false (dCons (dTup (dCons (dC (.str "NoDrop")) (dCons (dIs (bX_NoDrop c)) dNil))) (dCons (dTup (dCons (dC (.str "NoTank")) (dCons (dIs (bX_NoTank c)) dNil))) dNil)))) (dName 1))
    (dSeq (dAsg (dOp (addD true) (dVar 1) (dLst false (dCons (dTup (dCons (dC (.str "NoRain")) (dCons (dIs (bX_NoRain c)) dNil))) (dCons (dTup (dCons (dC (.str "NoOrder")) (dCons (dIs (bX_NoOrder c)) dNil))) dNil)))) (dName 1))
    (dSeq (dDrop (dBM "list" appendD (dVar 1) (dCons (dTup (dCons (dC (.str "NoText")) (dCons (dIs (bX_NoText c)) dNil))) dNil)))
    (dRet (dOp (addD false) (dLc false (diL (dVar 1)) (dGTup 2 (dGCons (dName 2) (dGCons (dName 3) dGNil))) (dTru (dVar 3)) (dVar 2) [2, 3]) (dLst false (dCons (dKw w) (dCons (dIs (bX_ValueError c)) dNil)))))))))))
noncomputable def h_law_kind : Str → DV → Sto → Option (DV × Sto) := fnH (some false) 4 bh_law_kind
noncomputable def b_law_kind_z : DS :=
    (dSeq (dAsg (dLst true (dCons (dTup (dCons (dC (.str "NoFloors")) (dCons (dIsX CS_ bX_NoFloors (dVar 0)) dNil))) (dCons (dTup (dCons (dC (.str "NoWater")) (dCons (dIsX CS_ bX_NoWater (dVar 0)) dNil))) dNil))) (dName 1))
    (dSeq (dAsg (dOp (addD true) (dVar 1) (dLst false (dCons (dTup (dCons (dC (.str "NoFlap")) (dCons (dIsX CS_ bX_NoFlap (dVar 0)) dNil))) (dCons (dTup (dCons (dC (.str "NoStep")) (dCons (dIsX CS_ bX_NoStep (dVar 0)) dNil))) dNil)))) (dName 1))
    (dSeq (dAsg (dOp (addD true) (dVar 1) (dLst false (dCons (dTup (dCons (dC (.str "NoTable")) (dCons (dIsX CS_ bX_NoTable (dVar 0)) dNil))) (dCons (dTup (dCons (dC (.str "NoRows")) (dCons (dIsX CS_ bX_NoRows (dVar 0)) dNil))) dNil)))) (dName 1))
    (dSeq (dAsg (dOp (addD true) (dVar 1) (dLst false (dCons (dTup (dCons (dC (.str "NoDrop")) (dCons (dIsX CS_ bX_NoDrop (dVar 0)) dNil))) (dCons (dTup (dCons (dC (.str "NoTank")) (dCons (dIsX CS_ bX_NoTank (dVar 0)) dNil))) dNil)))) (dName 1))
    (dSeq (dAsg (dOp (addD true) (dVar 1) (dLst false (dCons (dTup (dCons (dC (.str "NoRain")) (dCons (dIsX CS_ bX_NoRain (dVar 0)) dNil))) (dCons (dTup (dCons (dC (.str "NoOrder")) (dCons (dIsX CS_ bX_NoOrder (dVar 0)) dNil))) dNil)))) (dName 1))
    (dSeq (dDrop (dBM "list" appendD (dVar 1) (dCons (dTup (dCons (dC (.str "NoText")) (dCons (dIsX CS_ bX_NoText (dVar 0)) dNil))) dNil)))
    (dRet (dOp (addD false) (dLc false (diL (dVar 1)) (dGTup 2 (dGCons (dName 2) (dGCons (dName 3) dGNil))) (dTru (dVar 3)) (dVar 2) [2, 3]) (dLst false (dCons (dWhX CS_ (dVar 0)) (dCons (dIsX CS_ bX_ValueError (dVar 0)) dNil)))))))))))
noncomputable def f_law_kind_z : List DV → Sto → Option (DV × Sto) := fnF (some false) 4 b_law_kind_z
noncomputable def b_check_floors_x : DX :=
    (dSeqX (dIfX (dTest (dOp eqD (dCB lenD (dCons (dVar 0) dNil)) (dC (.int 0))))
    (dRaise "NoFloors" (dC .non))
    (dOkX dNext))
    (dForX (diE (dCons (dVar 0) dNil)) (dGTup 2 (dGCons (dName 1) (dGCons (dName 2) dGNil)))
    (dIfX (dTest (dOp ltD (dVar 2) (dC (.int 1))))
    (dRaise "NoFloors" (dVar 1))
    (dOkX dNext))))
noncomputable def f_check_floors_x : List DV → Sto → Option XR := fnX (some false) 3 b_check_floors_x
theorem sim_check_floors : SimF f_check_floors_z f_check_floors_x := sim_fn (sim_seq (sim_if sim_raise sim_ok) (sim_for (sim_if sim_raise sim_ok)))
noncomputable def b_check_water_x : DX :=
    (dSeqX (dIfX (dTest (dOp neD (dCB lenD (dCons (dVar 1) dNil)) (dCB lenD (dCons (dVar 0) dNil))))
    (dRaise "NoWater" (dC .non))
    (dOkX dNext))
    (dForX (diE (dCons (dVar 1) dNil)) (dGTup 2 (dGCons (dName 2) (dGCons (dName 3) dGNil)))
    (dIfX (dTest (dCall 2 f_above_z [] (dCons (dC (.tup [(.int 0), (.int 1)])) (dCons (dVar 3) dNil))))
    (dRaise "NoWater" (dVar 2))
    (dOkX dNext))))
noncomputable def f_check_water_x : List DV → Sto → Option XR := fnX (some false) 4 b_check_water_x
theorem sim_check_water : SimF f_check_water_z f_check_water_x := sim_fn (sim_seq (sim_if sim_raise sim_ok) (sim_for (sim_if sim_raise sim_ok)))
noncomputable def b_check_bolted_x : DX :=
    (dForX (diEE (dCons (dVar 1) dNil)) (dGTup 2 (dGCons (dName 2) (dGCons (dName 3) dGNil)))
    (dIfX (dOr (dTest (dInRg true (dVar 3) (dCons (dC (.int 1)) (dCons (dCB lenD (dCons (dVar 0) dNil)) dNil)))) (dTest (dOp (inD false) (dVar 3) (dSlL false (dVar 1) doN (doS (dVar 2))))))
    (dRaise "NoFlap" (dVar 3))
    (dOkX dNext)))
noncomputable def f_check_bolted_x : List DV → Sto → Option XR := fnX (some false) 4 b_check_bolted_x
theorem sim_check_bolted : SimF f_check_bolted_z f_check_bolted_x := sim_fn (sim_for (sim_if sim_raise sim_ok))
noncomputable def b_places_x : DX :=
    (dSeqX (dCallX 1 f_check_floors_x (dCons (dVar 0) dNil))
    (dOkX (dSeq (dAsg (dLst true (dCons (dC (.int 0)) dNil)) (dName 1))
    (dSeq (dFor (diL (dVar 0)) (dName 2)
    (dDrop (dBM "list" appendD (dVar 1) (dCons (dOp (addD false) (dOp ixD (dVar 1) (dUn negD (dC (.int 1)))) (dVar 2)) dNil))))
    (dRet (dVar 1))))))
noncomputable def f_places_x : List DV → Sto → Option XR := fnX (some false) 3 b_places_x
theorem sim_places : SimF f_places_z f_places_x := sim_fn (sim_seq (sim_call sim_check_floors) sim_ok)
noncomputable def b_heaped_x : DX :=
    (dSeqX (dCallX 1 f_check_floors_x (dCons (dVar 0) dNil))
    (dSeqX (dCallX 2 f_check_water_x (dCons (dVar 0) (dCons (dVar 1) dNil)))
    (dOkX (dRet (dCall 1 f_sums_z [] (dCons (dVar 1) dNil))))))
noncomputable def f_heaped_x : List DV → Sto → Option XR := fnX (some false) 2 b_heaped_x
theorem sim_heaped : SimF f_heaped_z f_heaped_x := sim_fn (sim_seq (sim_call sim_check_floors) (sim_seq (sim_call sim_check_water) sim_ok))
noncomputable def b_settled_x : DX :=
    (dSeqX (dCallX 1 f_check_floors_x (dCons (dVar 0) dNil))
    (dSeqX (dCallX 2 f_check_water_x (dCons (dVar 0) (dCons (dVar 1) dNil)))
    (dSeqX (dCallX 2 f_check_bolted_x (dCons (dVar 0) (dCons (dVar 2) dNil)))
    (dOkX (dRet (dCall 3 f_at_rest_z [] (dCons (dVar 0) (dCons (dVar 1) (dCons (dVar 2) dNil)))))))))
noncomputable def f_settled_x : List DV → Sto → Option XR := fnX (some false) 3 b_settled_x
theorem sim_settled : SimF f_settled_z f_settled_x := sim_fn (sim_seq (sim_call sim_check_floors) (sim_seq (sim_call sim_check_water) (sim_seq (sim_call sim_check_bolted) sim_ok)))
noncomputable def b_law_caught_z : DS :=
    (dSeq (dAsg (dC .non) (dName 4))
    (dSeq (dTryH CS_ 5 4 h_law_kind
    (dIfX (dTest (dOp eqD (dVar 0) (dC (.int 0))))
    (dCallXK 1 f_places_x (pkF 0 1 [0]) (dCons (dVar 1) dNil))
    (dIfX (dTest (dOp eqD (dVar 0) (dC (.int 1))))
    (dCallXKA 2 f_heaped_x (pkF 1 1 [0, 1]) (dCons (dVar 1) dNil) (dCons (dVar 2) dNil))
    (dIfX (dTest (dOp eqD (dVar 0) (dC (.int 2))))
    (dCallXK 3 f_settled_x (pkF 0 3 [1, 2, 0]) (dCons (dVar 3) (dCons (dVar 1) (dCons (dVar 2) dNil))))
    (dCallX 3 f_settled_x (dCons (dVar 1) (dCons (dVar 2) (dCons (dVar 3) dNil))))))))
    (dRet (dVar 4))))
noncomputable def f_law_caught_z : List DV → Sto → Option (DV × Sto) := fnF (some false) 6 b_law_caught_z
noncomputable def b_law_due_z : DS :=
    (dSeq (dAsg (dLc false (diR1 (dCons (dCB lenD (dCons (dVar 1) dNil)) dNil)) (dName 7) (dTest (dOp ltD (dOp ixD (dVar 1) (dVar 7)) (dC (.int 1)))) (dVar 7) [7]) (dName 4))
    (dSeq (dIfS (dOr (dTest (dOp eqD (dVar 1) (dLst false dNil))) (dTest (dOp neD (dVar 4) (dLst false dNil))))
    (dRet (dLst false (dCons (dC (.str "NoFloors")) (dCons (dOp ixD (dOp (addD false) (dVar 4) (dLst false (dCons (dC .non) dNil))) (dC (.int 0))) (dCons (dC (.bl true)) dNil))))) dNext)
    (dSeq (dAsg (dLc false (diR1 (dCons (dCB lenD (dCons (dVar 2) dNil)) dNil)) (dName 7) (dTest (dOp ltD (dOp ixD (dOp ixD (dVar 2) (dVar 7)) (dC (.int 0))) (dC (.int 0)))) (dVar 7) [7]) (dName 5))
    (dSeq (dIfS (dAnd (dTest (dOp gtD (dVar 0) (dC (.int 0)))) (dTest (dOp neD (dCB lenD (dCons (dVar 2) dNil)) (dCB lenD (dCons (dVar 1) dNil)))))
    (dRet (dLst false (dCons (dC (.str "NoWater")) (dCons (dC .non) (dCons (dC (.bl true)) dNil))))) dNext)
    (dSeq (dIfS (dAnd (dTest (dOp gtD (dVar 0) (dC (.int 0)))) (dTest (dOp neD (dVar 5) (dLst false dNil))))
    (dRet (dLst false (dCons (dC (.str "NoWater")) (dCons (dOp ixD (dVar 5) (dC (.int 0))) (dCons (dC (.bl true)) dNil))))) dNext)
    (dSeq (dAsg (dLc false (diR1 (dCons (dCB lenD (dCons (dVar 3) dNil)) dNil)) (dName 7) (dOr (dNot (dTest (dChain ltD ltD (dC (.int 0)) (dOp ixD (dVar 3) (dVar 7)) (dCB lenD (dCons (dVar 1) dNil))))) (dTest (dOp (inD false) (dOp ixD (dVar 3) (dVar 7)) (dSlL false (dVar 3) doN (doS (dVar 7)))))) (dOp ixD (dVar 3) (dVar 7)) [7]) (dName 6))
    (dRet (dIf (dAnd (dTest (dOp gtD (dVar 0) (dC (.int 1)))) (dTest (dOp neD (dVar 6) (dLst false dNil)))) (dLst false (dCons (dC (.str "NoFlap")) (dCons (dOp ixD (dVar 6) (dC (.int 0))) (dCons (dC (.bl true)) dNil)))) (dC .non)))))))))
noncomputable def f_law_due_z : List DV → Sto → Option (DV × Sto) := fnF (some false) 8 b_law_due_z
noncomputable def b_law_bent_z : DS :=
    (dSeq (dIfS (dTest (dOp eqD (dCall 2 f_law_draw_z [] (dCons (dVar 0) (dCons (dC (.int 4)) dNil))) (dC (.int 0))))
    (dSeq (dAsg (dOp subD (dC (.int 0)) (dCall 2 f_law_draw_z [] (dCons (dVar 0) (dCons (dC (.int 3)) dNil)))) (dSub (dVar 1) (dCall 2 f_law_draw_z [] (dCons (dVar 0) (dCons (dCB lenD (dCons (dVar 1) dNil)) dNil)))))
    (dAsg (dOp ixD (dLst false (dCons (dC (.int 0)) (dCons (dC (.int 1)) (dCons (dUn negD (dOp powD (dC (.int 10)) (dC (.int 6)))) dNil)))) (dCall 2 f_law_draw_z [] (dCons (dVar 0) (dCons (dC (.int 3)) dNil)))) (dSub (dVar 1) (dCall 2 f_law_draw_z [] (dCons (dVar 0) (dCons (dCB lenD (dCons (dVar 1) dNil)) dNil)))))) dNext)
    (dSeq (dIfS (dTest (dOp eqD (dCall 2 f_law_draw_z [] (dCons (dVar 0) (dCons (dC (.int 12)) dNil))) (dC (.int 0))))
    (dDrop (dBM0 "list" clearD (dVar 1))) dNext)
    (dSeq (dIfS (dTest (dOp eqD (dCall 2 f_law_draw_z [] (dCons (dVar 0) (dCons (dC (.int 3)) dNil))) (dC (.int 0))))
    (dFor (diR1 (dCons (dOp (addD false) (dC (.int 1)) (dCall 2 f_law_draw_z [] (dCons (dVar 0) (dCons (dC (.int 2)) dNil)))) dNil)) (dName 4)
    (dAsg (dCall 2 f_law_low_z [] (dCons (dOp subD (dUn negD (dC (.int 1))) (dCall 2 f_law_draw_z [] (dCons (dVar 0) (dCons (dC (.int 99)) dNil)))) (dCons (dOp (addD false) (dC (.int 1)) (dCall 2 f_law_draw_z [] (dCons (dVar 0) (dCons (dC (.int 60)) dNil)))) dNil))) (dSub (dVar 2) (dCall 2 f_law_draw_z [] (dCons (dVar 0) (dCons (dCB lenD (dCons (dVar 2) dNil)) dNil)))))) dNext)
    (dSeq (dIfS (dTest (dOp eqD (dCall 2 f_law_draw_z [] (dCons (dVar 0) (dCons (dC (.int 5)) dNil))) (dC (.int 0))))
    (dDrop (dBM "list" insertD (dVar 2) (dCons (dCall 2 f_law_draw_z [] (dCons (dVar 0) (dCons (dOp (addD false) (dCB lenD (dCons (dVar 2) dNil)) (dC (.int 1))) dNil))) (dCons (dTup (dCons (dCall 2 f_law_draw_z [] (dCons (dVar 0) (dCons (dC (.int 9)) dNil))) (dCons (dC (.int 1)) dNil))) dNil)))) (dIfS (dTest (dOp eqD (dCall 2 f_law_draw_z [] (dCons (dVar 0) (dCons (dC (.int 5)) dNil))) (dC (.int 0))))
    (dDrop (dBM "list" popAtD (dVar 2) (dCons (dCall 2 f_law_draw_z [] (dCons (dVar 0) (dCons (dCB lenD (dCons (dVar 2) dNil)) dNil))) dNil))) dNext))
    (dFor (diR1 (dCons (dOp ixD (dLst false (dCons (dC (.int 0)) (dCons (dC (.int 0)) (dCons (dC (.int 1)) (dCons (dC (.int 2)) dNil))))) (dCall 2 f_law_draw_z [] (dCons (dVar 0) (dCons (dC (.int 4)) dNil)))) dNil)) (dName 4)
    (dSeq (dAsg (dOp (addD false) (dVar 3) (dLst false (dCons (dC (.int 0)) (dCons (dCB lenD (dCons (dVar 1) dNil)) (dCons (dUn negD (dC (.int 1))) (dCons (dOp (addD false) (dOp (addD false) (dCB lenD (dCons (dVar 1) dNil)) (dC (.int 1))) (dCall 2 f_law_draw_z [] (dCons (dVar 0) (dCons (dC (.int 99)) dNil)))) (dCons (dOp subD (dUn negD (dC (.int 1))) (dCall 2 f_law_draw_z [] (dCons (dVar 0) (dCons (dC (.int 99)) dNil)))) dNil))))))) (dName 5))
    (dDrop (dBM "list" insertD (dVar 3) (dCons (dCall 2 f_law_draw_z [] (dCons (dVar 0) (dCons (dOp (addD false) (dCB lenD (dCons (dVar 3) dNil)) (dC (.int 1))) dNil))) (dCons (dOp ixD (dVar 5) (dCall 2 f_law_draw_z [] (dCons (dVar 0) (dCons (dCB lenD (dCons (dVar 5) dNil)) dNil)))) dNil))))))))))
noncomputable def f_law_bent_z : List DV → Sto → Option (DV × Sto) := fnF (some false) 6 b_law_bent_z
noncomputable def b_law_shuffled_k : DS :=
    (dSeq (dAsg (dCB (listD true) (dCons (dVar 1) dNil)) (dName 2))
    (dRet (dLc true (diR1 (dCons (dCB lenD (dCons (dVar 2) dNil)) dNil)) (dName 3) dYes (dBM "list" popAtD (dVar 2) (dCons (dCall 2 f_law_draw_z [] (dCons (dVar 0) (dCons (dCB lenD (dCons (dVar 2) dNil)) dNil))) dNil)) [3])))
noncomputable def f_law_shuffled_k : List DV → Sto → Option (DV × Sto) := fnF (some true) 4 b_law_shuffled_k
noncomputable def b_law_bolts_k : DS :=
    (dSeq (dAsg (dLr2 false (dC (.int 1)) (dVar 1)) (dName 2))
    (dSeq (dAsg (dCall 2 f_law_draw_z [] (dCons (dVar 0) (dCons (dC (.int 4)) dNil))) (dName 3))
    (dSeq (dIfS (dTest (dOp ltD (dVar 3) (dC (.int 2))))
    (dRet (dIf (dTest (dOp eqD (dVar 3) (dC (.int 1)))) (dCall 2 f_law_shuffled_k [] (dCons (dVar 0) (dCons (dVar 2) dNil))) (dLst true dNil))) dNext)
    (dRet (dCall 2 f_law_shuffled_k [] (dCons (dVar 0) (dCons (dLc false (diL (dVar 2)) (dName 4) (dTest (dOp eqD (dCall 2 f_law_draw_z [] (dCons (dVar 0) (dCons (dVar 3) dNil))) (dC (.int 0)))) (dVar 4) [4]) dNil)))))))
noncomputable def f_law_bolts_k : List DV → Sto → Option (DV × Sto) := fnF (some true) 5 b_law_bolts_k
noncomputable def b_law_amounts_k : DS :=
    (dSeq (dAsg (dLc false (diL (dVar 1)) (dName 5) dYes (dCall 3 f_law_amount_z [] (dCons (dVar 0) (dCons (dVar 5) (dCons (dIf (dTest (dOp gtD (dVar 2) (dC (.int 0)))) (dVar 2) (dOp (addD false) (dC (.int 1)) (dCall 2 f_law_draw_z [] (dCons (dVar 0) (dCons (dC (.int 60)) dNil))))) dNil)))) [5]) (dName 3))
    (dSeq (dAsg (dOp ixD (dLst false (dCons (dC (.int 0)) (dCons (dOp subD (dCB lenD (dCons (dVar 1) dNil)) (dC (.int 1))) (dCons (dC .non) (dCons (dC .non) (dCons (dC .non) dNil)))))) (dCall 2 f_law_draw_z [] (dCons (dVar 0) (dCons (dC (.int 5)) dNil)))) (dName 4))
    (dRet (dLc true (diR1 (dCons (dCB lenD (dCons (dVar 1) dNil)) dNil)) (dName 6) dYes (dIf (dOr (dTest (dIsN false (dVar 4))) (dTest (dOp eqD (dVar 6) (dVar 4)))) (dOp ixD (dVar 3) (dVar 6)) (dTup (dCons (dC (.int 0)) (dCons (dC (.int 1)) dNil)))) [6]))))
noncomputable def f_law_amounts_k : List DV → Sto → Option (DV × Sto) := fnF (some true) 7 b_law_amounts_k
noncomputable def b_law_wides_k : DS :=
    (dSeq (dAsg (dOp ixD (dLst false (dCons (dC (.int 1)) (dCons (dC (.int 2)) (dCons (dC (.int 9)) dNil)))) (dCall 2 f_law_draw_z [] (dCons (dVar 0) (dCons (dC (.int 3)) dNil)))) (dName 2))
    (dRet (dLc true (diR1 (dCons (dOp (addD false) (dC (.int 1)) (dCall 2 f_law_draw_z [] (dCons (dVar 0) (dCons (dVar 1) dNil)))) dNil)) (dName 3) dYes (dOp (addD false) (dC (.int 1)) (dCall 2 f_law_draw_z [] (dCons (dVar 0) (dCons (dVar 2) dNil)))) [3])))
noncomputable def f_law_wides_k : List DV → Sto → Option (DV × Sto) := fnF (some true) 4 b_law_wides_k
noncomputable def b_law_errors_right_z : DS :=
    (dSeq (dAsg (dLst false (dCons (dMkX "NoFloors" (dC (.int 3))) (dCons (dMkX "NoWater" (dC .non)) (dCons (dMkX "NoFlap" (dC (.int 2))) (dCons (dMkX "NoStep" (dC (.int 0))) (dCons (dMkX "NoTable" (dTup (dCons (dC (.int 0)) (dCons (dC (.int 1)) dNil)))) (dCons (dMkX "NoRows" (dC .non)) dNil))))))) (dName 0))
    (dSeq (dAsg (dOp (addD false) (dVar 0) (dLst false (dCons (dMkX "NoDrop" (dC .non)) (dCons (dMkX "NoTank" (dC (.int 4))) (dCons (dMkX "NoRain" (dC (.int 1))) (dCons (dMkX "NoOrder" (dC .non)) (dCons (dMkX "NoText" (dC (.str "x"))) dNil))))))) (dName 0))
    (dSeq (dAsg (dLst false (dCons (dC (.str "NoFloors")) (dCons (dC (.str "NoWater")) (dCons (dC (.str "NoFlap")) (dCons (dC (.str "NoStep")) (dCons (dC (.str "NoTable")) (dCons (dC (.str "NoRows")) (dCons (dC (.str "NoDrop")) (dCons (dC (.str "NoTank")) (dCons (dC (.str "NoRain")) dNil)))))))))) (dName 1))
    (dSeq (dAsg (dOp (addD false) (dVar 1) (dLst false (dCons (dC (.str "NoOrder")) (dCons (dC (.str "NoText")) dNil)))) (dName 1))
    (dSeq (dAsg (dLst false (dCons (dC (.int 3)) (dCons (dC .non) (dCons (dC (.int 2)) (dCons (dC (.int 0)) (dCons (dTup (dCons (dC (.int 0)) (dCons (dC (.int 1)) dNil))) (dCons (dC .non) (dCons (dC .non) (dCons (dC (.int 4)) (dCons (dC (.int 1)) (dCons (dC .non) (dCons (dC (.str "x")) dNil)))))))))))) (dName 2))
    (dSeq (dIfS (dTest (dOp neD (dLc false (diL (dVar 0)) (dName 3) (dNot (dTest (dIsX CS_ bX_FlapError (dVar 3)))) (dC (.int 1)) [3]) (dLst false dNil)))
    (dRet (dC (.bl false))) dNext)
    (dRet (dOp eqD (dLc false (diL (dVar 0)) (dName 3) dYes (dCall 1 f_law_kind_z [] (dCons (dVar 3) dNil)) [3]) (dLc false (diR1 (dCons (dC (.int 11)) dNil)) (dName 4) dYes (dLst false (dCons (dOp ixD (dVar 1) (dVar 4)) (dCons (dOp ixD (dVar 2) (dVar 4)) (dCons (dC (.bl true)) dNil)))) [4])))))))))
noncomputable def f_law_errors_right_z : List DV → Sto → Option (DV × Sto) := fnF (some false) 5 b_law_errors_right_z
noncomputable def b_law_z : DS :=
    (dSeq (dAsg (dCall 1 f_law_tray_r [] (dCons (dVar 0) dNil)) (dName 1))
    (dSeq (dIfS (dNot (dTest (dCall 0 f_law_errors_right_z [] dNil)))
    (dRet (dC (.bl false))) dNext)
    (dSeq (dFor (diR1 (dCons (dOp (addD false) (dC (.int 3)) (dCB minD (dCons (dC (.int 8)) (dCons (dCB lenD (dCons (dVar 0) dNil)) dNil)))) dNil)) (dName 2)
    (dFor (diR1 (dCons (dC (.int 6)) dNil)) (dName 3)
    (dSeq (dAsg (dCall 2 f_law_wides_k [] (dCons (dVar 1) (dCons (dC (.int 8)) dNil))) (dName 4))
    (dSeq (dAsg (dCall 3 f_law_amounts_k [] (dCons (dVar 1) (dCons (dVar 4) (dCons (dCall 1 f_law_bottom_z [] (dCons (dVar 1) dNil)) dNil)))) (dName 5))
    (dSeq (dAsg (dCall 2 f_law_bolts_k [] (dCons (dVar 1) (dCons (dCB lenD (dCons (dVar 4) dNil)) dNil))) (dName 6))
    (dSeq (dDrop (dCall 4 f_law_bent_z [] (dCons (dVar 1) (dCons (dVar 4) (dCons (dVar 5) (dCons (dVar 6) dNil))))))
    (dSeq (dAsg (dTup (dCons (dCB (listD false) (dCons (dVar 4) dNil)) (dCons (dCB (listD false) (dCons (dVar 5) dNil)) (dCons (dCB (listD false) (dCons (dVar 6) dNil)) dNil)))) (dName 7))
    (dSeq (dFor (diR1 (dCons (dC (.int 4)) dNil)) (dName 8)
    (dSeq (dAsg (dCall 4 f_law_due_z [] (dCons (dVar 8) (dCons (dVar 4) (dCons (dVar 5) (dCons (dVar 6) dNil))))) (dName 9))
    (dIfS (dNot (dTest (dCall 2 (f_law_alike_z 6) [] (dCons (dCall 4 f_law_caught_z [] (dCons (dVar 8) (dCons (dVar 4) (dCons (dVar 5) (dCons (dVar 6) dNil))))) (dCons (dVar 9) dNil)))))
    (dRet (dC (.bl false))) dNext)))
    (dIfS (dTest (dOp neD (dVar 7) (dTup (dCons (dVar 4) (dCons (dVar 5) (dCons (dVar 6) dNil))))))
    (dRet (dC (.bl false))) dNext)))))))))
    (dRet (dC (.bl true))))))
noncomputable def f_law_z : List DV → Sto → Option (DV × Sto) := fnF (some false) 10 b_law_z
/-! ### what the top has left -/
structure Txt (K : PySem.W.Frag) (mg : Str → Option Value) where
  a_law_alike : Addr
  fd_law_alike : FuncData
  F_law_alike : Fun K "_law_alike" "_law_alike" s_law_alike a_law_alike fd_law_alike
  g_law_alike : mg "_law_alike" = some (.ref a_law_alike)
  b_law_alike : Binds K fd_law_alike ["found", "due"] []
  a_check_floors : Addr
  fd_check_floors : FuncData
  F_check_floors : Fun K "check_floors" "check_floors" s_check_floors a_check_floors fd_check_floors
  g_check_floors : mg "check_floors" = some (.ref a_check_floors)
  b_check_floors : Binds K fd_check_floors ["floors"] []
  a_above : Addr
  fd_above : FuncData
  F_above : Fun K "above" "above" s_above a_above fd_above
  g_above : mg "above" = some (.ref a_above)
  b_above : Binds K fd_above ["one", "other"] []
  a_check_water : Addr
  fd_check_water : FuncData
  F_check_water : Fun K "check_water" "check_water" s_check_water a_check_water fd_check_water
  g_check_water : mg "check_water" = some (.ref a_check_water)
  b_check_water : Binds K fd_check_water ["floors", "water"] []
  a_check_bolted : Addr
  fd_check_bolted : FuncData
  F_check_bolted : Fun K "check_bolted" "check_bolted" s_check_bolted a_check_bolted fd_check_bolted
  g_check_bolted : mg "check_bolted" = some (.ref a_check_bolted)
  b_check_bolted : Binds K fd_check_bolted ["floors", "bolted"] []
  a_places : Addr
  fd_places : FuncData
  F_places : Fun K "places" "places" s_places a_places fd_places
  g_places : mg "places" = some (.ref a_places)
  b_places : Binds K fd_places ["floors"] []
  a_lowest : Addr
  fd_lowest : FuncData
  F_lowest : Fun K "lowest" "lowest" s_lowest a_lowest fd_lowest
  g_lowest : mg "lowest" = some (.ref a_lowest)
  b_lowest : Binds K fd_lowest ["top", "bottom"] []
  a_plus : Addr
  fd_plus : FuncData
  F_plus : Fun K "plus" "plus" s_plus a_plus fd_plus
  g_plus : mg "plus" = some (.ref a_plus)
  b_plus : Binds K fd_plus ["one", "other"] []
  a_sums : Addr
  fd_sums : FuncData
  F_sums : Fun K "sums" "sums" s_sums a_sums fd_sums
  g_sums : mg "sums" = some (.ref a_sums)
  b_sums : Binds K fd_sums ["amounts"] []
  a_heaped : Addr
  fd_heaped : FuncData
  F_heaped : Fun K "heaped" "heaped" s_heaped a_heaped fd_heaped
  g_heaped : mg "heaped" = some (.ref a_heaped)
  b_heaped : Binds K fd_heaped ["floors", "water"] []
  a_stretches : Addr
  fd_stretches : FuncData
  F_stretches : Fun K "stretches" "stretches" s_stretches a_stretches fd_stretches
  g_stretches : mg "stretches" = some (.ref a_stretches)
  b_stretches : Binds K fd_stretches ["floors", "bolted"] []
  a_share : Addr
  fd_share : FuncData
  F_share : Fun K "share" "share" s_share a_share fd_share
  g_share : mg "share" = some (.ref a_share)
  b_share : Binds K fd_share ["amount", "part", "whole"] []
  a_pool_height : Addr
  fd_pool_height : FuncData
  F_pool_height : Fun K "pool_height" "pool_height" s_pool_height a_pool_height fd_pool_height
  g_pool_height : mg "pool_height" = some (.ref a_pool_height)
  b_pool_height : Binds K fd_pool_height ["pool"] []
  a_pooled : Addr
  fd_pooled : FuncData
  F_pooled : Fun K "pooled" "pooled" s_pooled a_pooled fd_pooled
  g_pooled : mg "pooled" = some (.ref a_pooled)
  b_pooled : Binds K fd_pooled ["floors", "water"] []
  a_at_rest : Addr
  fd_at_rest : FuncData
  F_at_rest : Fun K "at_rest" "at_rest" s_at_rest a_at_rest fd_at_rest
  g_at_rest : mg "at_rest" = some (.ref a_at_rest)
  b_at_rest : Binds K fd_at_rest ["floors", "water", "bolted"] []
  a_settled : Addr
  fd_settled : FuncData
  v_settled : V
  dv_settled : ∀ W, Den K W (.tup []) v_settled
  F_settled : FunB K "settled" "settled" s_settled [v_settled] a_settled fd_settled
  g_settled : mg "settled" = some (.ref a_settled)
  b_settled : Binds K fd_settled ["floors", "water", "bolted"] []
  ds_settled : List Value
  rd_settled : Vals [v_settled] ds_settled
  bd_settled : Binds K fd_settled ["floors", "water", "bolted"] ds_settled
  a_law_kind : Addr
  fd_law_kind : FuncData
  F_law_kind : Fun K "_law_kind" "_law_kind" s_law_kind a_law_kind fd_law_kind
  g_law_kind : mg "_law_kind" = some (.ref a_law_kind)
  b_law_kind : Binds K fd_law_kind ["e"] []
  a_law_caught : Addr
  fd_law_caught : FuncData
  F_law_caught : Fun K "_law_caught" "_law_caught" s_law_caught a_law_caught fd_law_caught
  g_law_caught : mg "_law_caught" = some (.ref a_law_caught)
  b_law_caught : Binds K fd_law_caught ["door", "wides", "amounts", "bolts"] []
  a_law_due : Addr
  fd_law_due : FuncData
  F_law_due : Fun K "_law_due" "_law_due" s_law_due a_law_due fd_law_due
  g_law_due : mg "_law_due" = some (.ref a_law_due)
  b_law_due : Binds K fd_law_due ["door", "wides", "amounts", "bolts"] []
  a_law_draw : Addr
  fd_law_draw : FuncData
  F_law_draw : Fun K "_law_draw" "_law_draw" s_law_draw a_law_draw fd_law_draw
  g_law_draw : mg "_law_draw" = some (.ref a_law_draw)
  b_law_draw : Binds K fd_law_draw ["tray", "many"] []
  a_law_low : Addr
  fd_law_low : FuncData
  F_law_low : Fun K "_law_low" "_law_low" s_law_low a_law_low fd_law_low
  g_law_low : mg "_law_low" = some (.ref a_law_low)
  b_law_low : Binds K fd_law_low ["top", "bottom"] []
  a_law_bent : Addr
  fd_law_bent : FuncData
  F_law_bent : Fun K "_law_bent" "_law_bent" s_law_bent a_law_bent fd_law_bent
  g_law_bent : mg "_law_bent" = some (.ref a_law_bent)
  b_law_bent : Binds K fd_law_bent ["tray", "wides", "amounts", "bolts"] []
  a_law_shuffled : Addr
  fd_law_shuffled : FuncData
  F_law_shuffled : Fun K "_law_shuffled" "_law_shuffled" s_law_shuffled a_law_shuffled fd_law_shuffled
  g_law_shuffled : mg "_law_shuffled" = some (.ref a_law_shuffled)
  b_law_shuffled : Binds K fd_law_shuffled ["tray", "things"] []
  a_law_bolts : Addr
  fd_law_bolts : FuncData
  F_law_bolts : Fun K "_law_bolts" "_law_bolts" s_law_bolts a_law_bolts fd_law_bolts
  g_law_bolts : mg "_law_bolts" = some (.ref a_law_bolts)
  b_law_bolts : Binds K fd_law_bolts ["tray", "many"] []
  a_law_amount : Addr
  fd_law_amount : FuncData
  F_law_amount : Fun K "_law_amount" "_law_amount" s_law_amount a_law_amount fd_law_amount
  g_law_amount : mg "_law_amount" = some (.ref a_law_amount)
  b_law_amount : Binds K fd_law_amount ["tray", "wide", "bottom"] []
  a_law_amounts : Addr
  fd_law_amounts : FuncData
  F_law_amounts : Fun K "_law_amounts" "_law_amounts" s_law_amounts a_law_amounts fd_law_amounts
  g_law_amounts : mg "_law_amounts" = some (.ref a_law_amounts)
  b_law_amounts : Binds K fd_law_amounts ["tray", "wides", "bottom"] []
  a_law_bottom : Addr
  fd_law_bottom : FuncData
  F_law_bottom : Fun K "_law_bottom" "_law_bottom" s_law_bottom a_law_bottom fd_law_bottom
  g_law_bottom : mg "_law_bottom" = some (.ref a_law_bottom)
  b_law_bottom : Binds K fd_law_bottom ["tray"] []
  a_law_wides : Addr
  fd_law_wides : FuncData
  F_law_wides : Fun K "_law_wides" "_law_wides" s_law_wides a_law_wides fd_law_wides
  g_law_wides : mg "_law_wides" = some (.ref a_law_wides)
  b_law_wides : Binds K fd_law_wides ["tray", "most"] []
  a_law_errors_right : Addr
  fd_law_errors_right : FuncData
  F_law_errors_right : Fun K "_law_errors_right" "_law_errors_right" s_law_errors_right a_law_errors_right fd_law_errors_right
  g_law_errors_right : mg "_law_errors_right" = some (.ref a_law_errors_right)
  b_law_errors_right : Binds K fd_law_errors_right [] []
  a_law_tray : Addr
  fd_law_tray : FuncData
  F_law_tray : Fun K "_law_tray" "_law_tray" s_law_tray a_law_tray fd_law_tray
  g_law_tray : mg "_law_tray" = some (.ref a_law_tray)
  b_law_tray : Binds K fd_law_tray ["script"] []
  a_law : Addr
  fd_law : FuncData
  F_law : Fun K "law" "law" s_law a_law fd_law
  g_law : mg "law" = some (.ref a_law)
  b_law : Binds K fd_law ["script"] []
  c_FlapError : Addr
  g_FlapError : mg "FlapError" = some (.ref c_FlapError)
  s_FlapError : PySem.W.subIn K (.ref c_FlapError) (.type "BaseException") = some true
  c_NoFloors : Addr
  i_NoFloors : Addr
  g_NoFloors : mg "NoFloors" = some (.ref c_NoFloors)
  xc_NoFloors : ExcC K c_NoFloors
  xf_NoFloors : XfC K c_NoFloors
  wh_NoFloors : PySem.W.findIn K (.ref c_NoFloors) "what" = some none
  me_NoFloors : PySem.W.mroIn K c_NoFloors (.ref c_NoFloors) = some true
  ve_NoFloors : PySem.W.subIn K (.ref c_NoFloors) (.type "ValueError") = some true
  n_FlapError_NoFloors : ClsN K c_NoFloors c_FlapError true
  c_NoWater : Addr
  i_NoWater : Addr
  g_NoWater : mg "NoWater" = some (.ref c_NoWater)
  xc_NoWater : ExcC K c_NoWater
  xf_NoWater : XfC K c_NoWater
  wh_NoWater : PySem.W.findIn K (.ref c_NoWater) "what" = some none
  me_NoWater : PySem.W.mroIn K c_NoWater (.ref c_NoWater) = some true
  ve_NoWater : PySem.W.subIn K (.ref c_NoWater) (.type "ValueError") = some true
  n_FlapError_NoWater : ClsN K c_NoWater c_FlapError true
  c_NoFlap : Addr
  i_NoFlap : Addr
  g_NoFlap : mg "NoFlap" = some (.ref c_NoFlap)
  xc_NoFlap : ExcC K c_NoFlap
  xf_NoFlap : XfC K c_NoFlap
  wh_NoFlap : PySem.W.findIn K (.ref c_NoFlap) "what" = some none
  me_NoFlap : PySem.W.mroIn K c_NoFlap (.ref c_NoFlap) = some true
  ve_NoFlap : PySem.W.subIn K (.ref c_NoFlap) (.type "ValueError") = some true
  n_FlapError_NoFlap : ClsN K c_NoFlap c_FlapError true
  c_NoStep : Addr
  i_NoStep : Addr
  g_NoStep : mg "NoStep" = some (.ref c_NoStep)
  xc_NoStep : ExcC K c_NoStep
  xf_NoStep : XfC K c_NoStep
  wh_NoStep : PySem.W.findIn K (.ref c_NoStep) "what" = some none
  me_NoStep : PySem.W.mroIn K c_NoStep (.ref c_NoStep) = some true
  ve_NoStep : PySem.W.subIn K (.ref c_NoStep) (.type "ValueError") = some true
  n_FlapError_NoStep : ClsN K c_NoStep c_FlapError true
  c_NoTable : Addr
  i_NoTable : Addr
  g_NoTable : mg "NoTable" = some (.ref c_NoTable)
  xc_NoTable : ExcC K c_NoTable
  xf_NoTable : XfC K c_NoTable
  wh_NoTable : PySem.W.findIn K (.ref c_NoTable) "what" = some none
  me_NoTable : PySem.W.mroIn K c_NoTable (.ref c_NoTable) = some true
  ve_NoTable : PySem.W.subIn K (.ref c_NoTable) (.type "ValueError") = some true
  n_FlapError_NoTable : ClsN K c_NoTable c_FlapError true
  c_NoRows : Addr
  i_NoRows : Addr
  g_NoRows : mg "NoRows" = some (.ref c_NoRows)
  xc_NoRows : ExcC K c_NoRows
  xf_NoRows : XfC K c_NoRows
  wh_NoRows : PySem.W.findIn K (.ref c_NoRows) "what" = some none
  me_NoRows : PySem.W.mroIn K c_NoRows (.ref c_NoRows) = some true
  ve_NoRows : PySem.W.subIn K (.ref c_NoRows) (.type "ValueError") = some true
  n_FlapError_NoRows : ClsN K c_NoRows c_FlapError true
  c_NoDrop : Addr
  i_NoDrop : Addr
  g_NoDrop : mg "NoDrop" = some (.ref c_NoDrop)
  xc_NoDrop : ExcC K c_NoDrop
  xf_NoDrop : XfC K c_NoDrop
  wh_NoDrop : PySem.W.findIn K (.ref c_NoDrop) "what" = some none
  me_NoDrop : PySem.W.mroIn K c_NoDrop (.ref c_NoDrop) = some true
  ve_NoDrop : PySem.W.subIn K (.ref c_NoDrop) (.type "ValueError") = some true
  n_FlapError_NoDrop : ClsN K c_NoDrop c_FlapError true
  c_NoTank : Addr
  i_NoTank : Addr
  g_NoTank : mg "NoTank" = some (.ref c_NoTank)
  xc_NoTank : ExcC K c_NoTank
  xf_NoTank : XfC K c_NoTank
  wh_NoTank : PySem.W.findIn K (.ref c_NoTank) "what" = some none
  me_NoTank : PySem.W.mroIn K c_NoTank (.ref c_NoTank) = some true
  ve_NoTank : PySem.W.subIn K (.ref c_NoTank) (.type "ValueError") = some true
  n_FlapError_NoTank : ClsN K c_NoTank c_FlapError true
  c_NoRain : Addr
  i_NoRain : Addr
  g_NoRain : mg "NoRain" = some (.ref c_NoRain)
  xc_NoRain : ExcC K c_NoRain
  xf_NoRain : XfC K c_NoRain
  wh_NoRain : PySem.W.findIn K (.ref c_NoRain) "what" = some none
  me_NoRain : PySem.W.mroIn K c_NoRain (.ref c_NoRain) = some true
  ve_NoRain : PySem.W.subIn K (.ref c_NoRain) (.type "ValueError") = some true
  n_FlapError_NoRain : ClsN K c_NoRain c_FlapError true
  c_NoOrder : Addr
  i_NoOrder : Addr
  g_NoOrder : mg "NoOrder" = some (.ref c_NoOrder)
  xc_NoOrder : ExcC K c_NoOrder
  xf_NoOrder : XfC K c_NoOrder
  wh_NoOrder : PySem.W.findIn K (.ref c_NoOrder) "what" = some none
  me_NoOrder : PySem.W.mroIn K c_NoOrder (.ref c_NoOrder) = some true
  ve_NoOrder : PySem.W.subIn K (.ref c_NoOrder) (.type "ValueError") = some true
  n_FlapError_NoOrder : ClsN K c_NoOrder c_FlapError true
  c_NoText : Addr
  i_NoText : Addr
  g_NoText : mg "NoText" = some (.ref c_NoText)
  xc_NoText : ExcC K c_NoText
  xf_NoText : XfC K c_NoText
  wh_NoText : PySem.W.findIn K (.ref c_NoText) "what" = some none
  me_NoText : PySem.W.mroIn K c_NoText (.ref c_NoText) = some true
  ve_NoText : PySem.W.subIn K (.ref c_NoText) (.type "ValueError") = some true
  n_FlapError_NoText : ClsN K c_NoText c_FlapError true
  n_NoFloors_NoWater : ClsN K c_NoWater c_NoFloors false
  n_NoFloors_NoFlap : ClsN K c_NoFlap c_NoFloors false
  n_NoFloors_NoStep : ClsN K c_NoStep c_NoFloors false
  n_NoFloors_NoTable : ClsN K c_NoTable c_NoFloors false
  n_NoFloors_NoRows : ClsN K c_NoRows c_NoFloors false
  n_NoFloors_NoDrop : ClsN K c_NoDrop c_NoFloors false
  n_NoFloors_NoTank : ClsN K c_NoTank c_NoFloors false
  n_NoFloors_NoRain : ClsN K c_NoRain c_NoFloors false
  n_NoFloors_NoOrder : ClsN K c_NoOrder c_NoFloors false
  n_NoFloors_NoText : ClsN K c_NoText c_NoFloors false
  n_NoWater_NoFloors : ClsN K c_NoFloors c_NoWater false
  n_NoWater_NoFlap : ClsN K c_NoFlap c_NoWater false
  n_NoWater_NoStep : ClsN K c_NoStep c_NoWater false
  n_NoWater_NoTable : ClsN K c_NoTable c_NoWater false
  n_NoWater_NoRows : ClsN K c_NoRows c_NoWater false
  n_NoWater_NoDrop : ClsN K c_NoDrop c_NoWater false
  n_NoWater_NoTank : ClsN K c_NoTank c_NoWater false
  n_NoWater_NoRain : ClsN K c_NoRain c_NoWater false
  n_NoWater_NoOrder : ClsN K c_NoOrder c_NoWater false
  n_NoWater_NoText : ClsN K c_NoText c_NoWater false
  n_NoFlap_NoFloors : ClsN K c_NoFloors c_NoFlap false
  n_NoFlap_NoWater : ClsN K c_NoWater c_NoFlap false
  n_NoFlap_NoStep : ClsN K c_NoStep c_NoFlap false
  n_NoFlap_NoTable : ClsN K c_NoTable c_NoFlap false
  n_NoFlap_NoRows : ClsN K c_NoRows c_NoFlap false
  n_NoFlap_NoDrop : ClsN K c_NoDrop c_NoFlap false
  n_NoFlap_NoTank : ClsN K c_NoTank c_NoFlap false
  n_NoFlap_NoRain : ClsN K c_NoRain c_NoFlap false
  n_NoFlap_NoOrder : ClsN K c_NoOrder c_NoFlap false
  n_NoFlap_NoText : ClsN K c_NoText c_NoFlap false
  n_NoStep_NoFloors : ClsN K c_NoFloors c_NoStep false
  n_NoStep_NoWater : ClsN K c_NoWater c_NoStep false
  n_NoStep_NoFlap : ClsN K c_NoFlap c_NoStep false
  n_NoStep_NoTable : ClsN K c_NoTable c_NoStep false
  n_NoStep_NoRows : ClsN K c_NoRows c_NoStep false
  n_NoStep_NoDrop : ClsN K c_NoDrop c_NoStep false
  n_NoStep_NoTank : ClsN K c_NoTank c_NoStep false
  n_NoStep_NoRain : ClsN K c_NoRain c_NoStep false
  n_NoStep_NoOrder : ClsN K c_NoOrder c_NoStep false
  n_NoStep_NoText : ClsN K c_NoText c_NoStep false
  n_NoTable_NoFloors : ClsN K c_NoFloors c_NoTable false
  n_NoTable_NoWater : ClsN K c_NoWater c_NoTable false
  n_NoTable_NoFlap : ClsN K c_NoFlap c_NoTable false
  n_NoTable_NoStep : ClsN K c_NoStep c_NoTable false
  n_NoTable_NoRows : ClsN K c_NoRows c_NoTable false
  n_NoTable_NoDrop : ClsN K c_NoDrop c_NoTable false
  n_NoTable_NoTank : ClsN K c_NoTank c_NoTable false
  n_NoTable_NoRain : ClsN K c_NoRain c_NoTable false
  n_NoTable_NoOrder : ClsN K c_NoOrder c_NoTable false
  n_NoTable_NoText : ClsN K c_NoText c_NoTable false
  n_NoRows_NoFloors : ClsN K c_NoFloors c_NoRows false
  n_NoRows_NoWater : ClsN K c_NoWater c_NoRows false
  n_NoRows_NoFlap : ClsN K c_NoFlap c_NoRows false
  n_NoRows_NoStep : ClsN K c_NoStep c_NoRows false
  n_NoRows_NoTable : ClsN K c_NoTable c_NoRows false
  n_NoRows_NoDrop : ClsN K c_NoDrop c_NoRows false
  n_NoRows_NoTank : ClsN K c_NoTank c_NoRows false
  n_NoRows_NoRain : ClsN K c_NoRain c_NoRows false
  n_NoRows_NoOrder : ClsN K c_NoOrder c_NoRows false
  n_NoRows_NoText : ClsN K c_NoText c_NoRows false
  n_NoDrop_NoFloors : ClsN K c_NoFloors c_NoDrop false
  n_NoDrop_NoWater : ClsN K c_NoWater c_NoDrop false
  n_NoDrop_NoFlap : ClsN K c_NoFlap c_NoDrop false
  n_NoDrop_NoStep : ClsN K c_NoStep c_NoDrop false
  n_NoDrop_NoTable : ClsN K c_NoTable c_NoDrop false
  n_NoDrop_NoRows : ClsN K c_NoRows c_NoDrop false
  n_NoDrop_NoTank : ClsN K c_NoTank c_NoDrop false
  n_NoDrop_NoRain : ClsN K c_NoRain c_NoDrop false
  n_NoDrop_NoOrder : ClsN K c_NoOrder c_NoDrop false
  n_NoDrop_NoText : ClsN K c_NoText c_NoDrop false
  n_NoTank_NoFloors : ClsN K c_NoFloors c_NoTank false
  n_NoTank_NoWater : ClsN K c_NoWater c_NoTank false
  n_NoTank_NoFlap : ClsN K c_NoFlap c_NoTank false
  n_NoTank_NoStep : ClsN K c_NoStep c_NoTank false
  n_NoTank_NoTable : ClsN K c_NoTable c_NoTank false
  n_NoTank_NoRows : ClsN K c_NoRows c_NoTank false
  n_NoTank_NoDrop : ClsN K c_NoDrop c_NoTank false
  n_NoTank_NoRain : ClsN K c_NoRain c_NoTank false
  n_NoTank_NoOrder : ClsN K c_NoOrder c_NoTank false
  n_NoTank_NoText : ClsN K c_NoText c_NoTank false
  n_NoRain_NoFloors : ClsN K c_NoFloors c_NoRain false
  n_NoRain_NoWater : ClsN K c_NoWater c_NoRain false
  n_NoRain_NoFlap : ClsN K c_NoFlap c_NoRain false
  n_NoRain_NoStep : ClsN K c_NoStep c_NoRain false
  n_NoRain_NoTable : ClsN K c_NoTable c_NoRain false
  n_NoRain_NoRows : ClsN K c_NoRows c_NoRain false
  n_NoRain_NoDrop : ClsN K c_NoDrop c_NoRain false
  n_NoRain_NoTank : ClsN K c_NoTank c_NoRain false
  n_NoRain_NoOrder : ClsN K c_NoOrder c_NoRain false
  n_NoRain_NoText : ClsN K c_NoText c_NoRain false
  n_NoOrder_NoFloors : ClsN K c_NoFloors c_NoOrder false
  n_NoOrder_NoWater : ClsN K c_NoWater c_NoOrder false
  n_NoOrder_NoFlap : ClsN K c_NoFlap c_NoOrder false
  n_NoOrder_NoStep : ClsN K c_NoStep c_NoOrder false
  n_NoOrder_NoTable : ClsN K c_NoTable c_NoOrder false
  n_NoOrder_NoRows : ClsN K c_NoRows c_NoOrder false
  n_NoOrder_NoDrop : ClsN K c_NoDrop c_NoOrder false
  n_NoOrder_NoTank : ClsN K c_NoTank c_NoOrder false
  n_NoOrder_NoRain : ClsN K c_NoRain c_NoOrder false
  n_NoOrder_NoText : ClsN K c_NoText c_NoOrder false
  n_NoText_NoFloors : ClsN K c_NoFloors c_NoText false
  n_NoText_NoWater : ClsN K c_NoWater c_NoText false
  n_NoText_NoFlap : ClsN K c_NoFlap c_NoText false
  n_NoText_NoStep : ClsN K c_NoStep c_NoText false
  n_NoText_NoTable : ClsN K c_NoTable c_NoText false
  n_NoText_NoRows : ClsN K c_NoRows c_NoText false
  n_NoText_NoDrop : ClsN K c_NoDrop c_NoText false
  n_NoText_NoTank : ClsN K c_NoTank c_NoText false
  n_NoText_NoRain : ClsN K c_NoRain c_NoText false
  n_NoText_NoOrder : ClsN K c_NoOrder c_NoText false
  z_ValueError : mg "ValueError" = none
  z_bool : mg "bool" = none
  z_enumerate : mg "enumerate" = none
  z_int : mg "int" = none
  z_isinstance : mg "isinstance" = none
  z_len : mg "len" = none
  z_list : mg "list" = none
  z_max : mg "max" = none
  z_min : mg "min" = none
  z_range : mg "range" = none
  z_sorted : mg "sorted" = none
  z_str : mg "str" = none
  z_sum : mg "sum" = none
  z_tuple : mg "tuple" = none
  z_zip : mg "zip" = none
  a_NOUGHT : Addr
  g_NOUGHT : mg "NOUGHT" = some (.ref a_NOUGHT)
  d_NOUGHT : ∀ W, Den K W (.tup [(.int 0), (.int 1)]) (.ref a_NOUGHT)
  g_gcd : mg "gcd" = some (.builtin "math.gcd")
theorem KX_ValueError {K : PySem.W.Frag} {mg : Str → Option Value} (T : Txt K mg) : ∀ y ∈ CS_, ∀ C, mg y = some (.ref C) → ExcC K C ∧ PySem.W.kitOne K (.ref C) (.type "ValueError") = some (bX_ValueError y) :=
  List.forall_mem_cons.mpr ⟨fun C hC => by
    have e := hC.symm.trans T.g_NoFloors
    cases e
    exact ⟨T.xc_NoFloors, kit_VE T.ve_NoFloors⟩, List.forall_mem_cons.mpr ⟨fun C hC => by
    have e := hC.symm.trans T.g_NoWater
    cases e
    exact ⟨T.xc_NoWater, kit_VE T.ve_NoWater⟩, List.forall_mem_cons.mpr ⟨fun C hC => by
    have e := hC.symm.trans T.g_NoFlap
    cases e
    exact ⟨T.xc_NoFlap, kit_VE T.ve_NoFlap⟩, List.forall_mem_cons.mpr ⟨fun C hC => by
    have e := hC.symm.trans T.g_NoStep
    cases e
    exact ⟨T.xc_NoStep, kit_VE T.ve_NoStep⟩, List.forall_mem_cons.mpr ⟨fun C hC => by
    have e := hC.symm.trans T.g_NoTable
    cases e
    exact ⟨T.xc_NoTable, kit_VE T.ve_NoTable⟩, List.forall_mem_cons.mpr ⟨fun C hC => by
    have e := hC.symm.trans T.g_NoRows
    cases e
    exact ⟨T.xc_NoRows, kit_VE T.ve_NoRows⟩, List.forall_mem_cons.mpr ⟨fun C hC => by
    have e := hC.symm.trans T.g_NoDrop
    cases e
    exact ⟨T.xc_NoDrop, kit_VE T.ve_NoDrop⟩, List.forall_mem_cons.mpr ⟨fun C hC => by
    have e := hC.symm.trans T.g_NoTank
    cases e
    exact ⟨T.xc_NoTank, kit_VE T.ve_NoTank⟩, List.forall_mem_cons.mpr ⟨fun C hC => by
    have e := hC.symm.trans T.g_NoRain
    cases e
    exact ⟨T.xc_NoRain, kit_VE T.ve_NoRain⟩, List.forall_mem_cons.mpr ⟨fun C hC => by
    have e := hC.symm.trans T.g_NoOrder
    cases e
    exact ⟨T.xc_NoOrder, kit_VE T.ve_NoOrder⟩, List.forall_mem_cons.mpr ⟨fun C hC => by
    have e := hC.symm.trans T.g_NoText
    cases e
    exact ⟨T.xc_NoText, kit_VE T.ve_NoText⟩, fun _ h => by cases h⟩⟩⟩⟩⟩⟩⟩⟩⟩⟩⟩
theorem KX_NoText {K : PySem.W.Frag} {mg : Str → Option Value} (T : Txt K mg) : ∀ y ∈ CS_, ∀ C, mg y = some (.ref C) → ExcC K C ∧ PySem.W.kitOne K (.ref C) (.ref T.c_NoText) = some (bX_NoText y) :=
  List.forall_mem_cons.mpr ⟨fun C hC => by
    have e := hC.symm.trans T.g_NoFloors
    cases e
    exact ⟨T.xc_NoFloors, (show bX_NoText "NoFloors" = false from by decide +kernel) ▸ T.n_NoText_NoFloors.kit T.me_NoFloors⟩, List.forall_mem_cons.mpr ⟨fun C hC => by
    have e := hC.symm.trans T.g_NoWater
    cases e
    exact ⟨T.xc_NoWater, (show bX_NoText "NoWater" = false from by decide +kernel) ▸ T.n_NoText_NoWater.kit T.me_NoWater⟩, List.forall_mem_cons.mpr ⟨fun C hC => by
    have e := hC.symm.trans T.g_NoFlap
    cases e
    exact ⟨T.xc_NoFlap, (show bX_NoText "NoFlap" = false from by decide +kernel) ▸ T.n_NoText_NoFlap.kit T.me_NoFlap⟩, List.forall_mem_cons.mpr ⟨fun C hC => by
    have e := hC.symm.trans T.g_NoStep
    cases e
    exact ⟨T.xc_NoStep, (show bX_NoText "NoStep" = false from by decide +kernel) ▸ T.n_NoText_NoStep.kit T.me_NoStep⟩, List.forall_mem_cons.mpr ⟨fun C hC => by
    have e := hC.symm.trans T.g_NoTable
    cases e
    exact ⟨T.xc_NoTable, (show bX_NoText "NoTable" = false from by decide +kernel) ▸ T.n_NoText_NoTable.kit T.me_NoTable⟩, List.forall_mem_cons.mpr ⟨fun C hC => by
    have e := hC.symm.trans T.g_NoRows
    cases e
    exact ⟨T.xc_NoRows, (show bX_NoText "NoRows" = false from by decide +kernel) ▸ T.n_NoText_NoRows.kit T.me_NoRows⟩, List.forall_mem_cons.mpr ⟨fun C hC => by
    have e := hC.symm.trans T.g_NoDrop
    cases e
    exact ⟨T.xc_NoDrop, (show bX_NoText "NoDrop" = false from by decide +kernel) ▸ T.n_NoText_NoDrop.kit T.me_NoDrop⟩, List.forall_mem_cons.mpr ⟨fun C hC => by
    have e := hC.symm.trans T.g_NoTank
    cases e
    exact ⟨T.xc_NoTank, (show bX_NoText "NoTank" = false from by decide +kernel) ▸ T.n_NoText_NoTank.kit T.me_NoTank⟩, List.forall_mem_cons.mpr ⟨fun C hC => by
    have e := hC.symm.trans T.g_NoRain
    cases e
    exact ⟨T.xc_NoRain, (show bX_NoText "NoRain" = false from by decide +kernel) ▸ T.n_NoText_NoRain.kit T.me_NoRain⟩, List.forall_mem_cons.mpr ⟨fun C hC => by
    have e := hC.symm.trans T.g_NoOrder
    cases e
    exact ⟨T.xc_NoOrder, (show bX_NoText "NoOrder" = false from by decide +kernel) ▸ T.n_NoText_NoOrder.kit T.me_NoOrder⟩, List.forall_mem_cons.mpr ⟨fun C hC => by
    have e := hC.symm.trans T.g_NoText
    cases e
    exact ⟨T.xc_NoText, (show bX_NoText "NoText" = true from by decide +kernel) ▸ kit_self⟩, fun _ h => by cases h⟩⟩⟩⟩⟩⟩⟩⟩⟩⟩⟩
theorem KX_NoOrder {K : PySem.W.Frag} {mg : Str → Option Value} (T : Txt K mg) : ∀ y ∈ CS_, ∀ C, mg y = some (.ref C) → ExcC K C ∧ PySem.W.kitOne K (.ref C) (.ref T.c_NoOrder) = some (bX_NoOrder y) :=
  List.forall_mem_cons.mpr ⟨fun C hC => by
    have e := hC.symm.trans T.g_NoFloors
    cases e
    exact ⟨T.xc_NoFloors, (show bX_NoOrder "NoFloors" = false from by decide +kernel) ▸ T.n_NoOrder_NoFloors.kit T.me_NoFloors⟩, List.forall_mem_cons.mpr ⟨fun C hC => by
    have e := hC.symm.trans T.g_NoWater
    cases e
    exact ⟨T.xc_NoWater, (show bX_NoOrder "NoWater" = false from by decide +kernel) ▸ T.n_NoOrder_NoWater.kit T.me_NoWater⟩, List.forall_mem_cons.mpr ⟨fun C hC => by
    have e := hC.symm.trans T.g_NoFlap
    cases e
    exact ⟨T.xc_NoFlap, (show bX_NoOrder "NoFlap" = false from by decide +kernel) ▸ T.n_NoOrder_NoFlap.kit T.me_NoFlap⟩, List.forall_mem_cons.mpr ⟨fun C hC => by
    have e := hC.symm.trans T.g_NoStep
    cases e
    exact ⟨T.xc_NoStep, (show bX_NoOrder "NoStep" = false from by decide +kernel) ▸ T.n_NoOrder_NoStep.kit T.me_NoStep⟩, List.forall_mem_cons.mpr ⟨fun C hC => by
    have e := hC.symm.trans T.g_NoTable
    cases e
    exact ⟨T.xc_NoTable, (show bX_NoOrder "NoTable" = false from by decide +kernel) ▸ T.n_NoOrder_NoTable.kit T.me_NoTable⟩, List.forall_mem_cons.mpr ⟨fun C hC => by
    have e := hC.symm.trans T.g_NoRows
    cases e
    exact ⟨T.xc_NoRows, (show bX_NoOrder "NoRows" = false from by decide +kernel) ▸ T.n_NoOrder_NoRows.kit T.me_NoRows⟩, List.forall_mem_cons.mpr ⟨fun C hC => by
    have e := hC.symm.trans T.g_NoDrop
    cases e
    exact ⟨T.xc_NoDrop, (show bX_NoOrder "NoDrop" = false from by decide +kernel) ▸ T.n_NoOrder_NoDrop.kit T.me_NoDrop⟩, List.forall_mem_cons.mpr ⟨fun C hC => by
    have e := hC.symm.trans T.g_NoTank
    cases e
    exact ⟨T.xc_NoTank, (show bX_NoOrder "NoTank" = false from by decide +kernel) ▸ T.n_NoOrder_NoTank.kit T.me_NoTank⟩, List.forall_mem_cons.mpr ⟨fun C hC => by
    have e := hC.symm.trans T.g_NoRain
    cases e
    exact ⟨T.xc_NoRain, (show bX_NoOrder "NoRain" = false from by decide +kernel) ▸ T.n_NoOrder_NoRain.kit T.me_NoRain⟩, List.forall_mem_cons.mpr ⟨fun C hC => by
    have e := hC.symm.trans T.g_NoOrder
    cases e
    exact ⟨T.xc_NoOrder, (show bX_NoOrder "NoOrder" = true from by decide +kernel) ▸ kit_self⟩, List.forall_mem_cons.mpr ⟨fun C hC => by
    have e := hC.symm.trans T.g_NoText
    cases e
    exact ⟨T.xc_NoText, (show bX_NoOrder "NoText" = false from by decide +kernel) ▸ T.n_NoOrder_NoText.kit T.me_NoText⟩, fun _ h => by cases h⟩⟩⟩⟩⟩⟩⟩⟩⟩⟩⟩
theorem KX_NoRain {K : PySem.W.Frag} {mg : Str → Option Value} (T : Txt K mg) : ∀ y ∈ CS_, ∀ C, mg y = some (.ref C) → ExcC K C ∧ PySem.W.kitOne K (.ref C) (.ref T.c_NoRain) = some (bX_NoRain y) :=
  List.forall_mem_cons.mpr ⟨fun C hC => by
    have e := hC.symm.trans T.g_NoFloors
    cases e
    exact ⟨T.xc_NoFloors, (show bX_NoRain "NoFloors" = false from by decide +kernel) ▸ T.n_NoRain_NoFloors.kit T.me_NoFloors⟩, List.forall_mem_cons.mpr ⟨fun C hC => by
    have e := hC.symm.trans T.g_NoWater
    cases e
    exact ⟨T.xc_NoWater, (show bX_NoRain "NoWater" = false from by decide +kernel) ▸ T.n_NoRain_NoWater.kit T.me_NoWater⟩, List.forall_mem_cons.mpr ⟨fun C hC => by
    have e := hC.symm.trans T.g_NoFlap
    cases e
    exact ⟨T.xc_NoFlap, (show bX_NoRain "NoFlap" = false from by decide +kernel) ▸ T.n_NoRain_NoFlap.kit T.me_NoFlap⟩, List.forall_mem_cons.mpr ⟨fun C hC => by
    have e := hC.symm.trans T.g_NoStep
    cases e
    exact ⟨T.xc_NoStep, (show bX_NoRain "NoStep" = false from by decide +kernel) ▸ T.n_NoRain_NoStep.kit T.me_NoStep⟩, List.forall_mem_cons.mpr ⟨fun C hC => by
    have e := hC.symm.trans T.g_NoTable
    cases e
    exact ⟨T.xc_NoTable, (show bX_NoRain "NoTable" = false from by decide +kernel) ▸ T.n_NoRain_NoTable.kit T.me_NoTable⟩, List.forall_mem_cons.mpr ⟨fun C hC => by
    have e := hC.symm.trans T.g_NoRows
    cases e
    exact ⟨T.xc_NoRows, (show bX_NoRain "NoRows" = false from by decide +kernel) ▸ T.n_NoRain_NoRows.kit T.me_NoRows⟩, List.forall_mem_cons.mpr ⟨fun C hC => by
    have e := hC.symm.trans T.g_NoDrop
    cases e
    exact ⟨T.xc_NoDrop, (show bX_NoRain "NoDrop" = false from by decide +kernel) ▸ T.n_NoRain_NoDrop.kit T.me_NoDrop⟩, List.forall_mem_cons.mpr ⟨fun C hC => by
    have e := hC.symm.trans T.g_NoTank
    cases e
    exact ⟨T.xc_NoTank, (show bX_NoRain "NoTank" = false from by decide +kernel) ▸ T.n_NoRain_NoTank.kit T.me_NoTank⟩, List.forall_mem_cons.mpr ⟨fun C hC => by
    have e := hC.symm.trans T.g_NoRain
    cases e
    exact ⟨T.xc_NoRain, (show bX_NoRain "NoRain" = true from by decide +kernel) ▸ kit_self⟩, List.forall_mem_cons.mpr ⟨fun C hC => by
    have e := hC.symm.trans T.g_NoOrder
    cases e
    exact ⟨T.xc_NoOrder, (show bX_NoRain "NoOrder" = false from by decide +kernel) ▸ T.n_NoRain_NoOrder.kit T.me_NoOrder⟩, List.forall_mem_cons.mpr ⟨fun C hC => by
    have e := hC.symm.trans T.g_NoText
    cases e
    exact ⟨T.xc_NoText, (show bX_NoRain "NoText" = false from by decide +kernel) ▸ T.n_NoRain_NoText.kit T.me_NoText⟩, fun _ h => by cases h⟩⟩⟩⟩⟩⟩⟩⟩⟩⟩⟩
theorem KX_NoTank {K : PySem.W.Frag} {mg : Str → Option Value} (T : Txt K mg) : ∀ y ∈ CS_, ∀ C, mg y = some (.ref C) → ExcC K C ∧ PySem.W.kitOne K (.ref C) (.ref T.c_NoTank) = some (bX_NoTank y) :=
  List.forall_mem_cons.mpr ⟨fun C hC => by
    have e := hC.symm.trans T.g_NoFloors
    cases e
    exact ⟨T.xc_NoFloors, (show bX_NoTank "NoFloors" = false from by decide +kernel) ▸ T.n_NoTank_NoFloors.kit T.me_NoFloors⟩, List.forall_mem_cons.mpr ⟨fun C hC => by
    have e := hC.symm.trans T.g_NoWater
    cases e
    exact ⟨T.xc_NoWater, (show bX_NoTank "NoWater" = false from by decide +kernel) ▸ T.n_NoTank_NoWater.kit T.me_NoWater⟩, List.forall_mem_cons.mpr ⟨fun C hC => by
    have e := hC.symm.trans T.g_NoFlap
    cases e
    exact ⟨T.xc_NoFlap, (show bX_NoTank "NoFlap" = false from by decide +kernel) ▸ T.n_NoTank_NoFlap.kit T.me_NoFlap⟩, List.forall_mem_cons.mpr ⟨fun C hC => by
    have e := hC.symm.trans T.g_NoStep
    cases e
    exact ⟨T.xc_NoStep, (show bX_NoTank "NoStep" = false from by decide +kernel) ▸ T.n_NoTank_NoStep.kit T.me_NoStep⟩, List.forall_mem_cons.mpr ⟨fun C hC => by
    have e := hC.symm.trans T.g_NoTable
    cases e
    exact ⟨T.xc_NoTable, (show bX_NoTank "NoTable" = false from by decide +kernel) ▸ T.n_NoTank_NoTable.kit T.me_NoTable⟩, List.forall_mem_cons.mpr ⟨fun C hC => by
    have e := hC.symm.trans T.g_NoRows
    cases e
    exact ⟨T.xc_NoRows, (show bX_NoTank "NoRows" = false from by decide +kernel) ▸ T.n_NoTank_NoRows.kit T.me_NoRows⟩, List.forall_mem_cons.mpr ⟨fun C hC => by
    have e := hC.symm.trans T.g_NoDrop
    cases e
    exact ⟨T.xc_NoDrop, (show bX_NoTank "NoDrop" = false from by decide +kernel) ▸ T.n_NoTank_NoDrop.kit T.me_NoDrop⟩, List.forall_mem_cons.mpr ⟨fun C hC => by
    have e := hC.symm.trans T.g_NoTank
    cases e
    exact ⟨T.xc_NoTank, (show bX_NoTank "NoTank" = true from by decide +kernel) ▸ kit_self⟩, List.forall_mem_cons.mpr ⟨fun C hC => by
    have e := hC.symm.trans T.g_NoRain
    cases e
    exact ⟨T.xc_NoRain, (show bX_NoTank "NoRain" = false from by decide +kernel) ▸ T.n_NoTank_NoRain.kit T.me_NoRain⟩, List.forall_mem_cons.mpr ⟨fun C hC => by
    have e := hC.symm.trans T.g_NoOrder
    cases e
    exact ⟨T.xc_NoOrder, (show bX_NoTank "NoOrder" = false from by decide +kernel) ▸ T.n_NoTank_NoOrder.kit T.me_NoOrder⟩, List.forall_mem_cons.mpr ⟨fun C hC => by
    have e := hC.symm.trans T.g_NoText
    cases e
    exact ⟨T.xc_NoText, (show bX_NoTank "NoText" = false from by decide +kernel) ▸ T.n_NoTank_NoText.kit T.me_NoText⟩, fun _ h => by cases h⟩⟩⟩⟩⟩⟩⟩⟩⟩⟩⟩
theorem KX_NoDrop {K : PySem.W.Frag} {mg : Str → Option Value} (T : Txt K mg) : ∀ y ∈ CS_, ∀ C, mg y = some (.ref C) → ExcC K C ∧ PySem.W.kitOne K (.ref C) (.ref T.c_NoDrop) = some (bX_NoDrop y) :=
  List.forall_mem_cons.mpr ⟨fun C hC => by
    have e := hC.symm.trans T.g_NoFloors
    cases e
    exact ⟨T.xc_NoFloors, (show bX_NoDrop "NoFloors" = false from by decide +kernel) ▸ T.n_NoDrop_NoFloors.kit T.me_NoFloors⟩, List.forall_mem_cons.mpr ⟨fun C hC => by
    have e := hC.symm.trans T.g_NoWater
    cases e
    exact ⟨T.xc_NoWater, (show bX_NoDrop "NoWater" = false from by decide +kernel) ▸ T.n_NoDrop_NoWater.kit T.me_NoWater⟩, List.forall_mem_cons.mpr ⟨fun C hC => by
    have e := hC.symm.trans T.g_NoFlap
    cases e
    exact ⟨T.xc_NoFlap, (show bX_NoDrop "NoFlap" = false from by decide +kernel) ▸ T.n_NoDrop_NoFlap.kit T.me_NoFlap⟩, List.forall_mem_cons.mpr ⟨fun C hC => by
    have e := hC.symm.trans T.g_NoStep
    cases e
    exact ⟨T.xc_NoStep, (show bX_NoDrop "NoStep" = false from by decide +kernel) ▸ T.n_NoDrop_NoStep.kit T.me_NoStep⟩, List.forall_mem_cons.mpr ⟨fun C hC => by
    have e := hC.symm.trans T.g_NoTable
    cases e
    exact ⟨T.xc_NoTable, (show bX_NoDrop "NoTable" = false from by decide +kernel) ▸ T.n_NoDrop_NoTable.kit T.me_NoTable⟩, List.forall_mem_cons.mpr ⟨fun C hC => by
    have e := hC.symm.trans T.g_NoRows
    cases e
    exact ⟨T.xc_NoRows, (show bX_NoDrop "NoRows" = false from by decide +kernel) ▸ T.n_NoDrop_NoRows.kit T.me_NoRows⟩, List.forall_mem_cons.mpr ⟨fun C hC => by
    have e := hC.symm.trans T.g_NoDrop
    cases e
    exact ⟨T.xc_NoDrop, (show bX_NoDrop "NoDrop" = true from by decide +kernel) ▸ kit_self⟩, List.forall_mem_cons.mpr ⟨fun C hC => by
    have e := hC.symm.trans T.g_NoTank
    cases e
    exact ⟨T.xc_NoTank, (show bX_NoDrop "NoTank" = false from by decide +kernel) ▸ T.n_NoDrop_NoTank.kit T.me_NoTank⟩, List.forall_mem_cons.mpr ⟨fun C hC => by
    have e := hC.symm.trans T.g_NoRain
    cases e
    exact ⟨T.xc_NoRain, (show bX_NoDrop "NoRain" = false from by decide +kernel) ▸ T.n_NoDrop_NoRain.kit T.me_NoRain⟩, List.forall_mem_cons.mpr ⟨fun C hC => by
    have e := hC.symm.trans T.g_NoOrder
    cases e
    exact ⟨T.xc_NoOrder, (show bX_NoDrop "NoOrder" = false from by decide +kernel) ▸ T.n_NoDrop_NoOrder.kit T.me_NoOrder⟩, List.forall_mem_cons.mpr ⟨fun C hC => by
    have e := hC.symm.trans T.g_NoText
    cases e
    exact ⟨T.xc_NoText, (show bX_NoDrop "NoText" = false from by decide +kernel) ▸ T.n_NoDrop_NoText.kit T.me_NoText⟩, fun _ h => by cases h⟩⟩⟩⟩⟩⟩⟩⟩⟩⟩⟩
theorem KX_NoRows {K : PySem.W.Frag} {mg : Str → Option Value} (T : Txt K mg) : ∀ y ∈ CS_, ∀ C, mg y = some (.ref C) → ExcC K C ∧ PySem.W.kitOne K (.ref C) (.ref T.c_NoRows) = some (bX_NoRows y) :=
  List.forall_mem_cons.mpr ⟨fun C hC => by
    have e := hC.symm.trans T.g_NoFloors
    cases e
    exact ⟨T.xc_NoFloors, (show bX_NoRows "NoFloors" = false from by decide +kernel) ▸ T.n_NoRows_NoFloors.kit T.me_NoFloors⟩, List.forall_mem_cons.mpr ⟨fun C hC => by
    have e := hC.symm.trans T.g_NoWater
    cases e
    exact ⟨T.xc_NoWater, (show bX_NoRows "NoWater" = false from by decide +kernel) ▸ T.n_NoRows_NoWater.kit T.me_NoWater⟩, List.forall_mem_cons.mpr ⟨fun C hC => by
    have e := hC.symm.trans T.g_NoFlap
    cases e
    exact ⟨T.xc_NoFlap, (show bX_NoRows "NoFlap" = false from by decide +kernel) ▸ T.n_NoRows_NoFlap.kit T.me_NoFlap⟩, List.forall_mem_cons.mpr ⟨fun C hC => by
    have e := hC.symm.trans T.g_NoStep
    cases e
    exact ⟨T.xc_NoStep, (show bX_NoRows "NoStep" = false from by decide +kernel) ▸ T.n_NoRows_NoStep.kit T.me_NoStep⟩, List.forall_mem_cons.mpr ⟨fun C hC => by
    have e := hC.symm.trans T.g_NoTable
    cases e
    exact ⟨T.xc_NoTable, (show bX_NoRows "NoTable" = false from by decide +kernel) ▸ T.n_NoRows_NoTable.kit T.me_NoTable⟩, List.forall_mem_cons.mpr ⟨fun C hC => by
    have e := hC.symm.trans T.g_NoRows
    cases e
    exact ⟨T.xc_NoRows, (show bX_NoRows "NoRows" = true from by decide +kernel) ▸ kit_self⟩, List.forall_mem_cons.mpr ⟨fun C hC => by
    have e := hC.symm.trans T.g_NoDrop
    cases e
    exact ⟨T.xc_NoDrop, (show bX_NoRows "NoDrop" = false from by decide +kernel) ▸ T.n_NoRows_NoDrop.kit T.me_NoDrop⟩, List.forall_mem_cons.mpr ⟨fun C hC => by
    have e := hC.symm.trans T.g_NoTank
    cases e
    exact ⟨T.xc_NoTank, (show bX_NoRows "NoTank" = false from by decide +kernel) ▸ T.n_NoRows_NoTank.kit T.me_NoTank⟩, List.forall_mem_cons.mpr ⟨fun C hC => by
    have e := hC.symm.trans T.g_NoRain
    cases e
    exact ⟨T.xc_NoRain, (show bX_NoRows "NoRain" = false from by decide +kernel) ▸ T.n_NoRows_NoRain.kit T.me_NoRain⟩, List.forall_mem_cons.mpr ⟨fun C hC => by
    have e := hC.symm.trans T.g_NoOrder
    cases e
    exact ⟨T.xc_NoOrder, (show bX_NoRows "NoOrder" = false from by decide +kernel) ▸ T.n_NoRows_NoOrder.kit T.me_NoOrder⟩, List.forall_mem_cons.mpr ⟨fun C hC => by
    have e := hC.symm.trans T.g_NoText
    cases e
    exact ⟨T.xc_NoText, (show bX_NoRows "NoText" = false from by decide +kernel) ▸ T.n_NoRows_NoText.kit T.me_NoText⟩, fun _ h => by cases h⟩⟩⟩⟩⟩⟩⟩⟩⟩⟩⟩
theorem KX_NoTable {K : PySem.W.Frag} {mg : Str → Option Value} (T : Txt K mg) : ∀ y ∈ CS_, ∀ C, mg y = some (.ref C) → ExcC K C ∧ PySem.W.kitOne K (.ref C) (.ref T.c_NoTable) = some (bX_NoTable y) :=
  List.forall_mem_cons.mpr ⟨fun C hC => by
    have e := hC.symm.trans T.g_NoFloors
    cases e
    exact ⟨T.xc_NoFloors, (show bX_NoTable "NoFloors" = false from by decide +kernel) ▸ T.n_NoTable_NoFloors.kit T.me_NoFloors⟩, List.forall_mem_cons.mpr ⟨fun C hC => by
    have e := hC.symm.trans T.g_NoWater
    cases e
    exact ⟨T.xc_NoWater, (show bX_NoTable "NoWater" = false from by decide +kernel) ▸ T.n_NoTable_NoWater.kit T.me_NoWater⟩, List.forall_mem_cons.mpr ⟨fun C hC => by
    have e := hC.symm.trans T.g_NoFlap
    cases e
    exact ⟨T.xc_NoFlap, (show bX_NoTable "NoFlap" = false from by decide +kernel) ▸ T.n_NoTable_NoFlap.kit T.me_NoFlap⟩, List.forall_mem_cons.mpr ⟨fun C hC => by
    have e := hC.symm.trans T.g_NoStep
    cases e
    exact ⟨T.xc_NoStep, (show bX_NoTable "NoStep" = false from by decide +kernel) ▸ T.n_NoTable_NoStep.kit T.me_NoStep⟩, List.forall_mem_cons.mpr ⟨fun C hC => by
    have e := hC.symm.trans T.g_NoTable
    cases e
    exact ⟨T.xc_NoTable, (show bX_NoTable "NoTable" = true from by decide +kernel) ▸ kit_self⟩, List.forall_mem_cons.mpr ⟨fun C hC => by
    have e := hC.symm.trans T.g_NoRows
    cases e
    exact ⟨T.xc_NoRows, (show bX_NoTable "NoRows" = false from by decide +kernel) ▸ T.n_NoTable_NoRows.kit T.me_NoRows⟩, List.forall_mem_cons.mpr ⟨fun C hC => by
    have e := hC.symm.trans T.g_NoDrop
    cases e
    exact ⟨T.xc_NoDrop, (show bX_NoTable "NoDrop" = false from by decide +kernel) ▸ T.n_NoTable_NoDrop.kit T.me_NoDrop⟩, List.forall_mem_cons.mpr ⟨fun C hC => by
    have e := hC.symm.trans T.g_NoTank
    cases e
    exact ⟨T.xc_NoTank, (show bX_NoTable "NoTank" = false from by decide +kernel) ▸ T.n_NoTable_NoTank.kit T.me_NoTank⟩, List.forall_mem_cons.mpr ⟨fun C hC => by
    have e := hC.symm.trans T.g_NoRain
    cases e
    exact ⟨T.xc_NoRain, (show bX_NoTable "NoRain" = false from by decide +kernel) ▸ T.n_NoTable_NoRain.kit T.me_NoRain⟩, List.forall_mem_cons.mpr ⟨fun C hC => by
    have e := hC.symm.trans T.g_NoOrder
    cases e
    exact ⟨T.xc_NoOrder, (show bX_NoTable "NoOrder" = false from by decide +kernel) ▸ T.n_NoTable_NoOrder.kit T.me_NoOrder⟩, List.forall_mem_cons.mpr ⟨fun C hC => by
    have e := hC.symm.trans T.g_NoText
    cases e
    exact ⟨T.xc_NoText, (show bX_NoTable "NoText" = false from by decide +kernel) ▸ T.n_NoTable_NoText.kit T.me_NoText⟩, fun _ h => by cases h⟩⟩⟩⟩⟩⟩⟩⟩⟩⟩⟩
theorem KX_NoStep {K : PySem.W.Frag} {mg : Str → Option Value} (T : Txt K mg) : ∀ y ∈ CS_, ∀ C, mg y = some (.ref C) → ExcC K C ∧ PySem.W.kitOne K (.ref C) (.ref T.c_NoStep) = some (bX_NoStep y) :=
  List.forall_mem_cons.mpr ⟨fun C hC => by
    have e := hC.symm.trans T.g_NoFloors
    cases e
    exact ⟨T.xc_NoFloors, (show bX_NoStep "NoFloors" = false from by decide +kernel) ▸ T.n_NoStep_NoFloors.kit T.me_NoFloors⟩, List.forall_mem_cons.mpr ⟨fun C hC => by
    have e := hC.symm.trans T.g_NoWater
    cases e
    exact ⟨T.xc_NoWater, (show bX_NoStep "NoWater" = false from by decide +kernel) ▸ T.n_NoStep_NoWater.kit T.me_NoWater⟩, List.forall_mem_cons.mpr ⟨fun C hC => by
    have e := hC.symm.trans T.g_NoFlap
    cases e
    exact ⟨T.xc_NoFlap, (show bX_NoStep "NoFlap" = false from by decide +kernel) ▸ T.n_NoStep_NoFlap.kit T.me_NoFlap⟩, List.forall_mem_cons.mpr ⟨fun C hC => by
    have e := hC.symm.trans T.g_NoStep
    cases e
    exact ⟨T.xc_NoStep, (show bX_NoStep "NoStep" = true from by decide +kernel) ▸ kit_self⟩, List.forall_mem_cons.mpr ⟨fun C hC => by
    have e := hC.symm.trans T.g_NoTable
    cases e
    exact ⟨T.xc_NoTable, (show bX_NoStep "NoTable" = false from by decide +kernel) ▸ T.n_NoStep_NoTable.kit T.me_NoTable⟩, List.forall_mem_cons.mpr ⟨fun C hC => by
    have e := hC.symm.trans T.g_NoRows
    cases e
    exact ⟨T.xc_NoRows, (show bX_NoStep "NoRows" = false from by decide +kernel) ▸ T.n_NoStep_NoRows.kit T.me_NoRows⟩, List.forall_mem_cons.mpr ⟨fun C hC => by
    have e := hC.symm.trans T.g_NoDrop
    cases e
    exact ⟨T.xc_NoDrop, (show bX_NoStep "NoDrop" = false from by decide +kernel) ▸ T.n_NoStep_NoDrop.kit T.me_NoDrop⟩, List.forall_mem_cons.mpr ⟨fun C hC => by
    have e := hC.symm.trans T.g_NoTank
    cases e
    exact ⟨T.xc_NoTank, (show bX_NoStep "NoTank" = false from by decide +kernel) ▸ T.n_NoStep_NoTank.kit T.me_NoTank⟩, List.forall_mem_cons.mpr ⟨fun C hC => by
    have e := hC.symm.trans T.g_NoRain
    cases e
    exact ⟨T.xc_NoRain, (show bX_NoStep "NoRain" = false from by decide +kernel) ▸ T.n_NoStep_NoRain.kit T.me_NoRain⟩, List.forall_mem_cons.mpr ⟨fun C hC => by
    have e := hC.symm.trans T.g_NoOrder
    cases e
    exact ⟨T.xc_NoOrder, (show bX_NoStep "NoOrder" = false from by decide +kernel) ▸ T.n_NoStep_NoOrder.kit T.me_NoOrder⟩, List.forall_mem_cons.mpr ⟨fun C hC => by
    have e := hC.symm.trans T.g_NoText
    cases e
    exact ⟨T.xc_NoText, (show bX_NoStep "NoText" = false from by decide +kernel) ▸ T.n_NoStep_NoText.kit T.me_NoText⟩, fun _ h => by cases h⟩⟩⟩⟩⟩⟩⟩⟩⟩⟩⟩
theorem KX_NoFlap {K : PySem.W.Frag} {mg : Str → Option Value} (T : Txt K mg) : ∀ y ∈ CS_, ∀ C, mg y = some (.ref C) → ExcC K C ∧ PySem.W.kitOne K (.ref C) (.ref T.c_NoFlap) = some (bX_NoFlap y) :=
  List.forall_mem_cons.mpr ⟨fun C hC => by
    have e := hC.symm.trans T.g_NoFloors
    cases e
    exact ⟨T.xc_NoFloors, (show bX_NoFlap "NoFloors" = false from by decide +kernel) ▸ T.n_NoFlap_NoFloors.kit T.me_NoFloors⟩, List.forall_mem_cons.mpr ⟨fun C hC => by
    have e := hC.symm.trans T.g_NoWater
    cases e
    exact ⟨T.xc_NoWater, (show bX_NoFlap "NoWater" = false from by decide +kernel) ▸ T.n_NoFlap_NoWater.kit T.me_NoWater⟩, List.forall_mem_cons.mpr ⟨fun C hC => by
    have e := hC.symm.trans T.g_NoFlap
    cases e
    exact ⟨T.xc_NoFlap, (show bX_NoFlap "NoFlap" = true from by decide +kernel) ▸ kit_self⟩, List.forall_mem_cons.mpr ⟨fun C hC => by
    have e := hC.symm.trans T.g_NoStep
    cases e
    exact ⟨T.xc_NoStep, (show bX_NoFlap "NoStep" = false from by decide +kernel) ▸ T.n_NoFlap_NoStep.kit T.me_NoStep⟩, List.forall_mem_cons.mpr ⟨fun C hC => by
    have e := hC.symm.trans T.g_NoTable
    cases e
    exact ⟨T.xc_NoTable, (show bX_NoFlap "NoTable" = false from by decide +kernel) ▸ T.n_NoFlap_NoTable.kit T.me_NoTable⟩, List.forall_mem_cons.mpr ⟨fun C hC => by
    have e := hC.symm.trans T.g_NoRows
    cases e
    exact ⟨T.xc_NoRows, (show bX_NoFlap "NoRows" = false from by decide +kernel) ▸ T.n_NoFlap_NoRows.kit T.me_NoRows⟩, List.forall_mem_cons.mpr ⟨fun C hC => by
    have e := hC.symm.trans T.g_NoDrop
    cases e
    exact ⟨T.xc_NoDrop, (show bX_NoFlap "NoDrop" = false from by decide +kernel) ▸ T.n_NoFlap_NoDrop.kit T.me_NoDrop⟩, List.forall_mem_cons.mpr ⟨fun C hC => by
    have e := hC.symm.trans T.g_NoTank
    cases e
    exact ⟨T.xc_NoTank, (show bX_NoFlap "NoTank" = false from by decide +kernel) ▸ T.n_NoFlap_NoTank.kit T.me_NoTank⟩, List.forall_mem_cons.mpr ⟨fun C hC => by
    have e := hC.symm.trans T.g_NoRain
    cases e
    exact ⟨T.xc_NoRain, (show bX_NoFlap "NoRain" = false from by decide +kernel) ▸ T.n_NoFlap_NoRain.kit T.me_NoRain⟩, List.forall_mem_cons.mpr ⟨fun C hC => by
    have e := hC.symm.trans T.g_NoOrder
    cases e
    exact ⟨T.xc_NoOrder, (show bX_NoFlap "NoOrder" = false from by decide +kernel) ▸ T.n_NoFlap_NoOrder.kit T.me_NoOrder⟩, List.forall_mem_cons.mpr ⟨fun C hC => by
    have e := hC.symm.trans T.g_NoText
    cases e
    exact ⟨T.xc_NoText, (show bX_NoFlap "NoText" = false from by decide +kernel) ▸ T.n_NoFlap_NoText.kit T.me_NoText⟩, fun _ h => by cases h⟩⟩⟩⟩⟩⟩⟩⟩⟩⟩⟩
theorem KX_NoWater {K : PySem.W.Frag} {mg : Str → Option Value} (T : Txt K mg) : ∀ y ∈ CS_, ∀ C, mg y = some (.ref C) → ExcC K C ∧ PySem.W.kitOne K (.ref C) (.ref T.c_NoWater) = some (bX_NoWater y) :=
  List.forall_mem_cons.mpr ⟨fun C hC => by
    have e := hC.symm.trans T.g_NoFloors
    cases e
    exact ⟨T.xc_NoFloors, (show bX_NoWater "NoFloors" = false from by decide +kernel) ▸ T.n_NoWater_NoFloors.kit T.me_NoFloors⟩, List.forall_mem_cons.mpr ⟨fun C hC => by
    have e := hC.symm.trans T.g_NoWater
    cases e
    exact ⟨T.xc_NoWater, (show bX_NoWater "NoWater" = true from by decide +kernel) ▸ kit_self⟩, List.forall_mem_cons.mpr ⟨fun C hC => by
    have e := hC.symm.trans T.g_NoFlap
    cases e
    exact ⟨T.xc_NoFlap, (show bX_NoWater "NoFlap" = false from by decide +kernel) ▸ T.n_NoWater_NoFlap.kit T.me_NoFlap⟩, List.forall_mem_cons.mpr ⟨fun C hC => by
    have e := hC.symm.trans T.g_NoStep
    cases e
    exact ⟨T.xc_NoStep, (show bX_NoWater "NoStep" = false from by decide +kernel) ▸ T.n_NoWater_NoStep.kit T.me_NoStep⟩, List.forall_mem_cons.mpr ⟨fun C hC => by
    have e := hC.symm.trans T.g_NoTable
    cases e
    exact ⟨T.xc_NoTable, (show bX_NoWater "NoTable" = false from by decide +kernel) ▸ T.n_NoWater_NoTable.kit T.me_NoTable⟩, List.forall_mem_cons.mpr ⟨fun C hC => by
    have e := hC.symm.trans T.g_NoRows
    cases e
    exact ⟨T.xc_NoRows, (show bX_NoWater "NoRows" = false from by decide +kernel) ▸ T.n_NoWater_NoRows.kit T.me_NoRows⟩, List.forall_mem_cons.mpr ⟨fun C hC => by
    have e := hC.symm.trans T.g_NoDrop
    cases e
    exact ⟨T.xc_NoDrop, (show bX_NoWater "NoDrop" = false from by decide +kernel) ▸ T.n_NoWater_NoDrop.kit T.me_NoDrop⟩, List.forall_mem_cons.mpr ⟨fun C hC => by
    have e := hC.symm.trans T.g_NoTank
    cases e
    exact ⟨T.xc_NoTank, (show bX_NoWater "NoTank" = false from by decide +kernel) ▸ T.n_NoWater_NoTank.kit T.me_NoTank⟩, List.forall_mem_cons.mpr ⟨fun C hC => by
    have e := hC.symm.trans T.g_NoRain
    cases e
    exact ⟨T.xc_NoRain, (show bX_NoWater "NoRain" = false from by decide +kernel) ▸ T.n_NoWater_NoRain.kit T.me_NoRain⟩, List.forall_mem_cons.mpr ⟨fun C hC => by
    have e := hC.symm.trans T.g_NoOrder
    cases e
    exact ⟨T.xc_NoOrder, (show bX_NoWater "NoOrder" = false from by decide +kernel) ▸ T.n_NoWater_NoOrder.kit T.me_NoOrder⟩, List.forall_mem_cons.mpr ⟨fun C hC => by
    have e := hC.symm.trans T.g_NoText
    cases e
    exact ⟨T.xc_NoText, (show bX_NoWater "NoText" = false from by decide +kernel) ▸ T.n_NoWater_NoText.kit T.me_NoText⟩, fun _ h => by cases h⟩⟩⟩⟩⟩⟩⟩⟩⟩⟩⟩
theorem KX_NoFloors {K : PySem.W.Frag} {mg : Str → Option Value} (T : Txt K mg) : ∀ y ∈ CS_, ∀ C, mg y = some (.ref C) → ExcC K C ∧ PySem.W.kitOne K (.ref C) (.ref T.c_NoFloors) = some (bX_NoFloors y) :=
  List.forall_mem_cons.mpr ⟨fun C hC => by
    have e := hC.symm.trans T.g_NoFloors
    cases e
    exact ⟨T.xc_NoFloors, (show bX_NoFloors "NoFloors" = true from by decide +kernel) ▸ kit_self⟩, List.forall_mem_cons.mpr ⟨fun C hC => by
    have e := hC.symm.trans T.g_NoWater
    cases e
    exact ⟨T.xc_NoWater, (show bX_NoFloors "NoWater" = false from by decide +kernel) ▸ T.n_NoFloors_NoWater.kit T.me_NoWater⟩, List.forall_mem_cons.mpr ⟨fun C hC => by
    have e := hC.symm.trans T.g_NoFlap
    cases e
    exact ⟨T.xc_NoFlap, (show bX_NoFloors "NoFlap" = false from by decide +kernel) ▸ T.n_NoFloors_NoFlap.kit T.me_NoFlap⟩, List.forall_mem_cons.mpr ⟨fun C hC => by
    have e := hC.symm.trans T.g_NoStep
    cases e
    exact ⟨T.xc_NoStep, (show bX_NoFloors "NoStep" = false from by decide +kernel) ▸ T.n_NoFloors_NoStep.kit T.me_NoStep⟩, List.forall_mem_cons.mpr ⟨fun C hC => by
    have e := hC.symm.trans T.g_NoTable
    cases e
    exact ⟨T.xc_NoTable, (show bX_NoFloors "NoTable" = false from by decide +kernel) ▸ T.n_NoFloors_NoTable.kit T.me_NoTable⟩, List.forall_mem_cons.mpr ⟨fun C hC => by
    have e := hC.symm.trans T.g_NoRows
    cases e
    exact ⟨T.xc_NoRows, (show bX_NoFloors "NoRows" = false from by decide +kernel) ▸ T.n_NoFloors_NoRows.kit T.me_NoRows⟩, List.forall_mem_cons.mpr ⟨fun C hC => by
    have e := hC.symm.trans T.g_NoDrop
    cases e
    exact ⟨T.xc_NoDrop, (show bX_NoFloors "NoDrop" = false from by decide +kernel) ▸ T.n_NoFloors_NoDrop.kit T.me_NoDrop⟩, List.forall_mem_cons.mpr ⟨fun C hC => by
    have e := hC.symm.trans T.g_NoTank
    cases e
    exact ⟨T.xc_NoTank, (show bX_NoFloors "NoTank" = false from by decide +kernel) ▸ T.n_NoFloors_NoTank.kit T.me_NoTank⟩, List.forall_mem_cons.mpr ⟨fun C hC => by
    have e := hC.symm.trans T.g_NoRain
    cases e
    exact ⟨T.xc_NoRain, (show bX_NoFloors "NoRain" = false from by decide +kernel) ▸ T.n_NoFloors_NoRain.kit T.me_NoRain⟩, List.forall_mem_cons.mpr ⟨fun C hC => by
    have e := hC.symm.trans T.g_NoOrder
    cases e
    exact ⟨T.xc_NoOrder, (show bX_NoFloors "NoOrder" = false from by decide +kernel) ▸ T.n_NoFloors_NoOrder.kit T.me_NoOrder⟩, List.forall_mem_cons.mpr ⟨fun C hC => by
    have e := hC.symm.trans T.g_NoText
    cases e
    exact ⟨T.xc_NoText, (show bX_NoFloors "NoText" = false from by decide +kernel) ▸ T.n_NoFloors_NoText.kit T.me_NoText⟩, fun _ h => by cases h⟩⟩⟩⟩⟩⟩⟩⟩⟩⟩⟩
theorem KX_FlapError {K : PySem.W.Frag} {mg : Str → Option Value} (T : Txt K mg) : ∀ y ∈ CS_, ∀ C, mg y = some (.ref C) → ExcC K C ∧ PySem.W.kitOne K (.ref C) (.ref T.c_FlapError) = some (bX_FlapError y) :=
  List.forall_mem_cons.mpr ⟨fun C hC => by
    have e := hC.symm.trans T.g_NoFloors
    cases e
    exact ⟨T.xc_NoFloors, T.n_FlapError_NoFloors.kit T.me_NoFloors⟩, List.forall_mem_cons.mpr ⟨fun C hC => by
    have e := hC.symm.trans T.g_NoWater
    cases e
    exact ⟨T.xc_NoWater, T.n_FlapError_NoWater.kit T.me_NoWater⟩, List.forall_mem_cons.mpr ⟨fun C hC => by
    have e := hC.symm.trans T.g_NoFlap
    cases e
    exact ⟨T.xc_NoFlap, T.n_FlapError_NoFlap.kit T.me_NoFlap⟩, List.forall_mem_cons.mpr ⟨fun C hC => by
    have e := hC.symm.trans T.g_NoStep
    cases e
    exact ⟨T.xc_NoStep, T.n_FlapError_NoStep.kit T.me_NoStep⟩, List.forall_mem_cons.mpr ⟨fun C hC => by
    have e := hC.symm.trans T.g_NoTable
    cases e
    exact ⟨T.xc_NoTable, T.n_FlapError_NoTable.kit T.me_NoTable⟩, List.forall_mem_cons.mpr ⟨fun C hC => by
    have e := hC.symm.trans T.g_NoRows
    cases e
    exact ⟨T.xc_NoRows, T.n_FlapError_NoRows.kit T.me_NoRows⟩, List.forall_mem_cons.mpr ⟨fun C hC => by
    have e := hC.symm.trans T.g_NoDrop
    cases e
    exact ⟨T.xc_NoDrop, T.n_FlapError_NoDrop.kit T.me_NoDrop⟩, List.forall_mem_cons.mpr ⟨fun C hC => by
    have e := hC.symm.trans T.g_NoTank
    cases e
    exact ⟨T.xc_NoTank, T.n_FlapError_NoTank.kit T.me_NoTank⟩, List.forall_mem_cons.mpr ⟨fun C hC => by
    have e := hC.symm.trans T.g_NoRain
    cases e
    exact ⟨T.xc_NoRain, T.n_FlapError_NoRain.kit T.me_NoRain⟩, List.forall_mem_cons.mpr ⟨fun C hC => by
    have e := hC.symm.trans T.g_NoOrder
    cases e
    exact ⟨T.xc_NoOrder, T.n_FlapError_NoOrder.kit T.me_NoOrder⟩, List.forall_mem_cons.mpr ⟨fun C hC => by
    have e := hC.symm.trans T.g_NoText
    cases e
    exact ⟨T.xc_NoText, T.n_FlapError_NoText.kit T.me_NoText⟩, fun _ h => by cases h⟩⟩⟩⟩⟩⟩⟩⟩⟩⟩⟩
theorem WX_ {K : PySem.W.Frag} {mg : Str → Option Value} (T : Txt K mg) : ∀ y ∈ CS_, ∀ C, mg y = some (.ref C) → XfC K C ∧ PySem.W.findIn K (.ref C) "what" = some none :=
  List.forall_mem_cons.mpr ⟨fun C hC => by
    have e := hC.symm.trans T.g_NoFloors
    cases e
    exact ⟨T.xf_NoFloors, T.wh_NoFloors⟩, List.forall_mem_cons.mpr ⟨fun C hC => by
    have e := hC.symm.trans T.g_NoWater
    cases e
    exact ⟨T.xf_NoWater, T.wh_NoWater⟩, List.forall_mem_cons.mpr ⟨fun C hC => by
    have e := hC.symm.trans T.g_NoFlap
    cases e
    exact ⟨T.xf_NoFlap, T.wh_NoFlap⟩, List.forall_mem_cons.mpr ⟨fun C hC => by
    have e := hC.symm.trans T.g_NoStep
    cases e
    exact ⟨T.xf_NoStep, T.wh_NoStep⟩, List.forall_mem_cons.mpr ⟨fun C hC => by
    have e := hC.symm.trans T.g_NoTable
    cases e
    exact ⟨T.xf_NoTable, T.wh_NoTable⟩, List.forall_mem_cons.mpr ⟨fun C hC => by
    have e := hC.symm.trans T.g_NoRows
    cases e
    exact ⟨T.xf_NoRows, T.wh_NoRows⟩, List.forall_mem_cons.mpr ⟨fun C hC => by
    have e := hC.symm.trans T.g_NoDrop
    cases e
    exact ⟨T.xf_NoDrop, T.wh_NoDrop⟩, List.forall_mem_cons.mpr ⟨fun C hC => by
    have e := hC.symm.trans T.g_NoTank
    cases e
    exact ⟨T.xf_NoTank, T.wh_NoTank⟩, List.forall_mem_cons.mpr ⟨fun C hC => by
    have e := hC.symm.trans T.g_NoRain
    cases e
    exact ⟨T.xf_NoRain, T.wh_NoRain⟩, List.forall_mem_cons.mpr ⟨fun C hC => by
    have e := hC.symm.trans T.g_NoOrder
    cases e
    exact ⟨T.xf_NoOrder, T.wh_NoOrder⟩, List.forall_mem_cons.mpr ⟨fun C hC => by
    have e := hC.symm.trans T.g_NoText
    cases e
    exact ⟨T.xf_NoText, T.wh_NoText⟩, fun _ h => by cases h⟩⟩⟩⟩⟩⟩⟩⟩⟩⟩⟩
theorem EX_ {K : PySem.W.Frag} {mg : Str → Option Value} (T : Txt K mg) : ∀ y ∈ CS_, ∀ C, mg y = some (.ref C) → PySem.W.exmOne K (.ref C) (.ref T.c_FlapError) = some true :=
  List.forall_mem_cons.mpr ⟨fun C hC => by
    have e := hC.symm.trans T.g_NoFloors
    cases e
    exact T.n_FlapError_NoFloors.exm T.s_FlapError, List.forall_mem_cons.mpr ⟨fun C hC => by
    have e := hC.symm.trans T.g_NoWater
    cases e
    exact T.n_FlapError_NoWater.exm T.s_FlapError, List.forall_mem_cons.mpr ⟨fun C hC => by
    have e := hC.symm.trans T.g_NoFlap
    cases e
    exact T.n_FlapError_NoFlap.exm T.s_FlapError, List.forall_mem_cons.mpr ⟨fun C hC => by
    have e := hC.symm.trans T.g_NoStep
    cases e
    exact T.n_FlapError_NoStep.exm T.s_FlapError, List.forall_mem_cons.mpr ⟨fun C hC => by
    have e := hC.symm.trans T.g_NoTable
    cases e
    exact T.n_FlapError_NoTable.exm T.s_FlapError, List.forall_mem_cons.mpr ⟨fun C hC => by
    have e := hC.symm.trans T.g_NoRows
    cases e
    exact T.n_FlapError_NoRows.exm T.s_FlapError, List.forall_mem_cons.mpr ⟨fun C hC => by
    have e := hC.symm.trans T.g_NoDrop
    cases e
    exact T.n_FlapError_NoDrop.exm T.s_FlapError, List.forall_mem_cons.mpr ⟨fun C hC => by
    have e := hC.symm.trans T.g_NoTank
    cases e
    exact T.n_FlapError_NoTank.exm T.s_FlapError, List.forall_mem_cons.mpr ⟨fun C hC => by
    have e := hC.symm.trans T.g_NoRain
    cases e
    exact T.n_FlapError_NoRain.exm T.s_FlapError, List.forall_mem_cons.mpr ⟨fun C hC => by
    have e := hC.symm.trans T.g_NoOrder
    cases e
    exact T.n_FlapError_NoOrder.exm T.s_FlapError, List.forall_mem_cons.mpr ⟨fun C hC => by
    have e := hC.symm.trans T.g_NoText
    cases e
    exact T.n_FlapError_NoText.exm T.s_FlapError, fun _ h => by cases h⟩⟩⟩⟩⟩⟩⟩⟩⟩⟩⟩
section
variable {P : Program} {w : World} {K : PySem.W.Frag} {mg : Str → Option Value} {base : Heap}
theorem kb_places_0 {f : Addr} {fd : FuncData} (F : Fun K "places" "places" s_places f fd) : KBinds K fd ["floors"] ["floors"] (pkF 0 1 [0]) (pkF 0 1 [0]) :=
  kbinds_of (ks := ["floors"]) (n := 0) F (by decide) fun _ _ _ _ _ _ us ws h1 h2 => match us, ws, h1, h2 with | [], [_], _, _ => rfl
theorem kb_heaped_0 {f : Addr} {fd : FuncData} (F : Fun K "heaped" "heaped" s_heaped f fd) : KBinds K fd ["floors", "water"] ["water"] (pkF 1 1 [0, 1]) (pkF 1 1 [0, 1]) :=
  kbinds_of (ks := ["water"]) (n := 1) F (by decide) fun _ _ _ _ _ _ us ws h1 h2 => match us, ws, h1, h2 with | [_], [_], _, _ => rfl
theorem kb_settled_0 {f : Addr} {fd : FuncData} {v : V} (F : FunB K "settled" "settled" s_settled [v] f fd) : KBinds K fd ["floors", "water", "bolted"] ["bolted", "floors", "water"] (pkF 0 3 [1, 2, 0]) (pkF 0 3 [1, 2, 0]) :=
  kbindsD (ks := ["bolted", "floors", "water"]) (n := 0) F (by simp) (by simp) fun _ _ _ _ _ _ _ us ws its h1 h2 h3 => match us, ws, its, h1, h2, h3 with | [], [_, _, _], [_], _, _, _ => ⟨_, rfl, rfl⟩
theorem G_law_alike_z (T : Txt K mg) : ∀ k : Nat, FnOk P w K mg base CX0 (1 + k) T.a_law_alike T.fd_law_alike ["found", "due"] (spF K mg 2 (f_law_alike_z k))
  | 0 => ⟨fun _ _ _ _ h => h.1, fun A outer s H args us vs Q E hr h0 hb hv h => by
    obtain ⟨_, W, S, ds, d, S', _, _, _, z, _⟩ := h
    cases z⟩
  | k + 1 => by
    have IH := G_law_alike_z T k
    exact fn_dl (k := 1 + k) T.F_law_alike sc_law_alike rfl fun cdv A outer s H E hr => ⟨_, (pss_cons (ps_if (pt_cmp (pc_isN (pv 1)))
    (pss_one (ps_ret (pe_cmp (pc_isN (pv 0))))) pss_nil)
    (pss_cons (ps_if (pt_val (pe_callB call_isi (by rfl) T.z_isinstance (by decide +kernel) (pa_cons (pv 1) (pa_cons (pe_bltn (v := .ty "bool") (u := .type "bool") (by rfl) T.z_bool (by decide +kernel) rfl) pa_nil))))
    (pss_one (ps_ret (pe_and (pe_callB call_isi (by rfl) T.z_isinstance (by decide +kernel) (pa_cons (pv 0) (pa_cons (pe_bltn (v := .ty "bool") (u := .type "bool") (by rfl) T.z_bool (by decide +kernel) rfl) pa_nil))) (pe_one (pe_cmpR (op_eqD hr.units) (pv 0) (pv 1) (nomark _)))))) pss_nil)
    (pss_cons (ps_if (pt_val (pe_callB call_isi (by rfl) T.z_isinstance (by decide +kernel) (pa_cons (pv 1) (pa_cons (pe_bltn (v := .ty "int") (u := .type "int") (by rfl) T.z_int (by decide +kernel) rfl) pa_nil))))
    (pss_one (ps_ret (pe_and (pe_callB call_isi (by rfl) T.z_isinstance (by decide +kernel) (pa_cons (pv 0) (pa_cons (pe_bltn (v := .ty "int") (u := .type "int") (by rfl) T.z_int (by decide +kernel) rfl) pa_nil))) (pe_and (pe_not (pe_callB call_isi (by rfl) T.z_isinstance (by decide +kernel) (pa_cons (pv 0) (pa_cons (pe_bltn (v := .ty "bool") (u := .type "bool") (by rfl) T.z_bool (by decide +kernel) rfl) pa_nil)))) (pe_one (pe_cmpR (op_eqD hr.units) (pv 0) (pv 1) (nomark _))))))) pss_nil)
    (pss_cons (ps_if (pt_val (pe_callB call_isi (by rfl) T.z_isinstance (by decide +kernel) (pa_cons (pv 1) (pa_cons (pe_bltn (v := .ty "str") (u := .type "str") (by rfl) T.z_str (by decide +kernel) rfl) pa_nil))))
    (pss_one (ps_ret (pe_and (pe_callB call_isi (by rfl) T.z_isinstance (by decide +kernel) (pa_cons (pv 0) (pa_cons (pe_bltn (v := .ty "str") (u := .type "str") (by rfl) T.z_str (by decide +kernel) rfl) pa_nil))) (pe_one (pe_cmpR (op_eqD hr.units) (pv 0) (pv 1) (nomark _)))))) pss_nil)
    (pss_cons (ps_if (PW.pt (pw_or (pt_cmpR (op_neD hr.units) (pe_callB call_isi (by rfl) T.z_isinstance (by decide +kernel) (pa_cons (pv 0) (pa_cons (pe_bltn (v := .ty "list") (u := .type "list") (by rfl) T.z_list (by decide +kernel) rfl) pa_nil))) (pe_callB call_isi (by rfl) T.z_isinstance (by decide +kernel) (pa_cons (pv 1) (pa_cons (pe_bltn (v := .ty "list") (u := .type "list") (by rfl) T.z_list (by decide +kernel) rfl) pa_nil))) (nomark _)) (pw_or1 (pt_cmpR (op_neD hr.units) (pe_callB call_isi (by rfl) T.z_isinstance (by decide +kernel) (pa_cons (pv 0) (pa_cons (pe_bltn (v := .ty "tuple") (u := .type "tuple") (by rfl) T.z_tuple (by decide +kernel) rfl) pa_nil))) (pe_callB call_isi (by rfl) T.z_isinstance (by decide +kernel) (pa_cons (pv 1) (pa_cons (pe_bltn (v := .ty "tuple") (u := .type "tuple") (by rfl) T.z_tuple (by decide +kernel) rfl) pa_nil))) (nomark _)))))
    (pss_one (ps_ret pe_bl)) pss_nil)
    (pss_cons (ps_if (pt_cmpR (op_neD hr.units) (pe_callB cr_len (by rfl) T.z_len (by decide +kernel) (pa_cons (pv 0) pa_nil)) (pe_callB cr_len (by rfl) T.z_len (by decide +kernel) (pa_cons (pv 1) pa_nil)) (nomark _))
    (pss_one (ps_ret pe_bl)) pss_nil)
    (pss_cons (ps_for PassesOwn.never rfl (pi_range1 (by rfl) T.z_range (pa_cons (pe_callB cr_len (by rfl) T.z_len (by decide +kernel) (pa_cons (pv 1) pa_nil)) pa_nil)) (pg_name (i := 2) sc_law_alike.nd rfl (by first | exact Or.inl rfl | exact Or.inr rfl))
    (pss_one (ps_if (pt_not (pt_val (pe_call IH (hr.mono (by first | decide | omega)) (by rfl) T.g_law_alike T.F_law_alike.kp T.b_law_alike .nil pass0 (pa_cons (pe_ix ix_seq (pv 0) (pv 2) (fun _ _ => rfl)) (pa_cons (pe_ix ix_seq (pv 1) (pv 2) (fun _ _ => rfl)) pa_nil)))))
    (pss_one (ps_ret pe_bl)) pss_nil)))
    (pss_one (ps_ret pe_bl))))))))),
    (rs_seq (rs_if (rt_B (re_isN re_var))
    (rs_ret (re_isN re_var)) rs_next)
    (rs_seq (rs_if (rt_B (re_CB rc_isi (ra_cons re_var (ra_cons (re_c fun _ => rfl) ra_nil))))
    (rs_ret (re_andV (re_CB rc_isi (ra_cons re_var (ra_cons (re_c fun _ => rfl) ra_nil))) (re_op ro_eq re_var re_var))) rs_next)
    (rs_seq (rs_if (rt_B (re_CB rc_isi (ra_cons re_var (ra_cons (re_c fun _ => rfl) ra_nil))))
    (rs_ret (re_andV (re_CB rc_isi (ra_cons re_var (ra_cons (re_c fun _ => rfl) ra_nil))) (re_andV (re_notV (re_CB rc_isi (ra_cons re_var (ra_cons (re_c fun _ => rfl) ra_nil)))) (re_op ro_eq re_var re_var)))) rs_next)
    (rs_seq (rs_if (rt_B (re_CB rc_isi (ra_cons re_var (ra_cons (re_c fun _ => rfl) ra_nil))))
    (rs_ret (re_andV (re_CB rc_isi (ra_cons re_var (ra_cons (re_c fun _ => rfl) ra_nil))) (re_op ro_eq re_var re_var))) rs_next)
    (rs_seq (rs_if (rt_or (rt_test (re_op ro_ne (re_CB rc_isi (ra_cons re_var (ra_cons (re_c fun _ => rfl) ra_nil))) (re_CB rc_isi (ra_cons re_var (ra_cons (re_c fun _ => rfl) ra_nil))))) (rt_test (re_op ro_ne (re_CB rc_isi (ra_cons re_var (ra_cons (re_c fun _ => rfl) ra_nil))) (re_CB rc_isi (ra_cons re_var (ra_cons (re_c fun _ => rfl) ra_nil))))))
    (rs_ret re_bl) rs_next)
    (rs_seq (rs_if (rt_test (re_op ro_ne (re_CB rc_len (ra_cons re_var ra_nil)) (re_CB rc_len (ra_cons re_var ra_nil))))
    (rs_ret re_bl) rs_next)
    (rs_seq (rs_for (ri_rng1 (ra_cons (re_CB rc_len (ra_cons re_var ra_nil)) ra_nil)) rg_name
    (rs_if (rt_not (rt_B (re_call0 (ra_cons (re_op ro_ix re_var re_var) (ra_cons (re_op ro_ix re_var re_var) ra_nil)))))
    (rs_ret re_bl) rs_next))
    (rs_ret re_bl))))))))⟩
theorem G_above_z (T : Txt K mg) : FnOk P w K mg base CX0 1 T.a_above T.fd_above ["one", "other"] (spF K mg 2 f_above_z) :=
  fn_dl (k := 0) T.F_above sc_above rfl fun cdv A outer s H E hr => ⟨_, (pss_one (ps_ret (pe_cmpR op_gt (pe_op op_mulW (pe_ix ix_seq (pv 0) pe_int (fun _ _ => rfl)) (pe_ix ix_seq (pv 1) pe_int (fun _ _ => rfl))) (pe_op op_mulW (pe_ix ix_seq (pv 1) pe_int (fun _ _ => rfl)) (pe_ix ix_seq (pv 0) pe_int (fun _ _ => rfl))) (nomark _)))),
    (rs_ret (re_op ro_gt (re_op ro_mul (re_op ro_ix re_var re_int) (re_op ro_ix re_var re_int)) (re_op ro_mul (re_op ro_ix re_var re_int) (re_op ro_ix re_var re_int))))⟩
theorem G_lowest_z (T : Txt K mg) : FnOk P w K mg base CX0 1 T.a_lowest T.fd_lowest ["top", "bottom"] (spF K mg 2 f_lowest_z) :=
  fn_dl (k := 0) T.F_lowest sc_lowest rfl fun cdv A outer s H E hr => ⟨_, (pss_cons (ps_set (i := 2) sc_lowest.nd rfl (by first | exact Or.inl rfl | exact Or.inr rfl) (pe_callBfun cr_gcd (by rfl) T.g_gcd (pa_cons (pv 0) (pa_cons (pv 1) pa_nil))))
    (pss_one (ps_ret (pe_tup (pa_cons (pe_op op_fdivW (pv 0) (pv 2)) (pa_cons (pe_op op_fdivW (pv 1) (pv 2)) pa_nil)))))),
    (rs_seq (rs_asg (re_CB rc_gcd (ra_cons re_var (ra_cons re_var ra_nil))) rg_name)
    (rs_ret (re_tup (ra_cons (re_op ro_fdiv re_var re_var) (ra_cons (re_op ro_fdiv re_var re_var) ra_nil)))))⟩
theorem G_plus_z (T : Txt K mg) : FnOk P w K mg base CX0 2 T.a_plus T.fd_plus ["one", "other"] (spF K mg 2 f_plus_z) :=
  fn_dl (k := 1) T.F_plus sc_plus rfl fun cdv A outer s H E hr => ⟨_, (pss_cons (ps_set (i := 2) sc_plus.nd rfl (by first | exact Or.inl rfl | exact Or.inr rfl) (pe_callBfun cr_gcd (by rfl) T.g_gcd (pa_cons (pe_ix ix_seq (pv 0) pe_int (fun _ _ => rfl)) (pa_cons (pe_ix ix_seq (pv 1) pe_int (fun _ _ => rfl)) pa_nil))))
    (pss_cons (ps_set (i := 3) sc_plus.nd rfl (by first | exact Or.inl rfl | exact Or.inr rfl) (pe_op op_fdivW (pe_ix ix_seq (pv 0) pe_int (fun _ _ => rfl)) (pv 2)))
    (pss_cons (ps_asg (pe_call (G_lowest_z T) (hr.mono (by first | decide | omega)) (by rfl) T.g_lowest T.F_lowest.kp T.b_lowest .nil pass0 (pa_cons (pe_op op_addG (pe_op op_mulW (pe_ix ix_seq (pv 0) pe_int (fun _ _ => rfl)) (pe_op op_fdivW (pe_ix ix_seq (pv 1) pe_int (fun _ _ => rfl)) (pv 2))) (pe_op op_mulW (pe_ix ix_seq (pv 1) pe_int (fun _ _ => rfl)) (pv 3))) (pa_cons (pv 2) pa_nil))) (pg_tup (by rfl) (pgs_cons (pg_name (i := 4) sc_plus.nd rfl (by first | exact Or.inl rfl | exact Or.inr rfl)) (pgs_cons (pg_name (i := 5) sc_plus.nd rfl (by first | exact Or.inl rfl | exact Or.inr rfl)) pgs_nil))))
    (pss_one (ps_ret (pe_tup (pa_cons (pv 4) (pa_cons (pe_op op_mulW (pe_op op_mulW (pv 5) (pv 3)) (pe_op op_fdivW (pe_ix ix_seq (pv 1) pe_int (fun _ _ => rfl)) (pv 2))) pa_nil)))))))),
    (rs_seq (rs_asg (re_CB rc_gcd (ra_cons (re_op ro_ix re_var re_int) (ra_cons (re_op ro_ix re_var re_int) ra_nil))) rg_name)
    (rs_seq (rs_asg (re_op ro_fdiv (re_op ro_ix re_var re_int) re_var) rg_name)
    (rs_seq (rs_asg (re_call0 (ra_cons (re_op (ro_add (m := false)) (re_op ro_mul (re_op ro_ix re_var re_int) (re_op ro_fdiv (re_op ro_ix re_var re_int) re_var)) (re_op ro_mul (re_op ro_ix re_var re_int) re_var)) (ra_cons re_var ra_nil))) (rg_tup (rgs_cons rg_name (rgs_cons rg_name rgs_nil))))
    (rs_ret (re_tup (ra_cons re_var (ra_cons (re_op ro_mul (re_op ro_mul re_var re_var) (re_op ro_fdiv (re_op ro_ix re_var re_int) re_var)) ra_nil)))))))⟩
theorem G_sums_z (T : Txt K mg) : FnOk P w K mg base CX0 3 T.a_sums T.fd_sums ["amounts"] (spF K mg 1 f_sums_z) :=
  fn_dl (k := 2) T.F_sums sc_sums rfl fun cdv A outer s H E hr => ⟨_, (pss_cons (ps_set (i := 1) sc_sums.nd rfl (by first | exact Or.inl rfl | exact Or.inr rfl) (pe_lst (pa_cons (pe_glob (v := .ref T.a_NOUGHT) (by rfl) T.g_NOUGHT rfl) pa_nil)))
    (pss_cons (ps_for PassesOwn.never rfl (pi_list (pv 0)) (pg_name (i := 2) sc_sums.nd rfl (by first | exact Or.inl rfl | exact Or.inr rfl))
    (pss_one (ps_expr (pe_bm PySem.F.plainAttrs_list PySem.F.slot_list_append PySem.F.type_list_append mt_append (pv 1) (pa_cons (pe_call (G_plus_z T) (hr.mono (by first | decide | omega)) (by rfl) T.g_plus T.F_plus.kp T.b_plus .nil pass0 (pa_cons (pe_ix ix_seq (pv 1) (pe_un un_neg pe_int) (fun _ _ => rfl)) (pa_cons (pv 2) pa_nil))) pa_nil)))))
    (pss_one (ps_ret (pv 1))))),
    (rs_seq (rs_asg (re_lst (m := true) (ra_cons (re_c T.d_NOUGHT) ra_nil)) rg_name)
    (rs_seq (rs_for (ri_list re_var) rg_name
    (rs_drop (re_BM rm_append re_var (ra_cons (re_call0 (ra_cons (re_op ro_ix re_var (re_un ru_neg re_int)) (ra_cons re_var ra_nil))) ra_nil))))
    (rs_ret re_var)))⟩
theorem G_stretches_z (T : Txt K mg) : FnOk P w K mg base CX0 1 T.a_stretches T.fd_stretches ["floors", "bolted"] (spF K mg 2 f_stretches_z) :=
  fn_dl (k := 0) T.F_stretches sc_stretches rfl fun cdv A outer s H E hr => ⟨_, (pss_cons (ps_set (i := 2) sc_stretches.nd rfl (by first | exact Or.inl rfl | exact Or.inr rfl) (pe_op op_addG (pe_op op_addG (pe_lst (pa_cons pe_int pa_nil)) (pe_callB cr_sortB (by rfl) T.z_sorted (by decide +kernel) (pa_cons (pv 1) pa_nil))) (pe_lst (pa_cons (pe_callB cr_len (by rfl) T.z_len (by decide +kernel) (pa_cons (pv 0) pa_nil)) pa_nil))))
    (pss_one (ps_ret (DLZ.pe_listZip rfl (by rfl) T.z_list (by rfl) T.z_zip (pa_cons (pv 2) (pa_cons (pe_slice sl_list (pv 2) (po_some pe_int) po_none) pa_nil)))))),
    (rs_seq (rs_asg (re_op (ro_add (m := false)) (re_op (ro_add (m := false)) (re_lst (m := false) (ra_cons re_int ra_nil)) (re_CB (rc_sortB (m := false)) (ra_cons re_var ra_nil))) (re_lst (m := false) (ra_cons (re_CB rc_len (ra_cons re_var ra_nil)) ra_nil))) rg_name)
    (rs_ret (re_lz (m := false) (ra_cons re_var (ra_cons (re_slL (m := false) re_var (ro_some re_int) ro_none) ra_nil)))))⟩
theorem G_share_z (T : Txt K mg) : FnOk P w K mg base CX0 2 T.a_share T.fd_share ["amount", "part", "whole"] (spF K mg 3 f_share_z) :=
  fn_dl (k := 1) T.F_share sc_share rfl fun cdv A outer s H E hr => ⟨_, (pss_cons (ps_asg (pe_call (G_lowest_z T) (hr.mono (by first | decide | omega)) (by rfl) T.g_lowest T.F_lowest.kp T.b_lowest .nil pass0 (pa_cons (pv 1) (pa_cons (pv 2) pa_nil))) (pg_tup (by rfl) (pgs_cons (pg_name (i := 1) sc_share.nd rfl (by first | exact Or.inl rfl | exact Or.inr rfl)) (pgs_cons (pg_name (i := 2) sc_share.nd rfl (by first | exact Or.inl rfl | exact Or.inr rfl)) pgs_nil))))
    (pss_cons (ps_asg (pe_call (G_lowest_z T) (hr.mono (by first | decide | omega)) (by rfl) T.g_lowest T.F_lowest.kp T.b_lowest .nil pass0 (pa_cons (pe_ix ix_seq (pv 0) pe_int (fun _ _ => rfl)) (pa_cons (pv 2) pa_nil))) (pg_tup (by rfl) (pgs_cons (pg_name (i := 3) sc_share.nd rfl (by first | exact Or.inl rfl | exact Or.inr rfl)) (pgs_cons (pg_name (i := 2) sc_share.nd rfl (by first | exact Or.inl rfl | exact Or.inr rfl)) pgs_nil))))
    (pss_cons (ps_asg (pe_call (G_lowest_z T) (hr.mono (by first | decide | omega)) (by rfl) T.g_lowest T.F_lowest.kp T.b_lowest .nil pass0 (pa_cons (pv 1) (pa_cons (pe_ix ix_seq (pv 0) pe_int (fun _ _ => rfl)) pa_nil))) (pg_tup (by rfl) (pgs_cons (pg_name (i := 1) sc_share.nd rfl (by first | exact Or.inl rfl | exact Or.inr rfl)) (pgs_cons (pg_name (i := 4) sc_share.nd rfl (by first | exact Or.inl rfl | exact Or.inr rfl)) pgs_nil))))
    (pss_one (ps_ret (pe_tup (pa_cons (pe_op op_mulW (pv 3) (pv 1)) (pa_cons (pe_op op_mulW (pv 4) (pv 2)) pa_nil)))))))),
    (rs_seq (rs_asg (re_call0 (ra_cons re_var (ra_cons re_var ra_nil))) (rg_tup (rgs_cons rg_name (rgs_cons rg_name rgs_nil))))
    (rs_seq (rs_asg (re_call0 (ra_cons (re_op ro_ix re_var re_int) (ra_cons re_var ra_nil))) (rg_tup (rgs_cons rg_name (rgs_cons rg_name rgs_nil))))
    (rs_seq (rs_asg (re_call0 (ra_cons re_var (ra_cons (re_op ro_ix re_var re_int) ra_nil))) (rg_tup (rgs_cons rg_name (rgs_cons rg_name rgs_nil))))
    (rs_ret (re_tup (ra_cons (re_op ro_mul re_var re_var) (ra_cons (re_op ro_mul re_var re_var) ra_nil)))))))⟩
theorem G_pool_height_z (T : Txt K mg) : FnOk P w K mg base CX0 3 T.a_pool_height T.fd_pool_height ["pool"] (spF K mg 1 f_pool_height_z) :=
  fn_dl (k := 2) T.F_pool_height sc_pool_height rfl fun cdv A outer s H E hr => ⟨_, (pss_cons (ps_asg (pv 0) (pg_tup (by rfl) (pgs_cons (pg_name (i := 1) sc_pool_height.nd rfl (by first | exact Or.inl rfl | exact Or.inr rfl)) (pgs_cons (pg_name (i := 2) sc_pool_height.nd rfl (by first | exact Or.inl rfl | exact Or.inr rfl)) pgs_nil))))
    (pss_one (ps_ret (pe_call (G_share_z T) (hr.mono (by first | decide | omega)) (by rfl) T.g_share T.F_share.kp T.b_share .nil pass0 (pa_cons (pv 2) (pa_cons pe_int (pa_cons (pe_callB (cr_sum rfl) (by rfl) T.z_sum (by decide +kernel) (pa_cons (pv 1) pa_nil)) pa_nil))))))),
    (rs_seq (rs_asg re_var (rg_tup (rgs_cons rg_name (rgs_cons rg_name rgs_nil))))
    (rs_ret (re_call0 (ra_cons re_var (ra_cons re_int (ra_cons (re_CB rc_sum (ra_cons re_var ra_nil)) ra_nil))))))⟩
theorem G_pooled_z (T : Txt K mg) : FnOk P w K mg base CX0 4 T.a_pooled T.fd_pooled ["floors", "water"] (spF K mg 2 f_pooled_z) :=
  fn_dl (k := 3) T.F_pooled sc_pooled rfl fun cdv A outer s H E hr => ⟨_, (pss_cons (ps_set (i := 2) sc_pooled.nd rfl (by first | exact Or.inl rfl | exact Or.inr rfl) (pe_lst pa_nil))
    (pss_cons (ps_for PassesOwn.never rfl (pi_zip (by rfl) T.z_zip (pa_cons (pv 0) (pa_cons (pv 1) pa_nil))) (pg_tup (by rfl) (pgs_cons (pg_name (i := 3) sc_pooled.nd rfl (by first | exact Or.inl rfl | exact Or.inr rfl)) (pgs_cons (pg_name (i := 4) sc_pooled.nd rfl (by first | exact Or.inl rfl | exact Or.inr rfl)) pgs_nil)))
    (pss_cons (ps_set (i := 5) sc_pooled.nd rfl (by first | exact Or.inl rfl | exact Or.inr rfl) (pe_tup (pa_cons (pe_lst (pa_cons (pv 3) pa_nil)) (pa_cons (pv 4) pa_nil))))
    (pss_cons (ps_while PassesOwn.never (PW.pt (pw_and (pt_truth (pv 2) (by intro _; rfl)) (pw_and1 (pt_val (pe_call (G_above_z T) (hr.mono (by first | decide | omega)) (by rfl) T.g_above T.F_above.kp T.b_above .nil pass0 (pa_cons (pe_call (G_pool_height_z T) (hr.mono (by first | decide | omega)) (by rfl) T.g_pool_height T.F_pool_height.kp T.b_pool_height .nil pass0 (pa_cons (pe_ix ix_seq (pv 2) (pe_un un_neg pe_int) (fun _ _ => rfl)) pa_nil)) (pa_cons (pe_call (G_pool_height_z T) (hr.mono (by first | decide | omega)) (by rfl) T.g_pool_height T.F_pool_height.kp T.b_pool_height .nil pass0 (pa_cons (pv 5) pa_nil)) pa_nil)))))))
    (pss_cons (ps_asg (pe_bm0 PySem.F.plainAttrs_list PySem.F.slot_list_pop PySem.F.type_list_pop mt_pop (pv 2)) (pg_tup (by rfl) (pgs_cons (pg_name (i := 6) sc_pooled.nd rfl (by first | exact Or.inl rfl | exact Or.inr rfl)) (pgs_cons (pg_name (i := 7) sc_pooled.nd rfl (by first | exact Or.inl rfl | exact Or.inr rfl)) pgs_nil))))
    (pss_one (ps_set (i := 5) sc_pooled.nd rfl (by first | exact Or.inl rfl | exact Or.inr rfl) (pe_tup (pa_cons (pe_op op_addG (pv 6) (pe_ix ix_seq (pv 5) pe_int (fun _ _ => rfl))) (pa_cons (pe_call (G_plus_z T) (hr.mono (by first | decide | omega)) (by rfl) T.g_plus T.F_plus.kp T.b_plus .nil pass0 (pa_cons (pv 7) (pa_cons (pe_ix ix_seq (pv 5) pe_int (fun _ _ => rfl)) pa_nil))) pa_nil)))))))
    (pss_one (ps_expr (pe_bm PySem.F.plainAttrs_list PySem.F.slot_list_append PySem.F.type_list_append mt_append (pv 2) (pa_cons (pv 5) pa_nil)))))))
    (pss_one (ps_ret (pv 2))))),
    (rs_seq (rs_asg (re_lst (m := true) ra_nil) rg_name)
    (rs_seq (rs_for (ri_zip (ra_cons re_var (ra_cons re_var ra_nil))) (rg_tup (rgs_cons rg_name (rgs_cons rg_name rgs_nil)))
    (rs_seq (rs_asg (re_tup (ra_cons (re_lst (m := false) (ra_cons re_var ra_nil)) (ra_cons re_var ra_nil))) rg_name)
    (rs_seq (rs_while (rt_and (rt_tru re_var) (rt_B (re_call0 (ra_cons (re_call0 (ra_cons (re_op ro_ix re_var (re_un ru_neg re_int)) ra_nil)) (ra_cons (re_call0 (ra_cons re_var ra_nil)) ra_nil)))))
    (rs_seq (rs_asg (re_BM0 rm_pop re_var) (rg_tup (rgs_cons rg_name (rgs_cons rg_name rgs_nil))))
    (rs_asg (re_tup (ra_cons (re_op (ro_add (m := false)) re_var (re_op ro_ix re_var re_int)) (ra_cons (re_call0 (ra_cons re_var (ra_cons (re_op ro_ix re_var re_int) ra_nil))) ra_nil))) rg_name)))
    (rs_drop (re_BM rm_append re_var (ra_cons re_var ra_nil))))))
    (rs_ret re_var)))⟩
theorem G_at_rest_z (T : Txt K mg) : FnOk P w K mg base CX0 5 T.a_at_rest T.fd_at_rest ["floors", "water", "bolted"] (spF K mg 3 f_at_rest_z) :=
  fn_dl (k := 4) T.F_at_rest sc_at_rest rfl fun cdv A outer s H E hr => ⟨_, (pss_cons (ps_set (i := 3) sc_at_rest.nd rfl (by first | exact Or.inl rfl | exact Or.inr rfl) (pe_lst pa_nil))
    (pss_cons (ps_for PassesOwn.never rfl (pi_list (pe_call (G_stretches_z T) (hr.mono (by first | decide | omega)) (by rfl) T.g_stretches T.F_stretches.kp T.b_stretches .nil pass0 (pa_cons (pv 0) (pa_cons (pv 2) pa_nil)))) (pg_tup (by rfl) (pgs_cons (pg_name (i := 4) sc_at_rest.nd rfl (by first | exact Or.inl rfl | exact Or.inr rfl)) (pgs_cons (pg_name (i := 5) sc_at_rest.nd rfl (by first | exact Or.inl rfl | exact Or.inr rfl)) pgs_nil)))
    (pss_one (ps_for PassesOwn.never rfl (pi_list (pe_call (G_pooled_z T) (hr.mono (by first | decide | omega)) (by rfl) T.g_pooled T.F_pooled.kp T.b_pooled .nil pass0 (pa_cons (pe_slice sl_list (pv 0) (po_some (pv 4)) (po_some (pv 5))) (pa_cons (pe_slice sl_list (pv 1) (po_some (pv 4)) (po_some (pv 5))) pa_nil)))) (pg_tup (by rfl) (pgs_cons (pg_name (i := 6) sc_at_rest.nd rfl (by first | exact Or.inl rfl | exact Or.inr rfl)) (pgs_cons (pg_name (i := 7) sc_at_rest.nd rfl (by first | exact Or.inl rfl | exact Or.inr rfl)) pgs_nil)))
    (pss_cons (ps_set (i := 8) sc_at_rest.nd rfl (by first | exact Or.inl rfl | exact Or.inr rfl) (pe_callB (cr_sum rfl) (by rfl) T.z_sum (by decide +kernel) (pa_cons (pv 6) pa_nil)))
    (pss_one (ps_expr (pe_bm PySem.F.plainAttrs_list PySem.F.slot_list_extend PySem.F.type_list_extend mt_extend (pv 3) (pa_cons (pe_lc (own := [("floor", 9)]) (by rfl) sc_at_rest.nd (pi_list (pv 6)) (blkOk_by (own := [("floor", 9)]) (N := ns_at_rest) (sc := defScope s_at_rest) (by decide +kernel)) (fun _ _ _ _ _ => (pg_name (i := 9) sc_at_rest.nd rfl (by first | exact Or.inl rfl | exact Or.inr rfl))) (fun _ _ _ _ _ => pts_nil) (fun _ _ _ _ _ => (pe_call (G_share_z T) (hr.mono (by first | decide | omega)) (by rfl) T.g_share T.F_share.kp T.b_share .nil pass0 (pa_cons (pv 7) (pa_cons (pv 9) (pa_cons (pv 8) pa_nil)))))) pa_nil))))))))
    (pss_one (ps_ret (pv 3))))),
    (rs_seq (rs_asg (re_lst (m := true) ra_nil) rg_name)
    (rs_seq (rs_for (ri_list (re_call0 (ra_cons re_var (ra_cons re_var ra_nil)))) (rg_tup (rgs_cons rg_name (rgs_cons rg_name rgs_nil)))
    (rs_for (ri_list (re_call0 (ra_cons (re_slL (m := false) re_var (ro_some re_var) (ro_some re_var)) (ra_cons (re_slL (m := false) re_var (ro_some re_var) (ro_some re_var)) ra_nil)))) (rg_tup (rgs_cons rg_name (rgs_cons rg_name rgs_nil)))
    (rs_seq (rs_asg (re_CB rc_sum (ra_cons re_var ra_nil)) rg_name)
    (rs_drop (re_BM rm_extend re_var (ra_cons (re_lc (m := false) (vs := [9]) (ri_list re_var) (rgv_name (by decide)) rt_yes (re_call0 (ra_cons re_var (ra_cons re_var (ra_cons re_var ra_nil))))) ra_nil))))))
    (rs_ret re_var)))⟩
theorem H_law_kind (T : Txt K mg) : L2H.FnHX P w K mg base 1 T.a_law_kind T.fd_law_kind ["e"] (spH K mg CS_ h_law_kind) :=
  fn_dlH (k := 0) T.F_law_kind sc_law_kind rfl (by decide) fun c D hcs hD cdv A outer s H p dx hc hz hf hr => ⟨_, (pss_cons (ps_set (i := 1) sc_law_kind.nd rfl (by first | exact Or.inl rfl | exact Or.inr rfl) (pe_lst (pa_cons (pe_tup (pa_cons pe_str (pa_cons (pe_callB (call_isD hz hf) (by rfl) T.z_isinstance (by decide +kernel) (pa_cons (pv 0) (pa_cons (pe_glob (v := .ref T.c_NoFloors) (by rfl) T.g_NoFloors rfl) pa_nil))) pa_nil))) (pa_cons (pe_tup (pa_cons pe_str (pa_cons (pe_callB (call_isD hz hf) (by rfl) T.z_isinstance (by decide +kernel) (pa_cons (pv 0) (pa_cons (pe_glob (v := .ref T.c_NoWater) (by rfl) T.g_NoWater rfl) pa_nil))) pa_nil))) pa_nil))))
    (pss_cons (ps_set (i := 1) sc_law_kind.nd rfl (by first | exact Or.inl rfl | exact Or.inr rfl) (pe_op op_addG (pv 1) (pe_lst (pa_cons (pe_tup (pa_cons pe_str (pa_cons (pe_callB (call_isD hz hf) (by rfl) T.z_isinstance (by decide +kernel) (pa_cons (pv 0) (pa_cons (pe_glob (v := .ref T.c_NoFlap) (by rfl) T.g_NoFlap rfl) pa_nil))) pa_nil))) (pa_cons (pe_tup (pa_cons pe_str (pa_cons (pe_callB (call_isD hz hf) (by rfl) T.z_isinstance (by decide +kernel) (pa_cons (pv 0) (pa_cons (pe_glob (v := .ref T.c_NoStep) (by rfl) T.g_NoStep rfl) pa_nil))) pa_nil))) pa_nil)))))
    (pss_cons (ps_set (i := 1) sc_law_kind.nd rfl (by first | exact Or.inl rfl | exact Or.inr rfl) (pe_op op_addG (pv 1) (pe_lst (pa_cons (pe_tup (pa_cons pe_str (pa_cons (pe_callB (call_isD hz hf) (by rfl) T.z_isinstance (by decide +kernel) (pa_cons (pv 0) (pa_cons (pe_glob (v := .ref T.c_NoTable) (by rfl) T.g_NoTable rfl) pa_nil))) pa_nil))) (pa_cons (pe_tup (pa_cons pe_str (pa_cons (pe_callB (call_isD hz hf) (by rfl) T.z_isinstance (by decide +kernel) (pa_cons (pv 0) (pa_cons (pe_glob (v := .ref T.c_NoRows) (by rfl) T.g_NoRows rfl) pa_nil))) pa_nil))) pa_nil)))))
    (pss_cons (ps_set (i := 1) sc_law_kind.nd rfl (by first | exact Or.inl rfl | exact Or.inr rfl) (pe_op op_addG (pv 1) (pe_lst (pa_cons (pe_tup (pa_cons pe_str (pa_cons (pe_callB (call_isD hz hf) (by rfl) T.z_isinstance (by decide +kernel) (pa_cons (pv 0) (pa_cons (pe_glob (v := .ref T.c_NoDrop) (by rfl) T.g_NoDrop rfl) pa_nil))) pa_nil))) (pa_cons (pe_tup (pa_cons pe_str (pa_cons (pe_callB (call_isD hz hf) (by rfl) T.z_isinstance (by decide +kernel) (pa_cons (pv 0) (pa_cons (pe_glob (v := .ref T.c_NoTank) (by rfl) T.g_NoTank rfl) pa_nil))) pa_nil))) pa_nil)))))
    (pss_cons (ps_set (i := 1) sc_law_kind.nd rfl (by first | exact Or.inl rfl | exact Or.inr rfl) (pe_op op_addG (pv 1) (pe_lst (pa_cons (pe_tup (pa_cons pe_str (pa_cons (pe_callB (call_isD hz hf) (by rfl) T.z_isinstance (by decide +kernel) (pa_cons (pv 0) (pa_cons (pe_glob (v := .ref T.c_NoRain) (by rfl) T.g_NoRain rfl) pa_nil))) pa_nil))) (pa_cons (pe_tup (pa_cons pe_str (pa_cons (pe_callB (call_isD hz hf) (by rfl) T.z_isinstance (by decide +kernel) (pa_cons (pv 0) (pa_cons (pe_glob (v := .ref T.c_NoOrder) (by rfl) T.g_NoOrder rfl) pa_nil))) pa_nil))) pa_nil)))))
    (pss_cons (ps_expr (pe_bm PySem.F.plainAttrs_list PySem.F.slot_list_append PySem.F.type_list_append mt_append (pv 1) (pa_cons (pe_tup (pa_cons pe_str (pa_cons (pe_callB (call_isD hz hf) (by rfl) T.z_isinstance (by decide +kernel) (pa_cons (pv 0) (pa_cons (pe_glob (v := .ref T.c_NoText) (by rfl) T.g_NoText rfl) pa_nil))) pa_nil))) pa_nil)))
    (pss_one (ps_ret (pe_op op_addG (L2H.pe_lcH (own := [("word", 2), ("so", 3)]) hc sc_law_kind.nd (L2H.pi_listH (pv 1)) (blkOk_by (own := [("word", 2), ("so", 3)]) (N := ns_law_kind) (sc := defScope s_law_kind) (by decide +kernel)) (fun _ _ _ _ _ _ hh => (L2H.pg_tupH hh (pgs_cons (pg_name (i := 2) sc_law_kind.nd rfl (by first | exact Or.inl rfl | exact Or.inr rfl)) (pgs_cons (pg_name (i := 3) sc_law_kind.nd rfl (by first | exact Or.inl rfl | exact Or.inr rfl)) pgs_nil)))) (fun _ _ _ _ _ _ hh => (L2H.pts_truthH hh (pv 3) (by intro _; rfl))) (fun _ _ _ _ _ _ hh => L2H.pe_h hh (pv 2))) (pe_lst (pa_cons (pe_xf (WX_ T c hcs D hD).1 (WX_ T c hcs D hD).2 hz hf (pv 0)) (pa_cons (pe_callB (call_isD hz hf) (by rfl) T.z_isinstance (by decide +kernel) (pa_cons (pv 0) (pa_cons (pe_bltn (v := .ty "ValueError") (u := .type "ValueError") (by rfl) T.z_ValueError (by decide +kernel) rfl) pa_nil))) pa_nil)))))))))))),
    fun v w => by
    unfold bh_law_kind
    exact (qs_seq (qs_asg (j := 1) (qe_lst (m := true) (qa_cons (qe_tup (qa_cons (qe re_str) (qa_cons (qe_is (KX_NoFloors T c hcs D hD).1 (ClsV.own _) (KX_NoFloors T c hcs D hD).2) (qa ra_nil)))) (qa_cons (qe_tup (qa_cons (qe re_str) (qa_cons (qe_is (KX_NoWater T c hcs D hD).1 (ClsV.own _) (KX_NoWater T c hcs D hD).2) (qa ra_nil)))) (qa ra_nil)))) (by show (1 : Nat) ≠ 0; decide))
    (qs_seq (qs_asg (j := 1) (qe_op (ro_add (m := true)) (qe re_var) (qe_lst (m := false) (qa_cons (qe_tup (qa_cons (qe re_str) (qa_cons (qe_is (KX_NoFlap T c hcs D hD).1 (ClsV.own _) (KX_NoFlap T c hcs D hD).2) (qa ra_nil)))) (qa_cons (qe_tup (qa_cons (qe re_str) (qa_cons (qe_is (KX_NoStep T c hcs D hD).1 (ClsV.own _) (KX_NoStep T c hcs D hD).2) (qa ra_nil)))) (qa ra_nil))))) (by show (1 : Nat) ≠ 0; decide))
    (qs_seq (qs_asg (j := 1) (qe_op (ro_add (m := true)) (qe re_var) (qe_lst (m := false) (qa_cons (qe_tup (qa_cons (qe re_str) (qa_cons (qe_is (KX_NoTable T c hcs D hD).1 (ClsV.own _) (KX_NoTable T c hcs D hD).2) (qa ra_nil)))) (qa_cons (qe_tup (qa_cons (qe re_str) (qa_cons (qe_is (KX_NoRows T c hcs D hD).1 (ClsV.own _) (KX_NoRows T c hcs D hD).2) (qa ra_nil)))) (qa ra_nil))))) (by show (1 : Nat) ≠ 0; decide))
    (qs_seq (qs_asg (j := 1) (qe_op (ro_add (m := true)) (qe re_var) (qe_lst (m := false) (qa_cons (qe_tup (qa_cons (qe re_str) (qa_cons (qe_is (KX_NoDrop T c hcs D hD).1 (ClsV.own _) (KX_NoDrop T c hcs D hD).2) (qa ra_nil)))) (qa_cons (qe_tup (qa_cons (qe re_str) (qa_cons (qe_is (KX_NoTank T c hcs D hD).1 (ClsV.own _) (KX_NoTank T c hcs D hD).2) (qa ra_nil)))) (qa ra_nil))))) (by show (1 : Nat) ≠ 0; decide))
    (qs_seq (qs_asg (j := 1) (qe_op (ro_add (m := true)) (qe re_var) (qe_lst (m := false) (qa_cons (qe_tup (qa_cons (qe re_str) (qa_cons (qe_is (KX_NoRain T c hcs D hD).1 (ClsV.own _) (KX_NoRain T c hcs D hD).2) (qa ra_nil)))) (qa_cons (qe_tup (qa_cons (qe re_str) (qa_cons (qe_is (KX_NoOrder T c hcs D hD).1 (ClsV.own _) (KX_NoOrder T c hcs D hD).2) (qa ra_nil)))) (qa ra_nil))))) (by show (1 : Nat) ≠ 0; decide))
    (qs_seq (qs_drop (qe_BM rm_append (qe re_var) (qa_cons (qe_tup (qa_cons (qe re_str) (qa_cons (qe_is (KX_NoText T c hcs D hD).1 (ClsV.own _) (KX_NoText T c hcs D hD).2) (qa ra_nil)))) (qa ra_nil))))
    (qs_ret (qe_op (ro_add (m := false)) (qe (re_lc (m := false) (vs := [2, 3]) (ri_list re_var) (rgv_tup (rgsv_cons (rgv_name (by decide)) (rgsv_cons (rgv_name (by decide)) rgsv_nil))) (rt_tru re_var) re_var)) (qe_lst (m := false) (qa_cons qe_what (qa_cons (qe_is (KX_ValueError T c hcs D hD).1 (ClsV.ty _) (KX_ValueError T c hcs D hD).2) (qa ra_nil))))))))))))⟩
theorem G_law_kind_z (T : Txt K mg) : FnOk P w K mg base CX0 1 T.a_law_kind T.fd_law_kind ["e"] (spF K mg 1 f_law_kind_z) :=
  fn_dl (k := 0) T.F_law_kind sc_law_kind rfl fun cdv A outer s H E hr => ⟨_, (pss_cons (ps_set (i := 1) sc_law_kind.nd rfl (by first | exact Or.inl rfl | exact Or.inr rfl) (pe_lst (pa_cons (pe_tup (pa_cons pe_str (pa_cons (pe_callB call_isK (by rfl) T.z_isinstance (by decide +kernel) (pa_cons (pv 0) (pa_cons (pe_glob (v := .ref T.c_NoFloors) (by rfl) T.g_NoFloors rfl) pa_nil))) pa_nil))) (pa_cons (pe_tup (pa_cons pe_str (pa_cons (pe_callB call_isK (by rfl) T.z_isinstance (by decide +kernel) (pa_cons (pv 0) (pa_cons (pe_glob (v := .ref T.c_NoWater) (by rfl) T.g_NoWater rfl) pa_nil))) pa_nil))) pa_nil))))
    (pss_cons (ps_set (i := 1) sc_law_kind.nd rfl (by first | exact Or.inl rfl | exact Or.inr rfl) (pe_op op_addG (pv 1) (pe_lst (pa_cons (pe_tup (pa_cons pe_str (pa_cons (pe_callB call_isK (by rfl) T.z_isinstance (by decide +kernel) (pa_cons (pv 0) (pa_cons (pe_glob (v := .ref T.c_NoFlap) (by rfl) T.g_NoFlap rfl) pa_nil))) pa_nil))) (pa_cons (pe_tup (pa_cons pe_str (pa_cons (pe_callB call_isK (by rfl) T.z_isinstance (by decide +kernel) (pa_cons (pv 0) (pa_cons (pe_glob (v := .ref T.c_NoStep) (by rfl) T.g_NoStep rfl) pa_nil))) pa_nil))) pa_nil)))))
    (pss_cons (ps_set (i := 1) sc_law_kind.nd rfl (by first | exact Or.inl rfl | exact Or.inr rfl) (pe_op op_addG (pv 1) (pe_lst (pa_cons (pe_tup (pa_cons pe_str (pa_cons (pe_callB call_isK (by rfl) T.z_isinstance (by decide +kernel) (pa_cons (pv 0) (pa_cons (pe_glob (v := .ref T.c_NoTable) (by rfl) T.g_NoTable rfl) pa_nil))) pa_nil))) (pa_cons (pe_tup (pa_cons pe_str (pa_cons (pe_callB call_isK (by rfl) T.z_isinstance (by decide +kernel) (pa_cons (pv 0) (pa_cons (pe_glob (v := .ref T.c_NoRows) (by rfl) T.g_NoRows rfl) pa_nil))) pa_nil))) pa_nil)))))
    (pss_cons (ps_set (i := 1) sc_law_kind.nd rfl (by first | exact Or.inl rfl | exact Or.inr rfl) (pe_op op_addG (pv 1) (pe_lst (pa_cons (pe_tup (pa_cons pe_str (pa_cons (pe_callB call_isK (by rfl) T.z_isinstance (by decide +kernel) (pa_cons (pv 0) (pa_cons (pe_glob (v := .ref T.c_NoDrop) (by rfl) T.g_NoDrop rfl) pa_nil))) pa_nil))) (pa_cons (pe_tup (pa_cons pe_str (pa_cons (pe_callB call_isK (by rfl) T.z_isinstance (by decide +kernel) (pa_cons (pv 0) (pa_cons (pe_glob (v := .ref T.c_NoTank) (by rfl) T.g_NoTank rfl) pa_nil))) pa_nil))) pa_nil)))))
    (pss_cons (ps_set (i := 1) sc_law_kind.nd rfl (by first | exact Or.inl rfl | exact Or.inr rfl) (pe_op op_addG (pv 1) (pe_lst (pa_cons (pe_tup (pa_cons pe_str (pa_cons (pe_callB call_isK (by rfl) T.z_isinstance (by decide +kernel) (pa_cons (pv 0) (pa_cons (pe_glob (v := .ref T.c_NoRain) (by rfl) T.g_NoRain rfl) pa_nil))) pa_nil))) (pa_cons (pe_tup (pa_cons pe_str (pa_cons (pe_callB call_isK (by rfl) T.z_isinstance (by decide +kernel) (pa_cons (pv 0) (pa_cons (pe_glob (v := .ref T.c_NoOrder) (by rfl) T.g_NoOrder rfl) pa_nil))) pa_nil))) pa_nil)))))
    (pss_cons (ps_expr (pe_bm PySem.F.plainAttrs_list PySem.F.slot_list_append PySem.F.type_list_append mt_append (pv 1) (pa_cons (pe_tup (pa_cons pe_str (pa_cons (pe_callB call_isK (by rfl) T.z_isinstance (by decide +kernel) (pa_cons (pv 0) (pa_cons (pe_glob (v := .ref T.c_NoText) (by rfl) T.g_NoText rfl) pa_nil))) pa_nil))) pa_nil)))
    (pss_one (ps_ret (pe_op op_addG (pe_lc (own := [("word", 2), ("so", 3)]) (by rfl) sc_law_kind.nd (pi_list (pv 1)) (blkOk_by (own := [("word", 2), ("so", 3)]) (N := ns_law_kind) (sc := defScope s_law_kind) (by decide +kernel)) (fun _ _ _ _ _ => (pg_tup (by rfl) (pgs_cons (pg_name (i := 2) sc_law_kind.nd rfl (by first | exact Or.inl rfl | exact Or.inr rfl)) (pgs_cons (pg_name (i := 3) sc_law_kind.nd rfl (by first | exact Or.inl rfl | exact Or.inr rfl)) pgs_nil)))) (fun _ _ _ _ _ => (pts_one (pt_truth (pv 3) (by intro _; rfl)))) (fun _ _ _ _ _ => (pv 2))) (pe_lst (pa_cons (pe_whK (pv 0)) (pa_cons (pe_callB call_isK (by rfl) T.z_isinstance (by decide +kernel) (pa_cons (pv 0) (pa_cons (pe_bltn (v := .ty "ValueError") (u := .type "ValueError") (by rfl) T.z_ValueError (by decide +kernel) rfl) pa_nil))) pa_nil)))))))))))),
    (rs_seq (rs_asg (re_lst (m := true) (ra_cons (re_tup (ra_cons re_str (ra_cons (re_isX (ClsV.own _) (KX_NoFloors T) re_var) ra_nil))) (ra_cons (re_tup (ra_cons re_str (ra_cons (re_isX (ClsV.own _) (KX_NoWater T) re_var) ra_nil))) ra_nil))) rg_name)
    (rs_seq (rs_asg (re_op (ro_add (m := true)) re_var (re_lst (m := false) (ra_cons (re_tup (ra_cons re_str (ra_cons (re_isX (ClsV.own _) (KX_NoFlap T) re_var) ra_nil))) (ra_cons (re_tup (ra_cons re_str (ra_cons (re_isX (ClsV.own _) (KX_NoStep T) re_var) ra_nil))) ra_nil)))) rg_name)
    (rs_seq (rs_asg (re_op (ro_add (m := true)) re_var (re_lst (m := false) (ra_cons (re_tup (ra_cons re_str (ra_cons (re_isX (ClsV.own _) (KX_NoTable T) re_var) ra_nil))) (ra_cons (re_tup (ra_cons re_str (ra_cons (re_isX (ClsV.own _) (KX_NoRows T) re_var) ra_nil))) ra_nil)))) rg_name)
    (rs_seq (rs_asg (re_op (ro_add (m := true)) re_var (re_lst (m := false) (ra_cons (re_tup (ra_cons re_str (ra_cons (re_isX (ClsV.own _) (KX_NoDrop T) re_var) ra_nil))) (ra_cons (re_tup (ra_cons re_str (ra_cons (re_isX (ClsV.own _) (KX_NoTank T) re_var) ra_nil))) ra_nil)))) rg_name)
    (rs_seq (rs_asg (re_op (ro_add (m := true)) re_var (re_lst (m := false) (ra_cons (re_tup (ra_cons re_str (ra_cons (re_isX (ClsV.own _) (KX_NoRain T) re_var) ra_nil))) (ra_cons (re_tup (ra_cons re_str (ra_cons (re_isX (ClsV.own _) (KX_NoOrder T) re_var) ra_nil))) ra_nil)))) rg_name)
    (rs_seq (rs_drop (re_BM rm_append re_var (ra_cons (re_tup (ra_cons re_str (ra_cons (re_isX (ClsV.own _) (KX_NoText T) re_var) ra_nil))) ra_nil)))
    (rs_ret (re_op (ro_add (m := false)) (re_lc (m := false) (vs := [2, 3]) (ri_list re_var) (rgv_tup (rgsv_cons (rgv_name (by decide)) (rgsv_cons (rgv_name (by decide)) rgsv_nil))) (rt_tru re_var) re_var) (re_lst (m := false) (ra_cons (re_whX (WX_ T) re_var) (ra_cons (re_isX (ClsV.ty _) (KX_ValueError T) re_var) ra_nil)))))))))))⟩
theorem G_check_floors_x (T : Txt K mg)  (hx_NoFloors : PySem.ExS.ExT P K mg T.c_NoFloors T.i_NoFloors) (hx_NoWater : PySem.ExS.ExT P K mg T.c_NoWater T.i_NoWater) (hx_NoFlap : PySem.ExS.ExT P K mg T.c_NoFlap T.i_NoFlap) (hx_NoStep : PySem.ExS.ExT P K mg T.c_NoStep T.i_NoStep) (hx_NoTable : PySem.ExS.ExT P K mg T.c_NoTable T.i_NoTable) (hx_NoRows : PySem.ExS.ExT P K mg T.c_NoRows T.i_NoRows) (hx_NoDrop : PySem.ExS.ExT P K mg T.c_NoDrop T.i_NoDrop) (hx_NoTank : PySem.ExS.ExT P K mg T.c_NoTank T.i_NoTank) (hx_NoRain : PySem.ExS.ExT P K mg T.c_NoRain T.i_NoRain) (hx_NoOrder : PySem.ExS.ExT P K mg T.c_NoOrder T.i_NoOrder) (hx_NoText : PySem.ExS.ExT P K mg T.c_NoText T.i_NoText) : FnOk P w K mg base (L2N.CX P w) 3 T.a_check_floors T.fd_check_floors ["floors"] (spX K mg 1 f_check_floors_x) :=
  fn_dlXN (k := 2) T.F_check_floors sc_check_floors rfl fun cdv A outer s H E hr tk => ⟨_, (pss_cons (ps_if (pt_cmpR (op_eqD hr.units) (pe_callB cr_len (by rfl) T.z_len (by decide +kernel) (pa_cons (pv 0) pa_nil)) pe_int (nomark _))
    (pss_one (L2N.ps_raise rfl tk (L2N.pmk_whatN (k := 0) hx_NoFloors (hr.mono (by first | decide | omega)) (pa_cons pe_non pa_nil) (by rfl) T.g_NoFloors)))
    pss_nil)
    (pss_one (ps_for (passes_of rfl) rfl (pi_enum (by rfl) T.z_enumerate (pa_cons (pv 0) pa_nil)) (pg_tup (by rfl) (pgs_cons (pg_name (i := 1) sc_check_floors.nd rfl (by first | exact Or.inl rfl | exact Or.inr rfl)) (pgs_cons (pg_name (i := 2) sc_check_floors.nd rfl (by first | exact Or.inl rfl | exact Or.inr rfl)) pgs_nil)))
    (pss_one (ps_if (pt_cmpR op_lt (pv 2) pe_int (nomark _))
    (pss_one (L2N.ps_raise rfl tk (L2N.pmk_whatN (k := 0) hx_NoFloors (hr.mono (by first | decide | omega)) (pa_cons (pv 1) pa_nil) (by rfl) T.g_NoFloors)))
    pss_nil))))),
    (rx_seq (rx_if (rt_test (re_op ro_eq (re_CB rc_len (ra_cons re_var ra_nil)) re_int))
    (rx_raise T.g_NoFloors re_non)
    (rx_ok rs_next))
    (rx_for (ri_enum (ra_cons re_var ra_nil)) (rg_tup (rgs_cons rg_name (rgs_cons rg_name rgs_nil)))
    (rx_if (rt_test (re_op ro_lt re_var re_int))
    (rx_raise T.g_NoFloors re_var)
    (rx_ok rs_next))))⟩
theorem G_check_water_x (T : Txt K mg)  (hx_NoFloors : PySem.ExS.ExT P K mg T.c_NoFloors T.i_NoFloors) (hx_NoWater : PySem.ExS.ExT P K mg T.c_NoWater T.i_NoWater) (hx_NoFlap : PySem.ExS.ExT P K mg T.c_NoFlap T.i_NoFlap) (hx_NoStep : PySem.ExS.ExT P K mg T.c_NoStep T.i_NoStep) (hx_NoTable : PySem.ExS.ExT P K mg T.c_NoTable T.i_NoTable) (hx_NoRows : PySem.ExS.ExT P K mg T.c_NoRows T.i_NoRows) (hx_NoDrop : PySem.ExS.ExT P K mg T.c_NoDrop T.i_NoDrop) (hx_NoTank : PySem.ExS.ExT P K mg T.c_NoTank T.i_NoTank) (hx_NoRain : PySem.ExS.ExT P K mg T.c_NoRain T.i_NoRain) (hx_NoOrder : PySem.ExS.ExT P K mg T.c_NoOrder T.i_NoOrder) (hx_NoText : PySem.ExS.ExT P K mg T.c_NoText T.i_NoText) : FnOk P w K mg base (L2N.CX P w) 3 T.a_check_water T.fd_check_water ["floors", "water"] (spX K mg 2 f_check_water_x) :=
  fn_dlXN (k := 2) T.F_check_water sc_check_water rfl fun cdv A outer s H E hr tk => ⟨_, (pss_cons (ps_if (pt_cmpR (op_neD hr.units) (pe_callB cr_len (by rfl) T.z_len (by decide +kernel) (pa_cons (pv 1) pa_nil)) (pe_callB cr_len (by rfl) T.z_len (by decide +kernel) (pa_cons (pv 0) pa_nil)) (nomark _))
    (pss_one (L2N.ps_raise rfl tk (L2N.pmk_whatN (k := 0) hx_NoWater (hr.mono (by first | decide | omega)) (pa_cons pe_non pa_nil) (by rfl) T.g_NoWater)))
    pss_nil)
    (pss_one (ps_for (passes_of rfl) rfl (pi_enum (by rfl) T.z_enumerate (pa_cons (pv 1) pa_nil)) (pg_tup (by rfl) (pgs_cons (pg_name (i := 2) sc_check_water.nd rfl (by first | exact Or.inl rfl | exact Or.inr rfl)) (pgs_cons (pg_name (i := 3) sc_check_water.nd rfl (by first | exact Or.inl rfl | exact Or.inr rfl)) pgs_nil)))
    (pss_one (ps_if (pt_val (pe_call (G_above_z T) (hr.mono (by first | decide | omega)) (by rfl) T.g_above T.F_above.kp T.b_above .nil pass0 (pa_cons (pe_glob (v := .ref T.a_NOUGHT) (by rfl) T.g_NOUGHT rfl) (pa_cons (pv 3) pa_nil))))
    (pss_one (L2N.ps_raise rfl tk (L2N.pmk_whatN (k := 0) hx_NoWater (hr.mono (by first | decide | omega)) (pa_cons (pv 2) pa_nil) (by rfl) T.g_NoWater)))
    pss_nil))))),
    (rx_seq (rx_if (rt_test (re_op ro_ne (re_CB rc_len (ra_cons re_var ra_nil)) (re_CB rc_len (ra_cons re_var ra_nil))))
    (rx_raise T.g_NoWater re_non)
    (rx_ok rs_next))
    (rx_for (ri_enum (ra_cons re_var ra_nil)) (rg_tup (rgs_cons rg_name (rgs_cons rg_name rgs_nil)))
    (rx_if (rt_B (re_call0 (ra_cons (re_c T.d_NOUGHT) (ra_cons re_var ra_nil))))
    (rx_raise T.g_NoWater re_var)
    (rx_ok rs_next))))⟩
theorem G_check_bolted_x (T : Txt K mg)  (hx_NoFloors : PySem.ExS.ExT P K mg T.c_NoFloors T.i_NoFloors) (hx_NoWater : PySem.ExS.ExT P K mg T.c_NoWater T.i_NoWater) (hx_NoFlap : PySem.ExS.ExT P K mg T.c_NoFlap T.i_NoFlap) (hx_NoStep : PySem.ExS.ExT P K mg T.c_NoStep T.i_NoStep) (hx_NoTable : PySem.ExS.ExT P K mg T.c_NoTable T.i_NoTable) (hx_NoRows : PySem.ExS.ExT P K mg T.c_NoRows T.i_NoRows) (hx_NoDrop : PySem.ExS.ExT P K mg T.c_NoDrop T.i_NoDrop) (hx_NoTank : PySem.ExS.ExT P K mg T.c_NoTank T.i_NoTank) (hx_NoRain : PySem.ExS.ExT P K mg T.c_NoRain T.i_NoRain) (hx_NoOrder : PySem.ExS.ExT P K mg T.c_NoOrder T.i_NoOrder) (hx_NoText : PySem.ExS.ExT P K mg T.c_NoText T.i_NoText) : FnOk P w K mg base (L2N.CX P w) 3 T.a_check_bolted T.fd_check_bolted ["floors", "bolted"] (spX K mg 2 f_check_bolted_x) :=
  fn_dlXN (k := 2) T.F_check_bolted sc_check_bolted rfl fun cdv A outer s H E hr tk => ⟨_, (pss_one (ps_for (passes_of rfl) rfl (pi_enumB (by rfl) T.z_enumerate (pa_cons (pv 1) pa_nil)) (pg_tup (by rfl) (pgs_cons (pg_name (i := 2) sc_check_bolted.nd rfl (by first | exact Or.inl rfl | exact Or.inr rfl)) (pgs_cons (pg_name (i := 3) sc_check_bolted.nd rfl (by first | exact Or.inl rfl | exact Or.inr rfl)) pgs_nil)))
    (pss_one (ps_if (PW.pt (pw_or (pt_cmpR op_notInRg (pv 3) (pe_callTy cr_rg2 (by rfl) T.z_range (by decide +kernel) (pa_cons pe_int (pa_cons (pe_callB cr_len (by rfl) T.z_len (by decide +kernel) (pa_cons (pv 0) pa_nil)) pa_nil))) (by rfl)) (pw_or1 (pt_cmpR op_in_seq (pv 3) (pe_slice sl_list (pv 1) po_none (po_some (pv 2))) (by rfl)))))
    (pss_one (L2N.ps_raise rfl tk (L2N.pmk_whatN (k := 0) hx_NoFlap (hr.mono (by first | decide | omega)) (pa_cons (pv 3) pa_nil) (by rfl) T.g_NoFlap)))
    pss_nil)))),
    (rx_for (ri_enumB (ra_cons re_var ra_nil)) (rg_tup (rgs_cons rg_name (rgs_cons rg_name rgs_nil)))
    (rx_if (rt_or (rt_test (re_inRg (neg := true) re_var (ra_cons re_int (ra_cons (re_CB rc_len (ra_cons re_var ra_nil)) ra_nil)))) (rt_test (re_op (ro_in (neg := false)) re_var (re_slL (m := false) re_var ro_none (ro_some re_var)))))
    (rx_raise T.g_NoFlap re_var)
    (rx_ok rs_next)))⟩
theorem G_places_x (T : Txt K mg)  (hx_NoFloors : PySem.ExS.ExT P K mg T.c_NoFloors T.i_NoFloors) (hx_NoWater : PySem.ExS.ExT P K mg T.c_NoWater T.i_NoWater) (hx_NoFlap : PySem.ExS.ExT P K mg T.c_NoFlap T.i_NoFlap) (hx_NoStep : PySem.ExS.ExT P K mg T.c_NoStep T.i_NoStep) (hx_NoTable : PySem.ExS.ExT P K mg T.c_NoTable T.i_NoTable) (hx_NoRows : PySem.ExS.ExT P K mg T.c_NoRows T.i_NoRows) (hx_NoDrop : PySem.ExS.ExT P K mg T.c_NoDrop T.i_NoDrop) (hx_NoTank : PySem.ExS.ExT P K mg T.c_NoTank T.i_NoTank) (hx_NoRain : PySem.ExS.ExT P K mg T.c_NoRain T.i_NoRain) (hx_NoOrder : PySem.ExS.ExT P K mg T.c_NoOrder T.i_NoOrder) (hx_NoText : PySem.ExS.ExT P K mg T.c_NoText T.i_NoText) : FnOk P w K mg base (L2N.CX P w) 5 T.a_places T.fd_places ["floors"] (spX K mg 1 f_places_x) :=
  fn_dlXN (k := 4) T.F_places sc_places rfl fun cdv A outer s H E hr tk => ⟨_, (pss_cons (ps_expr (pe_callS (G_check_floors_x T hx_NoFloors hx_NoWater hx_NoFlap hx_NoStep hx_NoTable hx_NoRows hx_NoDrop hx_NoTank hx_NoRain hx_NoOrder hx_NoText) (hr.mono (by first | decide | omega)) (by rfl) T.g_check_floors T.F_check_floors.kp T.b_check_floors (fun σ => L2N.passAt tk σ) (pa_cons (pv 0) pa_nil)))
    ((pss_cons (ps_set (i := 1) sc_places.nd rfl (by first | exact Or.inl rfl | exact Or.inr rfl) (pe_lst (pa_cons pe_int pa_nil)))
    (pss_cons (ps_for PassesOwn.never rfl (pi_list (pv 0)) (pg_name (i := 2) sc_places.nd rfl (by first | exact Or.inl rfl | exact Or.inr rfl))
    (pss_one (ps_expr (pe_bm PySem.F.plainAttrs_list PySem.F.slot_list_append PySem.F.type_list_append mt_append (pv 1) (pa_cons (pe_op op_addG (pe_ix ix_seq (pv 1) (pe_un un_neg pe_int) (fun _ _ => rfl)) (pv 2)) pa_nil)))))
    (pss_one (ps_ret (pv 1)))))).nox),
    (rx_seq (rx_call (ra_cons re_var ra_nil))
    (rx_ok (rs_seq (rs_asg (re_lst (m := true) (ra_cons re_int ra_nil)) rg_name)
    (rs_seq (rs_for (ri_list re_var) rg_name
    (rs_drop (re_BM rm_append re_var (ra_cons (re_op (ro_add (m := false)) (re_op ro_ix re_var (re_un ru_neg re_int)) re_var) ra_nil))))
    (rs_ret re_var)))))⟩
theorem G_heaped_x (T : Txt K mg)  (hx_NoFloors : PySem.ExS.ExT P K mg T.c_NoFloors T.i_NoFloors) (hx_NoWater : PySem.ExS.ExT P K mg T.c_NoWater T.i_NoWater) (hx_NoFlap : PySem.ExS.ExT P K mg T.c_NoFlap T.i_NoFlap) (hx_NoStep : PySem.ExS.ExT P K mg T.c_NoStep T.i_NoStep) (hx_NoTable : PySem.ExS.ExT P K mg T.c_NoTable T.i_NoTable) (hx_NoRows : PySem.ExS.ExT P K mg T.c_NoRows T.i_NoRows) (hx_NoDrop : PySem.ExS.ExT P K mg T.c_NoDrop T.i_NoDrop) (hx_NoTank : PySem.ExS.ExT P K mg T.c_NoTank T.i_NoTank) (hx_NoRain : PySem.ExS.ExT P K mg T.c_NoRain T.i_NoRain) (hx_NoOrder : PySem.ExS.ExT P K mg T.c_NoOrder T.i_NoOrder) (hx_NoText : PySem.ExS.ExT P K mg T.c_NoText T.i_NoText) : FnOk P w K mg base (L2N.CX P w) 5 T.a_heaped T.fd_heaped ["floors", "water"] (spX K mg 2 f_heaped_x) :=
  fn_dlXN (k := 4) T.F_heaped sc_heaped rfl fun cdv A outer s H E hr tk => ⟨_, (pss_cons (ps_expr (pe_callS (G_check_floors_x T hx_NoFloors hx_NoWater hx_NoFlap hx_NoStep hx_NoTable hx_NoRows hx_NoDrop hx_NoTank hx_NoRain hx_NoOrder hx_NoText) (hr.mono (by first | decide | omega)) (by rfl) T.g_check_floors T.F_check_floors.kp T.b_check_floors (fun σ => L2N.passAt tk σ) (pa_cons (pv 0) pa_nil)))
    (pss_cons (ps_expr (pe_callS (G_check_water_x T hx_NoFloors hx_NoWater hx_NoFlap hx_NoStep hx_NoTable hx_NoRows hx_NoDrop hx_NoTank hx_NoRain hx_NoOrder hx_NoText) (hr.mono (by first | decide | omega)) (by rfl) T.g_check_water T.F_check_water.kp T.b_check_water (fun σ => L2N.passAt tk σ) (pa_cons (pv 0) (pa_cons (pv 1) pa_nil))))
    ((pss_one (ps_ret (pe_call (G_sums_z T) (hr.mono (by first | decide | omega)) (by rfl) T.g_sums T.F_sums.kp T.b_sums .nil pass0 (pa_cons (pv 1) pa_nil))))).nox)),
    (rx_seq (rx_call (ra_cons re_var ra_nil))
    (rx_seq (rx_call (ra_cons re_var (ra_cons re_var ra_nil)))
    (rx_ok (rs_ret (re_call0 (ra_cons re_var ra_nil))))))⟩
theorem G_settled_x (T : Txt K mg)  (hx_NoFloors : PySem.ExS.ExT P K mg T.c_NoFloors T.i_NoFloors) (hx_NoWater : PySem.ExS.ExT P K mg T.c_NoWater T.i_NoWater) (hx_NoFlap : PySem.ExS.ExT P K mg T.c_NoFlap T.i_NoFlap) (hx_NoStep : PySem.ExS.ExT P K mg T.c_NoStep T.i_NoStep) (hx_NoTable : PySem.ExS.ExT P K mg T.c_NoTable T.i_NoTable) (hx_NoRows : PySem.ExS.ExT P K mg T.c_NoRows T.i_NoRows) (hx_NoDrop : PySem.ExS.ExT P K mg T.c_NoDrop T.i_NoDrop) (hx_NoTank : PySem.ExS.ExT P K mg T.c_NoTank T.i_NoTank) (hx_NoRain : PySem.ExS.ExT P K mg T.c_NoRain T.i_NoRain) (hx_NoOrder : PySem.ExS.ExT P K mg T.c_NoOrder T.i_NoOrder) (hx_NoText : PySem.ExS.ExT P K mg T.c_NoText T.i_NoText) : FnOk P w K mg base (L2N.CX P w) 7 T.a_settled T.fd_settled ["floors", "water", "bolted"] (spX K mg 3 f_settled_x) :=
  fn_dlXDN (k := 6) T.F_settled sc_settled rfl fun cdv A outer s H E hr tk => ⟨_, (pss_cons (ps_expr (pe_callS (G_check_floors_x T hx_NoFloors hx_NoWater hx_NoFlap hx_NoStep hx_NoTable hx_NoRows hx_NoDrop hx_NoTank hx_NoRain hx_NoOrder hx_NoText) (hr.mono (by first | decide | omega)) (by rfl) T.g_check_floors T.F_check_floors.kp T.b_check_floors (fun σ => L2N.passAt tk σ) (pa_cons (pv 0) pa_nil)))
    (pss_cons (ps_expr (pe_callS (G_check_water_x T hx_NoFloors hx_NoWater hx_NoFlap hx_NoStep hx_NoTable hx_NoRows hx_NoDrop hx_NoTank hx_NoRain hx_NoOrder hx_NoText) (hr.mono (by first | decide | omega)) (by rfl) T.g_check_water T.F_check_water.kp T.b_check_water (fun σ => L2N.passAt tk σ) (pa_cons (pv 0) (pa_cons (pv 1) pa_nil))))
    (pss_cons (ps_expr (pe_callS (G_check_bolted_x T hx_NoFloors hx_NoWater hx_NoFlap hx_NoStep hx_NoTable hx_NoRows hx_NoDrop hx_NoTank hx_NoRain hx_NoOrder hx_NoText) (hr.mono (by first | decide | omega)) (by rfl) T.g_check_bolted T.F_check_bolted.kp T.b_check_bolted (fun σ => L2N.passAt tk σ) (pa_cons (pv 0) (pa_cons (pv 2) pa_nil))))
    ((pss_one (ps_ret (pe_call (G_at_rest_z T) (hr.mono (by first | decide | omega)) (by rfl) T.g_at_rest T.F_at_rest.kp T.b_at_rest .nil pass0 (pa_cons (pv 0) (pa_cons (pv 1) (pa_cons (pv 2) pa_nil))))))).nox))),
    (rx_seq (rx_call (ra_cons re_var ra_nil))
    (rx_seq (rx_call (ra_cons re_var (ra_cons re_var ra_nil)))
    (rx_seq (rx_call (ra_cons re_var (ra_cons re_var ra_nil)))
    (rx_ok (rs_ret (re_call0 (ra_cons re_var (ra_cons re_var (ra_cons re_var ra_nil)))))))))⟩
theorem G_law_caught_z (T : Txt K mg) (hx_NoFloors : PySem.ExS.ExT P K mg T.c_NoFloors T.i_NoFloors) (hx_NoWater : PySem.ExS.ExT P K mg T.c_NoWater T.i_NoWater) (hx_NoFlap : PySem.ExS.ExT P K mg T.c_NoFlap T.i_NoFlap) (hx_NoStep : PySem.ExS.ExT P K mg T.c_NoStep T.i_NoStep) (hx_NoTable : PySem.ExS.ExT P K mg T.c_NoTable T.i_NoTable) (hx_NoRows : PySem.ExS.ExT P K mg T.c_NoRows T.i_NoRows) (hx_NoDrop : PySem.ExS.ExT P K mg T.c_NoDrop T.i_NoDrop) (hx_NoTank : PySem.ExS.ExT P K mg T.c_NoTank T.i_NoTank) (hx_NoRain : PySem.ExS.ExT P K mg T.c_NoRain T.i_NoRain) (hx_NoOrder : PySem.ExS.ExT P K mg T.c_NoOrder T.i_NoOrder) (hx_NoText : PySem.ExS.ExT P K mg T.c_NoText T.i_NoText) : FnOk P w K mg base CX0 9 T.a_law_caught T.fd_law_caught ["door", "wides", "amounts", "bolts"] (spF K mg 4 f_law_caught_z) :=
  fn_dl (k := 8) T.F_law_caught sc_law_caught rfl fun cdv A outer s H E hr => ⟨_, (pss_cons (ps_set (i := 4) sc_law_caught.nd rfl (by first | exact Or.inl rfl | exact Or.inr rfl) pe_non)
    (pss_cons (L2N.ps_try_as (i := 5) rfl rfl sc_law_caught.nd rfl rfl ⟨by rfl, by decide, .inl T.g_FlapError⟩ L2N.takes0N (fun W pn xe tk _ => (pss_one (ps_if (pt_cmpR (op_eqD hr.units) (pv 0) pe_int (nomark _))
    (pss_one (ps_expr (pe_callKS0 (G_places_x T hx_NoFloors hx_NoWater hx_NoFlap hx_NoStep hx_NoTable hx_NoRows hx_NoDrop hx_NoTank hx_NoRain hx_NoOrder hx_NoText) (hr.mono (by first | decide | omega)) (by rfl) T.g_places T.F_places.kp (kb_places_0 T.F_places) (fun σ => L2N.passAt tk σ) (pk_cons (pv 1) pk_nil))))
    (pss_one (ps_if (pt_cmpR (op_eqD hr.units) (pv 0) pe_int (nomark _))
    (pss_one (ps_expr (pe_callKSA (G_heaped_x T hx_NoFloors hx_NoWater hx_NoFlap hx_NoStep hx_NoTable hx_NoRows hx_NoDrop hx_NoTank hx_NoRain hx_NoOrder hx_NoText) (hr.mono (by first | decide | omega)) (by rfl) T.g_heaped T.F_heaped.kp (kb_heaped_0 T.F_heaped) (fun σ => L2N.passAt tk σ) (pa_cons (pv 1) pa_nil) (pk_cons (pv 2) pk_nil))))
    (pss_one (ps_if (pt_cmpR (op_eqD hr.units) (pv 0) pe_int (nomark _))
    (pss_one (ps_expr (pe_callKS0 (G_settled_x T hx_NoFloors hx_NoWater hx_NoFlap hx_NoStep hx_NoTable hx_NoRows hx_NoDrop hx_NoTank hx_NoRain hx_NoOrder hx_NoText) (hr.mono (by first | decide | omega)) (by rfl) T.g_settled T.F_settled.kp (kb_settled_0 T.F_settled) (fun σ => L2N.passAt tk σ) (pk_cons (pv 3) (pk_cons (pv 1) (pk_cons (pv 2) pk_nil))))))
    (pss_one (ps_expr (pe_callS (G_settled_x T hx_NoFloors hx_NoWater hx_NoFlap hx_NoStep hx_NoTable hx_NoRows hx_NoDrop hx_NoTank hx_NoRain hx_NoOrder hx_NoText) (hr.mono (by first | decide | omega)) (by rfl) T.g_settled T.F_settled.kp T.b_settled (fun σ => L2N.passAt tk σ) (pa_cons (pv 1) (pa_cons (pv 2) (pa_cons (pv 3) pa_nil))))))))))))) (fun a oe cls d pn hz hf => (pss_one (ps_set (i := 4) sc_law_caught.nd rfl (by first | exact Or.inl rfl | exact Or.inr rfl) (L2H.pe_callHX (H_law_kind T) hz hf (L2H.RoomH.mono (L2H.roomH_of hr) (by first | decide | omega)) (by rfl) T.g_law_kind T.F_law_kind.kp T.b_law_kind (pa_cons (pv 5) pa_nil))))))
    (pss_one (ps_ret (pv 4))))),
    (rs_seq (rs_asg re_non rg_name)
    (rs_seq (rs_tryH (by decide) (fun Wx => (rx_if (rt_test (re_op ro_eq re_var re_int))
    (rx_callK (@fun W zs us h => dens_pk W [] zs [] us (show Dens _ W [] [] from rfl) h) (ra_cons re_var ra_nil))
    (rx_if (rt_test (re_op ro_eq re_var re_int))
    (rx_callKA (@fun W xs zs vs us h0 h => dens_pk W xs zs vs us h0 h) (ra_cons re_var ra_nil) (ra_cons re_var ra_nil))
    (rx_if (rt_test (re_op ro_eq re_var re_int))
    (rx_callK (@fun W zs us h => dens_pk W [] zs [] us (show Dens _ W [] [] from rfl) h) (ra_cons re_var (ra_cons re_var (ra_cons re_var ra_nil))))
    (rx_call (ra_cons re_var (ra_cons re_var (ra_cons re_var ra_nil)))))))) (EX_ T))
    (rs_ret re_var)))⟩
theorem G_law_due_z (T : Txt K mg) : FnOk P w K mg base CX0 1 T.a_law_due T.fd_law_due ["door", "wides", "amounts", "bolts"] (spF K mg 4 f_law_due_z) :=
  fn_dl (k := 0) T.F_law_due sc_law_due rfl fun cdv A outer s H E hr => ⟨_, (pss_cons (ps_setLc (i := 4) (own := [("k", 7)]) (by rfl) sc_law_due.nd (by rfl) (by rfl) (sw_true rfl rfl rfl (by decide +kernel)) (pi_range1 (by rfl) T.z_range (pa_cons (pe_callB cr_len (by rfl) T.z_len (by decide +kernel) (pa_cons (pv 1) pa_nil)) pa_nil)) (blkOk_by (own := [("k", 7)]) (N := ns_law_due) (sc := defScope s_law_due) (by decide +kernel)) (fun _ _ _ _ _ => (pg_name (i := 7) sc_law_due.nd rfl (by first | exact Or.inl rfl | exact Or.inr rfl))) (fun _ _ _ _ _ => (pts_one (pt_cmpR op_lt (pe_ix ix_seq (pv 1) (pv 7) (fun _ _ => rfl)) pe_int (nomark _)))) (fun _ _ _ _ _ => (pv 7)))
    (pss_cons (ps_if (PW.pt (pw_or (pt_cmpR (op_eqD hr.units) (pv 1) (pe_lst pa_nil) (nomark _)) (pw_or1 (pt_cmpR (op_neD hr.units) (pv 4) (pe_lst pa_nil) (nomark _)))))
    (pss_one (ps_ret (pe_lst (pa_cons pe_str (pa_cons (pe_ix ix_seq (pe_op op_addG (pv 4) (pe_lst (pa_cons pe_non pa_nil))) pe_int (fun _ _ => rfl)) (pa_cons pe_bl pa_nil)))))) pss_nil)
    (pss_cons (ps_setLc (i := 5) (own := [("k", 7)]) (by rfl) sc_law_due.nd (by rfl) (by rfl) (sw_true rfl rfl rfl (by decide +kernel)) (pi_range1 (by rfl) T.z_range (pa_cons (pe_callB cr_len (by rfl) T.z_len (by decide +kernel) (pa_cons (pv 2) pa_nil)) pa_nil)) (blkOk_by (own := [("k", 7)]) (N := ns_law_due) (sc := defScope s_law_due) (by decide +kernel)) (fun _ _ _ _ _ => (pg_name (i := 7) sc_law_due.nd rfl (by first | exact Or.inl rfl | exact Or.inr rfl))) (fun _ _ _ _ _ => (pts_one (pt_cmpR op_lt (pe_ix ix_seq (pe_ix ix_seq (pv 2) (pv 7) (fun _ _ => rfl)) pe_int (fun _ _ => rfl)) pe_int (nomark _)))) (fun _ _ _ _ _ => (pv 7)))
    (pss_cons (ps_if (PW.pt (pw_and (pt_cmpR op_gt (pv 0) pe_int (nomark _)) (pw_and1 (pt_cmpR (op_neD hr.units) (pe_callB cr_len (by rfl) T.z_len (by decide +kernel) (pa_cons (pv 2) pa_nil)) (pe_callB cr_len (by rfl) T.z_len (by decide +kernel) (pa_cons (pv 1) pa_nil)) (nomark _)))))
    (pss_one (ps_ret (pe_lst (pa_cons pe_str (pa_cons pe_non (pa_cons pe_bl pa_nil)))))) pss_nil)
    (pss_cons (ps_if (PW.pt (pw_and (pt_cmpR op_gt (pv 0) pe_int (nomark _)) (pw_and1 (pt_cmpR (op_neD hr.units) (pv 5) (pe_lst pa_nil) (nomark _)))))
    (pss_one (ps_ret (pe_lst (pa_cons pe_str (pa_cons (pe_ix ix_seq (pv 5) pe_int (fun _ _ => rfl)) (pa_cons pe_bl pa_nil)))))) pss_nil)
    (pss_cons (ps_setLc (i := 6) (own := [("k", 7)]) (by rfl) sc_law_due.nd (by rfl) (by rfl) (sw_true rfl rfl rfl (by decide +kernel)) (pi_range1 (by rfl) T.z_range (pa_cons (pe_callB cr_len (by rfl) T.z_len (by decide +kernel) (pa_cons (pv 3) pa_nil)) pa_nil)) (blkOk_by (own := [("k", 7)]) (N := ns_law_due) (sc := defScope s_law_due) (by decide +kernel)) (fun _ _ _ _ _ => (pg_name (i := 7) sc_law_due.nd rfl (by first | exact Or.inl rfl | exact Or.inr rfl))) (fun _ _ _ _ _ => (pts_one (PW.pt (pw_or (pt_not (pt_chain op_lt op_lt pe_int (pe_ix ix_seq (pv 3) (pv 7) (fun _ _ => rfl)) (pe_callB cr_len (by rfl) T.z_len (by decide +kernel) (pa_cons (pv 1) pa_nil)))) (pw_or1 (pt_cmpR op_in_seq (pe_ix ix_seq (pv 3) (pv 7) (fun _ _ => rfl)) (pe_slice sl_list (pv 3) po_none (po_some (pv 7))) (by rfl))))))) (fun _ _ _ _ _ => (pe_ix ix_seq (pv 3) (pv 7) (fun _ _ => rfl))))
    (pss_one (ps_ret (pe_ifExp (PW.pt (pw_and (pt_cmpR op_gt (pv 0) pe_int (nomark _)) (pw_and1 (pt_cmpR (op_neD hr.units) (pv 6) (pe_lst pa_nil) (nomark _))))) (pe_lst (pa_cons pe_str (pa_cons (pe_ix ix_seq (pv 6) pe_int (fun _ _ => rfl)) (pa_cons pe_bl pa_nil)))) pe_non))))))))),
    (rs_seq (rs_asg (re_lc (m := false) (vs := [7]) (ri_rng1 (ra_cons (re_CB rc_len (ra_cons re_var ra_nil)) ra_nil)) (rgv_name (by decide)) (rt_test (re_op ro_lt (re_op ro_ix re_var re_var) re_int)) re_var) rg_name)
    (rs_seq (rs_if (rt_or (rt_test (re_op ro_eq re_var (re_lst (m := false) ra_nil))) (rt_test (re_op ro_ne re_var (re_lst (m := false) ra_nil))))
    (rs_ret (re_lst (m := false) (ra_cons re_str (ra_cons (re_op ro_ix (re_op (ro_add (m := false)) re_var (re_lst (m := false) (ra_cons re_non ra_nil))) re_int) (ra_cons re_bl ra_nil))))) rs_next)
    (rs_seq (rs_asg (re_lc (m := false) (vs := [7]) (ri_rng1 (ra_cons (re_CB rc_len (ra_cons re_var ra_nil)) ra_nil)) (rgv_name (by decide)) (rt_test (re_op ro_lt (re_op ro_ix (re_op ro_ix re_var re_var) re_int) re_int)) re_var) rg_name)
    (rs_seq (rs_if (rt_and (rt_test (re_op ro_gt re_var re_int)) (rt_test (re_op ro_ne (re_CB rc_len (ra_cons re_var ra_nil)) (re_CB rc_len (ra_cons re_var ra_nil)))))
    (rs_ret (re_lst (m := false) (ra_cons re_str (ra_cons re_non (ra_cons re_bl ra_nil))))) rs_next)
    (rs_seq (rs_if (rt_and (rt_test (re_op ro_gt re_var re_int)) (rt_test (re_op ro_ne re_var (re_lst (m := false) ra_nil))))
    (rs_ret (re_lst (m := false) (ra_cons re_str (ra_cons (re_op ro_ix re_var re_int) (ra_cons re_bl ra_nil))))) rs_next)
    (rs_seq (rs_asg (re_lc (m := false) (vs := [7]) (ri_rng1 (ra_cons (re_CB rc_len (ra_cons re_var ra_nil)) ra_nil)) (rgv_name (by decide)) (rt_or (rt_not (rt_test (re_chain ro_lt ro_lt re_int (re_op ro_ix re_var re_var) (re_CB rc_len (ra_cons re_var ra_nil))))) (rt_test (re_op (ro_in (neg := false)) (re_op ro_ix re_var re_var) (re_slL (m := false) re_var ro_none (ro_some re_var))))) (re_op ro_ix re_var re_var)) rg_name)
    (rs_ret (re_if (rt_and (rt_test (re_op ro_gt re_var re_int)) (rt_test (re_op ro_ne re_var (re_lst (m := false) ra_nil)))) (re_lst (m := false) (ra_cons re_str (ra_cons (re_op ro_ix re_var re_int) (ra_cons re_bl ra_nil)))) re_non))))))))⟩
theorem G_law_draw_z (T : Txt K mg) : FnOk P w K mg base CX0 1 T.a_law_draw T.fd_law_draw ["tray", "many"] (spF K mg 2 f_law_draw_z) :=
  fn_dl (k := 0) T.F_law_draw sc_law_draw rfl fun cdv A outer s H E hr => ⟨_, (pss_cons (ps_while PassesOwn.never (PW.pt (pw_and (pt_cmpR op_lt (pe_ix ix_seq (pv 0) pe_int (fun _ _ => rfl)) pe_int (nomark _)) (pw_and1 (pt_cmpR (op_neD hr.units) (pe_ix ix_seq (pv 0) pe_int (fun _ _ => rfl)) (pe_lst pa_nil) (nomark _)))))
    (pss_one (ps_asg (pe_bm PySem.F.plainAttrs_list PySem.F.slot_list_pop PySem.F.type_list_pop mt_popAt (pe_ix ix_seq (pv 0) pe_int (fun _ _ => rfl)) (pa_cons pe_int pa_nil)) (pg_sub (pv 0) pe_int set_list))))
    (pss_cons (ps_if (pt_cmpR op_ge (pe_ix ix_seq (pv 0) pe_int (fun _ _ => rfl)) pe_int (nomark _))
    (pss_cons (ps_set (i := 2) sc_law_draw.nd rfl (by first | exact Or.inl rfl | exact Or.inr rfl) (pe_op op_mod (pe_ix ix_seq (pv 0) pe_int (fun _ _ => rfl)) (pv 1)))
    (pss_cons (ps_asg (pe_op op_fdivW (pe_ix ix_seq (pv 0) pe_int (fun _ _ => rfl)) (pv 1)) (pg_sub (pv 0) pe_int set_list))
    (pss_one (ps_ret (pv 2))))) pss_nil)
    (pss_cons (ps_asg (pe_op op_addG (pe_ix ix_seq (pv 0) pe_int (fun _ _ => rfl)) pe_int) (pg_sub (pv 0) pe_int set_list))
    (pss_cons (ps_set (i := 3) sc_law_draw.nd rfl (by first | exact Or.inl rfl | exact Or.inr rfl) (pe_op op_mod (pe_op op_addG (pe_op op_mulW (pe_op op_addG (pe_ix ix_seq (pv 0) pe_int (fun _ _ => rfl)) pe_int) (pe_op op_pow (pe_op op_addG (pe_ix ix_seq (pv 0) pe_int (fun _ _ => rfl)) pe_int) pe_int)) (pe_op op_mulW pe_int (pe_ix ix_seq (pv 0) pe_int (fun _ _ => rfl)))) (pe_op op_sub (pe_op op_pow pe_int pe_int) pe_int)))
    (pss_one (ps_ret (pe_op op_mod (pe_op op_fdivW (pe_op op_mod (pe_op op_pow (pv 3) pe_int) (pe_op op_addG (pe_op op_pow pe_int pe_int) pe_int)) pe_int) (pv 1)))))))),
    (rs_seq (rs_while (rt_and (rt_test (re_op ro_lt (re_op ro_ix re_var re_int) re_int)) (rt_test (re_op ro_ne (re_op ro_ix re_var re_int) (re_lst (m := false) ra_nil))))
    (rs_asg (re_BM rm_popAt (re_op ro_ix re_var re_int) (ra_cons re_int ra_nil)) (rg_sub re_var re_int)))
    (rs_seq (rs_if (rt_test (re_op ro_ge (re_op ro_ix re_var re_int) re_int))
    (rs_seq (rs_asg (re_op ro_mod (re_op ro_ix re_var re_int) re_var) rg_name)
    (rs_seq (rs_asg (re_op ro_fdiv (re_op ro_ix re_var re_int) re_var) (rg_sub re_var re_int))
    (rs_ret re_var))) rs_next)
    (rs_seq (rs_asg (re_op (ro_add (m := false)) (re_op ro_ix re_var re_int) re_int) (rg_sub re_var re_int))
    (rs_seq (rs_asg (re_op ro_mod (re_op (ro_add (m := false)) (re_op ro_mul (re_op (ro_add (m := false)) (re_op ro_ix re_var re_int) re_int) (re_op ro_pow (re_op (ro_add (m := false)) (re_op ro_ix re_var re_int) re_int) re_int)) (re_op ro_mul re_int (re_op ro_ix re_var re_int))) (re_op ro_sub (re_op ro_pow re_int re_int) re_int)) rg_name)
    (rs_ret (re_op ro_mod (re_op ro_fdiv (re_op ro_mod (re_op ro_pow re_var re_int) (re_op (ro_add (m := false)) (re_op ro_pow re_int re_int) re_int)) re_int) re_var))))))⟩
theorem G_law_low_z (T : Txt K mg) : FnOk P w K mg base CX0 1 T.a_law_low T.fd_law_low ["top", "bottom"] (spF K mg 2 f_law_low_z) :=
  fn_dl (k := 0) T.F_law_low sc_law_low rfl fun cdv A outer s H E hr => ⟨_, (pss_cons (ps_par (i := 2) (j := 3) (by rfl) sc_law_low.nd rfl rfl (by decide) (by rfl) (by rfl) (pa_cons (pe_callB (cr_maxG rfl) (by rfl) T.z_max (by decide +kernel) (pa_cons (pv 0) (pa_cons (pe_op op_sub pe_int (pv 0)) pa_nil))) (pa_cons (pv 1) pa_nil)) (by rfl))
    (pss_cons (ps_while PassesOwn.never (pt_cmpR op_gt (pv 2) pe_int (nomark _))
    (pss_one (ps_par (i := 2) (j := 3) (by rfl) sc_law_low.nd rfl rfl (by decide) (by rfl) (by rfl) (pa_cons (pe_op op_mod (pv 3) (pv 2)) (pa_cons (pv 2) pa_nil)) (by rfl))))
    (pss_one (ps_ret (pe_tup (pa_cons (pe_op op_fdivW (pv 0) (pv 3)) (pa_cons (pe_op op_fdivW (pv 1) (pv 3)) pa_nil))))))),
    (rs_seq (rs_par (ra_cons (re_CB rc_max (ra_cons re_var (ra_cons (re_op ro_sub re_int re_var) ra_nil))) (ra_cons re_var ra_nil)))
    (rs_seq (rs_while (rt_test (re_op ro_gt re_var re_int))
    (rs_par (ra_cons (re_op ro_mod re_var re_var) (ra_cons re_var ra_nil))))
    (rs_ret (re_tup (ra_cons (re_op ro_fdiv re_var re_var) (ra_cons (re_op ro_fdiv re_var re_var) ra_nil))))))⟩
theorem G_law_bent_z (T : Txt K mg) : FnOk P w K mg base CX0 2 T.a_law_bent T.fd_law_bent ["tray", "wides", "amounts", "bolts"] (spF K mg 4 f_law_bent_z) :=
  fn_dl (k := 1) T.F_law_bent sc_law_bent rfl fun cdv A outer s H E hr => ⟨_, (pss_cons (ps_if (pt_cmpR (op_eqD hr.units) (pe_call (G_law_draw_z T) (hr.mono (by first | decide | omega)) (by rfl) T.g_law_draw T.F_law_draw.kp T.b_law_draw .nil pass0 (pa_cons (pv 0) (pa_cons pe_int pa_nil))) pe_int (nomark _))
    (pss_cons (ps_asg (pe_op op_sub pe_int (pe_call (G_law_draw_z T) (hr.mono (by first | decide | omega)) (by rfl) T.g_law_draw T.F_law_draw.kp T.b_law_draw .nil pass0 (pa_cons (pv 0) (pa_cons pe_int pa_nil)))) (pg_sub (pv 1) (pe_call (G_law_draw_z T) (hr.mono (by first | decide | omega)) (by rfl) T.g_law_draw T.F_law_draw.kp T.b_law_draw .nil pass0 (pa_cons (pv 0) (pa_cons (pe_callB cr_len (by rfl) T.z_len (by decide +kernel) (pa_cons (pv 1) pa_nil)) pa_nil))) set_list))
    (pss_one (ps_asg (pe_ix ix_seq (pe_lst (pa_cons pe_int (pa_cons pe_int (pa_cons (pe_un un_neg (pe_op op_pow pe_int pe_int)) pa_nil)))) (pe_call (G_law_draw_z T) (hr.mono (by first | decide | omega)) (by rfl) T.g_law_draw T.F_law_draw.kp T.b_law_draw .nil pass0 (pa_cons (pv 0) (pa_cons pe_int pa_nil))) (fun _ _ => rfl)) (pg_sub (pv 1) (pe_call (G_law_draw_z T) (hr.mono (by first | decide | omega)) (by rfl) T.g_law_draw T.F_law_draw.kp T.b_law_draw .nil pass0 (pa_cons (pv 0) (pa_cons (pe_callB cr_len (by rfl) T.z_len (by decide +kernel) (pa_cons (pv 1) pa_nil)) pa_nil))) set_list)))) pss_nil)
    (pss_cons (ps_if (pt_cmpR (op_eqD hr.units) (pe_call (G_law_draw_z T) (hr.mono (by first | decide | omega)) (by rfl) T.g_law_draw T.F_law_draw.kp T.b_law_draw .nil pass0 (pa_cons (pv 0) (pa_cons pe_int pa_nil))) pe_int (nomark _))
    (pss_one (ps_expr (pe_bm0 PySem.F.plainAttrs_list PySem.F.slot_list_clear PySem.F.type_list_clear mt_clear (pv 1)))) pss_nil)
    (pss_cons (ps_if (pt_cmpR (op_eqD hr.units) (pe_call (G_law_draw_z T) (hr.mono (by first | decide | omega)) (by rfl) T.g_law_draw T.F_law_draw.kp T.b_law_draw .nil pass0 (pa_cons (pv 0) (pa_cons pe_int pa_nil))) pe_int (nomark _))
    (pss_one (ps_for PassesOwn.never rfl (pi_range1 (by rfl) T.z_range (pa_cons (pe_op op_addG pe_int (pe_call (G_law_draw_z T) (hr.mono (by first | decide | omega)) (by rfl) T.g_law_draw T.F_law_draw.kp T.b_law_draw .nil pass0 (pa_cons (pv 0) (pa_cons pe_int pa_nil)))) pa_nil)) (pg_name (i := 4) sc_law_bent.nd rfl (by first | exact Or.inl rfl | exact Or.inr rfl))
    (pss_one (ps_asg (pe_call (G_law_low_z T) (hr.mono (by first | decide | omega)) (by rfl) T.g_law_low T.F_law_low.kp T.b_law_low .nil pass0 (pa_cons (pe_op op_sub (pe_un un_neg pe_int) (pe_call (G_law_draw_z T) (hr.mono (by first | decide | omega)) (by rfl) T.g_law_draw T.F_law_draw.kp T.b_law_draw .nil pass0 (pa_cons (pv 0) (pa_cons pe_int pa_nil)))) (pa_cons (pe_op op_addG pe_int (pe_call (G_law_draw_z T) (hr.mono (by first | decide | omega)) (by rfl) T.g_law_draw T.F_law_draw.kp T.b_law_draw .nil pass0 (pa_cons (pv 0) (pa_cons pe_int pa_nil)))) pa_nil))) (pg_sub (pv 2) (pe_call (G_law_draw_z T) (hr.mono (by first | decide | omega)) (by rfl) T.g_law_draw T.F_law_draw.kp T.b_law_draw .nil pass0 (pa_cons (pv 0) (pa_cons (pe_callB cr_len (by rfl) T.z_len (by decide +kernel) (pa_cons (pv 2) pa_nil)) pa_nil))) set_list))))) pss_nil)
    (pss_cons (ps_if (pt_cmpR (op_eqD hr.units) (pe_call (G_law_draw_z T) (hr.mono (by first | decide | omega)) (by rfl) T.g_law_draw T.F_law_draw.kp T.b_law_draw .nil pass0 (pa_cons (pv 0) (pa_cons pe_int pa_nil))) pe_int (nomark _))
    (pss_one (ps_expr (pe_bm PySem.F.plainAttrs_list PySem.F.slot_list_insert PySem.F.type_list_insert mt_insertG (pv 2) (pa_cons (pe_call (G_law_draw_z T) (hr.mono (by first | decide | omega)) (by rfl) T.g_law_draw T.F_law_draw.kp T.b_law_draw .nil pass0 (pa_cons (pv 0) (pa_cons (pe_op op_addG (pe_callB cr_len (by rfl) T.z_len (by decide +kernel) (pa_cons (pv 2) pa_nil)) pe_int) pa_nil))) (pa_cons (pe_tup (pa_cons (pe_call (G_law_draw_z T) (hr.mono (by first | decide | omega)) (by rfl) T.g_law_draw T.F_law_draw.kp T.b_law_draw .nil pass0 (pa_cons (pv 0) (pa_cons pe_int pa_nil))) (pa_cons pe_int pa_nil))) pa_nil))))) (pss_one (ps_if (pt_cmpR (op_eqD hr.units) (pe_call (G_law_draw_z T) (hr.mono (by first | decide | omega)) (by rfl) T.g_law_draw T.F_law_draw.kp T.b_law_draw .nil pass0 (pa_cons (pv 0) (pa_cons pe_int pa_nil))) pe_int (nomark _))
    (pss_one (ps_expr (pe_bm PySem.F.plainAttrs_list PySem.F.slot_list_pop PySem.F.type_list_pop mt_popAt (pv 2) (pa_cons (pe_call (G_law_draw_z T) (hr.mono (by first | decide | omega)) (by rfl) T.g_law_draw T.F_law_draw.kp T.b_law_draw .nil pass0 (pa_cons (pv 0) (pa_cons (pe_callB cr_len (by rfl) T.z_len (by decide +kernel) (pa_cons (pv 2) pa_nil)) pa_nil))) pa_nil)))) pss_nil)))
    (pss_one (ps_for PassesOwn.never rfl (pi_range1 (by rfl) T.z_range (pa_cons (pe_ix ix_seq (pe_lst (pa_cons pe_int (pa_cons pe_int (pa_cons pe_int (pa_cons pe_int pa_nil))))) (pe_call (G_law_draw_z T) (hr.mono (by first | decide | omega)) (by rfl) T.g_law_draw T.F_law_draw.kp T.b_law_draw .nil pass0 (pa_cons (pv 0) (pa_cons pe_int pa_nil))) (fun _ _ => rfl)) pa_nil)) (pg_name (i := 4) sc_law_bent.nd rfl (by first | exact Or.inl rfl | exact Or.inr rfl))
    (pss_cons (ps_set (i := 5) sc_law_bent.nd rfl (by first | exact Or.inl rfl | exact Or.inr rfl) (pe_op op_addG (pv 3) (pe_lst (pa_cons pe_int (pa_cons (pe_callB cr_len (by rfl) T.z_len (by decide +kernel) (pa_cons (pv 1) pa_nil)) (pa_cons (pe_un un_neg pe_int) (pa_cons (pe_op op_addG (pe_op op_addG (pe_callB cr_len (by rfl) T.z_len (by decide +kernel) (pa_cons (pv 1) pa_nil)) pe_int) (pe_call (G_law_draw_z T) (hr.mono (by first | decide | omega)) (by rfl) T.g_law_draw T.F_law_draw.kp T.b_law_draw .nil pass0 (pa_cons (pv 0) (pa_cons pe_int pa_nil)))) (pa_cons (pe_op op_sub (pe_un un_neg pe_int) (pe_call (G_law_draw_z T) (hr.mono (by first | decide | omega)) (by rfl) T.g_law_draw T.F_law_draw.kp T.b_law_draw .nil pass0 (pa_cons (pv 0) (pa_cons pe_int pa_nil)))) pa_nil))))))))
    (pss_one (ps_expr (pe_bm PySem.F.plainAttrs_list PySem.F.slot_list_insert PySem.F.type_list_insert mt_insertG (pv 3) (pa_cons (pe_call (G_law_draw_z T) (hr.mono (by first | decide | omega)) (by rfl) T.g_law_draw T.F_law_draw.kp T.b_law_draw .nil pass0 (pa_cons (pv 0) (pa_cons (pe_op op_addG (pe_callB cr_len (by rfl) T.z_len (by decide +kernel) (pa_cons (pv 3) pa_nil)) pe_int) pa_nil))) (pa_cons (pe_ix ix_seq (pv 5) (pe_call (G_law_draw_z T) (hr.mono (by first | decide | omega)) (by rfl) T.g_law_draw T.F_law_draw.kp T.b_law_draw .nil pass0 (pa_cons (pv 0) (pa_cons (pe_callB cr_len (by rfl) T.z_len (by decide +kernel) (pa_cons (pv 5) pa_nil)) pa_nil))) (fun _ _ => rfl)) pa_nil)))))))))))),
    (rs_seq (rs_if (rt_test (re_op ro_eq (re_call0 (ra_cons re_var (ra_cons re_int ra_nil))) re_int))
    (rs_seq (rs_asg (re_op ro_sub re_int (re_call0 (ra_cons re_var (ra_cons re_int ra_nil)))) (rg_sub re_var (re_call0 (ra_cons re_var (ra_cons (re_CB rc_len (ra_cons re_var ra_nil)) ra_nil)))))
    (rs_asg (re_op ro_ix (re_lst (m := false) (ra_cons re_int (ra_cons re_int (ra_cons (re_un ru_neg (re_op ro_pow re_int re_int)) ra_nil)))) (re_call0 (ra_cons re_var (ra_cons re_int ra_nil)))) (rg_sub re_var (re_call0 (ra_cons re_var (ra_cons (re_CB rc_len (ra_cons re_var ra_nil)) ra_nil)))))) rs_next)
    (rs_seq (rs_if (rt_test (re_op ro_eq (re_call0 (ra_cons re_var (ra_cons re_int ra_nil))) re_int))
    (rs_drop (re_BM0 rm_clear re_var)) rs_next)
    (rs_seq (rs_if (rt_test (re_op ro_eq (re_call0 (ra_cons re_var (ra_cons re_int ra_nil))) re_int))
    (rs_for (ri_rng1 (ra_cons (re_op (ro_add (m := false)) re_int (re_call0 (ra_cons re_var (ra_cons re_int ra_nil)))) ra_nil)) rg_name
    (rs_asg (re_call0 (ra_cons (re_op ro_sub (re_un ru_neg re_int) (re_call0 (ra_cons re_var (ra_cons re_int ra_nil)))) (ra_cons (re_op (ro_add (m := false)) re_int (re_call0 (ra_cons re_var (ra_cons re_int ra_nil)))) ra_nil))) (rg_sub re_var (re_call0 (ra_cons re_var (ra_cons (re_CB rc_len (ra_cons re_var ra_nil)) ra_nil)))))) rs_next)
    (rs_seq (rs_if (rt_test (re_op ro_eq (re_call0 (ra_cons re_var (ra_cons re_int ra_nil))) re_int))
    (rs_drop (re_BM rm_insert re_var (ra_cons (re_call0 (ra_cons re_var (ra_cons (re_op (ro_add (m := false)) (re_CB rc_len (ra_cons re_var ra_nil)) re_int) ra_nil))) (ra_cons (re_tup (ra_cons (re_call0 (ra_cons re_var (ra_cons re_int ra_nil))) (ra_cons re_int ra_nil))) ra_nil)))) (rs_if (rt_test (re_op ro_eq (re_call0 (ra_cons re_var (ra_cons re_int ra_nil))) re_int))
    (rs_drop (re_BM rm_popAt re_var (ra_cons (re_call0 (ra_cons re_var (ra_cons (re_CB rc_len (ra_cons re_var ra_nil)) ra_nil))) ra_nil))) rs_next))
    (rs_for (ri_rng1 (ra_cons (re_op ro_ix (re_lst (m := false) (ra_cons re_int (ra_cons re_int (ra_cons re_int (ra_cons re_int ra_nil))))) (re_call0 (ra_cons re_var (ra_cons re_int ra_nil)))) ra_nil)) rg_name
    (rs_seq (rs_asg (re_op (ro_add (m := false)) re_var (re_lst (m := false) (ra_cons re_int (ra_cons (re_CB rc_len (ra_cons re_var ra_nil)) (ra_cons (re_un ru_neg re_int) (ra_cons (re_op (ro_add (m := false)) (re_op (ro_add (m := false)) (re_CB rc_len (ra_cons re_var ra_nil)) re_int) (re_call0 (ra_cons re_var (ra_cons re_int ra_nil)))) (ra_cons (re_op ro_sub (re_un ru_neg re_int) (re_call0 (ra_cons re_var (ra_cons re_int ra_nil)))) ra_nil))))))) rg_name)
    (rs_drop (re_BM rm_insert re_var (ra_cons (re_call0 (ra_cons re_var (ra_cons (re_op (ro_add (m := false)) (re_CB rc_len (ra_cons re_var ra_nil)) re_int) ra_nil))) (ra_cons (re_op ro_ix re_var (re_call0 (ra_cons re_var (ra_cons (re_CB rc_len (ra_cons re_var ra_nil)) ra_nil)))) ra_nil))))))))))⟩
theorem G_law_shuffled_k (T : Txt K mg) : FnOk P w K mg base CX0 2 T.a_law_shuffled T.fd_law_shuffled ["tray", "things"] (spF K mg 2 f_law_shuffled_k) :=
  fn_dl (k := 1) T.F_law_shuffled sc_law_shuffled rfl fun cdv A outer s H E hr => ⟨_, (pss_cons (ps_set (i := 2) sc_law_shuffled.nd rfl (by first | exact Or.inl rfl | exact Or.inr rfl) (pe_callTy cr_listOf (by rfl) T.z_list (by decide +kernel) (pa_cons (pv 1) pa_nil)))
    (pss_one (ps_ret (pe_lc (own := [("k", 3)]) (by rfl) sc_law_shuffled.nd (pi_range1 (by rfl) T.z_range (pa_cons (pe_callB cr_len (by rfl) T.z_len (by decide +kernel) (pa_cons (pv 2) pa_nil)) pa_nil)) (blkOk_by (own := [("k", 3)]) (N := ns_law_shuffled) (sc := defScope s_law_shuffled) (by decide +kernel)) (fun _ _ _ _ _ => (pg_name (i := 3) sc_law_shuffled.nd rfl (by first | exact Or.inl rfl | exact Or.inr rfl))) (fun _ _ _ _ _ => pts_nil) (fun _ _ _ _ _ => (pe_bm PySem.F.plainAttrs_list PySem.F.slot_list_pop PySem.F.type_list_pop mt_popAt (pv 2) (pa_cons (pe_call (G_law_draw_z T) (hr.mono (by first | decide | omega)) (by rfl) T.g_law_draw T.F_law_draw.kp T.b_law_draw .nil pass0 (pa_cons (pv 0) (pa_cons (pe_callB cr_len (by rfl) T.z_len (by decide +kernel) (pa_cons (pv 2) pa_nil)) pa_nil))) pa_nil))))))),
    (rs_seq (rs_asg (re_CB (rc_list (m := true)) (ra_cons re_var ra_nil)) rg_name)
    (rs_ret (re_lc (m := true) (vs := [3]) (ri_rng1 (ra_cons (re_CB rc_len (ra_cons re_var ra_nil)) ra_nil)) (rgv_name (by decide)) rt_yes (re_BM rm_popAt re_var (ra_cons (re_call0 (ra_cons re_var (ra_cons (re_CB rc_len (ra_cons re_var ra_nil)) ra_nil))) ra_nil)))))⟩
theorem G_law_bolts_k (T : Txt K mg) : FnOk P w K mg base CX0 3 T.a_law_bolts T.fd_law_bolts ["tray", "many"] (spF K mg 2 f_law_bolts_k) :=
  fn_dl (k := 2) T.F_law_bolts sc_law_bolts rfl fun cdv A outer s H E hr => ⟨_, (pss_cons (ps_set (i := 2) sc_law_bolts.nd rfl (by first | exact Or.inl rfl | exact Or.inr rfl) (pe_listRg rfl (by rfl) T.z_list (prg_2 (by rfl) T.z_range pe_int (pv 1))))
    (pss_cons (ps_set (i := 3) sc_law_bolts.nd rfl (by first | exact Or.inl rfl | exact Or.inr rfl) (pe_call (G_law_draw_z T) (hr.mono (by first | decide | omega)) (by rfl) T.g_law_draw T.F_law_draw.kp T.b_law_draw .nil pass0 (pa_cons (pv 0) (pa_cons pe_int pa_nil))))
    (pss_cons (ps_if (pt_cmpR op_lt (pv 3) pe_int (nomark _))
    (pss_one (ps_ret (pe_ifExp (pt_cmpR (op_eqD hr.units) (pv 3) pe_int (nomark _)) (pe_call (G_law_shuffled_k T) (hr.mono (by first | decide | omega)) (by rfl) T.g_law_shuffled T.F_law_shuffled.kp T.b_law_shuffled .nil pass0 (pa_cons (pv 0) (pa_cons (pv 2) pa_nil))) (pe_lst pa_nil)))) pss_nil)
    (pss_one (ps_ret (pe_call (G_law_shuffled_k T) (hr.mono (by first | decide | omega)) (by rfl) T.g_law_shuffled T.F_law_shuffled.kp T.b_law_shuffled .nil pass0 (pa_cons (pv 0) (pa_cons (pe_lc (own := [("flap", 4)]) (by rfl) sc_law_bolts.nd (pi_list (pv 2)) (blkOk_by (own := [("flap", 4)]) (N := ns_law_bolts) (sc := defScope s_law_bolts) (by decide +kernel)) (fun _ _ _ _ _ => (pg_name (i := 4) sc_law_bolts.nd rfl (by first | exact Or.inl rfl | exact Or.inr rfl))) (fun _ _ _ _ _ => (pts_one (pt_cmpR (op_eqD hr.units) (pe_call (G_law_draw_z T) (hr.mono (by first | decide | omega)) (by rfl) T.g_law_draw T.F_law_draw.kp T.b_law_draw .nil pass0 (pa_cons (pv 0) (pa_cons (pv 3) pa_nil))) pe_int (nomark _)))) (fun _ _ _ _ _ => (pv 4))) pa_nil)))))))),
    (rs_seq (rs_asg (re_lr2 (m := false) re_int re_var) rg_name)
    (rs_seq (rs_asg (re_call0 (ra_cons re_var (ra_cons re_int ra_nil))) rg_name)
    (rs_seq (rs_if (rt_test (re_op ro_lt re_var re_int))
    (rs_ret (re_if (rt_test (re_op ro_eq re_var re_int)) (re_call0 (ra_cons re_var (ra_cons re_var ra_nil))) (re_lst (m := true) ra_nil))) rs_next)
    (rs_ret (re_call0 (ra_cons re_var (ra_cons (re_lc (m := false) (vs := [4]) (ri_list re_var) (rgv_name (by decide)) (rt_test (re_op ro_eq (re_call0 (ra_cons re_var (ra_cons re_var ra_nil))) re_int)) re_var) ra_nil)))))))⟩
theorem G_law_amount_z (T : Txt K mg) : FnOk P w K mg base CX0 2 T.a_law_amount T.fd_law_amount ["tray", "wide", "bottom"] (spF K mg 3 f_law_amount_z) :=
  fn_dl (k := 1) T.F_law_amount sc_law_amount rfl fun cdv A outer s H E hr => ⟨_, (pss_cons (ps_set (i := 3) sc_law_amount.nd rfl (by first | exact Or.inl rfl | exact Or.inr rfl) (pe_lst (pa_cons pe_int (pa_cons (pe_op op_mulW (pe_op op_mulW (pv 1) (pv 2)) (pe_call (G_law_draw_z T) (hr.mono (by first | decide | omega)) (by rfl) T.g_law_draw T.F_law_draw.kp T.b_law_draw .nil pass0 (pa_cons (pv 0) (pa_cons pe_int pa_nil)))) (pa_cons (pe_call (G_law_draw_z T) (hr.mono (by first | decide | omega)) (by rfl) T.g_law_draw T.F_law_draw.kp T.b_law_draw .nil pass0 (pa_cons (pv 0) (pa_cons pe_int pa_nil))) (pa_cons (pe_call (G_law_draw_z T) (hr.mono (by first | decide | omega)) (by rfl) T.g_law_draw T.F_law_draw.kp T.b_law_draw .nil pass0 (pa_cons (pv 0) (pa_cons (pe_op op_pow pe_int pe_int) pa_nil))) pa_nil))))))
    (pss_cons (ps_expr (pe_bm PySem.F.plainAttrs_list PySem.F.slot_list_append PySem.F.type_list_append mt_append (pv 3) (pa_cons (pe_call (G_law_draw_z T) (hr.mono (by first | decide | omega)) (by rfl) T.g_law_draw T.F_law_draw.kp T.b_law_draw .nil pass0 (pa_cons (pv 0) (pa_cons (pe_op op_pow pe_int pe_int) pa_nil))) pa_nil)))
    (pss_one (ps_ret (pe_call (G_law_low_z T) (hr.mono (by first | decide | omega)) (by rfl) T.g_law_low T.F_law_low.kp T.b_law_low .nil pass0 (pa_cons (pe_ix ix_seq (pv 3) (pe_call (G_law_draw_z T) (hr.mono (by first | decide | omega)) (by rfl) T.g_law_draw T.F_law_draw.kp T.b_law_draw .nil pass0 (pa_cons (pv 0) (pa_cons pe_int pa_nil))) (fun _ _ => rfl)) (pa_cons (pv 2) pa_nil))))))),
    (rs_seq (rs_asg (re_lst (m := true) (ra_cons re_int (ra_cons (re_op ro_mul (re_op ro_mul re_var re_var) (re_call0 (ra_cons re_var (ra_cons re_int ra_nil)))) (ra_cons (re_call0 (ra_cons re_var (ra_cons re_int ra_nil))) (ra_cons (re_call0 (ra_cons re_var (ra_cons (re_op ro_pow re_int re_int) ra_nil))) ra_nil))))) rg_name)
    (rs_seq (rs_drop (re_BM rm_append re_var (ra_cons (re_call0 (ra_cons re_var (ra_cons (re_op ro_pow re_int re_int) ra_nil))) ra_nil)))
    (rs_ret (re_call0 (ra_cons (re_op ro_ix re_var (re_call0 (ra_cons re_var (ra_cons re_int ra_nil)))) (ra_cons re_var ra_nil))))))⟩
theorem G_law_amounts_k (T : Txt K mg) : FnOk P w K mg base CX0 3 T.a_law_amounts T.fd_law_amounts ["tray", "wides", "bottom"] (spF K mg 3 f_law_amounts_k) :=
  fn_dl (k := 2) T.F_law_amounts sc_law_amounts rfl fun cdv A outer s H E hr => ⟨_, (pss_cons (ps_set (i := 3) sc_law_amounts.nd rfl (by first | exact Or.inl rfl | exact Or.inr rfl) (pe_lc (own := [("wide", 5)]) (by rfl) sc_law_amounts.nd (pi_list (pv 1)) (blkOk_by (own := [("wide", 5)]) (N := ns_law_amounts) (sc := defScope s_law_amounts) (by decide +kernel)) (fun _ _ _ _ _ => (pg_name (i := 5) sc_law_amounts.nd rfl (by first | exact Or.inl rfl | exact Or.inr rfl))) (fun _ _ _ _ _ => pts_nil) (fun _ _ _ _ _ => (pe_call (G_law_amount_z T) (hr.mono (by first | decide | omega)) (by rfl) T.g_law_amount T.F_law_amount.kp T.b_law_amount .nil pass0 (pa_cons (pv 0) (pa_cons (pv 5) (pa_cons (pe_ifExp (pt_cmpR op_gt (pv 2) pe_int (nomark _)) (pv 2) (pe_op op_addG pe_int (pe_call (G_law_draw_z T) (hr.mono (by first | decide | omega)) (by rfl) T.g_law_draw T.F_law_draw.kp T.b_law_draw .nil pass0 (pa_cons (pv 0) (pa_cons pe_int pa_nil))))) pa_nil)))))))
    (pss_cons (ps_set (i := 4) sc_law_amounts.nd rfl (by first | exact Or.inl rfl | exact Or.inr rfl) (pe_ix ix_seq (pe_lst (pa_cons pe_int (pa_cons (pe_op op_sub (pe_callB cr_len (by rfl) T.z_len (by decide +kernel) (pa_cons (pv 1) pa_nil)) pe_int) (pa_cons pe_non (pa_cons pe_non (pa_cons pe_non pa_nil)))))) (pe_call (G_law_draw_z T) (hr.mono (by first | decide | omega)) (by rfl) T.g_law_draw T.F_law_draw.kp T.b_law_draw .nil pass0 (pa_cons (pv 0) (pa_cons pe_int pa_nil))) (fun _ _ => rfl)))
    (pss_one (ps_ret (pe_lc (own := [("k", 6)]) (by rfl) sc_law_amounts.nd (pi_range1 (by rfl) T.z_range (pa_cons (pe_callB cr_len (by rfl) T.z_len (by decide +kernel) (pa_cons (pv 1) pa_nil)) pa_nil)) (blkOk_by (own := [("k", 6)]) (N := ns_law_amounts) (sc := defScope s_law_amounts) (by decide +kernel)) (fun _ _ _ _ _ => (pg_name (i := 6) sc_law_amounts.nd rfl (by first | exact Or.inl rfl | exact Or.inr rfl))) (fun _ _ _ _ _ => pts_nil) (fun _ _ _ _ _ => (pe_ifExp (PW.pt (pw_or (pt_cmp (pc_isN (pv 4))) (pw_or1 (pt_cmpR (op_eqD hr.units) (pv 6) (pv 4) (nomark _))))) (pe_ix ix_seq (pv 3) (pv 6) (fun _ _ => rfl)) (pe_tup (pa_cons pe_int (pa_cons pe_int pa_nil)))))))))),
    (rs_seq (rs_asg (re_lc (m := false) (vs := [5]) (ri_list re_var) (rgv_name (by decide)) rt_yes (re_call0 (ra_cons re_var (ra_cons re_var (ra_cons (re_if (rt_test (re_op ro_gt re_var re_int)) re_var (re_op (ro_add (m := false)) re_int (re_call0 (ra_cons re_var (ra_cons re_int ra_nil))))) ra_nil))))) rg_name)
    (rs_seq (rs_asg (re_op ro_ix (re_lst (m := false) (ra_cons re_int (ra_cons (re_op ro_sub (re_CB rc_len (ra_cons re_var ra_nil)) re_int) (ra_cons re_non (ra_cons re_non (ra_cons re_non ra_nil)))))) (re_call0 (ra_cons re_var (ra_cons re_int ra_nil)))) rg_name)
    (rs_ret (re_lc (m := true) (vs := [6]) (ri_rng1 (ra_cons (re_CB rc_len (ra_cons re_var ra_nil)) ra_nil)) (rgv_name (by decide)) rt_yes (re_if (rt_or (rt_B (re_isN re_var)) (rt_test (re_op ro_eq re_var re_var))) (re_op ro_ix re_var re_var) (re_tup (ra_cons re_int (ra_cons re_int ra_nil))))))))⟩
theorem G_law_bottom_z (T : Txt K mg) : FnOk P w K mg base CX0 2 T.a_law_bottom T.fd_law_bottom ["tray"] (spF K mg 1 f_law_bottom_z) :=
  fn_dl (k := 1) T.F_law_bottom sc_law_bottom rfl fun cdv A outer s H E hr => ⟨_, (pss_one (ps_ret (pe_ix ix_seq (pe_lst (pa_cons pe_int (pa_cons (pe_op op_addG pe_int (pe_call (G_law_draw_z T) (hr.mono (by first | decide | omega)) (by rfl) T.g_law_draw T.F_law_draw.kp T.b_law_draw .nil pass0 (pa_cons (pv 0) (pa_cons pe_int pa_nil)))) (pa_cons pe_int (pa_cons pe_int pa_nil))))) (pe_call (G_law_draw_z T) (hr.mono (by first | decide | omega)) (by rfl) T.g_law_draw T.F_law_draw.kp T.b_law_draw .nil pass0 (pa_cons (pv 0) (pa_cons pe_int pa_nil))) (fun _ _ => rfl)))),
    (rs_ret (re_op ro_ix (re_lst (m := false) (ra_cons re_int (ra_cons (re_op (ro_add (m := false)) re_int (re_call0 (ra_cons re_var (ra_cons re_int ra_nil)))) (ra_cons re_int (ra_cons re_int ra_nil))))) (re_call0 (ra_cons re_var (ra_cons re_int ra_nil)))))⟩
theorem G_law_wides_k (T : Txt K mg) : FnOk P w K mg base CX0 2 T.a_law_wides T.fd_law_wides ["tray", "most"] (spF K mg 2 f_law_wides_k) :=
  fn_dl (k := 1) T.F_law_wides sc_law_wides rfl fun cdv A outer s H E hr => ⟨_, (pss_cons (ps_set (i := 2) sc_law_wides.nd rfl (by first | exact Or.inl rfl | exact Or.inr rfl) (pe_ix ix_seq (pe_lst (pa_cons pe_int (pa_cons pe_int (pa_cons pe_int pa_nil)))) (pe_call (G_law_draw_z T) (hr.mono (by first | decide | omega)) (by rfl) T.g_law_draw T.F_law_draw.kp T.b_law_draw .nil pass0 (pa_cons (pv 0) (pa_cons pe_int pa_nil))) (fun _ _ => rfl)))
    (pss_one (ps_ret (pe_lc (own := [("k", 3)]) (by rfl) sc_law_wides.nd (pi_range1 (by rfl) T.z_range (pa_cons (pe_op op_addG pe_int (pe_call (G_law_draw_z T) (hr.mono (by first | decide | omega)) (by rfl) T.g_law_draw T.F_law_draw.kp T.b_law_draw .nil pass0 (pa_cons (pv 0) (pa_cons (pv 1) pa_nil)))) pa_nil)) (blkOk_by (own := [("k", 3)]) (N := ns_law_wides) (sc := defScope s_law_wides) (by decide +kernel)) (fun _ _ _ _ _ => (pg_name (i := 3) sc_law_wides.nd rfl (by first | exact Or.inl rfl | exact Or.inr rfl))) (fun _ _ _ _ _ => pts_nil) (fun _ _ _ _ _ => (pe_op op_addG pe_int (pe_call (G_law_draw_z T) (hr.mono (by first | decide | omega)) (by rfl) T.g_law_draw T.F_law_draw.kp T.b_law_draw .nil pass0 (pa_cons (pv 0) (pa_cons (pv 2) pa_nil))))))))),
    (rs_seq (rs_asg (re_op ro_ix (re_lst (m := false) (ra_cons re_int (ra_cons re_int (ra_cons re_int ra_nil)))) (re_call0 (ra_cons re_var (ra_cons re_int ra_nil)))) rg_name)
    (rs_ret (re_lc (m := true) (vs := [3]) (ri_rng1 (ra_cons (re_op (ro_add (m := false)) re_int (re_call0 (ra_cons re_var (ra_cons re_var ra_nil)))) ra_nil)) (rgv_name (by decide)) rt_yes (re_op (ro_add (m := false)) re_int (re_call0 (ra_cons re_var (ra_cons re_var ra_nil)))))))⟩
theorem G_law_errors_right_z (T : Txt K mg) (hx_NoFloors : PySem.ExS.ExT P K mg T.c_NoFloors T.i_NoFloors) (hx_NoWater : PySem.ExS.ExT P K mg T.c_NoWater T.i_NoWater) (hx_NoFlap : PySem.ExS.ExT P K mg T.c_NoFlap T.i_NoFlap) (hx_NoStep : PySem.ExS.ExT P K mg T.c_NoStep T.i_NoStep) (hx_NoTable : PySem.ExS.ExT P K mg T.c_NoTable T.i_NoTable) (hx_NoRows : PySem.ExS.ExT P K mg T.c_NoRows T.i_NoRows) (hx_NoDrop : PySem.ExS.ExT P K mg T.c_NoDrop T.i_NoDrop) (hx_NoTank : PySem.ExS.ExT P K mg T.c_NoTank T.i_NoTank) (hx_NoRain : PySem.ExS.ExT P K mg T.c_NoRain T.i_NoRain) (hx_NoOrder : PySem.ExS.ExT P K mg T.c_NoOrder T.i_NoOrder) (hx_NoText : PySem.ExS.ExT P K mg T.c_NoText T.i_NoText) : FnOk P w K mg base CX0 3 T.a_law_errors_right T.fd_law_errors_right [] (spF K mg 0 f_law_errors_right_z) :=
  fn_dl (k := 2) T.F_law_errors_right sc_law_errors_right rfl fun cdv A outer s H E hr => ⟨_, (pss_cons (ps_set (i := 0) sc_law_errors_right.nd rfl (by first | exact Or.inl rfl | exact Or.inr rfl) (pe_lst (pa_cons (pe_of_mk (pmk_what (k := 0) hx_NoFloors (hr.mono (by first | decide | omega)) (pa_cons pe_int pa_nil) (by rfl) T.g_NoFloors)) (pa_cons (pe_of_mk (pmk_whatK (k := 0) hx_NoWater (hr.mono (by first | decide | omega)) (pk_cons pe_non pk_nil) (by rfl) T.g_NoWater)) (pa_cons (pe_of_mk (pmk_what (k := 0) hx_NoFlap (hr.mono (by first | decide | omega)) (pa_cons pe_int pa_nil) (by rfl) T.g_NoFlap)) (pa_cons (pe_of_mk (pmk_whatK (k := 0) hx_NoStep (hr.mono (by first | decide | omega)) (pk_cons pe_int pk_nil) (by rfl) T.g_NoStep)) (pa_cons (pe_of_mk (pmk_what (k := 0) hx_NoTable (hr.mono (by first | decide | omega)) (pa_cons (pe_tup (pa_cons pe_int (pa_cons pe_int pa_nil))) pa_nil) (by rfl) T.g_NoTable)) (pa_cons (pe_of_mk (pmk_what (k := 0) hx_NoRows (hr.mono (by first | decide | omega)) (pa_cons pe_non pa_nil) (by rfl) T.g_NoRows)) pa_nil))))))))
    (pss_cons (ps_set (i := 0) sc_law_errors_right.nd rfl (by first | exact Or.inl rfl | exact Or.inr rfl) (pe_op op_addG (pv 0) (pe_lst (pa_cons (pe_of_mk (pmk_whatK (k := 0) hx_NoDrop (hr.mono (by first | decide | omega)) (pk_cons pe_non pk_nil) (by rfl) T.g_NoDrop)) (pa_cons (pe_of_mk (pmk_whatK (k := 0) hx_NoTank (hr.mono (by first | decide | omega)) (pk_cons pe_int pk_nil) (by rfl) T.g_NoTank)) (pa_cons (pe_of_mk (pmk_what (k := 0) hx_NoRain (hr.mono (by first | decide | omega)) (pa_cons pe_int pa_nil) (by rfl) T.g_NoRain)) (pa_cons (pe_of_mk (pmk_what (k := 0) hx_NoOrder (hr.mono (by first | decide | omega)) (pa_cons pe_non pa_nil) (by rfl) T.g_NoOrder)) (pa_cons (pe_of_mk (pmk_whatK (k := 0) hx_NoText (hr.mono (by first | decide | omega)) (pk_cons pe_str pk_nil) (by rfl) T.g_NoText)) pa_nil))))))))
    (pss_cons (ps_set (i := 1) sc_law_errors_right.nd rfl (by first | exact Or.inl rfl | exact Or.inr rfl) (pe_lst (pa_cons pe_str (pa_cons pe_str (pa_cons pe_str (pa_cons pe_str (pa_cons pe_str (pa_cons pe_str (pa_cons pe_str (pa_cons pe_str (pa_cons pe_str pa_nil)))))))))))
    (pss_cons (ps_set (i := 1) sc_law_errors_right.nd rfl (by first | exact Or.inl rfl | exact Or.inr rfl) (pe_op op_addG (pv 1) (pe_lst (pa_cons pe_str (pa_cons pe_str pa_nil)))))
    (pss_cons (ps_set (i := 2) sc_law_errors_right.nd rfl (by first | exact Or.inl rfl | exact Or.inr rfl) (pe_lst (pa_cons pe_int (pa_cons pe_non (pa_cons pe_int (pa_cons pe_int (pa_cons (pe_tup (pa_cons pe_int (pa_cons pe_int pa_nil))) (pa_cons pe_non (pa_cons pe_non (pa_cons pe_int (pa_cons pe_int (pa_cons pe_non (pa_cons pe_str pa_nil)))))))))))))
    (pss_cons (ps_if (pt_cmpR (op_neD hr.units) (pe_lc (own := [("e", 3)]) (by rfl) sc_law_errors_right.nd (pi_list (pv 0)) (blkOk_by (own := [("e", 3)]) (N := ns_law_errors_right) (sc := defScope s_law_errors_right) (by decide +kernel)) (fun _ _ _ _ _ => (pg_name (i := 3) sc_law_errors_right.nd rfl (by first | exact Or.inl rfl | exact Or.inr rfl))) (fun _ _ _ _ _ => (pts_one (pt_not (pt_val (pe_callB call_isK (by rfl) T.z_isinstance (by decide +kernel) (pa_cons (pv 3) (pa_cons (pe_glob (v := .ref T.c_FlapError) (by rfl) T.g_FlapError rfl) pa_nil))))))) (fun _ _ _ _ _ => pe_int)) (pe_lst pa_nil) (nomark _))
    (pss_one (ps_ret pe_bl)) pss_nil)
    (pss_one (ps_ret (pe_cmpR (op_eqD hr.units) (pe_lc (own := [("e", 3)]) (by rfl) sc_law_errors_right.nd (pi_list (pv 0)) (blkOk_by (own := [("e", 3)]) (N := ns_law_errors_right) (sc := defScope s_law_errors_right) (by decide +kernel)) (fun _ _ _ _ _ => (pg_name (i := 3) sc_law_errors_right.nd rfl (by first | exact Or.inl rfl | exact Or.inr rfl))) (fun _ _ _ _ _ => pts_nil) (fun _ _ _ _ _ => (pe_call (G_law_kind_z T) (hr.mono (by first | decide | omega)) (by rfl) T.g_law_kind T.F_law_kind.kp T.b_law_kind .nil pass0 (pa_cons (pv 3) pa_nil)))) (pe_lc (own := [("k", 4)]) (by rfl) sc_law_errors_right.nd (pi_range1 (by rfl) T.z_range (pa_cons pe_int pa_nil)) (blkOk_by (own := [("k", 4)]) (N := ns_law_errors_right) (sc := defScope s_law_errors_right) (by decide +kernel)) (fun _ _ _ _ _ => (pg_name (i := 4) sc_law_errors_right.nd rfl (by first | exact Or.inl rfl | exact Or.inr rfl))) (fun _ _ _ _ _ => pts_nil) (fun _ _ _ _ _ => (pe_lst (pa_cons (pe_ix ix_seq (pv 1) (pv 4) (fun _ _ => rfl)) (pa_cons (pe_ix ix_seq (pv 2) (pv 4) (fun _ _ => rfl)) (pa_cons pe_bl pa_nil)))))) (nomark _)))))))))),
    (rs_seq (rs_asg (re_lst (m := false) (ra_cons (re_mkX T.g_NoFloors re_int) (ra_cons (re_mkX T.g_NoWater re_non) (ra_cons (re_mkX T.g_NoFlap re_int) (ra_cons (re_mkX T.g_NoStep re_int) (ra_cons (re_mkX T.g_NoTable (re_tup (ra_cons re_int (ra_cons re_int ra_nil)))) (ra_cons (re_mkX T.g_NoRows re_non) ra_nil))))))) rg_name)
    (rs_seq (rs_asg (re_op (ro_add (m := false)) re_var (re_lst (m := false) (ra_cons (re_mkX T.g_NoDrop re_non) (ra_cons (re_mkX T.g_NoTank re_int) (ra_cons (re_mkX T.g_NoRain re_int) (ra_cons (re_mkX T.g_NoOrder re_non) (ra_cons (re_mkX T.g_NoText re_str) ra_nil))))))) rg_name)
    (rs_seq (rs_asg (re_lst (m := false) (ra_cons re_str (ra_cons re_str (ra_cons re_str (ra_cons re_str (ra_cons re_str (ra_cons re_str (ra_cons re_str (ra_cons re_str (ra_cons re_str ra_nil)))))))))) rg_name)
    (rs_seq (rs_asg (re_op (ro_add (m := false)) re_var (re_lst (m := false) (ra_cons re_str (ra_cons re_str ra_nil)))) rg_name)
    (rs_seq (rs_asg (re_lst (m := false) (ra_cons re_int (ra_cons re_non (ra_cons re_int (ra_cons re_int (ra_cons (re_tup (ra_cons re_int (ra_cons re_int ra_nil))) (ra_cons re_non (ra_cons re_non (ra_cons re_int (ra_cons re_int (ra_cons re_non (ra_cons re_str ra_nil)))))))))))) rg_name)
    (rs_seq (rs_if (rt_test (re_op ro_ne (re_lc (m := false) (vs := [3]) (ri_list re_var) (rgv_name (by decide)) (rt_not (rt_B (re_isX (ClsV.own _) (KX_FlapError T) re_var))) re_int) (re_lst (m := false) ra_nil)))
    (rs_ret re_bl) rs_next)
    (rs_ret (re_op ro_eq (re_lc (m := false) (vs := [3]) (ri_list re_var) (rgv_name (by decide)) rt_yes (re_call0 (ra_cons re_var ra_nil))) (re_lc (m := false) (vs := [4]) (ri_rng1 (ra_cons re_int ra_nil)) (rgv_name (by decide)) rt_yes (re_lst (m := false) (ra_cons (re_op ro_ix re_var re_var) (ra_cons (re_op ro_ix re_var re_var) (ra_cons re_bl ra_nil)))))))))))))⟩
theorem G_law_tray_r (T : Txt K mg) : FnOk P w K mg base CX0 1 T.a_law_tray T.fd_law_tray ["script"] (spF K mg 1 f_law_tray_r) :=
  fn_dl (k := 0) T.F_law_tray sc_law_tray rfl fun cdv A outer s H E hr => ⟨_, (pss_cons (ps_set (i := 1) sc_law_tray.nd rfl (by first | exact Or.inl rfl | exact Or.inr rfl) pe_int)
    (pss_cons (ps_set (i := 2) sc_law_tray.nd rfl (by first | exact Or.inl rfl | exact Or.inr rfl) (pe_lst pa_nil))
    (pss_cons (ps_for PassesOwn.never rfl (pi_list (pv 0)) (pg_name (i := 3) sc_law_tray.nd rfl (by first | exact Or.inl rfl | exact Or.inr rfl))
    (pss_cons (ps_set (i := 1) sc_law_tray.nd rfl (by first | exact Or.inl rfl | exact Or.inr rfl) (pe_op op_mod (pe_op op_addG (pe_op op_mulW (pv 1) pe_int) (pv 3)) (pe_op op_sub (pe_op op_pow pe_int pe_int) pe_int)))
    (pss_cons (ps_set (i := 4) sc_law_tray.nd rfl (by first | exact Or.inl rfl | exact Or.inr rfl) (pe_callB (cr_maxG rfl) (by rfl) T.z_max (by decide +kernel) (pa_cons (pv 3) (pa_cons (pe_op op_sub pe_int (pv 3)) pa_nil))))
    (pss_one (ps_if (pt_cmpR op_ge (pv 4) (pe_op op_pow pe_int pe_int) (nomark _))
    (pss_one (ps_expr (pe_bm PySem.F.plainAttrs_list PySem.F.slot_list_append PySem.F.type_list_append mt_append (pv 2) (pa_cons (pe_op op_sub (pv 4) (pe_op op_pow pe_int pe_int)) pa_nil)))) pss_nil)))))
    (pss_one (ps_ret (pe_lst (pa_cons (pv 2) (pa_cons pe_int (pa_cons (pv 1) (pa_cons pe_int pa_nil)))))))))),
    (rs_seq (rs_asg re_int rg_name)
    (rs_seq (rs_asg (re_lst (m := true) ra_nil) rg_name)
    (rs_seq (rs_for (ri_list re_var) rg_name
    (rs_seq (rs_asg (re_op ro_mod (re_op (ro_add (m := false)) (re_op ro_mul re_var re_int) re_var) (re_op ro_sub (re_op ro_pow re_int re_int) re_int)) rg_name)
    (rs_seq (rs_asg (re_CB rc_max (ra_cons re_var (ra_cons (re_op ro_sub re_int re_var) ra_nil))) rg_name)
    (rs_if (rt_test (re_op ro_ge re_var (re_op ro_pow re_int re_int)))
    (rs_drop (re_BM rm_append re_var (ra_cons (re_op ro_sub re_var (re_op ro_pow re_int re_int)) ra_nil))) rs_next))))
    (rs_ret (re_lst (m := true) (ra_cons re_var (ra_cons re_int (ra_cons re_var (ra_cons re_int ra_nil)))))))))⟩
theorem G_law_z (T : Txt K mg) (hx_NoFloors : PySem.ExS.ExT P K mg T.c_NoFloors T.i_NoFloors) (hx_NoWater : PySem.ExS.ExT P K mg T.c_NoWater T.i_NoWater) (hx_NoFlap : PySem.ExS.ExT P K mg T.c_NoFlap T.i_NoFlap) (hx_NoStep : PySem.ExS.ExT P K mg T.c_NoStep T.i_NoStep) (hx_NoTable : PySem.ExS.ExT P K mg T.c_NoTable T.i_NoTable) (hx_NoRows : PySem.ExS.ExT P K mg T.c_NoRows T.i_NoRows) (hx_NoDrop : PySem.ExS.ExT P K mg T.c_NoDrop T.i_NoDrop) (hx_NoTank : PySem.ExS.ExT P K mg T.c_NoTank T.i_NoTank) (hx_NoRain : PySem.ExS.ExT P K mg T.c_NoRain T.i_NoRain) (hx_NoOrder : PySem.ExS.ExT P K mg T.c_NoOrder T.i_NoOrder) (hx_NoText : PySem.ExS.ExT P K mg T.c_NoText T.i_NoText) : FnOk P w K mg base CX0 10 T.a_law T.fd_law ["script"] (spF K mg 1 f_law_z) :=
  fn_dl (k := 9) T.F_law sc_law rfl fun cdv A outer s H E hr => ⟨_, (pss_cons (ps_set (i := 1) sc_law.nd rfl (by first | exact Or.inl rfl | exact Or.inr rfl) (pe_call (G_law_tray_r T) (hr.mono (by first | decide | omega)) (by rfl) T.g_law_tray T.F_law_tray.kp T.b_law_tray .nil pass0 (pa_cons (pv 0) pa_nil)))
    (pss_cons (ps_if (pt_not (pt_val (pe_call0 (G_law_errors_right_z T hx_NoFloors hx_NoWater hx_NoFlap hx_NoStep hx_NoTable hx_NoRows hx_NoDrop hx_NoTank hx_NoRain hx_NoOrder hx_NoText) (hr.mono (by first | decide | omega)) (by rfl) T.g_law_errors_right T.F_law_errors_right.kp T.b_law_errors_right .nil pass0)))
    (pss_one (ps_ret pe_bl)) pss_nil)
    (pss_cons (ps_for PassesOwn.never rfl (pi_range1 (by rfl) T.z_range (pa_cons (pe_op op_addG pe_int (pe_callB (cr_minG rfl) (by rfl) T.z_min (by decide +kernel) (pa_cons pe_int (pa_cons (pe_callB cr_len (by rfl) T.z_len (by decide +kernel) (pa_cons (pv 0) pa_nil)) pa_nil)))) pa_nil)) (pg_name (i := 2) sc_law.nd rfl (by first | exact Or.inl rfl | exact Or.inr rfl))
    (pss_one (ps_for PassesOwn.never rfl (pi_range1 (by rfl) T.z_range (pa_cons pe_int pa_nil)) (pg_name (i := 3) sc_law.nd rfl (by first | exact Or.inl rfl | exact Or.inr rfl))
    (pss_cons (ps_set (i := 4) sc_law.nd rfl (by first | exact Or.inl rfl | exact Or.inr rfl) (pe_call (G_law_wides_k T) (hr.mono (by first | decide | omega)) (by rfl) T.g_law_wides T.F_law_wides.kp T.b_law_wides .nil pass0 (pa_cons (pv 1) (pa_cons pe_int pa_nil))))
    (pss_cons (ps_set (i := 5) sc_law.nd rfl (by first | exact Or.inl rfl | exact Or.inr rfl) (pe_call (G_law_amounts_k T) (hr.mono (by first | decide | omega)) (by rfl) T.g_law_amounts T.F_law_amounts.kp T.b_law_amounts .nil pass0 (pa_cons (pv 1) (pa_cons (pv 4) (pa_cons (pe_call (G_law_bottom_z T) (hr.mono (by first | decide | omega)) (by rfl) T.g_law_bottom T.F_law_bottom.kp T.b_law_bottom .nil pass0 (pa_cons (pv 1) pa_nil)) pa_nil)))))
    (pss_cons (ps_set (i := 6) sc_law.nd rfl (by first | exact Or.inl rfl | exact Or.inr rfl) (pe_call (G_law_bolts_k T) (hr.mono (by first | decide | omega)) (by rfl) T.g_law_bolts T.F_law_bolts.kp T.b_law_bolts .nil pass0 (pa_cons (pv 1) (pa_cons (pe_callB cr_len (by rfl) T.z_len (by decide +kernel) (pa_cons (pv 4) pa_nil)) pa_nil))))
    (pss_cons (ps_expr (pe_call (G_law_bent_z T) (hr.mono (by first | decide | omega)) (by rfl) T.g_law_bent T.F_law_bent.kp T.b_law_bent .nil pass0 (pa_cons (pv 1) (pa_cons (pv 4) (pa_cons (pv 5) (pa_cons (pv 6) pa_nil))))))
    (pss_cons (ps_set (i := 7) sc_law.nd rfl (by first | exact Or.inl rfl | exact Or.inr rfl) (pe_tup (pa_cons (pe_callTy cr_listOf (by rfl) T.z_list (by decide +kernel) (pa_cons (pv 4) pa_nil)) (pa_cons (pe_callTy cr_listOf (by rfl) T.z_list (by decide +kernel) (pa_cons (pv 5) pa_nil)) (pa_cons (pe_callTy cr_listOf (by rfl) T.z_list (by decide +kernel) (pa_cons (pv 6) pa_nil)) pa_nil)))))
    (pss_cons (ps_for PassesOwn.never rfl (pi_range1 (by rfl) T.z_range (pa_cons pe_int pa_nil)) (pg_name (i := 8) sc_law.nd rfl (by first | exact Or.inl rfl | exact Or.inr rfl))
    (pss_cons (ps_set (i := 9) sc_law.nd rfl (by first | exact Or.inl rfl | exact Or.inr rfl) (pe_call (G_law_due_z T) (hr.mono (by first | decide | omega)) (by rfl) T.g_law_due T.F_law_due.kp T.b_law_due .nil pass0 (pa_cons (pv 8) (pa_cons (pv 4) (pa_cons (pv 5) (pa_cons (pv 6) pa_nil))))))
    (pss_one (ps_if (pt_not (pt_val (pe_call (G_law_alike_z T 6) (hr.mono (by first | decide | omega)) (by rfl) T.g_law_alike T.F_law_alike.kp T.b_law_alike .nil pass0 (pa_cons (pe_call (G_law_caught_z T hx_NoFloors hx_NoWater hx_NoFlap hx_NoStep hx_NoTable hx_NoRows hx_NoDrop hx_NoTank hx_NoRain hx_NoOrder hx_NoText) (hr.mono (by first | decide | omega)) (by rfl) T.g_law_caught T.F_law_caught.kp T.b_law_caught .nil pass0 (pa_cons (pv 8) (pa_cons (pv 4) (pa_cons (pv 5) (pa_cons (pv 6) pa_nil))))) (pa_cons (pv 9) pa_nil)))))
    (pss_one (ps_ret pe_bl)) pss_nil))))
    (pss_one (ps_if (pt_cmpR (op_neD hr.units) (pv 7) (pe_tup (pa_cons (pv 4) (pa_cons (pv 5) (pa_cons (pv 6) pa_nil)))) (nomark _))
    (pss_one (ps_ret pe_bl)) pss_nil)))))))))))
    (pss_one (ps_ret pe_bl))))),
    (rs_seq (rs_asg (re_call0 (ra_cons re_var ra_nil)) rg_name)
    (rs_seq (rs_if (rt_not (rt_B (re_call0 ra_nil)))
    (rs_ret re_bl) rs_next)
    (rs_seq (rs_for (ri_rng1 (ra_cons (re_op (ro_add (m := false)) re_int (re_CB rc_min (ra_cons re_int (ra_cons (re_CB rc_len (ra_cons re_var ra_nil)) ra_nil)))) ra_nil)) rg_name
    (rs_for (ri_rng1 (ra_cons re_int ra_nil)) rg_name
    (rs_seq (rs_asg (re_call0 (ra_cons re_var (ra_cons re_int ra_nil))) rg_name)
    (rs_seq (rs_asg (re_call0 (ra_cons re_var (ra_cons re_var (ra_cons (re_call0 (ra_cons re_var ra_nil)) ra_nil)))) rg_name)
    (rs_seq (rs_asg (re_call0 (ra_cons re_var (ra_cons (re_CB rc_len (ra_cons re_var ra_nil)) ra_nil))) rg_name)
    (rs_seq (rs_drop (re_call0 (ra_cons re_var (ra_cons re_var (ra_cons re_var (ra_cons re_var ra_nil))))))
    (rs_seq (rs_asg (re_tup (ra_cons (re_CB (rc_list (m := false)) (ra_cons re_var ra_nil)) (ra_cons (re_CB (rc_list (m := false)) (ra_cons re_var ra_nil)) (ra_cons (re_CB (rc_list (m := false)) (ra_cons re_var ra_nil)) ra_nil)))) rg_name)
    (rs_seq (rs_for (ri_rng1 (ra_cons re_int ra_nil)) rg_name
    (rs_seq (rs_asg (re_call0 (ra_cons re_var (ra_cons re_var (ra_cons re_var (ra_cons re_var ra_nil))))) rg_name)
    (rs_if (rt_not (rt_B (re_call0 (ra_cons (re_call0 (ra_cons re_var (ra_cons re_var (ra_cons re_var (ra_cons re_var ra_nil))))) (ra_cons re_var ra_nil)))))
    (rs_ret re_bl) rs_next)))
    (rs_if (rt_test (re_op ro_ne re_var (re_tup (ra_cons re_var (ra_cons re_var (ra_cons re_var ra_nil))))))
    (rs_ret re_bl) rs_next)))))))))
    (rs_ret re_bl))))⟩
end
/-! ### the head -/
theorem all_mk {l : PySem.W.OpenLaw} {w : World} {K : PySem.W.Frag} {h : Heap} {mg : Str → Option Value} {fa : Addr} (X : K.In h) (G : h.Ns mainGlobals mg) (hfa : mg "law" = some (.ref fa))
    {f0 : Addr} {od0 an0 : Option Addr} {sl0 : Array (Option Value)} {oc0 kV0 dc0 pm0 cd0 ct0 : Value}
    {f1 : Addr} {od1 an1 : Option Addr} {sl1 : Array (Option Value)} {oc1 kV1 dc1 pm1 cd1 ct1 : Value}
    {f2 : Addr} {od2 an2 : Option Addr} {sl2 : Array (Option Value)} {oc2 kV2 dc2 pm2 cd2 ct2 : Value}
    {f3 : Addr} {od3 an3 : Option Addr} {sl3 : Array (Option Value)} {oc3 kV3 dc3 pm3 cd3 ct3 : Value}
    {f4 : Addr} {od4 an4 : Option Addr} {sl4 : Array (Option Value)} {oc4 kV4 dc4 pm4 cd4 ct4 : Value}
    {f5 : Addr} {od5 an5 : Option Addr} {sl5 : Array (Option Value)} {oc5 kV5 dc5 pm5 cd5 ct5 : Value}
    {f6 : Addr} {od6 an6 : Option Addr} {sl6 : Array (Option Value)} {oc6 kV6 dc6 pm6 cd6 ct6 : Value}
    {f7 : Addr} {od7 an7 : Option Addr} {sl7 : Array (Option Value)} {oc7 kV7 dc7 pm7 cd7 ct7 : Value}
    {f8 : Addr} {od8 an8 : Option Addr} {sl8 : Array (Option Value)} {oc8 kV8 dc8 pm8 cd8 ct8 : Value}
    {f9 : Addr} {od9 an9 : Option Addr} {sl9 : Array (Option Value)} {oc9 kV9 dc9 pm9 cd9 ct9 : Value}
    {f10 : Addr} {od10 an10 : Option Addr} {sl10 : Array (Option Value)} {oc10 kV10 dc10 pm10 cd10 ct10 : Value}
    {f11 : Addr} {od11 an11 : Option Addr} {sl11 : Array (Option Value)} {oc11 kV11 dc11 pm11 cd11 ct11 : Value}
    {f12 : Addr} {od12 an12 : Option Addr} {sl12 : Array (Option Value)} {oc12 kV12 dc12 pm12 cd12 ct12 : Value}
    {f13 : Addr} {od13 an13 : Option Addr} {sl13 : Array (Option Value)} {oc13 kV13 dc13 pm13 cd13 ct13 : Value}
    {f14 : Addr} {od14 an14 : Option Addr} {sl14 : Array (Option Value)} {oc14 kV14 dc14 pm14 cd14 ct14 : Value}
    {f15 : Addr} {od15 an15 : Option Addr} {sl15 : Array (Option Value)} {oc15 kV15 dc15 pm15 cd15 ct15 : Value}
    {T15 : Addr} {eT15 : Option Addr} {iT15 : Array Value} {nT15 : Nat} {yT15 : Array (Option Value)}
    {E15 : Addr} {eE15 : Option Addr} {iE15 : Array Value} {nE15 : Nat} {yE15 : Array (Option Value)}
    {f16 : Addr} {od16 an16 : Option Addr} {sl16 : Array (Option Value)} {oc16 kV16 dc16 pm16 cd16 ct16 : Value}
    {f17 : Addr} {od17 an17 : Option Addr} {sl17 : Array (Option Value)} {oc17 kV17 dc17 pm17 cd17 ct17 : Value}
    {f18 : Addr} {od18 an18 : Option Addr} {sl18 : Array (Option Value)} {oc18 kV18 dc18 pm18 cd18 ct18 : Value}
    {f19 : Addr} {od19 an19 : Option Addr} {sl19 : Array (Option Value)} {oc19 kV19 dc19 pm19 cd19 ct19 : Value}
    {f20 : Addr} {od20 an20 : Option Addr} {sl20 : Array (Option Value)} {oc20 kV20 dc20 pm20 cd20 ct20 : Value}
    {f21 : Addr} {od21 an21 : Option Addr} {sl21 : Array (Option Value)} {oc21 kV21 dc21 pm21 cd21 ct21 : Value}
    {f22 : Addr} {od22 an22 : Option Addr} {sl22 : Array (Option Value)} {oc22 kV22 dc22 pm22 cd22 ct22 : Value}
    {f23 : Addr} {od23 an23 : Option Addr} {sl23 : Array (Option Value)} {oc23 kV23 dc23 pm23 cd23 ct23 : Value}
    {f24 : Addr} {od24 an24 : Option Addr} {sl24 : Array (Option Value)} {oc24 kV24 dc24 pm24 cd24 ct24 : Value}
    {f25 : Addr} {od25 an25 : Option Addr} {sl25 : Array (Option Value)} {oc25 kV25 dc25 pm25 cd25 ct25 : Value}
    {f26 : Addr} {od26 an26 : Option Addr} {sl26 : Array (Option Value)} {oc26 kV26 dc26 pm26 cd26 ct26 : Value}
    {f27 : Addr} {od27 an27 : Option Addr} {sl27 : Array (Option Value)} {oc27 kV27 dc27 pm27 cd27 ct27 : Value}
    {f28 : Addr} {od28 an28 : Option Addr} {sl28 : Array (Option Value)} {oc28 kV28 dc28 pm28 cd28 ct28 : Value}
    {f29 : Addr} {od29 an29 : Option Addr} {sl29 : Array (Option Value)} {oc29 kV29 dc29 pm29 cd29 ct29 : Value}
    {f30 : Addr} {od30 an30 : Option Addr} {sl30 : Array (Option Value)} {oc30 kV30 dc30 pm30 cd30 ct30 : Value}
    {cS : Addr}
    {cENoFloors iENoFloors cdaENoFloors ccENoFloors NENoFloors : Addr} {nmENoFloors qENoFloors : Str} {bsENoFloors subENoFloors : List Value} {snENoFloors : List Str} {abENoFloors : Bool} {colENoFloors : Option Bool} {ddENoFloors anENoFloors odENoFloors cddENoFloors cldENoFloors : Option Addr} {m0ENoFloors m1ENoFloors m2ENoFloors m3ENoFloors m5ENoFloors : Option Value} {ocENoFloors dcENoFloors pmENoFloors ctENoFloors cclENoFloors clENoFloors : Value} {slENoFloors ccsENoFloors cslENoFloors : Array (Option Value)} {vsENoFloors : Array Value} {flENoFloors : Str} {tfENoFloors : Tok}
    {cENoWater iENoWater cdaENoWater ccENoWater NENoWater : Addr} {nmENoWater qENoWater : Str} {bsENoWater subENoWater : List Value} {snENoWater : List Str} {abENoWater : Bool} {colENoWater : Option Bool} {ddENoWater anENoWater odENoWater cddENoWater cldENoWater : Option Addr} {m0ENoWater m1ENoWater m2ENoWater m3ENoWater m5ENoWater : Option Value} {ocENoWater dcENoWater pmENoWater ctENoWater cclENoWater clENoWater : Value} {slENoWater ccsENoWater cslENoWater : Array (Option Value)} {vsENoWater : Array Value} {flENoWater : Str} {tfENoWater : Tok}
    {cENoFlap iENoFlap cdaENoFlap ccENoFlap NENoFlap : Addr} {nmENoFlap qENoFlap : Str} {bsENoFlap subENoFlap : List Value} {snENoFlap : List Str} {abENoFlap : Bool} {colENoFlap : Option Bool} {ddENoFlap anENoFlap odENoFlap cddENoFlap cldENoFlap : Option Addr} {m0ENoFlap m1ENoFlap m2ENoFlap m3ENoFlap m5ENoFlap : Option Value} {ocENoFlap dcENoFlap pmENoFlap ctENoFlap cclENoFlap clENoFlap : Value} {slENoFlap ccsENoFlap cslENoFlap : Array (Option Value)} {vsENoFlap : Array Value} {flENoFlap : Str} {tfENoFlap : Tok}
    {cENoStep iENoStep cdaENoStep ccENoStep NENoStep : Addr} {nmENoStep qENoStep : Str} {bsENoStep subENoStep : List Value} {snENoStep : List Str} {abENoStep : Bool} {colENoStep : Option Bool} {ddENoStep anENoStep odENoStep cddENoStep cldENoStep : Option Addr} {m0ENoStep m1ENoStep m2ENoStep m3ENoStep m5ENoStep : Option Value} {ocENoStep dcENoStep pmENoStep ctENoStep cclENoStep clENoStep : Value} {slENoStep ccsENoStep cslENoStep : Array (Option Value)} {vsENoStep : Array Value} {flENoStep : Str} {tfENoStep : Tok}
    {cENoTable iENoTable cdaENoTable ccENoTable NENoTable : Addr} {nmENoTable qENoTable : Str} {bsENoTable subENoTable : List Value} {snENoTable : List Str} {abENoTable : Bool} {colENoTable : Option Bool} {ddENoTable anENoTable odENoTable cddENoTable cldENoTable : Option Addr} {m0ENoTable m1ENoTable m2ENoTable m3ENoTable m5ENoTable : Option Value} {ocENoTable dcENoTable pmENoTable ctENoTable cclENoTable clENoTable : Value} {slENoTable ccsENoTable cslENoTable : Array (Option Value)} {vsENoTable : Array Value} {flENoTable : Str} {tfENoTable : Tok}
    {cENoRows iENoRows cdaENoRows ccENoRows NENoRows : Addr} {nmENoRows qENoRows : Str} {bsENoRows subENoRows : List Value} {snENoRows : List Str} {abENoRows : Bool} {colENoRows : Option Bool} {ddENoRows anENoRows odENoRows cddENoRows cldENoRows : Option Addr} {m0ENoRows m1ENoRows m2ENoRows m3ENoRows m5ENoRows : Option Value} {ocENoRows dcENoRows pmENoRows ctENoRows cclENoRows clENoRows : Value} {slENoRows ccsENoRows cslENoRows : Array (Option Value)} {vsENoRows : Array Value} {flENoRows : Str} {tfENoRows : Tok}
    {cENoDrop iENoDrop cdaENoDrop ccENoDrop NENoDrop : Addr} {nmENoDrop qENoDrop : Str} {bsENoDrop subENoDrop : List Value} {snENoDrop : List Str} {abENoDrop : Bool} {colENoDrop : Option Bool} {ddENoDrop anENoDrop odENoDrop cddENoDrop cldENoDrop : Option Addr} {m0ENoDrop m1ENoDrop m2ENoDrop m3ENoDrop m5ENoDrop : Option Value} {ocENoDrop dcENoDrop pmENoDrop ctENoDrop cclENoDrop clENoDrop : Value} {slENoDrop ccsENoDrop cslENoDrop : Array (Option Value)} {vsENoDrop : Array Value} {flENoDrop : Str} {tfENoDrop : Tok}
    {cENoTank iENoTank cdaENoTank ccENoTank NENoTank : Addr} {nmENoTank qENoTank : Str} {bsENoTank subENoTank : List Value} {snENoTank : List Str} {abENoTank : Bool} {colENoTank : Option Bool} {ddENoTank anENoTank odENoTank cddENoTank cldENoTank : Option Addr} {m0ENoTank m1ENoTank m2ENoTank m3ENoTank m5ENoTank : Option Value} {ocENoTank dcENoTank pmENoTank ctENoTank cclENoTank clENoTank : Value} {slENoTank ccsENoTank cslENoTank : Array (Option Value)} {vsENoTank : Array Value} {flENoTank : Str} {tfENoTank : Tok}
    {cENoRain iENoRain cdaENoRain ccENoRain NENoRain : Addr} {nmENoRain qENoRain : Str} {bsENoRain subENoRain : List Value} {snENoRain : List Str} {abENoRain : Bool} {colENoRain : Option Bool} {ddENoRain anENoRain odENoRain cddENoRain cldENoRain : Option Addr} {m0ENoRain m1ENoRain m2ENoRain m3ENoRain m5ENoRain : Option Value} {ocENoRain dcENoRain pmENoRain ctENoRain cclENoRain clENoRain : Value} {slENoRain ccsENoRain cslENoRain : Array (Option Value)} {vsENoRain : Array Value} {flENoRain : Str} {tfENoRain : Tok}
    {cENoOrder iENoOrder cdaENoOrder ccENoOrder NENoOrder : Addr} {nmENoOrder qENoOrder : Str} {bsENoOrder subENoOrder : List Value} {snENoOrder : List Str} {abENoOrder : Bool} {colENoOrder : Option Bool} {ddENoOrder anENoOrder odENoOrder cddENoOrder cldENoOrder : Option Addr} {m0ENoOrder m1ENoOrder m2ENoOrder m3ENoOrder m5ENoOrder : Option Value} {ocENoOrder dcENoOrder pmENoOrder ctENoOrder cclENoOrder clENoOrder : Value} {slENoOrder ccsENoOrder cslENoOrder : Array (Option Value)} {vsENoOrder : Array Value} {flENoOrder : Str} {tfENoOrder : Tok}
    {cENoText iENoText cdaENoText ccENoText NENoText : Addr} {nmENoText qENoText : Str} {bsENoText subENoText : List Value} {snENoText : List Str} {abENoText : Bool} {colENoText : Option Bool} {ddENoText anENoText odENoText cddENoText cldENoText : Option Addr} {m0ENoText m1ENoText m2ENoText m3ENoText m5ENoText : Option Value} {ocENoText dcENoText pmENoText ctENoText cclENoText clENoText : Value} {slENoText ccsENoText cslENoText : Array (Option Value)} {vsENoText : Array Value} {flENoText : Str} {tfENoText : Tok}
    {c_NOUGHT : Addr} {e_NOUGHT : Option Addr} {i_NOUGHT : Array Value} {n_NOUGHT : Nat} {y_NOUGHT : Array (Option Value)}
    (a0 : PySem.W.nsIn K mainGlobals "_law_alike" = some (some (.ref f0)))
    (l0 : K.lookup f0 = some ⟨oc0, od0, .func (PySem.W.fnOf "_law_alike" "_law_alike" (defArgs s_law_alike) (defBody s_law_alike) (defScope s_law_alike) .none kV0 dc0 pm0 an0 cd0 ct0), sl0⟩)
    (c0 : PySem.W.codeIn K cd0 "_law_alike" = true) (k0 : PySem.W.keepIn K (.ref f0) = true)
    (a1 : PySem.W.nsIn K mainGlobals "check_floors" = some (some (.ref f1)))
    (l1 : K.lookup f1 = some ⟨oc1, od1, .func (PySem.W.fnOf "check_floors" "check_floors" (defArgs s_check_floors) (defBody s_check_floors) (defScope s_check_floors) .none kV1 dc1 pm1 an1 cd1 ct1), sl1⟩)
    (c1 : PySem.W.codeIn K cd1 "check_floors" = true) (k1 : PySem.W.keepIn K (.ref f1) = true)
    (a2 : PySem.W.nsIn K mainGlobals "above" = some (some (.ref f2)))
    (l2 : K.lookup f2 = some ⟨oc2, od2, .func (PySem.W.fnOf "above" "above" (defArgs s_above) (defBody s_above) (defScope s_above) .none kV2 dc2 pm2 an2 cd2 ct2), sl2⟩)
    (c2 : PySem.W.codeIn K cd2 "above" = true) (k2 : PySem.W.keepIn K (.ref f2) = true)
    (a3 : PySem.W.nsIn K mainGlobals "check_water" = some (some (.ref f3)))
    (l3 : K.lookup f3 = some ⟨oc3, od3, .func (PySem.W.fnOf "check_water" "check_water" (defArgs s_check_water) (defBody s_check_water) (defScope s_check_water) .none kV3 dc3 pm3 an3 cd3 ct3), sl3⟩)
    (c3 : PySem.W.codeIn K cd3 "check_water" = true) (k3 : PySem.W.keepIn K (.ref f3) = true)
    (a4 : PySem.W.nsIn K mainGlobals "check_bolted" = some (some (.ref f4)))
    (l4 : K.lookup f4 = some ⟨oc4, od4, .func (PySem.W.fnOf "check_bolted" "check_bolted" (defArgs s_check_bolted) (defBody s_check_bolted) (defScope s_check_bolted) .none kV4 dc4 pm4 an4 cd4 ct4), sl4⟩)
    (c4 : PySem.W.codeIn K cd4 "check_bolted" = true) (k4 : PySem.W.keepIn K (.ref f4) = true)
    (a5 : PySem.W.nsIn K mainGlobals "places" = some (some (.ref f5)))
    (l5 : K.lookup f5 = some ⟨oc5, od5, .func (PySem.W.fnOf "places" "places" (defArgs s_places) (defBody s_places) (defScope s_places) .none kV5 dc5 pm5 an5 cd5 ct5), sl5⟩)
    (c5 : PySem.W.codeIn K cd5 "places" = true) (k5 : PySem.W.keepIn K (.ref f5) = true)
    (a6 : PySem.W.nsIn K mainGlobals "lowest" = some (some (.ref f6)))
    (l6 : K.lookup f6 = some ⟨oc6, od6, .func (PySem.W.fnOf "lowest" "lowest" (defArgs s_lowest) (defBody s_lowest) (defScope s_lowest) .none kV6 dc6 pm6 an6 cd6 ct6), sl6⟩)
    (c6 : PySem.W.codeIn K cd6 "lowest" = true) (k6 : PySem.W.keepIn K (.ref f6) = true)
    (a7 : PySem.W.nsIn K mainGlobals "plus" = some (some (.ref f7)))
    (l7 : K.lookup f7 = some ⟨oc7, od7, .func (PySem.W.fnOf "plus" "plus" (defArgs s_plus) (defBody s_plus) (defScope s_plus) .none kV7 dc7 pm7 an7 cd7 ct7), sl7⟩)
    (c7 : PySem.W.codeIn K cd7 "plus" = true) (k7 : PySem.W.keepIn K (.ref f7) = true)
    (a8 : PySem.W.nsIn K mainGlobals "sums" = some (some (.ref f8)))
    (l8 : K.lookup f8 = some ⟨oc8, od8, .func (PySem.W.fnOf "sums" "sums" (defArgs s_sums) (defBody s_sums) (defScope s_sums) .none kV8 dc8 pm8 an8 cd8 ct8), sl8⟩)
    (c8 : PySem.W.codeIn K cd8 "sums" = true) (k8 : PySem.W.keepIn K (.ref f8) = true)
    (a9 : PySem.W.nsIn K mainGlobals "heaped" = some (some (.ref f9)))
    (l9 : K.lookup f9 = some ⟨oc9, od9, .func (PySem.W.fnOf "heaped" "heaped" (defArgs s_heaped) (defBody s_heaped) (defScope s_heaped) .none kV9 dc9 pm9 an9 cd9 ct9), sl9⟩)
    (c9 : PySem.W.codeIn K cd9 "heaped" = true) (k9 : PySem.W.keepIn K (.ref f9) = true)
    (a10 : PySem.W.nsIn K mainGlobals "stretches" = some (some (.ref f10)))
    (l10 : K.lookup f10 = some ⟨oc10, od10, .func (PySem.W.fnOf "stretches" "stretches" (defArgs s_stretches) (defBody s_stretches) (defScope s_stretches) .none kV10 dc10 pm10 an10 cd10 ct10), sl10⟩)
    (c10 : PySem.W.codeIn K cd10 "stretches" = true) (k10 : PySem.W.keepIn K (.ref f10) = true)
    (a11 : PySem.W.nsIn K mainGlobals "share" = some (some (.ref f11)))
    (l11 : K.lookup f11 = some ⟨oc11, od11, .func (PySem.W.fnOf "share" "share" (defArgs s_share) (defBody s_share) (defScope s_share) .none kV11 dc11 pm11 an11 cd11 ct11), sl11⟩)
    (c11 : PySem.W.codeIn K cd11 "share" = true) (k11 : PySem.W.keepIn K (.ref f11) = true)
    (a12 : PySem.W.nsIn K mainGlobals "pool_height" = some (some (.ref f12)))
    (l12 : K.lookup f12 = some ⟨oc12, od12, .func (PySem.W.fnOf "pool_height" "pool_height" (defArgs s_pool_height) (defBody s_pool_height) (defScope s_pool_height) .none kV12 dc12 pm12 an12 cd12 ct12), sl12⟩)
    (c12 : PySem.W.codeIn K cd12 "pool_height" = true) (k12 : PySem.W.keepIn K (.ref f12) = true)
    (a13 : PySem.W.nsIn K mainGlobals "pooled" = some (some (.ref f13)))
    (l13 : K.lookup f13 = some ⟨oc13, od13, .func (PySem.W.fnOf "pooled" "pooled" (defArgs s_pooled) (defBody s_pooled) (defScope s_pooled) .none kV13 dc13 pm13 an13 cd13 ct13), sl13⟩)
    (c13 : PySem.W.codeIn K cd13 "pooled" = true) (k13 : PySem.W.keepIn K (.ref f13) = true)
    (a14 : PySem.W.nsIn K mainGlobals "at_rest" = some (some (.ref f14)))
    (l14 : K.lookup f14 = some ⟨oc14, od14, .func (PySem.W.fnOf "at_rest" "at_rest" (defArgs s_at_rest) (defBody s_at_rest) (defScope s_at_rest) .none kV14 dc14 pm14 an14 cd14 ct14), sl14⟩)
    (c14 : PySem.W.codeIn K cd14 "at_rest" = true) (k14 : PySem.W.keepIn K (.ref f14) = true)
    (a15 : PySem.W.nsIn K mainGlobals "settled" = some (some (.ref f15)))
    (l15 : K.lookup f15 = some ⟨oc15, od15, .func (PySem.W.fnOf "settled" "settled" (defArgs s_settled) (defBody s_settled) (defScope s_settled) (.ref T15) kV15 dc15 pm15 an15 cd15 ct15), sl15⟩)
    (c15 : PySem.W.codeIn K cd15 "settled" = true) (k15 : PySem.W.keepIn K (.ref f15) = true)
    (t15 : K.lookup T15 = some ⟨.type "tuple", eT15, .seq iT15 nT15, yT15⟩)
    (u15 : iT15.toList = [.ref E15]) (w15 : K.lookup E15 = some ⟨.type "tuple", eE15, .seq iE15 nE15, yE15⟩) (x15 : iE15.toList = [])
    (a16 : PySem.W.nsIn K mainGlobals "_law_kind" = some (some (.ref f16)))
    (l16 : K.lookup f16 = some ⟨oc16, od16, .func (PySem.W.fnOf "_law_kind" "_law_kind" (defArgs s_law_kind) (defBody s_law_kind) (defScope s_law_kind) .none kV16 dc16 pm16 an16 cd16 ct16), sl16⟩)
    (c16 : PySem.W.codeIn K cd16 "_law_kind" = true) (k16 : PySem.W.keepIn K (.ref f16) = true)
    (a17 : PySem.W.nsIn K mainGlobals "_law_caught" = some (some (.ref f17)))
    (l17 : K.lookup f17 = some ⟨oc17, od17, .func (PySem.W.fnOf "_law_caught" "_law_caught" (defArgs s_law_caught) (defBody s_law_caught) (defScope s_law_caught) .none kV17 dc17 pm17 an17 cd17 ct17), sl17⟩)
    (c17 : PySem.W.codeIn K cd17 "_law_caught" = true) (k17 : PySem.W.keepIn K (.ref f17) = true)
    (a18 : PySem.W.nsIn K mainGlobals "_law_due" = some (some (.ref f18)))
    (l18 : K.lookup f18 = some ⟨oc18, od18, .func (PySem.W.fnOf "_law_due" "_law_due" (defArgs s_law_due) (defBody s_law_due) (defScope s_law_due) .none kV18 dc18 pm18 an18 cd18 ct18), sl18⟩)
    (c18 : PySem.W.codeIn K cd18 "_law_due" = true) (k18 : PySem.W.keepIn K (.ref f18) = true)
    (a19 : PySem.W.nsIn K mainGlobals "_law_draw" = some (some (.ref f19)))
    (l19 : K.lookup f19 = some ⟨oc19, od19, .func (PySem.W.fnOf "_law_draw" "_law_draw" (defArgs s_law_draw) (defBody s_law_draw) (defScope s_law_draw) .none kV19 dc19 pm19 an19 cd19 ct19), sl19⟩)
    (c19 : PySem.W.codeIn K cd19 "_law_draw" = true) (k19 : PySem.W.keepIn K (.ref f19) = true)
    (a20 : PySem.W.nsIn K mainGlobals "_law_low" = some (some (.ref f20)))
    (l20 : K.lookup f20 = some ⟨oc20, od20, .func (PySem.W.fnOf "_law_low" "_law_low" (defArgs s_law_low) (defBody s_law_low) (defScope s_law_low) .none kV20 dc20 pm20 an20 cd20 ct20), sl20⟩)
    (c20 : PySem.W.codeIn K cd20 "_law_low" = true) (k20 : PySem.W.keepIn K (.ref f20) = true)
    (a21 : PySem.W.nsIn K mainGlobals "_law_bent" = some (some (.ref f21)))
    (l21 : K.lookup f21 = some ⟨oc21, od21, .func (PySem.W.fnOf "_law_bent" "_law_bent" (defArgs s_law_bent) (defBody s_law_bent) (defScope s_law_bent) .none kV21 dc21 pm21 an21 cd21 ct21), sl21⟩)
    (c21 : PySem.W.codeIn K cd21 "_law_bent" = true) (k21 : PySem.W.keepIn K (.ref f21) = true)
    (a22 : PySem.W.nsIn K mainGlobals "_law_shuffled" = some (some (.ref f22)))
    (l22 : K.lookup f22 = some ⟨oc22, od22, .func (PySem.W.fnOf "_law_shuffled" "_law_shuffled" (defArgs s_law_shuffled) (defBody s_law_shuffled) (defScope s_law_shuffled) .none kV22 dc22 pm22 an22 cd22 ct22), sl22⟩)
    (c22 : PySem.W.codeIn K cd22 "_law_shuffled" = true) (k22 : PySem.W.keepIn K (.ref f22) = true)
    (a23 : PySem.W.nsIn K mainGlobals "_law_bolts" = some (some (.ref f23)))
    (l23 : K.lookup f23 = some ⟨oc23, od23, .func (PySem.W.fnOf "_law_bolts" "_law_bolts" (defArgs s_law_bolts) (defBody s_law_bolts) (defScope s_law_bolts) .none kV23 dc23 pm23 an23 cd23 ct23), sl23⟩)
    (c23 : PySem.W.codeIn K cd23 "_law_bolts" = true) (k23 : PySem.W.keepIn K (.ref f23) = true)
    (a24 : PySem.W.nsIn K mainGlobals "_law_amount" = some (some (.ref f24)))
    (l24 : K.lookup f24 = some ⟨oc24, od24, .func (PySem.W.fnOf "_law_amount" "_law_amount" (defArgs s_law_amount) (defBody s_law_amount) (defScope s_law_amount) .none kV24 dc24 pm24 an24 cd24 ct24), sl24⟩)
    (c24 : PySem.W.codeIn K cd24 "_law_amount" = true) (k24 : PySem.W.keepIn K (.ref f24) = true)
    (a25 : PySem.W.nsIn K mainGlobals "_law_amounts" = some (some (.ref f25)))
    (l25 : K.lookup f25 = some ⟨oc25, od25, .func (PySem.W.fnOf "_law_amounts" "_law_amounts" (defArgs s_law_amounts) (defBody s_law_amounts) (defScope s_law_amounts) .none kV25 dc25 pm25 an25 cd25 ct25), sl25⟩)
    (c25 : PySem.W.codeIn K cd25 "_law_amounts" = true) (k25 : PySem.W.keepIn K (.ref f25) = true)
    (a26 : PySem.W.nsIn K mainGlobals "_law_bottom" = some (some (.ref f26)))
    (l26 : K.lookup f26 = some ⟨oc26, od26, .func (PySem.W.fnOf "_law_bottom" "_law_bottom" (defArgs s_law_bottom) (defBody s_law_bottom) (defScope s_law_bottom) .none kV26 dc26 pm26 an26 cd26 ct26), sl26⟩)
    (c26 : PySem.W.codeIn K cd26 "_law_bottom" = true) (k26 : PySem.W.keepIn K (.ref f26) = true)
    (a27 : PySem.W.nsIn K mainGlobals "_law_wides" = some (some (.ref f27)))
    (l27 : K.lookup f27 = some ⟨oc27, od27, .func (PySem.W.fnOf "_law_wides" "_law_wides" (defArgs s_law_wides) (defBody s_law_wides) (defScope s_law_wides) .none kV27 dc27 pm27 an27 cd27 ct27), sl27⟩)
    (c27 : PySem.W.codeIn K cd27 "_law_wides" = true) (k27 : PySem.W.keepIn K (.ref f27) = true)
    (a28 : PySem.W.nsIn K mainGlobals "_law_errors_right" = some (some (.ref f28)))
    (l28 : K.lookup f28 = some ⟨oc28, od28, .func (PySem.W.fnOf "_law_errors_right" "_law_errors_right" (defArgs s_law_errors_right) (defBody s_law_errors_right) (defScope s_law_errors_right) .none kV28 dc28 pm28 an28 cd28 ct28), sl28⟩)
    (c28 : PySem.W.codeIn K cd28 "_law_errors_right" = true) (k28 : PySem.W.keepIn K (.ref f28) = true)
    (a29 : PySem.W.nsIn K mainGlobals "_law_tray" = some (some (.ref f29)))
    (l29 : K.lookup f29 = some ⟨oc29, od29, .func (PySem.W.fnOf "_law_tray" "_law_tray" (defArgs s_law_tray) (defBody s_law_tray) (defScope s_law_tray) .none kV29 dc29 pm29 an29 cd29 ct29), sl29⟩)
    (c29 : PySem.W.codeIn K cd29 "_law_tray" = true) (k29 : PySem.W.keepIn K (.ref f29) = true)
    (a30 : PySem.W.nsIn K mainGlobals "law" = some (some (.ref f30)))
    (l30 : K.lookup f30 = some ⟨oc30, od30, .func (PySem.W.fnOf "law" "law" (defArgs s_law) (defBody s_law) (defScope s_law) .none kV30 dc30 pm30 an30 cd30 ct30), sl30⟩)
    (c30 : PySem.W.codeIn K cd30 "law" = true) (k30 : PySem.W.keepIn K (.ref f30) = true)
    (z0_bounds : PySem.W.nsIn K mainGlobals "bounds" = some none)
    (eS : PySem.W.nsIn K mainGlobals "FlapError" = some (some (.ref cS)))
    (eO : PySem.W.nsIn K PySem.cStatics "thirdparty.any" = some none) (eZ : PySem.W.nsIn K mainGlobals "super" = some none) (eQ : (l.prog.main.scope.names.lookup ("super" : Str)).isSome = false)
    (e2 : PySem.W.specialIn K (.builtin "object.__class__") "__get__" = some (some (.builtin "getset_descriptor.__get__"))) (e3 : PySem.W.takesIn K (.builtin "object.__class__") = some true) (e5 : PySem.W.hasDictIn K cS = true) (e6 : PySem.W.typeIn K (.ref cS) = some (.type "type")) (e8 : PySem.W.subIn K (.ref cS) (.type "BaseException") = some true)
    (eANoFloors : PySem.W.nsIn K mainGlobals "NoFloors" = some (some (.ref cENoFloors)))
    (eLNoFloors : K.lookup cENoFloors = some (excClassObj nmENoFloors qENoFloors cENoFloors NENoFloors bsENoFloors [.ref cS, .type "ValueError", .type "Exception", .type "BaseException", .type "object"] true snENoFloors subENoFloors abENoFloors colENoFloors ddENoFloors m0ENoFloors m1ENoFloors m2ENoFloors m3ENoFloors m5ENoFloors "ValueError.__new__"))
    (eBNoFloors : PySem.W.findIn K (.ref cENoFloors) "__setattr__" = some (some (.builtin "object.__setattr__"))) (eGNoFloors : PySem.W.findIn K (.ref cENoFloors) "__getattribute__" = some (some (.builtin "BaseException.__getattribute__"))) (eHNoFloors : PySem.W.findIn K (.ref cENoFloors) "__getattr__" = some none) (eWNoFloors : PySem.W.findIn K (.ref cENoFloors) "what" = some none)
    (eINoFloors : PySem.W.findIn K (.ref cENoFloors) "__init__" = some (some (.ref iENoFloors))) (eTNoFloors : PySem.W.typeIn K (.ref iENoFloors) = some (.type "function")) (eKNoFloors : PySem.W.keepIn K (.ref cENoFloors) = true) (eXNoFloors : PySem.W.subIn K (.ref cENoFloors) (.type "BaseException") = some true) (eVNoFloors : PySem.W.subIn K (.ref cENoFloors) (.type "ValueError") = some true)
    (eMNoFloors : PySem.W.mroIn K cENoFloors (.ref cENoFloors) = some true) (eYNoFloors : PySem.W.typeIn K (.ref cENoFloors) = some (.type "type")) (eDNoFloors : PySem.W.hasDictIn K cENoFloors = true) (eUNoFloors : PySem.W.ks_superIn K cENoFloors cENoFloors "__init__" = some (some (.builtin "ValueError.__init__")))
    (eFNoFloors : K.lookup iENoFloors = some ⟨ocENoFloors, odENoFloors, .func (PySem.W.ksFn "__init__" "NoFloors.__init__" (defArgs s_xinitNoFloors) (defBody s_xinitNoFloors) (defScope s_xinitNoFloors) .none .none dcENoFloors pmENoFloors anENoFloors (.ref cdaENoFloors) ctENoFloors ccENoFloors), slENoFloors⟩) (eCNoFloors : PySem.W.codeIn K (.ref cdaENoFloors) "NoFloors.__init__" = true)
    (eENoFloors : K.lookup cdaENoFloors = some ⟨cclENoFloors, cddENoFloors, .fields vsENoFloors, ccsENoFloors⟩) (eNNoFloors : vsENoFloors[2]? = some (.str flENoFloors tfENoFloors)) (ePNoFloors : ((l.prog.main.file : Str) == flENoFloors) = true) (eRNoFloors : K.lookup ccENoFloors = some ⟨clENoFloors, cldENoFloors, .cell (some (.ref cENoFloors)), cslENoFloors⟩)
    (e1NoFloors : PySem.W.findIn K (.ref cENoFloors) "__class__" = some (some (.builtin "object.__class__"))) (e4NoFloors : PySem.W.mroIn K cENoFloors (.type "object") = some true) (e7NoFloors : PySem.W.mroIn K cENoFloors (.ref cS) = some true)
    (eANoWater : PySem.W.nsIn K mainGlobals "NoWater" = some (some (.ref cENoWater)))
    (eLNoWater : K.lookup cENoWater = some (excClassObj nmENoWater qENoWater cENoWater NENoWater bsENoWater [.ref cS, .type "ValueError", .type "Exception", .type "BaseException", .type "object"] true snENoWater subENoWater abENoWater colENoWater ddENoWater m0ENoWater m1ENoWater m2ENoWater m3ENoWater m5ENoWater "ValueError.__new__"))
    (eBNoWater : PySem.W.findIn K (.ref cENoWater) "__setattr__" = some (some (.builtin "object.__setattr__"))) (eGNoWater : PySem.W.findIn K (.ref cENoWater) "__getattribute__" = some (some (.builtin "BaseException.__getattribute__"))) (eHNoWater : PySem.W.findIn K (.ref cENoWater) "__getattr__" = some none) (eWNoWater : PySem.W.findIn K (.ref cENoWater) "what" = some none)
    (eINoWater : PySem.W.findIn K (.ref cENoWater) "__init__" = some (some (.ref iENoWater))) (eTNoWater : PySem.W.typeIn K (.ref iENoWater) = some (.type "function")) (eKNoWater : PySem.W.keepIn K (.ref cENoWater) = true) (eXNoWater : PySem.W.subIn K (.ref cENoWater) (.type "BaseException") = some true) (eVNoWater : PySem.W.subIn K (.ref cENoWater) (.type "ValueError") = some true)
    (eMNoWater : PySem.W.mroIn K cENoWater (.ref cENoWater) = some true) (eYNoWater : PySem.W.typeIn K (.ref cENoWater) = some (.type "type")) (eDNoWater : PySem.W.hasDictIn K cENoWater = true) (eUNoWater : PySem.W.ks_superIn K cENoWater cENoWater "__init__" = some (some (.builtin "ValueError.__init__")))
    (eFNoWater : K.lookup iENoWater = some ⟨ocENoWater, odENoWater, .func (PySem.W.ksFn "__init__" "NoWater.__init__" (defArgs s_xinitNoWater) (defBody s_xinitNoWater) (defScope s_xinitNoWater) .none .none dcENoWater pmENoWater anENoWater (.ref cdaENoWater) ctENoWater ccENoWater), slENoWater⟩) (eCNoWater : PySem.W.codeIn K (.ref cdaENoWater) "NoWater.__init__" = true)
    (eENoWater : K.lookup cdaENoWater = some ⟨cclENoWater, cddENoWater, .fields vsENoWater, ccsENoWater⟩) (eNNoWater : vsENoWater[2]? = some (.str flENoWater tfENoWater)) (ePNoWater : ((l.prog.main.file : Str) == flENoWater) = true) (eRNoWater : K.lookup ccENoWater = some ⟨clENoWater, cldENoWater, .cell (some (.ref cENoWater)), cslENoWater⟩)
    (e1NoWater : PySem.W.findIn K (.ref cENoWater) "__class__" = some (some (.builtin "object.__class__"))) (e4NoWater : PySem.W.mroIn K cENoWater (.type "object") = some true) (e7NoWater : PySem.W.mroIn K cENoWater (.ref cS) = some true)
    (eANoFlap : PySem.W.nsIn K mainGlobals "NoFlap" = some (some (.ref cENoFlap)))
    (eLNoFlap : K.lookup cENoFlap = some (excClassObj nmENoFlap qENoFlap cENoFlap NENoFlap bsENoFlap [.ref cS, .type "ValueError", .type "Exception", .type "BaseException", .type "object"] true snENoFlap subENoFlap abENoFlap colENoFlap ddENoFlap m0ENoFlap m1ENoFlap m2ENoFlap m3ENoFlap m5ENoFlap "ValueError.__new__"))
    (eBNoFlap : PySem.W.findIn K (.ref cENoFlap) "__setattr__" = some (some (.builtin "object.__setattr__"))) (eGNoFlap : PySem.W.findIn K (.ref cENoFlap) "__getattribute__" = some (some (.builtin "BaseException.__getattribute__"))) (eHNoFlap : PySem.W.findIn K (.ref cENoFlap) "__getattr__" = some none) (eWNoFlap : PySem.W.findIn K (.ref cENoFlap) "what" = some none)
    (eINoFlap : PySem.W.findIn K (.ref cENoFlap) "__init__" = some (some (.ref iENoFlap))) (eTNoFlap : PySem.W.typeIn K (.ref iENoFlap) = some (.type "function")) (eKNoFlap : PySem.W.keepIn K (.ref cENoFlap) = true) (eXNoFlap : PySem.W.subIn K (.ref cENoFlap) (.type "BaseException") = some true) (eVNoFlap : PySem.W.subIn K (.ref cENoFlap) (.type "ValueError") = some true)
    (eMNoFlap : PySem.W.mroIn K cENoFlap (.ref cENoFlap) = some true) (eYNoFlap : PySem.W.typeIn K (.ref cENoFlap) = some (.type "type")) (eDNoFlap : PySem.W.hasDictIn K cENoFlap = true) (eUNoFlap : PySem.W.ks_superIn K cENoFlap cENoFlap "__init__" = some (some (.builtin "ValueError.__init__")))
    (eFNoFlap : K.lookup iENoFlap = some ⟨ocENoFlap, odENoFlap, .func (PySem.W.ksFn "__init__" "NoFlap.__init__" (defArgs s_xinitNoFlap) (defBody s_xinitNoFlap) (defScope s_xinitNoFlap) .none .none dcENoFlap pmENoFlap anENoFlap (.ref cdaENoFlap) ctENoFlap ccENoFlap), slENoFlap⟩) (eCNoFlap : PySem.W.codeIn K (.ref cdaENoFlap) "NoFlap.__init__" = true)
    (eENoFlap : K.lookup cdaENoFlap = some ⟨cclENoFlap, cddENoFlap, .fields vsENoFlap, ccsENoFlap⟩) (eNNoFlap : vsENoFlap[2]? = some (.str flENoFlap tfENoFlap)) (ePNoFlap : ((l.prog.main.file : Str) == flENoFlap) = true) (eRNoFlap : K.lookup ccENoFlap = some ⟨clENoFlap, cldENoFlap, .cell (some (.ref cENoFlap)), cslENoFlap⟩)
    (e1NoFlap : PySem.W.findIn K (.ref cENoFlap) "__class__" = some (some (.builtin "object.__class__"))) (e4NoFlap : PySem.W.mroIn K cENoFlap (.type "object") = some true) (e7NoFlap : PySem.W.mroIn K cENoFlap (.ref cS) = some true)
    (eANoStep : PySem.W.nsIn K mainGlobals "NoStep" = some (some (.ref cENoStep)))
    (eLNoStep : K.lookup cENoStep = some (excClassObj nmENoStep qENoStep cENoStep NENoStep bsENoStep [.ref cS, .type "ValueError", .type "Exception", .type "BaseException", .type "object"] true snENoStep subENoStep abENoStep colENoStep ddENoStep m0ENoStep m1ENoStep m2ENoStep m3ENoStep m5ENoStep "ValueError.__new__"))
    (eBNoStep : PySem.W.findIn K (.ref cENoStep) "__setattr__" = some (some (.builtin "object.__setattr__"))) (eGNoStep : PySem.W.findIn K (.ref cENoStep) "__getattribute__" = some (some (.builtin "BaseException.__getattribute__"))) (eHNoStep : PySem.W.findIn K (.ref cENoStep) "__getattr__" = some none) (eWNoStep : PySem.W.findIn K (.ref cENoStep) "what" = some none)
    (eINoStep : PySem.W.findIn K (.ref cENoStep) "__init__" = some (some (.ref iENoStep))) (eTNoStep : PySem.W.typeIn K (.ref iENoStep) = some (.type "function")) (eKNoStep : PySem.W.keepIn K (.ref cENoStep) = true) (eXNoStep : PySem.W.subIn K (.ref cENoStep) (.type "BaseException") = some true) (eVNoStep : PySem.W.subIn K (.ref cENoStep) (.type "ValueError") = some true)
    (eMNoStep : PySem.W.mroIn K cENoStep (.ref cENoStep) = some true) (eYNoStep : PySem.W.typeIn K (.ref cENoStep) = some (.type "type")) (eDNoStep : PySem.W.hasDictIn K cENoStep = true) (eUNoStep : PySem.W.ks_superIn K cENoStep cENoStep "__init__" = some (some (.builtin "ValueError.__init__")))
    (eFNoStep : K.lookup iENoStep = some ⟨ocENoStep, odENoStep, .func (PySem.W.ksFn "__init__" "NoStep.__init__" (defArgs s_xinitNoStep) (defBody s_xinitNoStep) (defScope s_xinitNoStep) .none .none dcENoStep pmENoStep anENoStep (.ref cdaENoStep) ctENoStep ccENoStep), slENoStep⟩) (eCNoStep : PySem.W.codeIn K (.ref cdaENoStep) "NoStep.__init__" = true)
    (eENoStep : K.lookup cdaENoStep = some ⟨cclENoStep, cddENoStep, .fields vsENoStep, ccsENoStep⟩) (eNNoStep : vsENoStep[2]? = some (.str flENoStep tfENoStep)) (ePNoStep : ((l.prog.main.file : Str) == flENoStep) = true) (eRNoStep : K.lookup ccENoStep = some ⟨clENoStep, cldENoStep, .cell (some (.ref cENoStep)), cslENoStep⟩)
    (e1NoStep : PySem.W.findIn K (.ref cENoStep) "__class__" = some (some (.builtin "object.__class__"))) (e4NoStep : PySem.W.mroIn K cENoStep (.type "object") = some true) (e7NoStep : PySem.W.mroIn K cENoStep (.ref cS) = some true)
    (eANoTable : PySem.W.nsIn K mainGlobals "NoTable" = some (some (.ref cENoTable)))
    (eLNoTable : K.lookup cENoTable = some (excClassObj nmENoTable qENoTable cENoTable NENoTable bsENoTable [.ref cS, .type "ValueError", .type "Exception", .type "BaseException", .type "object"] true snENoTable subENoTable abENoTable colENoTable ddENoTable m0ENoTable m1ENoTable m2ENoTable m3ENoTable m5ENoTable "ValueError.__new__"))
    (eBNoTable : PySem.W.findIn K (.ref cENoTable) "__setattr__" = some (some (.builtin "object.__setattr__"))) (eGNoTable : PySem.W.findIn K (.ref cENoTable) "__getattribute__" = some (some (.builtin "BaseException.__getattribute__"))) (eHNoTable : PySem.W.findIn K (.ref cENoTable) "__getattr__" = some none) (eWNoTable : PySem.W.findIn K (.ref cENoTable) "what" = some none)
    (eINoTable : PySem.W.findIn K (.ref cENoTable) "__init__" = some (some (.ref iENoTable))) (eTNoTable : PySem.W.typeIn K (.ref iENoTable) = some (.type "function")) (eKNoTable : PySem.W.keepIn K (.ref cENoTable) = true) (eXNoTable : PySem.W.subIn K (.ref cENoTable) (.type "BaseException") = some true) (eVNoTable : PySem.W.subIn K (.ref cENoTable) (.type "ValueError") = some true)
    (eMNoTable : PySem.W.mroIn K cENoTable (.ref cENoTable) = some true) (eYNoTable : PySem.W.typeIn K (.ref cENoTable) = some (.type "type")) (eDNoTable : PySem.W.hasDictIn K cENoTable = true) (eUNoTable : PySem.W.ks_superIn K cENoTable cENoTable "__init__" = some (some (.builtin "ValueError.__init__")))
    (eFNoTable : K.lookup iENoTable = some ⟨ocENoTable, odENoTable, .func (PySem.W.ksFn "__init__" "NoTable.__init__" (defArgs s_xinitNoTable) (defBody s_xinitNoTable) (defScope s_xinitNoTable) .none .none dcENoTable pmENoTable anENoTable (.ref cdaENoTable) ctENoTable ccENoTable), slENoTable⟩) (eCNoTable : PySem.W.codeIn K (.ref cdaENoTable) "NoTable.__init__" = true)
    (eENoTable : K.lookup cdaENoTable = some ⟨cclENoTable, cddENoTable, .fields vsENoTable, ccsENoTable⟩) (eNNoTable : vsENoTable[2]? = some (.str flENoTable tfENoTable)) (ePNoTable : ((l.prog.main.file : Str) == flENoTable) = true) (eRNoTable : K.lookup ccENoTable = some ⟨clENoTable, cldENoTable, .cell (some (.ref cENoTable)), cslENoTable⟩)
    (e1NoTable : PySem.W.findIn K (.ref cENoTable) "__class__" = some (some (.builtin "object.__class__"))) (e4NoTable : PySem.W.mroIn K cENoTable (.type "object") = some true) (e7NoTable : PySem.W.mroIn K cENoTable (.ref cS) = some true)
    (eANoRows : PySem.W.nsIn K mainGlobals "NoRows" = some (some (.ref cENoRows)))
    (eLNoRows : K.lookup cENoRows = some (excClassObj nmENoRows qENoRows cENoRows NENoRows bsENoRows [.ref cS, .type "ValueError", .type "Exception", .type "BaseException", .type "object"] true snENoRows subENoRows abENoRows colENoRows ddENoRows m0ENoRows m1ENoRows m2ENoRows m3ENoRows m5ENoRows "ValueError.__new__"))
    (eBNoRows : PySem.W.findIn K (.ref cENoRows) "__setattr__" = some (some (.builtin "object.__setattr__"))) (eGNoRows : PySem.W.findIn K (.ref cENoRows) "__getattribute__" = some (some (.builtin "BaseException.__getattribute__"))) (eHNoRows : PySem.W.findIn K (.ref cENoRows) "__getattr__" = some none) (eWNoRows : PySem.W.findIn K (.ref cENoRows) "what" = some none)
    (eINoRows : PySem.W.findIn K (.ref cENoRows) "__init__" = some (some (.ref iENoRows))) (eTNoRows : PySem.W.typeIn K (.ref iENoRows) = some (.type "function")) (eKNoRows : PySem.W.keepIn K (.ref cENoRows) = true) (eXNoRows : PySem.W.subIn K (.ref cENoRows) (.type "BaseException") = some true) (eVNoRows : PySem.W.subIn K (.ref cENoRows) (.type "ValueError") = some true)
    (eMNoRows : PySem.W.mroIn K cENoRows (.ref cENoRows) = some true) (eYNoRows : PySem.W.typeIn K (.ref cENoRows) = some (.type "type")) (eDNoRows : PySem.W.hasDictIn K cENoRows = true) (eUNoRows : PySem.W.ks_superIn K cENoRows cENoRows "__init__" = some (some (.builtin "ValueError.__init__")))
    (eFNoRows : K.lookup iENoRows = some ⟨ocENoRows, odENoRows, .func (PySem.W.ksFn "__init__" "NoRows.__init__" (defArgs s_xinitNoRows) (defBody s_xinitNoRows) (defScope s_xinitNoRows) .none .none dcENoRows pmENoRows anENoRows (.ref cdaENoRows) ctENoRows ccENoRows), slENoRows⟩) (eCNoRows : PySem.W.codeIn K (.ref cdaENoRows) "NoRows.__init__" = true)
    (eENoRows : K.lookup cdaENoRows = some ⟨cclENoRows, cddENoRows, .fields vsENoRows, ccsENoRows⟩) (eNNoRows : vsENoRows[2]? = some (.str flENoRows tfENoRows)) (ePNoRows : ((l.prog.main.file : Str) == flENoRows) = true) (eRNoRows : K.lookup ccENoRows = some ⟨clENoRows, cldENoRows, .cell (some (.ref cENoRows)), cslENoRows⟩)
    (e1NoRows : PySem.W.findIn K (.ref cENoRows) "__class__" = some (some (.builtin "object.__class__"))) (e4NoRows : PySem.W.mroIn K cENoRows (.type "object") = some true) (e7NoRows : PySem.W.mroIn K cENoRows (.ref cS) = some true)
    (eANoDrop : PySem.W.nsIn K mainGlobals "NoDrop" = some (some (.ref cENoDrop)))
    (eLNoDrop : K.lookup cENoDrop = some (excClassObj nmENoDrop qENoDrop cENoDrop NENoDrop bsENoDrop [.ref cS, .type "ValueError", .type "Exception", .type "BaseException", .type "object"] true snENoDrop subENoDrop abENoDrop colENoDrop ddENoDrop m0ENoDrop m1ENoDrop m2ENoDrop m3ENoDrop m5ENoDrop "ValueError.__new__"))
    (eBNoDrop : PySem.W.findIn K (.ref cENoDrop) "__setattr__" = some (some (.builtin "object.__setattr__"))) (eGNoDrop : PySem.W.findIn K (.ref cENoDrop) "__getattribute__" = some (some (.builtin "BaseException.__getattribute__"))) (eHNoDrop : PySem.W.findIn K (.ref cENoDrop) "__getattr__" = some none) (eWNoDrop : PySem.W.findIn K (.ref cENoDrop) "what" = some none)
    (eINoDrop : PySem.W.findIn K (.ref cENoDrop) "__init__" = some (some (.ref iENoDrop))) (eTNoDrop : PySem.W.typeIn K (.ref iENoDrop) = some (.type "function")) (eKNoDrop : PySem.W.keepIn K (.ref cENoDrop) = true) (eXNoDrop : PySem.W.subIn K (.ref cENoDrop) (.type "BaseException") = some true) (eVNoDrop : PySem.W.subIn K (.ref cENoDrop) (.type "ValueError") = some true)
    (eMNoDrop : PySem.W.mroIn K cENoDrop (.ref cENoDrop) = some true) (eYNoDrop : PySem.W.typeIn K (.ref cENoDrop) = some (.type "type")) (eDNoDrop : PySem.W.hasDictIn K cENoDrop = true) (eUNoDrop : PySem.W.ks_superIn K cENoDrop cENoDrop "__init__" = some (some (.builtin "ValueError.__init__")))
    (eFNoDrop : K.lookup iENoDrop = some ⟨ocENoDrop, odENoDrop, .func (PySem.W.ksFn "__init__" "NoDrop.__init__" (defArgs s_xinitNoDrop) (defBody s_xinitNoDrop) (defScope s_xinitNoDrop) .none .none dcENoDrop pmENoDrop anENoDrop (.ref cdaENoDrop) ctENoDrop ccENoDrop), slENoDrop⟩) (eCNoDrop : PySem.W.codeIn K (.ref cdaENoDrop) "NoDrop.__init__" = true)
    (eENoDrop : K.lookup cdaENoDrop = some ⟨cclENoDrop, cddENoDrop, .fields vsENoDrop, ccsENoDrop⟩) (eNNoDrop : vsENoDrop[2]? = some (.str flENoDrop tfENoDrop)) (ePNoDrop : ((l.prog.main.file : Str) == flENoDrop) = true) (eRNoDrop : K.lookup ccENoDrop = some ⟨clENoDrop, cldENoDrop, .cell (some (.ref cENoDrop)), cslENoDrop⟩)
    (e1NoDrop : PySem.W.findIn K (.ref cENoDrop) "__class__" = some (some (.builtin "object.__class__"))) (e4NoDrop : PySem.W.mroIn K cENoDrop (.type "object") = some true) (e7NoDrop : PySem.W.mroIn K cENoDrop (.ref cS) = some true)
    (eANoTank : PySem.W.nsIn K mainGlobals "NoTank" = some (some (.ref cENoTank)))
    (eLNoTank : K.lookup cENoTank = some (excClassObj nmENoTank qENoTank cENoTank NENoTank bsENoTank [.ref cS, .type "ValueError", .type "Exception", .type "BaseException", .type "object"] true snENoTank subENoTank abENoTank colENoTank ddENoTank m0ENoTank m1ENoTank m2ENoTank m3ENoTank m5ENoTank "ValueError.__new__"))
    (eBNoTank : PySem.W.findIn K (.ref cENoTank) "__setattr__" = some (some (.builtin "object.__setattr__"))) (eGNoTank : PySem.W.findIn K (.ref cENoTank) "__getattribute__" = some (some (.builtin "BaseException.__getattribute__"))) (eHNoTank : PySem.W.findIn K (.ref cENoTank) "__getattr__" = some none) (eWNoTank : PySem.W.findIn K (.ref cENoTank) "what" = some none)
    (eINoTank : PySem.W.findIn K (.ref cENoTank) "__init__" = some (some (.ref iENoTank))) (eTNoTank : PySem.W.typeIn K (.ref iENoTank) = some (.type "function")) (eKNoTank : PySem.W.keepIn K (.ref cENoTank) = true) (eXNoTank : PySem.W.subIn K (.ref cENoTank) (.type "BaseException") = some true) (eVNoTank : PySem.W.subIn K (.ref cENoTank) (.type "ValueError") = some true)
    (eMNoTank : PySem.W.mroIn K cENoTank (.ref cENoTank) = some true) (eYNoTank : PySem.W.typeIn K (.ref cENoTank) = some (.type "type")) (eDNoTank : PySem.W.hasDictIn K cENoTank = true) (eUNoTank : PySem.W.ks_superIn K cENoTank cENoTank "__init__" = some (some (.builtin "ValueError.__init__")))
    (eFNoTank : K.lookup iENoTank = some ⟨ocENoTank, odENoTank, .func (PySem.W.ksFn "__init__" "NoTank.__init__" (defArgs s_xinitNoTank) (defBody s_xinitNoTank) (defScope s_xinitNoTank) .none .none dcENoTank pmENoTank anENoTank (.ref cdaENoTank) ctENoTank ccENoTank), slENoTank⟩) (eCNoTank : PySem.W.codeIn K (.ref cdaENoTank) "NoTank.__init__" = true)
    (eENoTank : K.lookup cdaENoTank = some ⟨cclENoTank, cddENoTank, .fields vsENoTank, ccsENoTank⟩) (eNNoTank : vsENoTank[2]? = some (.str flENoTank tfENoTank)) (ePNoTank : ((l.prog.main.file : Str) == flENoTank) = true) (eRNoTank : K.lookup ccENoTank = some ⟨clENoTank, cldENoTank, .cell (some (.ref cENoTank)), cslENoTank⟩)
    (e1NoTank : PySem.W.findIn K (.ref cENoTank) "__class__" = some (some (.builtin "object.__class__"))) (e4NoTank : PySem.W.mroIn K cENoTank (.type "object") = some true) (e7NoTank : PySem.W.mroIn K cENoTank (.ref cS) = some true)
    (eANoRain : PySem.W.nsIn K mainGlobals "NoRain" = some (some (.ref cENoRain)))
    (eLNoRain : K.lookup cENoRain = some (excClassObj nmENoRain qENoRain cENoRain NENoRain bsENoRain [.ref cS, .type "ValueError", .type "Exception", .type "BaseException", .type "object"] true snENoRain subENoRain abENoRain colENoRain ddENoRain m0ENoRain m1ENoRain m2ENoRain m3ENoRain m5ENoRain "ValueError.__new__"))
    (eBNoRain : PySem.W.findIn K (.ref cENoRain) "__setattr__" = some (some (.builtin "object.__setattr__"))) (eGNoRain : PySem.W.findIn K (.ref cENoRain) "__getattribute__" = some (some (.builtin "BaseException.__getattribute__"))) (eHNoRain : PySem.W.findIn K (.ref cENoRain) "__getattr__" = some none) (eWNoRain : PySem.W.findIn K (.ref cENoRain) "what" = some none)
    (eINoRain : PySem.W.findIn K (.ref cENoRain) "__init__" = some (some (.ref iENoRain))) (eTNoRain : PySem.W.typeIn K (.ref iENoRain) = some (.type "function")) (eKNoRain : PySem.W.keepIn K (.ref cENoRain) = true) (eXNoRain : PySem.W.subIn K (.ref cENoRain) (.type "BaseException") = some true) (eVNoRain : PySem.W.subIn K (.ref cENoRain) (.type "ValueError") = some true)
    (eMNoRain : PySem.W.mroIn K cENoRain (.ref cENoRain) = some true) (eYNoRain : PySem.W.typeIn K (.ref cENoRain) = some (.type "type")) (eDNoRain : PySem.W.hasDictIn K cENoRain = true) (eUNoRain : PySem.W.ks_superIn K cENoRain cENoRain "__init__" = some (some (.builtin "ValueError.__init__")))
    (eFNoRain : K.lookup iENoRain = some ⟨ocENoRain, odENoRain, .func (PySem.W.ksFn "__init__" "NoRain.__init__" (defArgs s_xinitNoRain) (defBody s_xinitNoRain) (defScope s_xinitNoRain) .none .none dcENoRain pmENoRain anENoRain (.ref cdaENoRain) ctENoRain ccENoRain), slENoRain⟩) (eCNoRain : PySem.W.codeIn K (.ref cdaENoRain) "NoRain.__init__" = true)
    (eENoRain : K.lookup cdaENoRain = some ⟨cclENoRain, cddENoRain, .fields vsENoRain, ccsENoRain⟩) (eNNoRain : vsENoRain[2]? = some (.str flENoRain tfENoRain)) (ePNoRain : ((l.prog.main.file : Str) == flENoRain) = true) (eRNoRain : K.lookup ccENoRain = some ⟨clENoRain, cldENoRain, .cell (some (.ref cENoRain)), cslENoRain⟩)
    (e1NoRain : PySem.W.findIn K (.ref cENoRain) "__class__" = some (some (.builtin "object.__class__"))) (e4NoRain : PySem.W.mroIn K cENoRain (.type "object") = some true) (e7NoRain : PySem.W.mroIn K cENoRain (.ref cS) = some true)
    (eANoOrder : PySem.W.nsIn K mainGlobals "NoOrder" = some (some (.ref cENoOrder)))
    (eLNoOrder : K.lookup cENoOrder = some (excClassObj nmENoOrder qENoOrder cENoOrder NENoOrder bsENoOrder [.ref cS, .type "ValueError", .type "Exception", .type "BaseException", .type "object"] true snENoOrder subENoOrder abENoOrder colENoOrder ddENoOrder m0ENoOrder m1ENoOrder m2ENoOrder m3ENoOrder m5ENoOrder "ValueError.__new__"))
    (eBNoOrder : PySem.W.findIn K (.ref cENoOrder) "__setattr__" = some (some (.builtin "object.__setattr__"))) (eGNoOrder : PySem.W.findIn K (.ref cENoOrder) "__getattribute__" = some (some (.builtin "BaseException.__getattribute__"))) (eHNoOrder : PySem.W.findIn K (.ref cENoOrder) "__getattr__" = some none) (eWNoOrder : PySem.W.findIn K (.ref cENoOrder) "what" = some none)
    (eINoOrder : PySem.W.findIn K (.ref cENoOrder) "__init__" = some (some (.ref iENoOrder))) (eTNoOrder : PySem.W.typeIn K (.ref iENoOrder) = some (.type "function")) (eKNoOrder : PySem.W.keepIn K (.ref cENoOrder) = true) (eXNoOrder : PySem.W.subIn K (.ref cENoOrder) (.type "BaseException") = some true) (eVNoOrder : PySem.W.subIn K (.ref cENoOrder) (.type "ValueError") = some true)
    (eMNoOrder : PySem.W.mroIn K cENoOrder (.ref cENoOrder) = some true) (eYNoOrder : PySem.W.typeIn K (.ref cENoOrder) = some (.type "type")) (eDNoOrder : PySem.W.hasDictIn K cENoOrder = true) (eUNoOrder : PySem.W.ks_superIn K cENoOrder cENoOrder "__init__" = some (some (.builtin "ValueError.__init__")))
    (eFNoOrder : K.lookup iENoOrder = some ⟨ocENoOrder, odENoOrder, .func (PySem.W.ksFn "__init__" "NoOrder.__init__" (defArgs s_xinitNoOrder) (defBody s_xinitNoOrder) (defScope s_xinitNoOrder) .none .none dcENoOrder pmENoOrder anENoOrder (.ref cdaENoOrder) ctENoOrder ccENoOrder), slENoOrder⟩) (eCNoOrder : PySem.W.codeIn K (.ref cdaENoOrder) "NoOrder.__init__" = true)
    (eENoOrder : K.lookup cdaENoOrder = some ⟨cclENoOrder, cddENoOrder, .fields vsENoOrder, ccsENoOrder⟩) (eNNoOrder : vsENoOrder[2]? = some (.str flENoOrder tfENoOrder)) (ePNoOrder : ((l.prog.main.file : Str) == flENoOrder) = true) (eRNoOrder : K.lookup ccENoOrder = some ⟨clENoOrder, cldENoOrder, .cell (some (.ref cENoOrder)), cslENoOrder⟩)
    (e1NoOrder : PySem.W.findIn K (.ref cENoOrder) "__class__" = some (some (.builtin "object.__class__"))) (e4NoOrder : PySem.W.mroIn K cENoOrder (.type "object") = some true) (e7NoOrder : PySem.W.mroIn K cENoOrder (.ref cS) = some true)
    (eANoText : PySem.W.nsIn K mainGlobals "NoText" = some (some (.ref cENoText)))
    (eLNoText : K.lookup cENoText = some (excClassObj nmENoText qENoText cENoText NENoText bsENoText [.ref cS, .type "ValueError", .type "Exception", .type "BaseException", .type "object"] true snENoText subENoText abENoText colENoText ddENoText m0ENoText m1ENoText m2ENoText m3ENoText m5ENoText "ValueError.__new__"))
    (eBNoText : PySem.W.findIn K (.ref cENoText) "__setattr__" = some (some (.builtin "object.__setattr__"))) (eGNoText : PySem.W.findIn K (.ref cENoText) "__getattribute__" = some (some (.builtin "BaseException.__getattribute__"))) (eHNoText : PySem.W.findIn K (.ref cENoText) "__getattr__" = some none) (eWNoText : PySem.W.findIn K (.ref cENoText) "what" = some none)
    (eINoText : PySem.W.findIn K (.ref cENoText) "__init__" = some (some (.ref iENoText))) (eTNoText : PySem.W.typeIn K (.ref iENoText) = some (.type "function")) (eKNoText : PySem.W.keepIn K (.ref cENoText) = true) (eXNoText : PySem.W.subIn K (.ref cENoText) (.type "BaseException") = some true) (eVNoText : PySem.W.subIn K (.ref cENoText) (.type "ValueError") = some true)
    (eMNoText : PySem.W.mroIn K cENoText (.ref cENoText) = some true) (eYNoText : PySem.W.typeIn K (.ref cENoText) = some (.type "type")) (eDNoText : PySem.W.hasDictIn K cENoText = true) (eUNoText : PySem.W.ks_superIn K cENoText cENoText "__init__" = some (some (.builtin "ValueError.__init__")))
    (eFNoText : K.lookup iENoText = some ⟨ocENoText, odENoText, .func (PySem.W.ksFn "__init__" "NoText.__init__" (defArgs s_xinitNoText) (defBody s_xinitNoText) (defScope s_xinitNoText) .none .none dcENoText pmENoText anENoText (.ref cdaENoText) ctENoText ccENoText), slENoText⟩) (eCNoText : PySem.W.codeIn K (.ref cdaENoText) "NoText.__init__" = true)
    (eENoText : K.lookup cdaENoText = some ⟨cclENoText, cddENoText, .fields vsENoText, ccsENoText⟩) (eNNoText : vsENoText[2]? = some (.str flENoText tfENoText)) (ePNoText : ((l.prog.main.file : Str) == flENoText) = true) (eRNoText : K.lookup ccENoText = some ⟨clENoText, cldENoText, .cell (some (.ref cENoText)), cslENoText⟩)
    (e1NoText : PySem.W.findIn K (.ref cENoText) "__class__" = some (some (.builtin "object.__class__"))) (e4NoText : PySem.W.mroIn K cENoText (.type "object") = some true) (e7NoText : PySem.W.mroIn K cENoText (.ref cS) = some true)
    (eMNoFloorsNoWater : PySem.W.mroIn K cENoWater (.ref cENoFloors) = some false)
    (eMNoFloorsNoFlap : PySem.W.mroIn K cENoFlap (.ref cENoFloors) = some false)
    (eMNoFloorsNoStep : PySem.W.mroIn K cENoStep (.ref cENoFloors) = some false)
    (eMNoFloorsNoTable : PySem.W.mroIn K cENoTable (.ref cENoFloors) = some false)
    (eMNoFloorsNoRows : PySem.W.mroIn K cENoRows (.ref cENoFloors) = some false)
    (eMNoFloorsNoDrop : PySem.W.mroIn K cENoDrop (.ref cENoFloors) = some false)
    (eMNoFloorsNoTank : PySem.W.mroIn K cENoTank (.ref cENoFloors) = some false)
    (eMNoFloorsNoRain : PySem.W.mroIn K cENoRain (.ref cENoFloors) = some false)
    (eMNoFloorsNoOrder : PySem.W.mroIn K cENoOrder (.ref cENoFloors) = some false)
    (eMNoFloorsNoText : PySem.W.mroIn K cENoText (.ref cENoFloors) = some false)
    (eMNoWaterNoFloors : PySem.W.mroIn K cENoFloors (.ref cENoWater) = some false)
    (eMNoWaterNoFlap : PySem.W.mroIn K cENoFlap (.ref cENoWater) = some false)
    (eMNoWaterNoStep : PySem.W.mroIn K cENoStep (.ref cENoWater) = some false)
    (eMNoWaterNoTable : PySem.W.mroIn K cENoTable (.ref cENoWater) = some false)
    (eMNoWaterNoRows : PySem.W.mroIn K cENoRows (.ref cENoWater) = some false)
    (eMNoWaterNoDrop : PySem.W.mroIn K cENoDrop (.ref cENoWater) = some false)
    (eMNoWaterNoTank : PySem.W.mroIn K cENoTank (.ref cENoWater) = some false)
    (eMNoWaterNoRain : PySem.W.mroIn K cENoRain (.ref cENoWater) = some false)
    (eMNoWaterNoOrder : PySem.W.mroIn K cENoOrder (.ref cENoWater) = some false)
    (eMNoWaterNoText : PySem.W.mroIn K cENoText (.ref cENoWater) = some false)
    (eMNoFlapNoFloors : PySem.W.mroIn K cENoFloors (.ref cENoFlap) = some false)
    (eMNoFlapNoWater : PySem.W.mroIn K cENoWater (.ref cENoFlap) = some false)
    (eMNoFlapNoStep : PySem.W.mroIn K cENoStep (.ref cENoFlap) = some false)
    (eMNoFlapNoTable : PySem.W.mroIn K cENoTable (.ref cENoFlap) = some false)
    (eMNoFlapNoRows : PySem.W.mroIn K cENoRows (.ref cENoFlap) = some false)
    (eMNoFlapNoDrop : PySem.W.mroIn K cENoDrop (.ref cENoFlap) = some false)
    (eMNoFlapNoTank : PySem.W.mroIn K cENoTank (.ref cENoFlap) = some false)
    (eMNoFlapNoRain : PySem.W.mroIn K cENoRain (.ref cENoFlap) = some false)
    (eMNoFlapNoOrder : PySem.W.mroIn K cENoOrder (.ref cENoFlap) = some false)
    (eMNoFlapNoText : PySem.W.mroIn K cENoText (.ref cENoFlap) = some false)
    (eMNoStepNoFloors : PySem.W.mroIn K cENoFloors (.ref cENoStep) = some false)
    (eMNoStepNoWater : PySem.W.mroIn K cENoWater (.ref cENoStep) = some false)
    (eMNoStepNoFlap : PySem.W.mroIn K cENoFlap (.ref cENoStep) = some false)
    (eMNoStepNoTable : PySem.W.mroIn K cENoTable (.ref cENoStep) = some false)
    (eMNoStepNoRows : PySem.W.mroIn K cENoRows (.ref cENoStep) = some false)
    (eMNoStepNoDrop : PySem.W.mroIn K cENoDrop (.ref cENoStep) = some false)
    (eMNoStepNoTank : PySem.W.mroIn K cENoTank (.ref cENoStep) = some false)
    (eMNoStepNoRain : PySem.W.mroIn K cENoRain (.ref cENoStep) = some false)
    (eMNoStepNoOrder : PySem.W.mroIn K cENoOrder (.ref cENoStep) = some false)
    (eMNoStepNoText : PySem.W.mroIn K cENoText (.ref cENoStep) = some false)
    (eMNoTableNoFloors : PySem.W.mroIn K cENoFloors (.ref cENoTable) = some false)
    (eMNoTableNoWater : PySem.W.mroIn K cENoWater (.ref cENoTable) = some false)
    (eMNoTableNoFlap : PySem.W.mroIn K cENoFlap (.ref cENoTable) = some false)
    (eMNoTableNoStep : PySem.W.mroIn K cENoStep (.ref cENoTable) = some false)
    (eMNoTableNoRows : PySem.W.mroIn K cENoRows (.ref cENoTable) = some false)
    (eMNoTableNoDrop : PySem.W.mroIn K cENoDrop (.ref cENoTable) = some false)
    (eMNoTableNoTank : PySem.W.mroIn K cENoTank (.ref cENoTable) = some false)
    (eMNoTableNoRain : PySem.W.mroIn K cENoRain (.ref cENoTable) = some false)
    (eMNoTableNoOrder : PySem.W.mroIn K cENoOrder (.ref cENoTable) = some false)
    (eMNoTableNoText : PySem.W.mroIn K cENoText (.ref cENoTable) = some false)
    (eMNoRowsNoFloors : PySem.W.mroIn K cENoFloors (.ref cENoRows) = some false)
    (eMNoRowsNoWater : PySem.W.mroIn K cENoWater (.ref cENoRows) = some false)
    (eMNoRowsNoFlap : PySem.W.mroIn K cENoFlap (.ref cENoRows) = some false)
    (eMNoRowsNoStep : PySem.W.mroIn K cENoStep (.ref cENoRows) = some false)
    (eMNoRowsNoTable : PySem.W.mroIn K cENoTable (.ref cENoRows) = some false)
    (eMNoRowsNoDrop : PySem.W.mroIn K cENoDrop (.ref cENoRows) = some false)
    (eMNoRowsNoTank : PySem.W.mroIn K cENoTank (.ref cENoRows) = some false)
    (eMNoRowsNoRain : PySem.W.mroIn K cENoRain (.ref cENoRows) = some false)
    (eMNoRowsNoOrder : PySem.W.mroIn K cENoOrder (.ref cENoRows) = some false)
    (eMNoRowsNoText : PySem.W.mroIn K cENoText (.ref cENoRows) = some false)
    (eMNoDropNoFloors : PySem.W.mroIn K cENoFloors (.ref cENoDrop) = some false)
    (eMNoDropNoWater : PySem.W.mroIn K cENoWater (.ref cENoDrop) = some false)
    (eMNoDropNoFlap : PySem.W.mroIn K cENoFlap (.ref cENoDrop) = some false)
    (eMNoDropNoStep : PySem.W.mroIn K cENoStep (.ref cENoDrop) = some false)
    (eMNoDropNoTable : PySem.W.mroIn K cENoTable (.ref cENoDrop) = some false)
    (eMNoDropNoRows : PySem.W.mroIn K cENoRows (.ref cENoDrop) = some false)
    (eMNoDropNoTank : PySem.W.mroIn K cENoTank (.ref cENoDrop) = some false)
    (eMNoDropNoRain : PySem.W.mroIn K cENoRain (.ref cENoDrop) = some false)
    (eMNoDropNoOrder : PySem.W.mroIn K cENoOrder (.ref cENoDrop) = some false)
    (eMNoDropNoText : PySem.W.mroIn K cENoText (.ref cENoDrop) = some false)
    (eMNoTankNoFloors : PySem.W.mroIn K cENoFloors (.ref cENoTank) = some false)
    (eMNoTankNoWater : PySem.W.mroIn K cENoWater (.ref cENoTank) = some false)
    (eMNoTankNoFlap : PySem.W.mroIn K cENoFlap (.ref cENoTank) = some false)
    (eMNoTankNoStep : PySem.W.mroIn K cENoStep (.ref cENoTank) = some false)
    (eMNoTankNoTable : PySem.W.mroIn K cENoTable (.ref cENoTank) = some false)
    (eMNoTankNoRows : PySem.W.mroIn K cENoRows (.ref cENoTank) = some false)
    (eMNoTankNoDrop : PySem.W.mroIn K cENoDrop (.ref cENoTank) = some false)
    (eMNoTankNoRain : PySem.W.mroIn K cENoRain (.ref cENoTank) = some false)
    (eMNoTankNoOrder : PySem.W.mroIn K cENoOrder (.ref cENoTank) = some false)
    (eMNoTankNoText : PySem.W.mroIn K cENoText (.ref cENoTank) = some false)
    (eMNoRainNoFloors : PySem.W.mroIn K cENoFloors (.ref cENoRain) = some false)
    (eMNoRainNoWater : PySem.W.mroIn K cENoWater (.ref cENoRain) = some false)
    (eMNoRainNoFlap : PySem.W.mroIn K cENoFlap (.ref cENoRain) = some false)
    (eMNoRainNoStep : PySem.W.mroIn K cENoStep (.ref cENoRain) = some false)
    (eMNoRainNoTable : PySem.W.mroIn K cENoTable (.ref cENoRain) = some false)
    (eMNoRainNoRows : PySem.W.mroIn K cENoRows (.ref cENoRain) = some false)
    (eMNoRainNoDrop : PySem.W.mroIn K cENoDrop (.ref cENoRain) = some false)
    (eMNoRainNoTank : PySem.W.mroIn K cENoTank (.ref cENoRain) = some false)
    (eMNoRainNoOrder : PySem.W.mroIn K cENoOrder (.ref cENoRain) = some false)
    (eMNoRainNoText : PySem.W.mroIn K cENoText (.ref cENoRain) = some false)
    (eMNoOrderNoFloors : PySem.W.mroIn K cENoFloors (.ref cENoOrder) = some false)
    (eMNoOrderNoWater : PySem.W.mroIn K cENoWater (.ref cENoOrder) = some false)
    (eMNoOrderNoFlap : PySem.W.mroIn K cENoFlap (.ref cENoOrder) = some false)
    (eMNoOrderNoStep : PySem.W.mroIn K cENoStep (.ref cENoOrder) = some false)
    (eMNoOrderNoTable : PySem.W.mroIn K cENoTable (.ref cENoOrder) = some false)
    (eMNoOrderNoRows : PySem.W.mroIn K cENoRows (.ref cENoOrder) = some false)
    (eMNoOrderNoDrop : PySem.W.mroIn K cENoDrop (.ref cENoOrder) = some false)
    (eMNoOrderNoTank : PySem.W.mroIn K cENoTank (.ref cENoOrder) = some false)
    (eMNoOrderNoRain : PySem.W.mroIn K cENoRain (.ref cENoOrder) = some false)
    (eMNoOrderNoText : PySem.W.mroIn K cENoText (.ref cENoOrder) = some false)
    (eMNoTextNoFloors : PySem.W.mroIn K cENoFloors (.ref cENoText) = some false)
    (eMNoTextNoWater : PySem.W.mroIn K cENoWater (.ref cENoText) = some false)
    (eMNoTextNoFlap : PySem.W.mroIn K cENoFlap (.ref cENoText) = some false)
    (eMNoTextNoStep : PySem.W.mroIn K cENoStep (.ref cENoText) = some false)
    (eMNoTextNoTable : PySem.W.mroIn K cENoTable (.ref cENoText) = some false)
    (eMNoTextNoRows : PySem.W.mroIn K cENoRows (.ref cENoText) = some false)
    (eMNoTextNoDrop : PySem.W.mroIn K cENoDrop (.ref cENoText) = some false)
    (eMNoTextNoTank : PySem.W.mroIn K cENoTank (.ref cENoText) = some false)
    (eMNoTextNoRain : PySem.W.mroIn K cENoRain (.ref cENoText) = some false)
    (eMNoTextNoOrder : PySem.W.mroIn K cENoOrder (.ref cENoText) = some false)
    (z_ValueError : PySem.W.nsIn K mainGlobals "ValueError" = some none)
    (z_bool : PySem.W.nsIn K mainGlobals "bool" = some none)
    (z_enumerate : PySem.W.nsIn K mainGlobals "enumerate" = some none)
    (z_int : PySem.W.nsIn K mainGlobals "int" = some none)
    (z_isinstance : PySem.W.nsIn K mainGlobals "isinstance" = some none)
    (z_len : PySem.W.nsIn K mainGlobals "len" = some none)
    (z_list : PySem.W.nsIn K mainGlobals "list" = some none)
    (z_max : PySem.W.nsIn K mainGlobals "max" = some none)
    (z_min : PySem.W.nsIn K mainGlobals "min" = some none)
    (z_range : PySem.W.nsIn K mainGlobals "range" = some none)
    (z_sorted : PySem.W.nsIn K mainGlobals "sorted" = some none)
    (z_str : PySem.W.nsIn K mainGlobals "str" = some none)
    (z_sum : PySem.W.nsIn K mainGlobals "sum" = some none)
    (z_tuple : PySem.W.nsIn K mainGlobals "tuple" = some none)
    (z_zip : PySem.W.nsIn K mainGlobals "zip" = some none)
    (h_NOUGHT : PySem.W.nsIn K mainGlobals "NOUGHT" = some (some (.ref c_NOUGHT))) (l_NOUGHT : K.lookup c_NOUGHT = some ⟨.type "tuple", e_NOUGHT, .seq i_NOUGHT n_NOUGHT, y_NOUGHT⟩) (s_NOUGHT : i_NOUGHT.size ≤ sizeLine) (v_NOUGHT : L2.Vals (([0, 1] : List Int).map V.int) i_NOUGHT.toList)
    (h_gcd : PySem.W.nsIn K mainGlobals "gcd" = some (some (.builtin "math.gcd")))
    (true_ : ∀ ns : List Int, ns.length ≤ 63 → ∃ S', f_law_z [.rls (ns.map DV.int)] [] = some (.bl true, S')) :
    ∃ fd : FuncData, (∀ (s : Shared) (v : Value), BindsTo s fd ⟨[v], []⟩ [("script", v)]) ∧ ∀ base : Heap, K.In base → base.Ns mainGlobals mg → FnOk l.prog w K mg base CX0 10 fa fd ["script"] (spLaw K) := by
  have e := hfa.symm.trans (PySem.W.mg_of X G a30)
  cases e
  have F0 := fun_mk (st := s_law_alike) l0 c0 k0
  have b0 := F0.binds (ps := ["found", "due"]) fun _ _ _ _ _ _ us hl => match us, hl with | [_, _], _ => rfl
  have F1 := fun_mk (st := s_check_floors) l1 c1 k1
  have b1 := F1.binds (ps := ["floors"]) fun _ _ _ _ _ _ us hl => match us, hl with | [_], _ => rfl
  have F2 := fun_mk (st := s_above) l2 c2 k2
  have b2 := F2.binds (ps := ["one", "other"]) fun _ _ _ _ _ _ us hl => match us, hl with | [_, _], _ => rfl
  have F3 := fun_mk (st := s_check_water) l3 c3 k3
  have b3 := F3.binds (ps := ["floors", "water"]) fun _ _ _ _ _ _ us hl => match us, hl with | [_, _], _ => rfl
  have F4 := fun_mk (st := s_check_bolted) l4 c4 k4
  have b4 := F4.binds (ps := ["floors", "bolted"]) fun _ _ _ _ _ _ us hl => match us, hl with | [_, _], _ => rfl
  have F5 := fun_mk (st := s_places) l5 c5 k5
  have b5 := F5.binds (ps := ["floors"]) fun _ _ _ _ _ _ us hl => match us, hl with | [_], _ => rfl
  have F6 := fun_mk (st := s_lowest) l6 c6 k6
  have b6 := F6.binds (ps := ["top", "bottom"]) fun _ _ _ _ _ _ us hl => match us, hl with | [_, _], _ => rfl
  have F7 := fun_mk (st := s_plus) l7 c7 k7
  have b7 := F7.binds (ps := ["one", "other"]) fun _ _ _ _ _ _ us hl => match us, hl with | [_, _], _ => rfl
  have F8 := fun_mk (st := s_sums) l8 c8 k8
  have b8 := F8.binds (ps := ["amounts"]) fun _ _ _ _ _ _ us hl => match us, hl with | [_], _ => rfl
  have F9 := fun_mk (st := s_heaped) l9 c9 k9
  have b9 := F9.binds (ps := ["floors", "water"]) fun _ _ _ _ _ _ us hl => match us, hl with | [_, _], _ => rfl
  have F10 := fun_mk (st := s_stretches) l10 c10 k10
  have b10 := F10.binds (ps := ["floors", "bolted"]) fun _ _ _ _ _ _ us hl => match us, hl with | [_, _], _ => rfl
  have F11 := fun_mk (st := s_share) l11 c11 k11
  have b11 := F11.binds (ps := ["amount", "part", "whole"]) fun _ _ _ _ _ _ us hl => match us, hl with | [_, _, _], _ => rfl
  have F12 := fun_mk (st := s_pool_height) l12 c12 k12
  have b12 := F12.binds (ps := ["pool"]) fun _ _ _ _ _ _ us hl => match us, hl with | [_], _ => rfl
  have F13 := fun_mk (st := s_pooled) l13 c13 k13
  have b13 := F13.binds (ps := ["floors", "water"]) fun _ _ _ _ _ _ us hl => match us, hl with | [_, _], _ => rfl
  have F14 := fun_mk (st := s_at_rest) l14 c14 k14
  have b14 := F14.binds (ps := ["floors", "water", "bolted"]) fun _ _ _ _ _ _ us hl => match us, hl with | [_, _, _], _ => rfl
  have F15 := funB_mk (st := s_settled) (x := "settled") (qual := "settled") (dvs := [V.ref E15]) (its := iT15.toList) (n := nT15) (by simp) l15 c15 k15 t15 (by rw [Array.toArray_toList]) (by rw [u15]; exact .cons rfl .nil)
  obtain ⟨dz15, rz15, bz15⟩ := FunD.binds1 (ps := ["floors", "water", "bolted"]) F15 3 1 (by simp) rfl fun _ _ _ _ _ _ _ us its hl hi => match us, its, hl, hi with | [_, _, _], [_], _, _ => ⟨_, rfl, rfl⟩
  cases (show dz15 = [] from by cases rz15; rfl)
  obtain ⟨dd15, rd15, bd15⟩ := FunD.binds1 (ps := ["floors", "water", "bolted"]) F15 2 0 (by simp) rfl fun _ _ _ _ _ _ _ us its hl hi => match us, its, hl, hi with | [_, _], [_], _, _ => ⟨_, rfl, rfl⟩
  have F16 := fun_mk (st := s_law_kind) l16 c16 k16
  have b16 := F16.binds (ps := ["e"]) fun _ _ _ _ _ _ us hl => match us, hl with | [_], _ => rfl
  have F17 := fun_mk (st := s_law_caught) l17 c17 k17
  have b17 := F17.binds (ps := ["door", "wides", "amounts", "bolts"]) fun _ _ _ _ _ _ us hl => match us, hl with | [_, _, _, _], _ => rfl
  have F18 := fun_mk (st := s_law_due) l18 c18 k18
  have b18 := F18.binds (ps := ["door", "wides", "amounts", "bolts"]) fun _ _ _ _ _ _ us hl => match us, hl with | [_, _, _, _], _ => rfl
  have F19 := fun_mk (st := s_law_draw) l19 c19 k19
  have b19 := F19.binds (ps := ["tray", "many"]) fun _ _ _ _ _ _ us hl => match us, hl with | [_, _], _ => rfl
  have F20 := fun_mk (st := s_law_low) l20 c20 k20
  have b20 := F20.binds (ps := ["top", "bottom"]) fun _ _ _ _ _ _ us hl => match us, hl with | [_, _], _ => rfl
  have F21 := fun_mk (st := s_law_bent) l21 c21 k21
  have b21 := F21.binds (ps := ["tray", "wides", "amounts", "bolts"]) fun _ _ _ _ _ _ us hl => match us, hl with | [_, _, _, _], _ => rfl
  have F22 := fun_mk (st := s_law_shuffled) l22 c22 k22
  have b22 := F22.binds (ps := ["tray", "things"]) fun _ _ _ _ _ _ us hl => match us, hl with | [_, _], _ => rfl
  have F23 := fun_mk (st := s_law_bolts) l23 c23 k23
  have b23 := F23.binds (ps := ["tray", "many"]) fun _ _ _ _ _ _ us hl => match us, hl with | [_, _], _ => rfl
  have F24 := fun_mk (st := s_law_amount) l24 c24 k24
  have b24 := F24.binds (ps := ["tray", "wide", "bottom"]) fun _ _ _ _ _ _ us hl => match us, hl with | [_, _, _], _ => rfl
  have F25 := fun_mk (st := s_law_amounts) l25 c25 k25
  have b25 := F25.binds (ps := ["tray", "wides", "bottom"]) fun _ _ _ _ _ _ us hl => match us, hl with | [_, _, _], _ => rfl
  have F26 := fun_mk (st := s_law_bottom) l26 c26 k26
  have b26 := F26.binds (ps := ["tray"]) fun _ _ _ _ _ _ us hl => match us, hl with | [_], _ => rfl
  have F27 := fun_mk (st := s_law_wides) l27 c27 k27
  have b27 := F27.binds (ps := ["tray", "most"]) fun _ _ _ _ _ _ us hl => match us, hl with | [_, _], _ => rfl
  have F28 := fun_mk (st := s_law_errors_right) l28 c28 k28
  have b28 := F28.binds (ps := []) fun _ _ _ _ _ _ us hl => match us, hl with | [], _ => rfl
  have F29 := fun_mk (st := s_law_tray) l29 c29 k29
  have b29 := F29.binds (ps := ["script"]) fun _ _ _ _ _ _ us hl => match us, hl with | [_], _ => rfl
  have F30 := fun_mk (st := s_law) l30 c30 k30
  have b30 := F30.binds (ps := ["script"]) fun _ _ _ _ _ _ us hl => match us, hl with | [_], _ => rfl
  have hx_NoFloors : PySem.ExS.ExT l.prog K mg cENoFloors iENoFloors := ⟨⟨_, _, _, _, _, _, _, _, _, _, _, _, _, _, _, eLNoFloors, (show PySem.HandSPX.refsVE [.type "ValueError", .type "Exception", .type "BaseException", .type "object"] = true from by decide +kernel)⟩, eBNoFloors, eGNoFloors, eHNoFloors, eWNoFloors, eINoFloors, eTNoFloors, eKNoFloors, eXNoFloors, eVNoFloors, eMNoFloors, eYNoFloors, eDNoFloors, eUNoFloors, eO, PySem.W.mg_none_of X G eZ, ⟨_, _, _, _, _, _, _, _, _, _, _, _, _, _, _, _, _, _, _, _, _, _, _, _, _, _, _, _, _, _, _, _, _, _, eFNoFloors, eCNoFloors, fun s x v => .of_eq rfl, fun s x v => .of_eq rfl, rfl, rfl, eENoFloors, eNNoFloors, ePNoFloors, eQ, eRNoFloors, by decide +kernel, by decide +kernel, by decide +kernel, by decide +kernel, rfl, by decide +kernel, rfl, rfl, by decide +kernel⟩⟩
  have hx_NoWater : PySem.ExS.ExT l.prog K mg cENoWater iENoWater := ⟨⟨_, _, _, _, _, _, _, _, _, _, _, _, _, _, _, eLNoWater, (show PySem.HandSPX.refsVE [.type "ValueError", .type "Exception", .type "BaseException", .type "object"] = true from by decide +kernel)⟩, eBNoWater, eGNoWater, eHNoWater, eWNoWater, eINoWater, eTNoWater, eKNoWater, eXNoWater, eVNoWater, eMNoWater, eYNoWater, eDNoWater, eUNoWater, eO, PySem.W.mg_none_of X G eZ, ⟨_, _, _, _, _, _, _, _, _, _, _, _, _, _, _, _, _, _, _, _, _, _, _, _, _, _, _, _, _, _, _, _, _, _, eFNoWater, eCNoWater, fun s x v => .of_eq rfl, fun s x v => .of_eq rfl, rfl, rfl, eENoWater, eNNoWater, ePNoWater, eQ, eRNoWater, by decide +kernel, by decide +kernel, by decide +kernel, by decide +kernel, rfl, by decide +kernel, rfl, rfl, by decide +kernel⟩⟩
  have hx_NoFlap : PySem.ExS.ExT l.prog K mg cENoFlap iENoFlap := ⟨⟨_, _, _, _, _, _, _, _, _, _, _, _, _, _, _, eLNoFlap, (show PySem.HandSPX.refsVE [.type "ValueError", .type "Exception", .type "BaseException", .type "object"] = true from by decide +kernel)⟩, eBNoFlap, eGNoFlap, eHNoFlap, eWNoFlap, eINoFlap, eTNoFlap, eKNoFlap, eXNoFlap, eVNoFlap, eMNoFlap, eYNoFlap, eDNoFlap, eUNoFlap, eO, PySem.W.mg_none_of X G eZ, ⟨_, _, _, _, _, _, _, _, _, _, _, _, _, _, _, _, _, _, _, _, _, _, _, _, _, _, _, _, _, _, _, _, _, _, eFNoFlap, eCNoFlap, fun s x v => .of_eq rfl, fun s x v => .of_eq rfl, rfl, rfl, eENoFlap, eNNoFlap, ePNoFlap, eQ, eRNoFlap, by decide +kernel, by decide +kernel, by decide +kernel, by decide +kernel, rfl, by decide +kernel, rfl, rfl, by decide +kernel⟩⟩
  have hx_NoStep : PySem.ExS.ExT l.prog K mg cENoStep iENoStep := ⟨⟨_, _, _, _, _, _, _, _, _, _, _, _, _, _, _, eLNoStep, (show PySem.HandSPX.refsVE [.type "ValueError", .type "Exception", .type "BaseException", .type "object"] = true from by decide +kernel)⟩, eBNoStep, eGNoStep, eHNoStep, eWNoStep, eINoStep, eTNoStep, eKNoStep, eXNoStep, eVNoStep, eMNoStep, eYNoStep, eDNoStep, eUNoStep, eO, PySem.W.mg_none_of X G eZ, ⟨_, _, _, _, _, _, _, _, _, _, _, _, _, _, _, _, _, _, _, _, _, _, _, _, _, _, _, _, _, _, _, _, _, _, eFNoStep, eCNoStep, fun s x v => .of_eq rfl, fun s x v => .of_eq rfl, rfl, rfl, eENoStep, eNNoStep, ePNoStep, eQ, eRNoStep, by decide +kernel, by decide +kernel, by decide +kernel, by decide +kernel, rfl, by decide +kernel, rfl, rfl, by decide +kernel⟩⟩
  have hx_NoTable : PySem.ExS.ExT l.prog K mg cENoTable iENoTable := ⟨⟨_, _, _, _, _, _, _, _, _, _, _, _, _, _, _, eLNoTable, (show PySem.HandSPX.refsVE [.type "ValueError", .type "Exception", .type "BaseException", .type "object"] = true from by decide +kernel)⟩, eBNoTable, eGNoTable, eHNoTable, eWNoTable, eINoTable, eTNoTable, eKNoTable, eXNoTable, eVNoTable, eMNoTable, eYNoTable, eDNoTable, eUNoTable, eO, PySem.W.mg_none_of X G eZ, ⟨_, _, _, _, _, _, _, _, _, _, _, _, _, _, _, _, _, _, _, _, _, _, _, _, _, _, _, _, _, _, _, _, _, _, eFNoTable, eCNoTable, fun s x v => .of_eq rfl, fun s x v => .of_eq rfl, rfl, rfl, eENoTable, eNNoTable, ePNoTable, eQ, eRNoTable, by decide +kernel, by decide +kernel, by decide +kernel, by decide +kernel, rfl, by decide +kernel, rfl, rfl, by decide +kernel⟩⟩
  have hx_NoRows : PySem.ExS.ExT l.prog K mg cENoRows iENoRows := ⟨⟨_, _, _, _, _, _, _, _, _, _, _, _, _, _, _, eLNoRows, (show PySem.HandSPX.refsVE [.type "ValueError", .type "Exception", .type "BaseException", .type "object"] = true from by decide +kernel)⟩, eBNoRows, eGNoRows, eHNoRows, eWNoRows, eINoRows, eTNoRows, eKNoRows, eXNoRows, eVNoRows, eMNoRows, eYNoRows, eDNoRows, eUNoRows, eO, PySem.W.mg_none_of X G eZ, ⟨_, _, _, _, _, _, _, _, _, _, _, _, _, _, _, _, _, _, _, _, _, _, _, _, _, _, _, _, _, _, _, _, _, _, eFNoRows, eCNoRows, fun s x v => .of_eq rfl, fun s x v => .of_eq rfl, rfl, rfl, eENoRows, eNNoRows, ePNoRows, eQ, eRNoRows, by decide +kernel, by decide +kernel, by decide +kernel, by decide +kernel, rfl, by decide +kernel, rfl, rfl, by decide +kernel⟩⟩
  have hx_NoDrop : PySem.ExS.ExT l.prog K mg cENoDrop iENoDrop := ⟨⟨_, _, _, _, _, _, _, _, _, _, _, _, _, _, _, eLNoDrop, (show PySem.HandSPX.refsVE [.type "ValueError", .type "Exception", .type "BaseException", .type "object"] = true from by decide +kernel)⟩, eBNoDrop, eGNoDrop, eHNoDrop, eWNoDrop, eINoDrop, eTNoDrop, eKNoDrop, eXNoDrop, eVNoDrop, eMNoDrop, eYNoDrop, eDNoDrop, eUNoDrop, eO, PySem.W.mg_none_of X G eZ, ⟨_, _, _, _, _, _, _, _, _, _, _, _, _, _, _, _, _, _, _, _, _, _, _, _, _, _, _, _, _, _, _, _, _, _, eFNoDrop, eCNoDrop, fun s x v => .of_eq rfl, fun s x v => .of_eq rfl, rfl, rfl, eENoDrop, eNNoDrop, ePNoDrop, eQ, eRNoDrop, by decide +kernel, by decide +kernel, by decide +kernel, by decide +kernel, rfl, by decide +kernel, rfl, rfl, by decide +kernel⟩⟩
  have hx_NoTank : PySem.ExS.ExT l.prog K mg cENoTank iENoTank := ⟨⟨_, _, _, _, _, _, _, _, _, _, _, _, _, _, _, eLNoTank, (show PySem.HandSPX.refsVE [.type "ValueError", .type "Exception", .type "BaseException", .type "object"] = true from by decide +kernel)⟩, eBNoTank, eGNoTank, eHNoTank, eWNoTank, eINoTank, eTNoTank, eKNoTank, eXNoTank, eVNoTank, eMNoTank, eYNoTank, eDNoTank, eUNoTank, eO, PySem.W.mg_none_of X G eZ, ⟨_, _, _, _, _, _, _, _, _, _, _, _, _, _, _, _, _, _, _, _, _, _, _, _, _, _, _, _, _, _, _, _, _, _, eFNoTank, eCNoTank, fun s x v => .of_eq rfl, fun s x v => .of_eq rfl, rfl, rfl, eENoTank, eNNoTank, ePNoTank, eQ, eRNoTank, by decide +kernel, by decide +kernel, by decide +kernel, by decide +kernel, rfl, by decide +kernel, rfl, rfl, by decide +kernel⟩⟩
  have hx_NoRain : PySem.ExS.ExT l.prog K mg cENoRain iENoRain := ⟨⟨_, _, _, _, _, _, _, _, _, _, _, _, _, _, _, eLNoRain, (show PySem.HandSPX.refsVE [.type "ValueError", .type "Exception", .type "BaseException", .type "object"] = true from by decide +kernel)⟩, eBNoRain, eGNoRain, eHNoRain, eWNoRain, eINoRain, eTNoRain, eKNoRain, eXNoRain, eVNoRain, eMNoRain, eYNoRain, eDNoRain, eUNoRain, eO, PySem.W.mg_none_of X G eZ, ⟨_, _, _, _, _, _, _, _, _, _, _, _, _, _, _, _, _, _, _, _, _, _, _, _, _, _, _, _, _, _, _, _, _, _, eFNoRain, eCNoRain, fun s x v => .of_eq rfl, fun s x v => .of_eq rfl, rfl, rfl, eENoRain, eNNoRain, ePNoRain, eQ, eRNoRain, by decide +kernel, by decide +kernel, by decide +kernel, by decide +kernel, rfl, by decide +kernel, rfl, rfl, by decide +kernel⟩⟩
  have hx_NoOrder : PySem.ExS.ExT l.prog K mg cENoOrder iENoOrder := ⟨⟨_, _, _, _, _, _, _, _, _, _, _, _, _, _, _, eLNoOrder, (show PySem.HandSPX.refsVE [.type "ValueError", .type "Exception", .type "BaseException", .type "object"] = true from by decide +kernel)⟩, eBNoOrder, eGNoOrder, eHNoOrder, eWNoOrder, eINoOrder, eTNoOrder, eKNoOrder, eXNoOrder, eVNoOrder, eMNoOrder, eYNoOrder, eDNoOrder, eUNoOrder, eO, PySem.W.mg_none_of X G eZ, ⟨_, _, _, _, _, _, _, _, _, _, _, _, _, _, _, _, _, _, _, _, _, _, _, _, _, _, _, _, _, _, _, _, _, _, eFNoOrder, eCNoOrder, fun s x v => .of_eq rfl, fun s x v => .of_eq rfl, rfl, rfl, eENoOrder, eNNoOrder, ePNoOrder, eQ, eRNoOrder, by decide +kernel, by decide +kernel, by decide +kernel, by decide +kernel, rfl, by decide +kernel, rfl, rfl, by decide +kernel⟩⟩
  have hx_NoText : PySem.ExS.ExT l.prog K mg cENoText iENoText := ⟨⟨_, _, _, _, _, _, _, _, _, _, _, _, _, _, _, eLNoText, (show PySem.HandSPX.refsVE [.type "ValueError", .type "Exception", .type "BaseException", .type "object"] = true from by decide +kernel)⟩, eBNoText, eGNoText, eHNoText, eWNoText, eINoText, eTNoText, eKNoText, eXNoText, eVNoText, eMNoText, eYNoText, eDNoText, eUNoText, eO, PySem.W.mg_none_of X G eZ, ⟨_, _, _, _, _, _, _, _, _, _, _, _, _, _, _, _, _, _, _, _, _, _, _, _, _, _, _, _, _, _, _, _, _, _, eFNoText, eCNoText, fun s x v => .of_eq rfl, fun s x v => .of_eq rfl, rfl, rfl, eENoText, eNNoText, ePNoText, eQ, eRNoText, by decide +kernel, by decide +kernel, by decide +kernel, by decide +kernel, rfl, by decide +kernel, rfl, rfl, by decide +kernel⟩⟩
  let T : Txt K mg := ⟨f0, _, F0, PySem.W.mg_of X G a0, b0,
    f1, _, F1, PySem.W.mg_of X G a1, b1,
    f2, _, F2, PySem.W.mg_of X G a2, b2,
    f3, _, F3, PySem.W.mg_of X G a3, b3,
    f4, _, F4, PySem.W.mg_of X G a4, b4,
    f5, _, F5, PySem.W.mg_of X G a5, b5,
    f6, _, F6, PySem.W.mg_of X G a6, b6,
    f7, _, F7, PySem.W.mg_of X G a7, b7,
    f8, _, F8, PySem.W.mg_of X G a8, b8,
    f9, _, F9, PySem.W.mg_of X G a9, b9,
    f10, _, F10, PySem.W.mg_of X G a10, b10,
    f11, _, F11, PySem.W.mg_of X G a11, b11,
    f12, _, F12, PySem.W.mg_of X G a12, b12,
    f13, _, F13, PySem.W.mg_of X G a13, b13,
    f14, _, F14, PySem.W.mg_of X G a14, b14,
    f15, _, V.ref E15, (den_ktup (ns := []) w15 rfl rfl (by rw [← Array.length_toList, x15]; exact Nat.zero_le _) (by rw [x15]; exact .nil)), F15, PySem.W.mg_of X G a15, bz15, dd15, rd15, bd15,
    f16, _, F16, PySem.W.mg_of X G a16, b16,
    f17, _, F17, PySem.W.mg_of X G a17, b17,
    f18, _, F18, PySem.W.mg_of X G a18, b18,
    f19, _, F19, PySem.W.mg_of X G a19, b19,
    f20, _, F20, PySem.W.mg_of X G a20, b20,
    f21, _, F21, PySem.W.mg_of X G a21, b21,
    f22, _, F22, PySem.W.mg_of X G a22, b22,
    f23, _, F23, PySem.W.mg_of X G a23, b23,
    f24, _, F24, PySem.W.mg_of X G a24, b24,
    f25, _, F25, PySem.W.mg_of X G a25, b25,
    f26, _, F26, PySem.W.mg_of X G a26, b26,
    f27, _, F27, PySem.W.mg_of X G a27, b27,
    f28, _, F28, PySem.W.mg_of X G a28, b28,
    f29, _, F29, PySem.W.mg_of X G a29, b29,
    fa, _, F30, PySem.W.mg_of X G a30, b30,
    cS, PySem.W.mg_of X G eS, e8,
    cENoFloors, iENoFloors, PySem.W.mg_of X G eANoFloors, ⟨eGNoFloors, eHNoFloors, eXNoFloors, eDNoFloors, e1NoFloors, e2, e3, e4NoFloors⟩, ⟨eGNoFloors, eHNoFloors, eXNoFloors, eDNoFloors⟩, eWNoFloors, eMNoFloors, eVNoFloors, ⟨e5, e6, e7NoFloors⟩,
    cENoWater, iENoWater, PySem.W.mg_of X G eANoWater, ⟨eGNoWater, eHNoWater, eXNoWater, eDNoWater, e1NoWater, e2, e3, e4NoWater⟩, ⟨eGNoWater, eHNoWater, eXNoWater, eDNoWater⟩, eWNoWater, eMNoWater, eVNoWater, ⟨e5, e6, e7NoWater⟩,
    cENoFlap, iENoFlap, PySem.W.mg_of X G eANoFlap, ⟨eGNoFlap, eHNoFlap, eXNoFlap, eDNoFlap, e1NoFlap, e2, e3, e4NoFlap⟩, ⟨eGNoFlap, eHNoFlap, eXNoFlap, eDNoFlap⟩, eWNoFlap, eMNoFlap, eVNoFlap, ⟨e5, e6, e7NoFlap⟩,
    cENoStep, iENoStep, PySem.W.mg_of X G eANoStep, ⟨eGNoStep, eHNoStep, eXNoStep, eDNoStep, e1NoStep, e2, e3, e4NoStep⟩, ⟨eGNoStep, eHNoStep, eXNoStep, eDNoStep⟩, eWNoStep, eMNoStep, eVNoStep, ⟨e5, e6, e7NoStep⟩,
    cENoTable, iENoTable, PySem.W.mg_of X G eANoTable, ⟨eGNoTable, eHNoTable, eXNoTable, eDNoTable, e1NoTable, e2, e3, e4NoTable⟩, ⟨eGNoTable, eHNoTable, eXNoTable, eDNoTable⟩, eWNoTable, eMNoTable, eVNoTable, ⟨e5, e6, e7NoTable⟩,
    cENoRows, iENoRows, PySem.W.mg_of X G eANoRows, ⟨eGNoRows, eHNoRows, eXNoRows, eDNoRows, e1NoRows, e2, e3, e4NoRows⟩, ⟨eGNoRows, eHNoRows, eXNoRows, eDNoRows⟩, eWNoRows, eMNoRows, eVNoRows, ⟨e5, e6, e7NoRows⟩,
    cENoDrop, iENoDrop, PySem.W.mg_of X G eANoDrop, ⟨eGNoDrop, eHNoDrop, eXNoDrop, eDNoDrop, e1NoDrop, e2, e3, e4NoDrop⟩, ⟨eGNoDrop, eHNoDrop, eXNoDrop, eDNoDrop⟩, eWNoDrop, eMNoDrop, eVNoDrop, ⟨e5, e6, e7NoDrop⟩,
    cENoTank, iENoTank, PySem.W.mg_of X G eANoTank, ⟨eGNoTank, eHNoTank, eXNoTank, eDNoTank, e1NoTank, e2, e3, e4NoTank⟩, ⟨eGNoTank, eHNoTank, eXNoTank, eDNoTank⟩, eWNoTank, eMNoTank, eVNoTank, ⟨e5, e6, e7NoTank⟩,
    cENoRain, iENoRain, PySem.W.mg_of X G eANoRain, ⟨eGNoRain, eHNoRain, eXNoRain, eDNoRain, e1NoRain, e2, e3, e4NoRain⟩, ⟨eGNoRain, eHNoRain, eXNoRain, eDNoRain⟩, eWNoRain, eMNoRain, eVNoRain, ⟨e5, e6, e7NoRain⟩,
    cENoOrder, iENoOrder, PySem.W.mg_of X G eANoOrder, ⟨eGNoOrder, eHNoOrder, eXNoOrder, eDNoOrder, e1NoOrder, e2, e3, e4NoOrder⟩, ⟨eGNoOrder, eHNoOrder, eXNoOrder, eDNoOrder⟩, eWNoOrder, eMNoOrder, eVNoOrder, ⟨e5, e6, e7NoOrder⟩,
    cENoText, iENoText, PySem.W.mg_of X G eANoText, ⟨eGNoText, eHNoText, eXNoText, eDNoText, e1NoText, e2, e3, e4NoText⟩, ⟨eGNoText, eHNoText, eXNoText, eDNoText⟩, eWNoText, eMNoText, eVNoText, ⟨e5, e6, e7NoText⟩,
    ⟨eDNoFloors, eYNoFloors, eMNoFloorsNoWater⟩,
    ⟨eDNoFloors, eYNoFloors, eMNoFloorsNoFlap⟩,
    ⟨eDNoFloors, eYNoFloors, eMNoFloorsNoStep⟩,
    ⟨eDNoFloors, eYNoFloors, eMNoFloorsNoTable⟩,
    ⟨eDNoFloors, eYNoFloors, eMNoFloorsNoRows⟩,
    ⟨eDNoFloors, eYNoFloors, eMNoFloorsNoDrop⟩,
    ⟨eDNoFloors, eYNoFloors, eMNoFloorsNoTank⟩,
    ⟨eDNoFloors, eYNoFloors, eMNoFloorsNoRain⟩,
    ⟨eDNoFloors, eYNoFloors, eMNoFloorsNoOrder⟩,
    ⟨eDNoFloors, eYNoFloors, eMNoFloorsNoText⟩,
    ⟨eDNoWater, eYNoWater, eMNoWaterNoFloors⟩,
    ⟨eDNoWater, eYNoWater, eMNoWaterNoFlap⟩,
    ⟨eDNoWater, eYNoWater, eMNoWaterNoStep⟩,
    ⟨eDNoWater, eYNoWater, eMNoWaterNoTable⟩,
    ⟨eDNoWater, eYNoWater, eMNoWaterNoRows⟩,
    ⟨eDNoWater, eYNoWater, eMNoWaterNoDrop⟩,
    ⟨eDNoWater, eYNoWater, eMNoWaterNoTank⟩,
    ⟨eDNoWater, eYNoWater, eMNoWaterNoRain⟩,
    ⟨eDNoWater, eYNoWater, eMNoWaterNoOrder⟩,
    ⟨eDNoWater, eYNoWater, eMNoWaterNoText⟩,
    ⟨eDNoFlap, eYNoFlap, eMNoFlapNoFloors⟩,
    ⟨eDNoFlap, eYNoFlap, eMNoFlapNoWater⟩,
    ⟨eDNoFlap, eYNoFlap, eMNoFlapNoStep⟩,
    ⟨eDNoFlap, eYNoFlap, eMNoFlapNoTable⟩,
    ⟨eDNoFlap, eYNoFlap, eMNoFlapNoRows⟩,
    ⟨eDNoFlap, eYNoFlap, eMNoFlapNoDrop⟩,
    ⟨eDNoFlap, eYNoFlap, eMNoFlapNoTank⟩,
    ⟨eDNoFlap, eYNoFlap, eMNoFlapNoRain⟩,
    ⟨eDNoFlap, eYNoFlap, eMNoFlapNoOrder⟩,
    ⟨eDNoFlap, eYNoFlap, eMNoFlapNoText⟩,
    ⟨eDNoStep, eYNoStep, eMNoStepNoFloors⟩,
    ⟨eDNoStep, eYNoStep, eMNoStepNoWater⟩,
    ⟨eDNoStep, eYNoStep, eMNoStepNoFlap⟩,
    ⟨eDNoStep, eYNoStep, eMNoStepNoTable⟩,
    ⟨eDNoStep, eYNoStep, eMNoStepNoRows⟩,
    ⟨eDNoStep, eYNoStep, eMNoStepNoDrop⟩,
    ⟨eDNoStep, eYNoStep, eMNoStepNoTank⟩,
    ⟨eDNoStep, eYNoStep, eMNoStepNoRain⟩,
    ⟨eDNoStep, eYNoStep, eMNoStepNoOrder⟩,
    ⟨eDNoStep, eYNoStep, eMNoStepNoText⟩,
    ⟨eDNoTable, eYNoTable, eMNoTableNoFloors⟩,
    ⟨eDNoTable, eYNoTable, eMNoTableNoWater⟩,
    ⟨eDNoTable, eYNoTable, eMNoTableNoFlap⟩,
    ⟨eDNoTable, eYNoTable, eMNoTableNoStep⟩,
    ⟨eDNoTable, eYNoTable, eMNoTableNoRows⟩,
    ⟨eDNoTable, eYNoTable, eMNoTableNoDrop⟩,
    ⟨eDNoTable, eYNoTable, eMNoTableNoTank⟩,
    ⟨eDNoTable, eYNoTable, eMNoTableNoRain⟩,
    ⟨eDNoTable, eYNoTable, eMNoTableNoOrder⟩,
    ⟨eDNoTable, eYNoTable, eMNoTableNoText⟩,
    ⟨eDNoRows, eYNoRows, eMNoRowsNoFloors⟩,
    ⟨eDNoRows, eYNoRows, eMNoRowsNoWater⟩,
    ⟨eDNoRows, eYNoRows, eMNoRowsNoFlap⟩,
    ⟨eDNoRows, eYNoRows, eMNoRowsNoStep⟩,
    ⟨eDNoRows, eYNoRows, eMNoRowsNoTable⟩,
    ⟨eDNoRows, eYNoRows, eMNoRowsNoDrop⟩,
    ⟨eDNoRows, eYNoRows, eMNoRowsNoTank⟩,
    ⟨eDNoRows, eYNoRows, eMNoRowsNoRain⟩,
    ⟨eDNoRows, eYNoRows, eMNoRowsNoOrder⟩,
    ⟨eDNoRows, eYNoRows, eMNoRowsNoText⟩,
    ⟨eDNoDrop, eYNoDrop, eMNoDropNoFloors⟩,
    ⟨eDNoDrop, eYNoDrop, eMNoDropNoWater⟩,
    ⟨eDNoDrop, eYNoDrop, eMNoDropNoFlap⟩,
    ⟨eDNoDrop, eYNoDrop, eMNoDropNoStep⟩,
    ⟨eDNoDrop, eYNoDrop, eMNoDropNoTable⟩,
    ⟨eDNoDrop, eYNoDrop, eMNoDropNoRows⟩,
    ⟨eDNoDrop, eYNoDrop, eMNoDropNoTank⟩,
    ⟨eDNoDrop, eYNoDrop, eMNoDropNoRain⟩,
    ⟨eDNoDrop, eYNoDrop, eMNoDropNoOrder⟩,
    ⟨eDNoDrop, eYNoDrop, eMNoDropNoText⟩,
    ⟨eDNoTank, eYNoTank, eMNoTankNoFloors⟩,
    ⟨eDNoTank, eYNoTank, eMNoTankNoWater⟩,
    ⟨eDNoTank, eYNoTank, eMNoTankNoFlap⟩,
    ⟨eDNoTank, eYNoTank, eMNoTankNoStep⟩,
    ⟨eDNoTank, eYNoTank, eMNoTankNoTable⟩,
    ⟨eDNoTank, eYNoTank, eMNoTankNoRows⟩,
    ⟨eDNoTank, eYNoTank, eMNoTankNoDrop⟩,
    ⟨eDNoTank, eYNoTank, eMNoTankNoRain⟩,
    ⟨eDNoTank, eYNoTank, eMNoTankNoOrder⟩,
    ⟨eDNoTank, eYNoTank, eMNoTankNoText⟩,
    ⟨eDNoRain, eYNoRain, eMNoRainNoFloors⟩,
    ⟨eDNoRain, eYNoRain, eMNoRainNoWater⟩,
    ⟨eDNoRain, eYNoRain, eMNoRainNoFlap⟩,
    ⟨eDNoRain, eYNoRain, eMNoRainNoStep⟩,
    ⟨eDNoRain, eYNoRain, eMNoRainNoTable⟩,
    ⟨eDNoRain, eYNoRain, eMNoRainNoRows⟩,
    ⟨eDNoRain, eYNoRain, eMNoRainNoDrop⟩,
    ⟨eDNoRain, eYNoRain, eMNoRainNoTank⟩,
    ⟨eDNoRain, eYNoRain, eMNoRainNoOrder⟩,
    ⟨eDNoRain, eYNoRain, eMNoRainNoText⟩,
    ⟨eDNoOrder, eYNoOrder, eMNoOrderNoFloors⟩,
    ⟨eDNoOrder, eYNoOrder, eMNoOrderNoWater⟩,
    ⟨eDNoOrder, eYNoOrder, eMNoOrderNoFlap⟩,
    ⟨eDNoOrder, eYNoOrder, eMNoOrderNoStep⟩,
    ⟨eDNoOrder, eYNoOrder, eMNoOrderNoTable⟩,
    ⟨eDNoOrder, eYNoOrder, eMNoOrderNoRows⟩,
    ⟨eDNoOrder, eYNoOrder, eMNoOrderNoDrop⟩,
    ⟨eDNoOrder, eYNoOrder, eMNoOrderNoTank⟩,
    ⟨eDNoOrder, eYNoOrder, eMNoOrderNoRain⟩,
    ⟨eDNoOrder, eYNoOrder, eMNoOrderNoText⟩,
    ⟨eDNoText, eYNoText, eMNoTextNoFloors⟩,
    ⟨eDNoText, eYNoText, eMNoTextNoWater⟩,
    ⟨eDNoText, eYNoText, eMNoTextNoFlap⟩,
    ⟨eDNoText, eYNoText, eMNoTextNoStep⟩,
    ⟨eDNoText, eYNoText, eMNoTextNoTable⟩,
    ⟨eDNoText, eYNoText, eMNoTextNoRows⟩,
    ⟨eDNoText, eYNoText, eMNoTextNoDrop⟩,
    ⟨eDNoText, eYNoText, eMNoTextNoTank⟩,
    ⟨eDNoText, eYNoText, eMNoTextNoRain⟩,
    ⟨eDNoText, eYNoText, eMNoTextNoOrder⟩,
    PySem.W.mg_none_of X G z_ValueError,
    PySem.W.mg_none_of X G z_bool,
    PySem.W.mg_none_of X G z_enumerate,
    PySem.W.mg_none_of X G z_int,
    PySem.W.mg_none_of X G z_isinstance,
    PySem.W.mg_none_of X G z_len,
    PySem.W.mg_none_of X G z_list,
    PySem.W.mg_none_of X G z_max,
    PySem.W.mg_none_of X G z_min,
    PySem.W.mg_none_of X G z_range,
    PySem.W.mg_none_of X G z_sorted,
    PySem.W.mg_none_of X G z_str,
    PySem.W.mg_none_of X G z_sum,
    PySem.W.mg_none_of X G z_tuple,
    PySem.W.mg_none_of X G z_zip,
    c_NOUGHT, PySem.W.mg_of X G h_NOUGHT, den_ktup l_NOUGHT rfl rfl s_NOUGHT v_NOUGHT,
    PySem.W.mg_of X G h_gcd⟩
  exact ⟨PySem.W.fnOf "law" "law" (defArgs s_law) (defBody s_law) (defScope s_law) .none kV30 dc30 pm30 an30 cd30 ct30, fun s v => .of_eq rfl, fun base _ _ => law_of (PySem.W.mg_none_of X G z0_bounds) (G_law_z T hx_NoFloors hx_NoWater hx_NoFlap hx_NoStep hx_NoTable hx_NoRows hx_NoDrop hx_NoTank hx_NoRain hx_NoOrder hx_NoText) true_⟩
end K02
end
section
/-! the checks, over rows that may change: the first that errs -/
namespace K02
open PySem PyProof.Rows PySem.Spec L2 DL FW FW.R
section
variable {S : Sto}
theorem floors_nilR {fd : DV} (h : rdL S fd = some []) : f_check_floors_x [fd] S = some (.exc "NoFloors" .non S) := by
  refine xfn_exc (s := [some fd, none, none]) (xseq_ex (xif_t (S1 := S) ?_ (x_raise rfl)))
  have l1 := lenD_rdR h
  simp [l1]
theorem floors_badR {X : DV} {A Z : List Int} {x : Int} (rX : rdL S X = some ((A ++ x :: Z).map DV.int)) (hA : ∀ n ∈ A, 1 ≤ n) (hx : x < 1) : f_check_floors_x [X] S = some (.exc "NoFloors" (.int (A.length : Nat)) S) := by
  obtain ⟨s', e⟩ := xfor_ex (c := "NoFloors") (w := .int (A.length : Nat)) (tgt := (dGTup 2 (dGCons (dName 1) (dGCons (dName 2) dGNil)))) (body := (dIfX (dTest (dOp ltD (dVar 2) (dC (.int 1)))) (dRaise "NoFloors" (dVar 1)) (dOkX dNext))) (it := .en X) (S := S)
    (xs := ((A ++ x :: Z).map DV.int).mapIdx fun i x => DV.tup [.int (i : Nat), x]) (A := (A.map DV.int).mapIdx fun i x => DV.tup [.int (i : Nat), x]) (b := .tup [.int (A.length : Nat), .int x]) (Z := (Z.map DV.int).mapIdx fun i x => DV.tup [.int ((i + 1 + A.length : Nat) : Int), x])
    (enum_atR rX) (by
      rw [List.map_append, List.mapIdx_append, List.map_cons, List.mapIdx_cons, List.length_map, Nat.zero_add])
    (fun s => ∃ a b, s = [some X, a, b]) (fun y hy s hs => by
      rw [List.mem_mapIdx] at hy
      obtain ⟨i, hi, rfl⟩ := hy
      obtain ⟨a, b, rfl⟩ := hs
      have hi' : i < A.length := by simpa using hi
      have h1 := hA A[i] (List.getElem_mem hi')
      refine ⟨[some X, some (.int (i : Nat)), some (.int A[i])], [some X, some (.int (i : Nat)), some (.int A[i])], by simp, ?_, _, _, rfl⟩
      refine xif_f (S1 := S) ?_ (x_ok rfl)
      have : ¬ A[i] < 1 := by omega
      simp [this]) (fun s hs => by
      obtain ⟨a, b, rfl⟩ := hs
      refine ⟨[some X, some (.int (A.length : Nat)), some (.int x)], [some X, some (.int (A.length : Nat)), some (.int x)], by simp, ?_⟩
      refine xif_t (S1 := S) ?_ (x_raise rfl)
      simp [hx]) (itLen (.en X) S + 1) 0 [some X, none, none] (by simp [itLen, rX]; omega) (Nat.zero_le _) ⟨_, _, rfl⟩
  refine xfn_exc (s := s') (xseq_nx (s1 := [some X, none, none]) (S1 := S) (xif_f (S1 := S) ?_ (x_ok rfl)) ?_)
  · have l1 := lenD_rdR rX
    have hne : ¬ (((A ++ x :: Z).map DV.int).length : Int) = 0 := by simp; omega
    simp [l1, hne]
    omega
  · unfold dForX
    rw [enD_ofR (fe := dVar 0) (bd := X) rX rfl, bnd_some']
    exact e

theorem water_lenR {fd qd : DV} {ds l : List DV} (hf : rdL S fd = some ds) (hq : rdL S qd = some l) (h : l.length ≠ ds.length) : f_check_water_x [fd, qd] S = some (.exc "NoWater" .non S) := by
  refine xfn_exc (s := [some fd, some qd, none, none]) (xseq_ex (xif_t (S1 := S) ?_ (x_raise rfl)))
  have lw := lenD_rdR hf
  have ll := lenD_rdR hq
  simp only [dTest, dOp, dCB, dCons, dNil, dVar, startD, List.map, List.length, List.replicate, List.cons_append, List.nil_append, List.getElem?_cons_succ, List.getElem?_cons_zero, bnd_some', lw, ll, neD_int]
  simp
  omega
theorem water_badR {fd X : DV} {ds : List DV} {A Z : List Rat} {x : Rat} (hf : rdL S fd = some ds) (rX : rdL S X = some ((A ++ x :: Z).map fr)) (hl : A.length + 1 + Z.length = ds.length) (hA : ∀ q ∈ A, 0 ≤ q ∧ Sz 7000 q) (hx : x < 0) (hz : Sz 7000 x) : f_check_water_x [fd, X] S = some (.exc "NoWater" (.int (A.length : Nat)) S) := by
  have e0 : DV.tup [.int 0, .int 1] = fr 0 := rfl
  have z0 : Sz 7000 (0 : Rat) := ⟨Nat.two_pow_pos _, Nat.one_lt_two_pow (by decide)⟩
  obtain ⟨s', e⟩ := xfor_ex (c := "NoWater") (w := .int (A.length : Nat)) (tgt := (dGTup 2 (dGCons (dName 2) (dGCons (dName 3) dGNil)))) (body := (dIfX (dTest (dCall 2 f_above_z [] (dCons (dC (.tup [(.int 0), (.int 1)])) (dCons (dVar 3) dNil)))) (dRaise "NoWater" (dVar 2)) (dOkX dNext))) (it := .en X) (S := S)
    (xs := ((A ++ x :: Z).map fr).mapIdx fun i x => DV.tup [.int (i : Nat), x]) (A := (A.map fr).mapIdx fun i x => DV.tup [.int (i : Nat), x]) (b := .tup [.int (A.length : Nat), fr x]) (Z := (Z.map fr).mapIdx fun i x => DV.tup [.int ((i + 1 + A.length : Nat) : Int), x])
    (enum_atR rX) (by
      rw [List.map_append, List.mapIdx_append, List.map_cons, List.mapIdx_cons, List.length_map, Nat.zero_add])
    (fun s => ∃ a b, s = [some fd, some X, a, b]) (fun y hy s hs => by
      rw [List.mem_mapIdx] at hy
      obtain ⟨i, hi, rfl⟩ := hy
      obtain ⟨a, b, rfl⟩ := hs
      have hi' : i < A.length := by simpa using hi
      obtain ⟨h1, h2⟩ := hA A[i] (List.getElem_mem hi')
      have key := above_ok (S := S) z0 h2 (by decide) (by decide)
      have hlt : ¬ A[i] < 0 := by grind
      refine ⟨[some fd, some X, some (.int (i : Nat)), some (fr A[i])], [some fd, some X, some (.int (i : Nat)), some (fr A[i])], by simp, ?_, _, _, rfl⟩
      refine xif_f (S1 := S) ?_ (x_ok rfl)
      simp [e0, key, hlt]) (fun s hs => by
      obtain ⟨a, b, rfl⟩ := hs
      have key := above_ok (S := S) z0 hz (by decide) (by decide)
      refine ⟨[some fd, some X, some (.int (A.length : Nat)), some (fr x)], [some fd, some X, some (.int (A.length : Nat)), some (fr x)], by simp, ?_⟩
      refine xif_t (S1 := S) ?_ (x_raise rfl)
      simp [e0, key, hx]) (itLen (.en X) S + 1) 0 [some fd, some X, none, none] (by simp [itLen, rX]; omega) (Nat.zero_le _) ⟨_, _, rfl⟩
  refine xfn_exc (s := s') (xseq_nx (s1 := [some fd, some X, none, none]) (S1 := S) (xif_f (S1 := S) ?_ (x_ok rfl)) ?_)
  · have l1 := lenD_rdR rX
    have lw := lenD_rdR hf
    have hne : (((A ++ x :: Z).map fr).length : Nat) = ds.length := by simp; omega
    rw [hne] at l1
    simp only [dTest, dOp, dCB, dCons, dNil, dVar, startD, List.map, List.length, List.replicate, List.cons_append, List.nil_append, List.getElem?_cons_succ, List.getElem?_cons_zero, bnd_some', lw, l1, neD_int]
    simp
  · unfold dForX
    rw [enD_ofR (fe := dVar 1) (bd := X) rX rfl, bnd_some']
    exact e
theorem bolted_badR {fd X : DV} {ds : List DV} {A Z : List Int} {x : Int} (hf : rdL S fd = some ds) (rX : rdL S X = some ((A ++ x :: Z).map DV.int)) (hA : ∀ b ∈ A, 1 ≤ b ∧ b < ds.length) (hn : A.Nodup) (hx : x < 1 ∨ (ds.length : Int) ≤ x ∨ x ∈ A) : f_check_bolted_x [fd, X] S = some (.exc "NoFlap" (.int x) S) := by
  have hlen := lenD_rdR hf
  have hc : ∀ i : Nat, i ≤ A.length → cutL ((A ++ x :: Z).map DV.int) none (some (i : Int)) = (A.take i).map DV.int := fun i hi => by
    rw [cut_take (by simp; omega), ← List.map_take, List.take_append_of_le_length hi]
  obtain ⟨s', e⟩ := xfor_ex (c := "NoFlap") (w := .int x) (tgt := (dGTup 2 (dGCons (dName 2) (dGCons (dName 3) dGNil)))) (body := (dIfX (dOr (dTest (dInRg true (dVar 3) (dCons (dC (.int 1)) (dCons (dCB lenD (dCons (dVar 0) dNil)) dNil)))) (dTest (dOp (inD false) (dVar 3) (dSlL false (dVar 1) doN (doS (dVar 2))))))
    (dRaise "NoFlap" (dVar 3))
    (dOkX dNext))) (it := .en X) (S := S)
    (xs := ((A ++ x :: Z).map DV.int).mapIdx fun i x => DV.tup [.int (i : Nat), x]) (A := (A.map DV.int).mapIdx fun i x => DV.tup [.int (i : Nat), x]) (b := .tup [.int (A.length : Nat), .int x]) (Z := (Z.map DV.int).mapIdx fun i x => DV.tup [.int ((i + 1 + A.length : Nat) : Int), x])
    (enum_atR rX) (by
      rw [List.map_append, List.mapIdx_append, List.map_cons, List.mapIdx_cons, List.length_map, Nat.zero_add])
    (fun s => ∃ a b, s = [some fd, some X, a, b]) (fun y hy s hs => by
      rw [List.mem_mapIdx] at hy
      obtain ⟨i, hi, rfl⟩ := hy
      obtain ⟨a, b, rfl⟩ := hs
      have hi' : i < A.length := by simpa using hi
      have hr := hA A[i] (List.getElem_mem hi')
      have hm : A[i] ∉ A.take i := fun z => by
        obtain ⟨j, hj, e⟩ := List.getElem_of_mem z
        have hj' : j < i := by simp at hj; omega
        rw [List.getElem_take] at e
        exact List.pairwise_iff_getElem.mp hn j i (by omega) hi' hj' e
      have hin := inD_ints (f := A[i]) (ns := A.take i) (S := S)
      unfold dI at hin
      refine ⟨[some fd, some X, some (.int (i : Nat)), some (.int A[i])], [some fd, some X, some (.int (i : Nat)), some (.int A[i])], by simp, ?_, _, _, rfl⟩
      refine xif_f (S1 := S) ?_ (x_ok rfl)
      simp [dSlL, hlen, hr.1, hr.2, rX]
      rw [← List.map_cons, ← List.map_append, hc i (by omega), hin]
      simp [hm]) (fun s hs => by
      obtain ⟨a, b, rfl⟩ := hs
      have hin := inD_ints (f := x) (ns := A) (S := S)
      unfold dI at hin
      have hcA := hc A.length (Nat.le_refl _)
      rw [List.take_length] at hcA
      refine ⟨[some fd, some X, some (.int (A.length : Nat)), some (.int x)], [some fd, some X, some (.int (A.length : Nat)), some (.int x)], by simp, ?_⟩
      refine xif_t (S1 := S) ?_ (x_raise rfl)
      by_cases h1 : 1 ≤ x ∧ x < ds.length
      · have hm : x ∈ A := by rcases hx with h | h | h <;> first | exact h | omega
        simp [dSlL, hlen, h1.1, h1.2, rX]
        rw [← List.map_cons, ← List.map_append, hcA, hin]
        simp [hm]
      · have ho : (dTest (dInRg true (dVar 3) (dCons (dC (.int 1)) (dCons (dCB lenD (dCons (dVar 0) dNil)) dNil)))) [some fd, some X, some (.int (A.length : Nat)), some (.int x)] S = some (true, S) := by
          simp [hlen]
          omega
        rw [dOr, ho]
        rfl) (itLen (.en X) S + 1) 0 [some fd, some X, none, none] (by simp [itLen, rX]; omega) (Nat.zero_le _) ⟨_, _, rfl⟩
  refine xfn_exc (s := s') ?_
  show dForX _ _ _ [some fd, some X, none, none] S = _
  unfold dForX
  rw [en_of (fe := dVar 1) (bd := X) rX rfl, bnd_some']
  exact e
theorem check_bolted_R {ds : List DV} {bs : List Int} {fd bd : DV} {S : Sto} (hf : rdL S fd = some ds) (hb : Bd S bd bs) (h : ∀ b ∈ bs, 1 ≤ b ∧ b < ds.length) (hn : bs.Nodup) : f_check_bolted_z [fd, bd] S = some (.non, S) := by
  rcases hb with hb | ⟨rfl, rfl⟩
  · obtain ⟨s', e, _⟩ := forF_same (tgt := dGTup 2 (dGCons (dName 2) (dGCons (dName 3) dGNil))) (body := (dIfS (dOr (dTest (dInRg true (dVar 3) (dCons (dC (.int 1)) (dCons (dCB lenD (dCons (dVar 0) dNil)) dNil)))) (dTest (dOp (inD false) (dVar 3) (dSlL false (dVar 1) doN (doS (dVar 2))))))
      dNever dNext)) (it := .en bd) (S := S) (xs := (bs.map DV.int).mapIdx fun i x => DV.tup [.int (i : Nat), x]) (fun i => by
      simp only [DL.itemAt, hb, List.getElem?_mapIdx]
      cases (bs.map DV.int)[i]? <;> rfl) (fun s => ∃ a b, s = [some fd, some bd, a, b]) (fun x hx s hs => by
      obtain ⟨a, b, rfl⟩ := hs
      rw [List.mem_mapIdx] at hx
      obtain ⟨i, hi, rfl⟩ := hx
      have hi' : i < bs.length := by simpa using hi
      have hr := h bs[i] (List.getElem_mem hi')
      refine ⟨[some fd, some bd, some (.int (i : Nat)), some (.int bs[i])], [some fd, some bd, some (.int (i : Nat)), some (.int bs[i])], by simp, ?_, _, _, rfl⟩
      have hc : cutL (bs.map DV.int) none (some (i : Int)) = (bs.take i).map DV.int := by
        rw [cut_take (by simp; omega), List.map_take]
      have hm : bs[i] ∉ bs.take i := fun z => by
        obtain ⟨j, hj, e⟩ := List.getElem_of_mem z
        have hj' : j < i := by simp at hj; omega
        rw [List.getElem_take] at e
        exact List.pairwise_iff_getElem.mp hn j i (by omega) hi' hj' e
      have hin := inD_ints (f := bs[i]) (ns := bs.take i) (S := S)
      unfold dI at hin
      have hlen := lenD_rdR hf
      simp [dSlL, hlen, hr.1, hr.2, hb]
      rw [hc, hin]
      simp [hm]) (itLen (.en bd) S + 1) 0 [some fd, some bd, none, none] (by simp [itLen, hb]) (Nat.zero_le _) ⟨_, _, rfl⟩
    refine fn_nx (s := s') (S1 := S) ?_ exF_same
    show dFor _ _ _ [some fd, some bd, none, none] S = _
    rw [dFor, en_of (fe := dVar 1) hb (by simp), bnd_some']
    exact e
  · refine fn_nx (s := startD 4 [fd, .tup []]) (S1 := S) ?_ exF_same
    exact for_of (it := .em (.tup [])) (S1 := S) rfl rfl rfl

theorem first_of {α : Type} (p : α → Bool) : ∀ l : List α, (∀ x ∈ l, p x = true) ∨ ∃ A x Z, l = A ++ x :: Z ∧ (∀ y ∈ A, p y = true) ∧ p x = false
  | [] => .inl fun x h => by cases h
  | x :: l => by
    cases hx : p x with
    | false => exact .inr ⟨[], x, l, rfl, (fun y h => by cases h), hx⟩
    | true =>
      rcases first_of p l with h | ⟨A, y, Z, rfl, h1, h2⟩
      · exact .inl fun y hy => by
          rcases List.mem_cons.mp hy with rfl | hy
          · exact hx
          · exact h y hy
      · exact .inr ⟨x :: A, y, Z, rfl, (fun z hz => by
          rcases List.mem_cons.mp hz with rfl | hz
          · exact hx
          · exact h1 z hz), h2⟩
theorem first_flap (n : Int) : ∀ (l B : List Int), (∀ b ∈ B, 1 ≤ b ∧ b < n) → B.Nodup → ((∀ b ∈ B ++ l, 1 ≤ b ∧ b < n) ∧ (B ++ l).Nodup) ∨ ∃ A x Z, B ++ l = A ++ x :: Z ∧ (∀ b ∈ A, 1 ≤ b ∧ b < n) ∧ A.Nodup ∧ (x < 1 ∨ n ≤ x ∨ x ∈ A)
  | [], B, h, g => .inl ⟨by simpa using h, by simpa using g⟩
  | x :: l, B, h, g => by
    by_cases hx : x < 1 ∨ n ≤ x ∨ x ∈ B
    · exact .inr ⟨B, x, l, rfl, h, g, hx⟩
    · have hx' : (1 ≤ x ∧ x < n) ∧ x ∉ B := by
        refine ⟨⟨?_, ?_⟩, fun z => hx (.inr (.inr z))⟩
        · exact Int.not_lt.mp fun z => hx (.inl z)
        · exact Int.not_le.mp fun z => hx (.inr (.inl z))
      have := first_flap n l (B ++ [x]) (fun b hb => by
        rcases List.mem_append.mp hb with hb | hb
        · exact h b hb
        · cases List.mem_singleton.mp hb
          exact hx'.1) (List.nodup_append.mpr ⟨g, List.nodup_cons.mpr ⟨by simp, List.nodup_nil⟩, fun a ha b hb => by
        cases List.mem_singleton.mp hb
        intro z
        rw [z] at ha
        exact hx'.2 ha⟩)
      rw [List.append_assoc] at this
      exact this
end
end K02
end
section
/-! what is let through: places, heaped, settled over rows that may change; what is due -/
namespace K02
open PySem PyProof.Rows PySem.Spec L2 DL FW FW.R
section
variable {S S1 S2 S3 S4 S5 : Sto} {s : Sl} {fe fg fh fk fl : DE} {x w : DV} {c : Str} {b : Str → Bool}
theorem lst1 {d : DV} (h : fe s S = some (d, S1)) : dLst false (dCons fe dNil) s S = some (.lst [d], S1) := by
  have g : ∀ (x : DV) (S : Sto), gate (0 + 1 ≤ 100000) (some (DV.lst [x], S)) = some (DV.lst [x], S) := fun x S => gate_ok (by decide)
  simp only [dLst, dCons, dNil, h, bnd_some', List.length_cons, List.length_nil, newL_f, g]
theorem cons_of {fa : DA} {d : DV} {ds : List DV} (h : fe s S = some (d, S1)) (h2 : fa s S1 = some (ds, S2)) : dCons fe fa s S = some (d :: ds, S2) := by
  simp only [dCons, h, h2, bnd_some']
theorem lst_of {fa : DA} {ds : List DV} (h : fa s S = some (ds, S1)) (hl : ds.length ≤ 100000) : dLst false fa s S = some (.lst ds, S1) := by
  rw [dLst, h, bnd_some', gate_ok hl, newL_f]
theorem add_of {ds es : List DV} (h : fe s S = some (.lst ds, S1)) (h2 : fg s S1 = some (.lst es, S2)) (hl : ds.length + es.length ≤ 100000) : dOp (addD false) fe fg s S = some (.lst (ds ++ es), S2) := by
  rw [dOp, h, bnd_some', h2, bnd_some', addD_lst, gate_ok hl, newL_f]
theorem tup2 {d e : DV} (h : fe s S = some (d, S1)) (h2 : fg s S1 = some (e, S2)) : dTup (dCons fe (dCons fg dNil)) s S = some (.tup [d, e], S2) := by
  have g : ∀ (x y : DV) (S : Sto), gate (0 + 1 + 1 ≤ 100000) (some (DV.tup [x, y], S)) = some (DV.tup [x, y], S) := fun x y S => gate_ok (by decide)
  simp only [dTup, dCons, dNil, h, h2, bnd_some', List.length_cons, List.length_nil, g]
theorem lst3 {d e f : DV} (h : fe s S = some (d, S1)) (h2 : fg s S1 = some (e, S2)) (h3 : fh s S2 = some (f, S3)) : dLst false (dCons fe (dCons fg (dCons fh dNil))) s S = some (.lst [d, e, f], S3) := by
  have g : ∀ (x y z : DV) (S : Sto), gate (0 + 1 + 1 + 1 ≤ 100000) (some (DV.lst [x, y, z], S)) = some (DV.lst [x, y, z], S) := fun x y z S => gate_ok (by decide)
  simp only [dLst, dCons, dNil, h, h2, h3, bnd_some', List.length_cons, List.length_nil, newL_f, g]
theorem ix_of {l : List DV} {i : Int} {d : DV} (h : fe s S = some (.lst l, S1)) (h2 : fg s S1 = some (.int i, S2)) (hd : L2.atI l i = some d) : dOp ixD fe fg s S = some (d, S2) := by
  simp only [dOp, h, h2, bnd_some', ixD, rdL_lst, Option.some_or, hd]
theorem call2 {g : List DV → Sto → Option (DV × Sto)} {x y d : DV} (h : fe s S = some (x, S1)) (h2 : fg s S1 = some (y, S2)) (h3 : g [x, y] S2 = some (d, S3)) : dCall 2 g [] (dCons fe (dCons fg dNil)) s S = some (d, S3) := by
  simp only [dCall, dCons, dNil, h, h2, bnd_some', List.append_nil, List.length_cons, List.length_nil, if_true, h3]
theorem call3 {g : List DV → Sto → Option (DV × Sto)} {x y z d : DV} (h : fe s S = some (x, S1)) (h2 : fg s S1 = some (y, S2)) (h3 : fh s S2 = some (z, S3)) (h4 : g [x, y, z] S3 = some (d, S4)) : dCall 3 g [] (dCons fe (dCons fg (dCons fh dNil))) s S = some (d, S4) := by
  simp only [dCall, dCons, dNil, h, h2, h3, bnd_some', List.append_nil, List.length_cons, List.length_nil, if_true, h4]
theorem call4 {g : List DV → Sto → Option (DV × Sto)} {x y z u d : DV} {S5 : Sto} (h : fe s S = some (x, S1)) (h2 : fg s S1 = some (y, S2)) (h3 : fh s S2 = some (z, S3)) (h4 : fk s S3 = some (u, S4)) (h5 : g [x, y, z, u] S4 = some (d, S5)) : dCall 4 g [] (dCons fe (dCons fg (dCons fh (dCons fk dNil)))) s S = some (d, S5) := by
  simp only [dCall, dCons, dNil, h, h2, h3, h4, bnd_some', List.append_nil, List.length_cons, List.length_nil, if_true, h5]
theorem eq_ii {i j : Int} (h : fe s S = some (.int i, S1)) : dTest (dOp eqD fe (dC (.int j))) s S = some (decide (i = j), S1) := by
  simp only [dTest, dOp, h, bnd_some', dC, eqD_int]
theorem lnil : dLst false dNil s S = some (.lst [], S) := by
  simp only [dLst, dNil, bnd_some', List.length_nil]
  rw [gate_ok (by decide)]
  rfl
def pfr (q : Rat) : PyData := .tuple [.int q.num, .int (q.den : Int)]
theorem py_fr {r : Nat → Option PyData} (q : Rat) : py r (fr q) = some (pfr q) := rfl
theorem sh_pfr (q : Rat) : ShN 1 (pfr q) := shN_tuple fun p hp => by
  rcases List.mem_cons.mp hp with rfl | hp
  · exact shN_int
  · cases List.mem_singleton.mp hp
    exact shN_int
theorem py_dI {S : Sto} (ws : List Int) : pyS S (dI ws) = some (.list (ws.map PyData.int)) := by
  unfold pyS dI
  simp only [py, pys_map (f := DV.int) (g := PyData.int) (fun _ => rfl), Option.map_some]
theorem py_dF {S : Sto} (ws : List Rat) : pyS S (dF ws) = some (.list (ws.map pfr)) := by
  unfold pyS dF
  simp only [py, pys_map (f := fr) (g := pfr) py_fr, Option.map_some]
theorem sh_dI (ws : List Int) : ShN 1 (.list (ws.map PyData.int)) := shN_list fun p hp => by
  obtain ⟨i, _, rfl⟩ := List.mem_map.mp hp
  exact shN_int
theorem sh_dF (ws : List Rat) : ShN 2 (.list (ws.map pfr)) := shN_list fun p hp => by
  obtain ⟨i, _, rfl⟩ := List.mem_map.mp hp
  exact sh_pfr i
theorem eqv_dI (x y : List Int) : PyData.eqv (.list (x.map PyData.int)) (.list (y.map PyData.int)) = decide (x = y) := by
  show PyData.eqvAll _ _ = _
  exact eqv_map (fun a b => by simp [PyData.eqv, Bool.beq_eq_decide_eq]) x y
end
section
variable {S : Sto} {fd qd bd : DV} {ws bs : List Int} {qs : List Rat}
theorem places_R (hf : rdL S fd = some (ws.map DV.int)) (h0 : ws ≠ []) (h : ∀ n ∈ ws, 1 ≤ n) (hl : ws.length ≤ 100) : ∃ d, f_places_z [fd] S = some (d, S) := by
  have c1 := check_floors_R hf h0 h
  obtain ⟨s', S', e, acc, a, y, rfl, rfl, hn⟩ := for_invR (tgt := dName 2) (body := dDrop (dBM "list" appendD (dVar 1) (dCons (dOp (addD false) (dOp ixD (dVar 1) (dUn negD (dC (.int 1)))) (dVar 2)) dNil))) (xs := ws.map DV.int) (fi := diL (dVar 0)) (d := fd) (s := [some fd, some (.ptr S.length), none]) (S := S ++ [.ml [.int 0]])
    (fun k s S' => ∃ (acc : List Int) (a : Int) (y : Option DV), s = [some fd, some (.ptr S.length), y] ∧ S' = S ++ [.ml ((acc ++ [a]).map DV.int)] ∧ acc.length = k)
    (diL_ofR rfl (rdL_app hf)) (by
      rintro i s S' ⟨acc, a, y, rfl, rfl, hn⟩
      exact rdL_app hf) (by
      rintro i x s S' hx ⟨acc, a, y, rfl, rfl, hn⟩
      obtain ⟨q, hq, rfl⟩ := map_at hx
      have hi : i < ws.length := (List.getElem?_eq_some_iff.mp hq).1
      have h1 : ixD (.ptr S.length) (.int (-1)) (S ++ [.ml ((acc ++ [a]).map DV.int)]) = some (.int a, S ++ [.ml ((acc ++ [a]).map DV.int)]) := by
        have : L2.atI ((acc ++ [a]).map DV.int) (-1) = some (.int a) := by
          rw [List.map_append]
          exact L2.atI_last _ _
        simp only [ixD, rdL_top, Option.or, this]
      have h2 := appendD_top (S := S) (ds := (acc ++ [a]).map DV.int) (d := .int (a + q)) (by simp; omega)
      have e3 : ((acc ++ [a]).map DV.int ++ [.int (a + q)]) = (acc ++ [a] ++ [a + q]).map DV.int := by simp
      rw [e3] at h2
      refine ⟨_, _, _, _, rfl, ?_, acc ++ [a], a + q, some (.int q), rfl, rfl, by simp [hn]⟩
      simp only [dName, List.set_cons_succ, List.set_cons_zero, dDrop, dBM, dVar, List.getElem?_cons_zero, List.getElem?_cons_succ, bnd_some', rdL_top, Option.isSome_some, and_self, if_true, dCons, dOp, dUn, dC, negD_int, h1, addD_int, dNil, h2])
    ⟨[], 0, none, rfl, rfl, rfl⟩
  refine ⟨dI (acc ++ [a]), fn_rt (d := .ptr S.length) (S1 := S ++ [.ml ((acc ++ [a]).map DV.int)]) ?_ (by rw [exF_top clos_int]; rfl)⟩
  refine seq_nx (s1 := [some fd, none, none]) (S1 := S) (drop_of (d := .non) (S1 := S) (by simp [c1])) ?_
  refine seq_nx (asg_name (d := .ptr S.length) (S1 := S ++ [.ml [.int 0]]) (by simp)) ?_
  exact seq_nx e (ret_of rfl)
theorem sums_R (hq : rdL S qd = some (qs.map fr)) (h : ∀ q ∈ qs, Sz 41 q) (hl : qs.length ≤ 100) : ∃ d, f_sums_z [qd] S = some (d, S) := by
  have e0 : DV.tup [.int 0, .int 1] = fr 0 := rfl
  obtain ⟨s', S', e, acc, a, y, rfl, rfl, hn, hz⟩ := for_invR (tgt := dName 2) (body := dDrop (dBM "list" appendD (dVar 1) (dCons (dCall 2 f_plus_z [] (dCons (dOp ixD (dVar 1) (dUn negD (dC (.int 1)))) (dCons (dVar 2) dNil))) dNil))) (xs := qs.map fr) (fi := diL (dVar 0)) (d := qd) (s := [some qd, some (.ptr S.length), none]) (S := S ++ [.ml [fr 0]])
    (fun k s S' => ∃ (acc : List Rat) (a : Rat) (y : Option DV), s = [some qd, some (.ptr S.length), y] ∧ S' = S ++ [.ml ((acc ++ [a]).map fr)] ∧ acc.length = k ∧ Sz (1 + k * 42) a)
    (diL_ofR rfl (rdL_app hq)) (by
      rintro i s S' ⟨acc, a, y, rfl, rfl, hn, hz⟩
      exact rdL_app hq) (by
      rintro i x s S' hx ⟨acc, a, y, rfl, rfl, hn, hz⟩
      obtain ⟨q, hq, rfl⟩ := map_at hx
      have hi : i < qs.length := (List.getElem?_eq_some_iff.mp hq).1
      have hqz := h q (List.mem_of_getElem? hq)
      have hp := plus_ok (S := S ++ [.ml ((acc ++ [a]).map fr)]) hz hqz (by omega)
      have h1 : ixD (.ptr S.length) (.int (-1)) (S ++ [.ml ((acc ++ [a]).map fr)]) = some (fr a, S ++ [.ml ((acc ++ [a]).map fr)]) := by
        have : L2.atI ((acc ++ [a]).map fr) (-1) = some (fr a) := by
          rw [List.map_append]
          exact L2.atI_last _ _
        simp only [ixD, rdL_top, Option.or, this]
      have h2 := appendD_top (S := S) (ds := (acc ++ [a]).map fr) (d := fr (a + q)) (by simp; omega)
      have e3 : ((acc ++ [a]).map fr ++ [fr (a + q)]) = (acc ++ [a] ++ [a + q]).map fr := by simp
      rw [e3] at h2
      refine ⟨_, _, _, _, rfl, ?_, acc ++ [a], a + q, some (fr q), rfl, rfl, by simp [hn], ?_⟩
      · simp only [dName, List.set_cons_succ, List.set_cons_zero, dDrop, dBM, dVar, List.getElem?_cons_zero, List.getElem?_cons_succ, bnd_some', rdL_top, Option.isSome_some, and_self, if_true, dCons, dCall, dOp, dUn, dC, negD_int, h1, dNil, List.append_nil, List.length_cons, List.length_nil, hp, h2]
      · have := hz.add hqz
        exact this.mono (by omega))
    ⟨[], 0, none, rfl, rfl, rfl, ⟨by decide, by decide⟩⟩
  refine ⟨dF (acc ++ [a]), fn_rt (d := .ptr S.length) (S1 := S ++ [.ml ((acc ++ [a]).map fr)]) ?_ (by rw [exF_top clos_fr]; rfl)⟩
  refine seq_nx (asg_name (d := .ptr S.length) (S1 := S ++ [.ml [fr 0]]) (by simp [e0])) ?_
  exact seq_nx e (ret_of rfl)
theorem heaped_R (hf : rdL S fd = some (ws.map DV.int)) (hq : rdL S qd = some (qs.map fr)) (h0 : ws ≠ []) (h : ∀ n ∈ ws, 1 ≤ n) (hn : qs.length = ws.length) (hz : ∀ q ∈ qs, 0 ≤ q ∧ Sz 41 q) (hl : ws.length ≤ 100) : ∃ d, f_heaped_z [fd, qd] S = some (d, S) := by
  have c1 := check_floors_R hf h0 h
  have c2 := check_water_R hf hq hn hz (by decide)
  obtain ⟨d, c3⟩ := sums_R hq (fun q hq => (hz q hq).2) (by omega)
  refine ⟨d, fn_rt (d := d) (S1 := S) ?_ exF_same⟩
  refine seq_nx (s1 := [some fd, some qd]) (S1 := S) (drop_of (d := .non) (S1 := S) (by simp [c1])) ?_
  refine seq_nx (s1 := [some fd, some qd]) (S1 := S) (drop_of (d := .non) (S1 := S) (by simp [c2])) ?_
  exact ret_of (by simp [c3])
theorem settled_R (hf : rdL S fd = some (ws.map DV.int)) (hq : rdL S qd = some (qs.map fr)) (hb : rdL S bd = some (bs.map DV.int)) (h0 : ws ≠ []) (h : ∀ n ∈ ws, 1 ≤ n ∧ n ≤ 9) (hn : qs.length = ws.length) (hz : ∀ q ∈ qs, 0 ≤ q ∧ Sz 41 q) (hl : ws.length ≤ 10) (hbs : ∀ b ∈ bs, 1 ≤ b ∧ b < (ws.length : Int)) (hnd : bs.Nodup) (hbl : bs.length ≤ 100) : ∃ d, f_settled_z [fd, qd, bd] S = some (d, S) := by
  have R : Row (zS 41 10) ws qs := ⟨h0, fun w hw => ⟨(h w hw).1, by have := (h w hw).2; omega⟩, hn, fun q hq => (hz q hq).2, by omega, hl, by show 1 + (10 + 1) * (41 + 1) ≤ 3000; decide⟩
  have c1 := check_floors_R hf h0 fun n hn => (h n hn).1
  have c2 := check_water_R hf hq hn hz (by decide)
  have c3 := check_bolted_R (S := S) hf (.inl hb) (by simpa using hbs) hnd
  have c4 := at_rest_R (S := S) (fd := fd) (qd := qd) (bd := bd) (l := ws.zip qs) (bs := bs) (m0 := zS 41 10) (by rw [R.l1]; exact hf) (by rw [R.l2]; exact hq) R.ok (by rw [R.ll]; exact R.n) (by rw [R.ll]; exact ⟨R.zl, R.zb⟩) (.inl hb) (by rw [R.ll]; exact hbs) hbl
  refine ⟨_, fn_rt (d := dF (rest (ws.zip qs) bs)) (S1 := S) ?_ exF_same⟩
  refine seq_nx (s1 := [some fd, some qd, some bd]) (S1 := S) (drop_of (d := .non) (S1 := S) (by simp [c1])) ?_
  refine seq_nx (s1 := [some fd, some qd, some bd]) (S1 := S) (drop_of (d := .non) (S1 := S) (by simp [c2])) ?_
  refine seq_nx (s1 := [some fd, some qd, some bd]) (S1 := S) (drop_of (d := .non) (S1 := S) (by simp [c3])) ?_
  exact ret_of (by simp [c4])
/-! ### as they may raise -/
theorem x_of {f : List DV → Sto → Option (DV × Sto)} {g : List DV → Sto → Option XR} {ds : List DV} (h : SimF f g) (e : ∃ d, f ds S = some (d, S)) : ∃ d, g ds S = some (.val d S) := by
  obtain ⟨d, e⟩ := e
  exact ⟨d, h ds S d S e⟩
theorem places_x {c : Str} {v : DV} (h : f_check_floors_x [fd] S = some (.exc c v S)) : f_places_x [fd] S = some (.exc c v S) :=
  xfn_exc (s := [some fd, none, none]) (xseq_ex (xcall_exc (xs := [fd]) (S1 := S) (by simp [startD]) rfl h))
theorem heaped_x {c : Str} {v : DV} (h : f_check_floors_x [fd] S = some (.exc c v S)) : f_heaped_x [fd, qd] S = some (.exc c v S) :=
  xfn_exc (s := [some fd, some qd]) (xseq_ex (xcall_exc (xs := [fd]) (S1 := S) (by simp [startD]) rfl h))
theorem heaped_x2 {c : Str} {v d : DV} (h0 : f_check_floors_x [fd] S = some (.val d S)) (h : f_check_water_x [fd, qd] S = some (.exc c v S)) : f_heaped_x [fd, qd] S = some (.exc c v S) :=
  xfn_exc (s := [some fd, some qd]) (xseq_nx (s1 := [some fd, some qd]) (S1 := S) (xcall_val (xs := [fd]) (S1 := S) (by simp [startD]) rfl h0) (xseq_ex (xcall_exc (xs := [fd, qd]) (S1 := S) (by simp) rfl h)))
theorem settled_x {c : Str} {v : DV} (h : f_check_floors_x [fd] S = some (.exc c v S)) : f_settled_x [fd, qd, bd] S = some (.exc c v S) :=
  xfn_exc (s := [some fd, some qd, some bd]) (xseq_ex (xcall_exc (xs := [fd]) (S1 := S) (by simp [startD]) rfl h))
theorem settled_x2 {c : Str} {v d : DV} (h0 : f_check_floors_x [fd] S = some (.val d S)) (h : f_check_water_x [fd, qd] S = some (.exc c v S)) : f_settled_x [fd, qd, bd] S = some (.exc c v S) :=
  xfn_exc (s := [some fd, some qd, some bd]) (xseq_nx (s1 := [some fd, some qd, some bd]) (S1 := S) (xcall_val (xs := [fd]) (S1 := S) (by simp [startD]) rfl h0) (xseq_ex (xcall_exc (xs := [fd, qd]) (S1 := S) (by simp) rfl h)))
theorem settled_x3 {c : Str} {v d e : DV} (h0 : f_check_floors_x [fd] S = some (.val d S)) (h1 : f_check_water_x [fd, qd] S = some (.val e S)) (h : f_check_bolted_x [fd, bd] S = some (.exc c v S)) : f_settled_x [fd, qd, bd] S = some (.exc c v S) :=
  xfn_exc (s := [some fd, some qd, some bd]) (xseq_nx (s1 := [some fd, some qd, some bd]) (S1 := S) (xcall_val (xs := [fd]) (S1 := S) (by simp [startD]) rfl h0) (xseq_nx (s1 := [some fd, some qd, some bd]) (S1 := S) (xcall_val (xs := [fd, qd]) (S1 := S) (by simp) rfl h1) (xseq_ex (xcall_exc (xs := [fd, bd]) (S1 := S) (by simp) rfl h))))
end
end K02
end
section
/-! the kind of a refusal, asked of one that is kept and of one that is handled -/
namespace K02
open PySem PyProof.Rows PySem.Spec L2 DL FW FW.R
noncomputable def bodyK (I : (Str → Bool) → DE) (Wh : DE) : DS :=
    (dSeq (dAsg (dLst true (dCons (dTup (dCons (dC (.str "NoFloors")) (dCons (I bX_NoFloors) dNil))) (dCons (dTup (dCons (dC (.str "NoWater")) (dCons (I bX_NoWater) dNil))) dNil))) (dName 1))
    (dSeq (dAsg (dOp (addD true) (dVar 1) (dLst false (dCons (dTup (dCons (dC (.str "NoFlap")) (dCons (I bX_NoFlap) dNil))) (dCons (dTup (dCons (dC (.str "NoStep")) (dCons (I bX_NoStep) dNil))) dNil)))) (dName 1))
    (dSeq (dAsg (dOp (addD true) (dVar 1) (dLst false (dCons (dTup (dCons (dC (.str "NoTable")) (dCons (I bX_NoTable) dNil))) (dCons (dTup (dCons (dC (.str "NoRows")) (dCons (I bX_NoRows) dNil))) dNil)))) (dName 1))
    (dSeq (dAsg (dOp (addD true) (dVar 1) (dLst false (dCons (dTup (dCons (dC (.str "NoDrop")) (dCons (I bX_NoDrop) dNil))) (dCons (dTup (dCons (dC (.str "NoTank")) (dCons (I bX_NoTank) dNil))) dNil)))) (dName 1))
    (dSeq (dAsg (dOp (addD true) (dVar 1) (dLst false (dCons (dTup (dCons (dC (.str "NoRain")) (dCons (I bX_NoRain) dNil))) (dCons (dTup (dCons (dC (.str "NoOrder")) (dCons (I bX_NoOrder) dNil))) dNil)))) (dName 1))
    (dSeq (dDrop (dBM "list" appendD (dVar 1) (dCons (dTup (dCons (dC (.str "NoText")) (dCons (I bX_NoText) dNil))) dNil)))
    (dRet (dOp (addD false) (dLc false (diL (dVar 1)) (dGTup 2 (dGCons (dName 2) (dGCons (dName 3) dGNil))) (dTru (dVar 3)) (dVar 2) [2, 3]) (dLst false (dCons Wh (dCons (I bX_ValueError) dNil)))))))))))

theorem body_h {c : Str} {w : DV} : bh_law_kind c w = bodyK (fun b => dIs (b c)) (dKw w) := rfl
theorem body_z : b_law_kind_z = bodyK (fun b => dIsX CS_ b (dVar 0)) (dWhX CS_ (dVar 0)) := rfl
def kd (c : Str) (w : DV) : DV := .lst [.str c, w, .bl true]
def pr (p : Str × Bool) : DV := .tup [.str p.1, .bl p.2]
def L11 (c : Str) : List (Str × Bool) := [("NoFloors", bX_NoFloors c), ("NoWater", bX_NoWater c), ("NoFlap", bX_NoFlap c), ("NoStep", bX_NoStep c), ("NoTable", bX_NoTable c), ("NoRows", bX_NoRows c), ("NoDrop", bX_NoDrop c), ("NoTank", bX_NoTank c), ("NoRain", bX_NoRain c), ("NoOrder", bX_NoOrder c), ("NoText", bX_NoText c)]
section
variable {S U : Sto} {s : Sl} {fe fg : DE} {M es : List DV}
theorem lstT {fa : DA} {ds : List DV} {S1 : Sto} (h : fa s S = some (ds, S1)) (hl : ds.length ≤ 100000) : dLst true fa s S = some (.ptr S1.length, S1 ++ [.ml ds]) := by
  rw [dLst, h, bnd_some', gate_ok hl, newL_t]
theorem trL_top : trL (U ++ [.ml M]) (.ptr U.length) = some M := by
  simp [trL]
theorem addT {S1 : Sto} (h : fe s S = some (.ptr U.length, U ++ [.ml M])) (h2 : fg s (U ++ [.ml M]) = some (.lst es, U ++ [.ml M])) (hl : M.length + es.length ≤ 100000) : dOp (addD true) fe fg s S = some (.ptr (U ++ [MO.ml M]).length, (U ++ [MO.ml M]) ++ [MO.ml (M ++ es)]) := by
  have e : addD true (.ptr U.length) (.lst es) (U ++ [.ml M]) = gate (M.length + es.length ≤ 100000) (some (newL true (M ++ es) (U ++ [.ml M]))) := by
    simp only [addD, trL_top, trL_lst]
  rw [dOp, h, bnd_some', h2, bnd_some', e, gate_ok hl, newL_t]
theorem pr_of {I : DE} {a : Str} {b : Bool} (h : I s S = some (.bl b, S)) : dTup (dCons (dC (.str a)) (dCons I dNil)) s S = some (pr (a, b), S) := tup2 (S1 := S) rfl h
end
section
variable {S : Sto} {o : Option DV} {c : Str} {w : DV} {I : (Str → Bool) → DE} {Wh : DE}
theorem bodyK_ok (hI : ∀ (b : Str → Bool) (r : Sl) (X : Sto), I b (o :: r) (S ++ X) = some (.bl (b c), S ++ X)) (hW : ∀ (r : Sl) (X : Sto), Wh (o :: r) (S ++ X) = some (w, S ++ X)) (hc : (L11 c).filter (fun p => p.2) = [(c, true)]) :
    ∃ X, bodyK I Wh [o, none, none, none] S = some (.rt (kd c w) (S ++ X)) := by
  have two : ∀ {x y : Str} {f g : Str → Bool} {r : Sl} {X : Sto}, dCons (dTup (dCons (dC (.str x)) (dCons (I f) dNil))) (dCons (dTup (dCons (dC (.str y)) (dCons (I g) dNil))) dNil) (o :: r) (S ++ X) = some ([pr (x, f c), pr (y, g c)], S ++ X) := fun {x y f g r X} =>
    cons_of (S1 := S ++ X) (pr_of (hI f r X)) (cons_of (S1 := S ++ X) (pr_of (hI g r X)) rfl)
  have first := lstT (two (x := "NoFloors") (y := "NoWater") (f := bX_NoFloors) (g := bX_NoWater) (r := [none, none, none]) (X := [])) (by simp)
  rw [List.append_nil] at first
  have step : ∀ {x y : Str} {f g : Str → Bool} {X : Sto} {M : List DV}, M.length ≤ 100 → dAsg (dOp (addD true) (dVar 1) (dLst false (dCons (dTup (dCons (dC (.str x)) (dCons (I f) dNil))) (dCons (dTup (dCons (dC (.str y)) (dCons (I g) dNil))) dNil)))) (dName 1) [o, some (.ptr (S ++ X).length), none, none] (S ++ (X ++ [.ml M])) =
      some (.nx [o, some (.ptr (S ++ (X ++ [MO.ml M])).length), none, none] (S ++ ((X ++ [MO.ml M]) ++ [MO.ml (M ++ [pr (x, f c), pr (y, g c)])]))) := fun {x y f g X M} hM => by
    have h2 := lst_of (s := [o, some (.ptr (S ++ X).length), none, none]) (S := S ++ (X ++ [.ml M])) (two (x := x) (y := y) (f := f) (g := g) (r := [some (.ptr (S ++ X).length), none, none]) (X := X ++ [.ml M])) (by simp)
    have e : S ++ (X ++ [MO.ml M]) = (S ++ X) ++ [MO.ml M] := (List.append_assoc ..).symm
    rw [e] at h2
    have := addT (S := (S ++ X) ++ [.ml M]) (S1 := []) (fe := dVar 1) (U := S ++ X) rfl h2 (by simp; omega)
    rw [← e] at this
    have z := asg_name (i := 1) this
    rw [z, List.append_assoc S]
    rfl
  have gt2 : ∀ (X : Sto) (M : List DV), rdL (S ++ (X ++ [MO.ml M])) (.ptr (S ++ X).length) = some M := fun X M => by
    rw [← List.append_assoc]
    exact rdL_top
  have app : ∀ {X : Sto} {M : List DV}, M.length ≤ 100 → dDrop (dBM "list" appendD (dVar 1) (dCons (dTup (dCons (dC (.str "NoText")) (dCons (I bX_NoText) dNil))) dNil)) [o, some (.ptr (S ++ X).length), none, none] (S ++ (X ++ [.ml M])) =
      some (.nx [o, some (.ptr (S ++ X).length), none, none] (S ++ (X ++ [MO.ml (M ++ [pr ("NoText", bX_NoText c)])]))) := fun {X M} hM => by
    have h1 := cons_of (s := [o, some (.ptr (S ++ X).length), none, none]) (S := S ++ (X ++ [.ml M])) (S1 := S ++ (X ++ [.ml M])) (S2 := S ++ (X ++ [.ml M])) (fe := dTup (dCons (dC (.str "NoText")) (dCons (I bX_NoText) dNil))) (fa := dNil) (ds := []) (pr_of (hI bX_NoText _ _)) rfl
    have h2 := appendD_top (S := S ++ X) (ds := M) (d := pr ("NoText", bX_NoText c)) (by omega)
    rw [List.append_assoc, List.append_assoc] at h2
    refine drop_of (d := .non) ?_
    simp only [dBM, dVar, List.getElem?_cons_zero, List.getElem?_cons_succ, bnd_some', gt2, Option.isSome_some, and_self, if_true, h1, h2]
  obtain ⟨X, e1⟩ : ∃ X : Sto, bodyK I Wh [o, none, none, none] S = (dRet (dOp (addD false) (dLc false (diL (dVar 1)) (dGTup 2 (dGCons (dName 2) (dGCons (dName 3) dGNil))) (dTru (dVar 3)) (dVar 2) [2, 3]) (dLst false (dCons Wh (dCons (I bX_ValueError) dNil))))) [o, some (.ptr (S ++ X).length), none, none] (S ++ (X ++ [MO.ml ((L11 c).map pr)])) := by
    refine ⟨[MO.ml (((L11 c).map pr).take 2), MO.ml (((L11 c).map pr).take 4), MO.ml (((L11 c).map pr).take 6), MO.ml (((L11 c).map pr).take 8)], ?_⟩
    refine seq_nx (s1 := [o, some (.ptr S.length), none, none]) (S1 := S ++ [MO.ml [pr ("NoFloors", bX_NoFloors c), pr ("NoWater", bX_NoWater c)]]) (asg_name (i := 1) first) ?_
    rw [show S ++ [MO.ml [pr ("NoFloors", bX_NoFloors c), pr ("NoWater", bX_NoWater c)]] = S ++ ([] ++ [MO.ml [pr ("NoFloors", bX_NoFloors c), pr ("NoWater", bX_NoWater c)]]) from rfl, show (DV.ptr S.length) = .ptr (S ++ ([] : Sto)).length by rw [List.append_nil]]
    refine seq_nx (step (by simp)) ?_
    refine seq_nx (step (by simp)) ?_
    refine seq_nx (step (by simp)) ?_
    refine seq_nx (step (by simp)) ?_
    refine seq_nx (app (by simp)) ?_
    rfl
  refine ⟨X ++ [MO.ml ((L11 c).map pr)], ?_⟩
  rw [e1]
  refine ret_of ?_
  have lc := lc_fmR (m := false) (it := .li (.ptr (S ++ X).length)) (l := L11 c) (φ := pr) (P := fun p => p.2) (g := fun p => DV.str p.1) (fi := diL (dVar 1)) (tgt := dGTup 2 (dGCons (dName 2) (dGCons (dName 3) dGNil))) (tt := dTru (dVar 3)) (te := dVar 2) (vs := [2, 3]) (s := [o, some (.ptr (S ++ X).length), none, none]) (S := S ++ (X ++ [MO.ml ((L11 c).map pr)])) (S0 := S ++ (X ++ [MO.ml ((L11 c).map pr)]))
    (diL_ofR rfl (gt2 _ _)) (by simp only [itLen, gt2, Option.getD_some, List.length_map]; exact Nat.le_refl _) (fun i => by simp only [DL.itemAt, gt2]) (fun p hp => by
      refine ⟨[o, some (.ptr (S ++ X).length), some (.str p.1), some (.bl p.2)], by simp [wipeD, pr], ?_, fun _ => rfl⟩
      simp [truD]) (by simp [L11])
  rw [hc, newL_f] at lc
  have two2 : dLst false (dCons Wh (dCons (I bX_ValueError) dNil)) [o, some (.ptr (S ++ X).length), none, none] (S ++ (X ++ [MO.ml ((L11 c).map pr)])) = some (.lst [w, .bl true], S ++ (X ++ [MO.ml ((L11 c).map pr)])) :=
    lst_of (cons_of (hW _ _) (cons_of (hI bX_ValueError _ _) rfl)) (by simp)
  exact add_of lc two2 (by simp)
theorem kindH {c : Str} {w : DV} {S : Sto} (hc : (L11 c).filter (fun p => p.2) = [(c, true)]) (hw : clo S.length (kd c w) = true) : h_law_kind c w S = some (kd c w, S) := by
  obtain ⟨X, e⟩ := bodyK_ok (S := S) (o := none) (c := c) (w := w) (I := fun b => dIs (b c)) (Wh := dKw w) (fun b r X => rfl) (fun r X => rfl) hc
  unfold h_law_kind fnH
  have e' : bh_law_kind c w (List.replicate 4 none) S = some (.rt (kd c w) (S ++ X)) := by
    rw [body_h]
    exact e
  rw [e']
  exact exF_cut hw fun n z => by cases z
theorem kindZ {c : Str} {w x : DV} {S : Sto} (hx : ∀ X, excOf (S ++ X) x = some (c, w)) (hcs : c ∈ CS_) (hc : (L11 c).filter (fun p => p.2) = [(c, true)]) (hw : clo S.length (kd c w) = true) : f_law_kind_z [x] S = some (kd c w, S) := by
  obtain ⟨X, e⟩ := bodyK_ok (S := S) (o := some x) (c := c) (w := w) (I := fun b => dIsX CS_ b (dVar 0)) (Wh := dWhX CS_ (dVar 0)) (fun b r X => by
    simp only [dIsX, dVar, List.getElem?_cons_zero, bnd_some', hx X, hcs, if_true]) (fun r X => by
    simp only [dWhX, dVar, List.getElem?_cons_zero, bnd_some', hx X, hcs, if_true]) hc
  refine fn_rt (d := kd c w) (S1 := S ++ X) ?_ (exF_cut hw fun n z => by cases z)
  rw [body_z]
  exact e
end
end K02
end
section
/-! what is due, and what is caught -/
namespace K02
open PySem PyProof.Rows PySem.Spec L2 DL FW FW.R
theorem filt_first {P : Nat → Bool} {n i : Nat} (hi : i < n) (hP : P i = true) (h : ∀ j, j < i → P j = false) : ∃ r, (List.range n).filter P = i :: r := by
  obtain ⟨m, rfl⟩ : ∃ m, n = i + (m + 1) := ⟨n - i - 1, by omega⟩
  have e1 : (List.range i).filter P = [] := List.filter_eq_nil_iff.mpr fun j hj => by
    rw [h j (List.mem_range.mp hj)]
    decide
  refine ⟨((List.range m).map Nat.succ).map (i + ·) |>.filter P, ?_⟩
  rw [List.range_add, List.filter_append, e1, List.nil_append, List.range_succ_eq_map, List.map_cons, List.filter_cons_of_pos (by rw [Nat.add_zero]; exact hP), Nat.add_zero]
theorem filt_none {P : Nat → Bool} {n : Nat} (h : ∀ j, j < n → P j = false) : (List.range n).filter P = [] := List.filter_eq_nil_iff.mpr fun j hj => by
  rw [h j (List.mem_range.mp hj)]
  decide
/-- the three rows, at their places in the store -/
structure In (S : Sto) (a b c : Nat) (ws : List Int) (qs : List Rat) (bs : List Int) : Prop where
  w : S[a]? = some (.ml (ws.map DV.int))
  q : S[b]? = some (.ml (qs.map fr))
  b : S[c]? = some (.ml (bs.map DV.int))
  wl : ws.length ≤ 10
  ql : qs.length ≤ 100
  bl : bs.length ≤ 100
  w9 : ∀ n ∈ ws, n ≤ 9
  qz : ∀ q ∈ qs, Sz 41 q
def wB (ws : List Int) (k : Nat) : Bool := decide (ws.getD k 0 < 1)
def qB (qs : List Rat) (k : Nat) : Bool := decide (qs.getD k 0 < 0)
def bB (n : Nat) (bs : List Int) (k : Nat) : Bool := !decide (0 < bs.getD k 0 ∧ bs.getD k 0 < (n : Int)) || decide (bs.getD k 0 ∈ bs.take k)
section
variable {S : Sto} {a b c : Nat} {ws bs : List Int} {qs : List Rat}
theorem In.rw (h : In S a b c ws qs bs) : rdL S (.ptr a) = some (ws.map DV.int) := by
  simp only [rdL, h.w]
theorem In.rq (h : In S a b c ws qs bs) : rdL S (.ptr b) = some (qs.map fr) := by
  simp only [rdL, h.q]
theorem In.rb (h : In S a b c ws qs bs) : rdL S (.ptr c) = some (bs.map DV.int) := by
  simp only [rdL, h.b]
theorem In.lw (h : In S a b c ws qs bs) : lenD [.ptr a] S = some (.int (ws.length : Nat), S) := by
  have := lenD_rdR h.rw
  rwa [List.length_map] at this
theorem In.lq (h : In S a b c ws qs bs) : lenD [.ptr b] S = some (.int (qs.length : Nat), S) := by
  have := lenD_rdR h.rq
  rwa [List.length_map] at this
theorem In.lb (h : In S a b c ws qs bs) : lenD [.ptr c] S = some (.int (bs.length : Nat), S) := by
  have := lenD_rdR h.rb
  rwa [List.length_map] at this
theorem ixR {d x : DV} {ds : List DV} {k : Nat} (h : rdL S d = some ds) (e : ds[k]? = some x) : ixD d (.int (k : Nat)) S = some (x, S) := by
  have h2 : L2.atI ds (k : Int) = some x := at_nat rfl e
  simp only [ixD, h, Option.some_or, h2]
theorem rg_at {n : Nat} (i : Nat) : DL.itemAt (.rg 0 n) S i = some ((List.range n).map fun k : Nat => DV.int (k : Nat))[i]? := by
  simp only [DL.itemAt, List.getElem?_map]
  by_cases h : i < n
  · simp [h]
  · simp [h]
theorem bad_ok (h : In S a b c ws qs bs) {o0 o2 o3 o4 o5 o6 o7 : Option DV} : dLc false (diR1 (dCons (dCB lenD (dCons (dVar 1) dNil)) dNil)) (dName 7) (dTest (dOp ltD (dOp ixD (dVar 1) (dVar 7)) (dC (.int 1)))) (dVar 7) [7] [o0, some (.ptr a), o2, o3, o4, o5, o6, o7] S = some (.lst (((List.range ws.length).filter (wB ws)).map fun k : Nat => DV.int (k : Nat)), S) := by
  have lw := h.lw
  have wl := h.wl
  have hr : RgS (ws.length : Int) := rgS_of (by omega) (by omega)
  have := lc_fmR (m := false) (it := .rg 0 ws.length) (l := List.range ws.length) (φ := fun k : Nat => DV.int (k : Nat)) (P := wB ws) (g := fun k : Nat => DV.int (k : Nat)) (fi := diR1 (dCons (dCB lenD (dCons (dVar 1) dNil)) dNil)) (tgt := dName 7) (tt := dTest (dOp ltD (dOp ixD (dVar 1) (dVar 7)) (dC (.int 1)))) (te := dVar 7) (vs := [7]) (s := [o0, some (.ptr a), o2, o3, o4, o5, o6, o7]) (S := S) (S0 := S)
    (by simp [lw, hr]) (by simp [itLen]) rg_at (fun k hk => by
      have hk' : k < ws.length := List.mem_range.mp hk
      have e := ixR (x := .int (ws.getD k 0)) h.rw (by rw [List.getElem?_map, List.getD_eq_getElem?_getD, List.getElem?_eq_getElem hk']; rfl)
      refine ⟨[o0, some (.ptr a), o2, o3, o4, o5, o6, some (.int (k : Nat))], by simp [wipeD], ?_, fun _ => rfl⟩
      simp [e, wB]) (by rw [List.length_range]; omega)
  rw [newL_f] at this
  exact this
theorem below_ok (h : In S a b c ws qs bs) {o0 o1 o3 o4 o5 o6 o7 : Option DV} : dLc false (diR1 (dCons (dCB lenD (dCons (dVar 2) dNil)) dNil)) (dName 7) (dTest (dOp ltD (dOp ixD (dOp ixD (dVar 2) (dVar 7)) (dC (.int 0))) (dC (.int 0)))) (dVar 7) [7] [o0, o1, some (.ptr b), o3, o4, o5, o6, o7] S = some (.lst (((List.range qs.length).filter (qB qs)).map fun k : Nat => DV.int (k : Nat)), S) := by
  have lq := h.lq
  have ql := h.ql
  have hr : RgS (qs.length : Int) := rgS_of (by omega) (by omega)
  have := lc_fmR (m := false) (it := .rg 0 qs.length) (l := List.range qs.length) (φ := fun k : Nat => DV.int (k : Nat)) (P := qB qs) (g := fun k : Nat => DV.int (k : Nat)) (fi := diR1 (dCons (dCB lenD (dCons (dVar 2) dNil)) dNil)) (tgt := dName 7) (tt := dTest (dOp ltD (dOp ixD (dOp ixD (dVar 2) (dVar 7)) (dC (.int 0))) (dC (.int 0)))) (te := dVar 7) (vs := [7]) (s := [o0, o1, some (.ptr b), o3, o4, o5, o6, o7]) (S := S) (S0 := S)
    (by simp [lq, hr]) (by simp [itLen]) rg_at (fun k hk => by
      have hk' : k < qs.length := List.mem_range.mp hk
      have e := ixR (x := fr (qs.getD k 0)) h.rq (by rw [List.getElem?_map, List.getD_eq_getElem?_getD, List.getElem?_eq_getElem hk']; rfl)
      refine ⟨[o0, o1, some (.ptr b), o3, o4, o5, o6, some (.int (k : Nat))], by simp [wipeD], ?_, fun _ => rfl⟩
      have e2 : ixD (fr (qs.getD k 0)) (.int 0) S = some (.int (qs.getD k 0).num, S) := by
        simp [fr, ixD, rdL]
      have e3 : ((qs.getD k 0).num < 0) ↔ qs.getD k 0 < 0 := by
        have z := Rat.num_nonneg (q := qs.getD k 0)
        exact ⟨fun h => Rat.not_le.mp fun y => by have := z.mpr y; omega, fun h => Int.not_le.mp fun y => absurd (z.mp y) (Rat.not_le.mpr h)⟩
      simp only [dTest, dOp, dVar, dC, List.getElem?_cons_succ, List.getElem?_cons_zero, bnd_some', e, e2, ltD_int, qB, e3]) (by rw [List.length_range]; omega)
  rw [newL_f] at this
  exact this
theorem odd_ok (h : In S a b c ws qs bs) {o0 o2 o4 o5 o6 o7 : Option DV} : dLc false (diR1 (dCons (dCB lenD (dCons (dVar 3) dNil)) dNil)) (dName 7) (dOr (dNot (dTest (dChain ltD ltD (dC (.int 0)) (dOp ixD (dVar 3) (dVar 7)) (dCB lenD (dCons (dVar 1) dNil))))) (dTest (dOp (inD false) (dOp ixD (dVar 3) (dVar 7)) (dSlL false (dVar 3) doN (doS (dVar 7)))))) (dOp ixD (dVar 3) (dVar 7)) [7] [o0, some (.ptr a), o2, some (.ptr c), o4, o5, o6, o7] S =
    some (.lst (((List.range bs.length).filter (bB ws.length bs)).map fun k : Nat => DV.int (bs.getD k 0)), S) := by
  have lw := h.lw
  have lb := h.lb
  have bl := h.bl
  have rb := h.rb
  have hr : RgS (bs.length : Int) := rgS_of (by omega) (by omega)
  have := lc_fmR (m := false) (it := .rg 0 bs.length) (l := List.range bs.length) (φ := fun k : Nat => DV.int (k : Nat)) (P := bB ws.length bs) (g := fun k : Nat => DV.int (bs.getD k 0)) (fi := diR1 (dCons (dCB lenD (dCons (dVar 3) dNil)) dNil)) (tgt := dName 7) (tt := (dOr (dNot (dTest (dChain ltD ltD (dC (.int 0)) (dOp ixD (dVar 3) (dVar 7)) (dCB lenD (dCons (dVar 1) dNil))))) (dTest (dOp (inD false) (dOp ixD (dVar 3) (dVar 7)) (dSlL false (dVar 3) doN (doS (dVar 7))))))) (te := dOp ixD (dVar 3) (dVar 7)) (vs := [7]) (s := [o0, some (.ptr a), o2, some (.ptr c), o4, o5, o6, o7]) (S := S) (S0 := S)
    (by simp [lb, hr]) (by simp [itLen]) rg_at (fun k hk => by
      have hk' : k < bs.length := List.mem_range.mp hk
      have e := ixR (x := .int (bs.getD k 0)) h.rb (by rw [List.getElem?_map, List.getD_eq_getElem?_getD, List.getElem?_eq_getElem hk']; rfl)
      refine ⟨[o0, some (.ptr a), o2, some (.ptr c), o4, o5, o6, some (.int (k : Nat))], by simp [wipeD], ?_, fun _ => by simp only [dOp, dVar, List.getElem?_cons_succ, List.getElem?_cons_zero, bnd_some', e]⟩
      have hc : cutL (bs.map DV.int) none (some ((k : Nat) : Int)) = (bs.take k).map DV.int := by
        rw [cut_take (by simp; omega), List.map_take]
      have hin := inD_ints (f := bs.getD k 0) (ns := bs.take k) (S := S)
      unfold dI at hin
      have hsl : dSlL false (dVar 3) doN (doS (dVar 7)) [o0, some (.ptr a), o2, some (.ptr c), o4, o5, o6, some (.int (k : Nat))] S = some (.lst ((bs.take k).map DV.int), S) := by
        simp [dSlL, rb, hc]
      obtain ⟨x, hx⟩ : ∃ x, x = bs.getD k 0 := ⟨_, rfl⟩
      rw [← hx] at e hin
      have g2 : dTest (dOp (inD false) (dOp ixD (dVar 3) (dVar 7)) (dSlL false (dVar 3) doN (doS (dVar 7)))) [o0, some (.ptr a), o2, some (.ptr c), o4, o5, o6, some (.int (k : Nat))] S = some (decide (x ∈ bs.take k), S) := by
        rw [dTest, dOp, dOp]
        simp only [dVar, List.getElem?_cons_succ, List.getElem?_cons_zero, bnd_some', e, hsl, hin]
      have g1 : dNot (dTest (dChain ltD ltD (dC (.int 0)) (dOp ixD (dVar 3) (dVar 7)) (dCB lenD (dCons (dVar 1) dNil)))) [o0, some (.ptr a), o2, some (.ptr c), o4, o5, o6, some (.int (k : Nat))] S = some (!decide (0 < x ∧ x < (ws.length : Int)), S) := by
        by_cases h0 : 0 < x
        · simp [e, lw, h0]
        · simp [e, lw, h0]
      rw [dOr, g1, bnd_some']
      unfold bB
      rw [← hx]
      by_cases h1 : 0 < x ∧ x < (ws.length : Int)
      · rw [decide_eq_true h1, Bool.not_true, if_neg (by decide), g2, Bool.false_or]
      · rw [decide_eq_false h1, Bool.not_false, if_pos rfl, Bool.true_or]) (by rw [List.length_range]; omega)
  rw [newL_f] at this
  exact this
end
end K02
end
section
/-! each outcome: what is due and what is caught are the same -/
namespace K02
open PySem PyProof.Rows PySem.Spec L2 DL FW FW.R
noncomputable def dueT : DS :=
    (dSeq (dIfS (dAnd (dTest (dOp gtD (dVar 0) (dC (.int 0)))) (dTest (dOp neD (dCB lenD (dCons (dVar 2) dNil)) (dCB lenD (dCons (dVar 1) dNil)))))
    (dRet (dLst false (dCons (dC (.str "NoWater")) (dCons (dC .non) (dCons (dC (.bl true)) dNil))))) dNext)
    (dSeq (dIfS (dAnd (dTest (dOp gtD (dVar 0) (dC (.int 0)))) (dTest (dOp neD (dVar 5) (dLst false dNil))))
    (dRet (dLst false (dCons (dC (.str "NoWater")) (dCons (dOp ixD (dVar 5) (dC (.int 0))) (dCons (dC (.bl true)) dNil))))) dNext)
    (dSeq (dAsg (dLc false (diR1 (dCons (dCB lenD (dCons (dVar 3) dNil)) dNil)) (dName 7) (dOr (dNot (dTest (dChain ltD ltD (dC (.int 0)) (dOp ixD (dVar 3) (dVar 7)) (dCB lenD (dCons (dVar 1) dNil))))) (dTest (dOp (inD false) (dOp ixD (dVar 3) (dVar 7)) (dSlL false (dVar 3) doN (doS (dVar 7)))))) (dOp ixD (dVar 3) (dVar 7)) [7]) (dName 6))
    (dRet (dIf (dAnd (dTest (dOp gtD (dVar 0) (dC (.int 1)))) (dTest (dOp neD (dVar 6) (dLst false dNil)))) (dLst false (dCons (dC (.str "NoFlap")) (dCons (dOp ixD (dVar 6) (dC (.int 0))) (dCons (dC (.bl true)) dNil)))) (dC .non))))))
noncomputable def blkX : DX :=
    (dIfX (dTest (dOp eqD (dVar 0) (dC (.int 0))))
    (dCallXK 1 f_places_x (pkF 0 1 [0]) (dCons (dVar 1) dNil))
    (dIfX (dTest (dOp eqD (dVar 0) (dC (.int 1))))
    (dCallXKA 2 f_heaped_x (pkF 1 1 [0, 1]) (dCons (dVar 1) dNil) (dCons (dVar 2) dNil))
    (dIfX (dTest (dOp eqD (dVar 0) (dC (.int 2))))
    (dCallXK 3 f_settled_x (pkF 0 3 [1, 2, 0]) (dCons (dVar 3) (dCons (dVar 1) (dCons (dVar 2) dNil))))
    (dCallX 3 f_settled_x (dCons (dVar 1) (dCons (dVar 2) (dCons (dVar 3) dNil)))))))
def nats (l : List Nat) : List DV := l.map fun k : Nat => DV.int (k : Nat)
section
variable {S : Sto} {a b c : Nat} {ws bs : List Int} {qs : List Rat} {d : Int}
theorem eq_nil (h : In S a b c ws qs bs) : eqD (.ptr a) (.lst []) S = some (.bl (decide (ws = [])), S) := by
  have h1 : pyS S (.ptr a) = some (.list (ws.map PyData.int)) := by
    unfold pyS
    simp only [py, h.w, pys_map (f := DV.int) (g := PyData.int) (fun _ => rfl), Option.map_some]
  have h2 : pyS S (.lst []) = some (.list (([] : List Int).map PyData.int)) := rfl
  rw [eqD_of h1 h2 (sh_dI ws) (sh_dI []) (by decide), eqv_dI]
theorem ne_ints {gs : List Int} : neD (.lst (gs.map DV.int)) (.lst []) S = some (.bl (!gs.isEmpty), S) := neD_ints (py_dI (S := S) gs)
theorem ints_eq (l : List Nat) : nats l = (l.map fun k : Nat => (k : Int)).map DV.int := by
  unfold nats
  rw [List.map_map]
  rfl
theorem ne_nats {l : List Nat} : neD (.lst (nats l)) (.lst []) S = some (.bl (!l.isEmpty), S) := by
  rw [ints_eq, ne_ints]
  cases l <;> rfl
def hdD (l : List Nat) : DV := match l with
  | [] => .non
  | i :: _ => .int (i : Nat)
def wL (ws : List Int) : List Nat := (List.range ws.length).filter (wB ws)
def qL (qs : List Rat) : List Nat := (List.range qs.length).filter (qB qs)
def bL (n : Nat) (bs : List Int) : List Int := ((List.range bs.length).filter (bB n bs)).map fun k : Nat => bs.getD k 0
theorem wL_len (h : In S a b c ws qs bs) : (wL ws).length ≤ 10 := Nat.le_trans (List.length_filter_le _ _) (by rw [List.length_range]; exact h.wl)
theorem due_floors (h : In S a b c ws qs bs) (hw : ws = [] ∨ wL ws ≠ []) : f_law_due_z [.int d, .ptr a, .ptr b, .ptr c] S = some (kd "NoFloors" (hdD (wL ws)), S) := by
  have wl := wL_len h
  refine fn_rt (d := kd "NoFloors" (hdD (wL ws))) (S1 := S) ?_ exF_same
  refine seq_nx (asg_name (i := 4) (bad_ok h)) ?_
  refine seq_rt (if_t (S1 := S) ?_ (ret_of (lst3 (S1 := S) (S2 := S) rfl (ix_of (l := nats (wL ws) ++ [.non]) (i := 0) (add_of (S1 := S) (ds := nats (wL ws)) (es := [.non]) rfl (lst1 rfl) ?_) rfl ?_) rfl)))
  · have e1 := eq_nil h
    have e2 := ne_nats (S := S) (l := wL ws)
    have g1 : dTest (dOp eqD (dVar 1) (dLst false dNil)) [some (.int d), some (.ptr a), some (.ptr b), some (.ptr c), some (.lst (nats (wL ws))), none, none, none] S = some (decide (ws = []), S) := by
      have ln := fun s : Sl => lnil (s := s) (S := S)
      simp only [dTest, dOp, ln, dVar, List.getElem?_cons_succ, List.getElem?_cons_zero, bnd_some', e1]
    have g2 : dTest (dOp neD (dVar 4) (dLst false dNil)) [some (.int d), some (.ptr a), some (.ptr b), some (.ptr c), some (.lst (nats (wL ws))), none, none, none] S = some (!(wL ws).isEmpty, S) := by
      have ln := fun s : Sl => lnil (s := s) (S := S)
      simp only [dTest, dOp, ln, dVar, List.getElem?_cons_succ, List.getElem?_cons_zero, bnd_some', e2]
    show dOr _ _ [some (.int d), some (.ptr a), some (.ptr b), some (.ptr c), some (.lst (nats (wL ws))), none, none, none] S = _
    rw [dOr, g1, bnd_some']
    by_cases h0 : ws = []
    · rw [decide_eq_true h0, if_pos rfl]
    · rw [decide_eq_false h0, if_neg (by decide), g2]
      have h1 := hw.resolve_left h0
      cases e : wL ws with
      | nil => exact absurd e h1
      | cons x r => rfl
  · unfold nats
    simp
    omega
  · cases e : wL ws with
    | nil => simp [nats, hdD]
    | cons x r => simp [nats, hdD]
theorem due_rest (h : In S a b c ws qs bs) (h0 : ws ≠ []) (hw : wL ws = []) {r : Option Res} (e : dueT [some (.int d), some (.ptr a), some (.ptr b), some (.ptr c), some (.lst []), some (.lst (nats (qL qs))), none, none] S = r) : b_law_due_z (startD 8 [.int d, .ptr a, .ptr b, .ptr c]) S = r := by
  refine seq_nx (asg_name (i := 4) (bad_ok h)) ?_
  have e0 : nats (wL ws) = [] := by rw [hw]; rfl
  refine seq_nx (s1 := [some (.int d), some (.ptr a), some (.ptr b), some (.ptr c), some (.lst []), none, none, none]) (S1 := S) (if_f (S1 := S) ?_ ?_) ?_
  · have e1 := eq_nil h
    have e2 := ne_nats (S := S) (l := wL ws)
    rw [e0] at e2
    have g1 : dTest (dOp eqD (dVar 1) (dLst false dNil)) [some (.int d), some (.ptr a), some (.ptr b), some (.ptr c), some (.lst (nats (wL ws))), none, none, none] S = some (decide (ws = []), S) := by
      have ln := fun s : Sl => lnil (s := s) (S := S)
      simp only [dTest, dOp, ln, dVar, List.getElem?_cons_succ, List.getElem?_cons_zero, bnd_some', e1]
    have g2 : dTest (dOp neD (dVar 4) (dLst false dNil)) [some (.int d), some (.ptr a), some (.ptr b), some (.ptr c), some (.lst (nats (wL ws))), none, none, none] S = some (!(wL ws).isEmpty, S) := by
      have ln := fun s : Sl => lnil (s := s) (S := S)
      rw [e0]
      simp only [dTest, dOp, ln, dVar, List.getElem?_cons_succ, List.getElem?_cons_zero, bnd_some', e2]
    show dOr _ _ [some (.int d), some (.ptr a), some (.ptr b), some (.ptr c), some (.lst (nats (wL ws))), none, none, none] S = _
    rw [dOr, g1, bnd_some', decide_eq_false h0, if_neg (by decide), g2, hw]
    rfl
  · show dNext [some (.int d), some (.ptr a), some (.ptr b), some (.ptr c), some (.lst (nats (wL ws))), none, none, none] S = _
    rw [e0]
    rfl
  · exact seq_nx (asg_name (i := 5) (below_ok h)) e
theorem gt_t {s : Sl} {k : Int} (h0 : s[0]? = some (some (.int d))) : dTest (dOp gtD (dVar 0) (dC (.int k))) s S = some (decide (k < d), S) := by
  simp only [dTest, dOp, dVar, h0, dC, bnd_some', gtD_int]
theorem len_t (h : In S a b c ws qs bs) {o4 o5 o6 o7 : Option DV} : dTest (dOp neD (dCB lenD (dCons (dVar 2) dNil)) (dCB lenD (dCons (dVar 1) dNil))) [some (.int d), some (.ptr a), some (.ptr b), some (.ptr c), o4, o5, o6, o7] S = some (!decide (qs.length = ws.length), S) := by
  have l1 := h.lw
  have l2 := h.lq
  have : decide ((qs.length : Int) = (ws.length : Int)) = decide (qs.length = ws.length) := decide_eq_decide.mpr Int.ofNat_inj
  simp only [dTest, dOp, dCB, dCons, dNil, dVar, List.getElem?_cons_succ, List.getElem?_cons_zero, bnd_some', l1, l2, neD_int, this]
theorem low_t {o1 o2 o3 o4 o6 o7 : Option DV} : dTest (dOp neD (dVar 5) (dLst false dNil)) [some (.int d), o1, o2, o3, o4, some (.lst (nats (qL qs))), o6, o7] S = some (!(qL qs).isEmpty, S) := by
  have e2 := ne_nats (S := S) (l := qL qs)
  have ln := fun s : Sl => lnil (s := s) (S := S)
  simp only [dTest, dOp, ln, dVar, List.getElem?_cons_succ, List.getElem?_cons_zero, bnd_some', e2]
theorem due_len (h : In S a b c ws qs bs) (h0 : ws ≠ []) (hw : wL ws = []) (hd : 0 < d) (hl : qs.length ≠ ws.length) : f_law_due_z [.int d, .ptr a, .ptr b, .ptr c] S = some (kd "NoWater" .non, S) := by
  refine fn_rt (d := kd "NoWater" .non) (S1 := S) (due_rest h h0 hw ?_) exF_same
  refine seq_rt (if_t (S1 := S) ?_ (ret_of (lst3 (S1 := S) (S2 := S) rfl rfl rfl)))
  rw [dAnd, gt_t rfl, bnd_some', decide_eq_true hd, if_pos rfl, len_t h, decide_eq_false hl]
  rfl
theorem and_f {t u : DT} {s : Sl} {x y : Bool} (h1 : t s S = some (x, S)) (h2 : u s S = some (y, S)) (h : (x && y) = false) : dAnd t u s S = some (false, S) := by
  rw [dAnd, h1, bnd_some']
  cases x with
  | false => rfl
  | true =>
    rw [if_pos rfl, h2]
    rw [Bool.true_and] at h
    rw [h]
theorem due_below (h : In S a b c ws qs bs) (h0 : ws ≠ []) (hw : wL ws = []) (hd : 0 < d) (hl : qs.length = ws.length) {i : Nat} {r : List Nat} (hq : qL qs = i :: r) : f_law_due_z [.int d, .ptr a, .ptr b, .ptr c] S = some (kd "NoWater" (.int (i : Nat)), S) := by
  refine fn_rt (d := kd "NoWater" (.int (i : Nat))) (S1 := S) (due_rest h h0 hw ?_) exF_same
  refine seq_nx (if_f (S1 := S) (and_f (gt_t rfl) (len_t h) (by simp [hl])) rfl) ?_
  refine seq_rt (if_t (S1 := S) ?_ (ret_of (lst3 (S1 := S) (S2 := S) rfl (ix_of (l := nats (qL qs)) (i := 0) rfl rfl ?_) rfl)))
  · rw [dAnd, gt_t rfl, bnd_some', decide_eq_true hd, if_pos rfl, low_t, hq]
    rfl
  · rw [hq]
    simp [nats]
theorem due_last (h : In S a b c ws qs bs) (h0 : ws ≠ []) (hw : wL ws = []) (hq : d ≤ 0 ∨ (qs.length = ws.length ∧ qL qs = [])) {v : DV} (e : (dRet (dIf (dAnd (dTest (dOp gtD (dVar 0) (dC (.int 1)))) (dTest (dOp neD (dVar 6) (dLst false dNil)))) (dLst false (dCons (dC (.str "NoFlap")) (dCons (dOp ixD (dVar 6) (dC (.int 0))) (dCons (dC (.bl true)) dNil)))) (dC .non))) [some (.int d), some (.ptr a), some (.ptr b), some (.ptr c), some (.lst []), some (.lst (nats (qL qs))), some (dI (bL ws.length bs)), none] S = some (.rt v S)) : f_law_due_z [.int d, .ptr a, .ptr b, .ptr c] S = some (v, S) := by
  refine fn_rt (d := v) (S1 := S) (due_rest h h0 hw ?_) exF_same
  refine seq_nx (if_f (S1 := S) (and_f (gt_t rfl) (len_t h) ?_) rfl) ?_
  · rcases hq with hq | hq
    · simp
      omega
    · simp [hq.1]
  refine seq_nx (if_f (S1 := S) (and_f (gt_t rfl) low_t ?_) rfl) ?_
  · rcases hq with hq | hq
    · simp
      omega
    · simp [hq.2]
  refine seq_nx (asg_name (i := 6) (odd_ok h)) ?_
  have e0 : ((List.range bs.length).filter (bB ws.length bs)).map (fun k : Nat => DV.int (bs.getD k 0)) = (bL ws.length bs).map DV.int := by
    unfold bL
    rw [List.map_map]
    rfl
  rw [e0]
  exact e
theorem odd_t {o1 o2 o3 o4 o5 o7 : Option DV} {l : List Int} : dTest (dOp neD (dVar 6) (dLst false dNil)) [some (.int d), o1, o2, o3, o4, o5, some (dI l), o7] S = some (!l.isEmpty, S) := by
  have e2 := ne_ints (S := S) (gs := l)
  have ln := fun s : Sl => lnil (s := s) (S := S)
  simp only [dTest, dOp, ln, dVar, dI, List.getElem?_cons_succ, List.getElem?_cons_zero, bnd_some', e2]
theorem due_odd (h : In S a b c ws qs bs) (h0 : ws ≠ []) (hw : wL ws = []) (hd : 1 < d) (hl : qs.length = ws.length) (hq : qL qs = []) {x : Int} {r : List Int} (hb : bL ws.length bs = x :: r) : f_law_due_z [.int d, .ptr a, .ptr b, .ptr c] S = some (kd "NoFlap" (.int x), S) := by
  refine due_last h h0 hw (.inr ⟨hl, hq⟩) (ret_of ?_)
  have e1 : (dAnd (dTest (dOp gtD (dVar 0) (dC (.int 1)))) (dTest (dOp neD (dVar 6) (dLst false dNil)))) [some (.int d), some (.ptr a), some (.ptr b), some (.ptr c), some (.lst []), some (.lst (nats (qL qs))), some (dI (bL ws.length bs)), none] S = some (true, S) := by
    rw [dAnd, gt_t rfl, bnd_some', decide_eq_true hd, if_pos rfl, odd_t, hb]
    rfl
  rw [dIf, e1, bnd_some', if_pos rfl]
  exact lst3 (S1 := S) (S2 := S) rfl (ix_of (l := (bL ws.length bs).map DV.int) (i := 0) rfl rfl (by rw [hb]; simp)) rfl
theorem due_non (h : In S a b c ws qs bs) (h0 : ws ≠ []) (hw : wL ws = []) (hq : d ≤ 0 ∨ (qs.length = ws.length ∧ qL qs = [])) (hb : d ≤ 1 ∨ bL ws.length bs = []) : f_law_due_z [.int d, .ptr a, .ptr b, .ptr c] S = some (.non, S) := by
  refine due_last h h0 hw hq (ret_of ?_)
  have e1 : (dAnd (dTest (dOp gtD (dVar 0) (dC (.int 1)))) (dTest (dOp neD (dVar 6) (dLst false dNil)))) [some (.int d), some (.ptr a), some (.ptr b), some (.ptr c), some (.lst []), some (.lst (nats (qL qs))), some (dI (bL ws.length bs)), none] S = some (false, S) := by
    refine and_f (gt_t rfl) odd_t ?_
    rcases hb with hb | hb
    · simp
      omega
    · simp [hb]
  rw [dIf, e1, bnd_some', if_neg (by decide)]
  rfl
end
end K02
end
section
namespace K02
open PySem PyProof.Rows PySem.Spec L2 DL FW FW.R
/-! what is caught -/
def xr (r : XR) (s : Sl) : XRes := match r with
  | .val _ S => .ok (.nx s S)
  | .exc c w S => .ex c w s S
section
variable {S S0 S1 : Sto} {s : Sl} {n : Nat} {g : List DV → Sto → Option XR} {fa fk : DA} {pk : List DV → List DV → List DV} {xs zs : List DV} {r : XR}
theorem callX_of (h : fa s S = some (xs, S1)) (hn : xs.length = n) (e : g xs S1 = some r) : dCallX n g fa s S = some (xr r s) := by
  unfold dCallX
  rw [h, bnd_some', if_pos hn, e]
  cases r <;> rfl
theorem callXK_of (h : fa s S = some (zs, S1)) (hn : (pk [] zs).length = n) (e : g (pk [] zs) S1 = some r) : dCallXK n g pk fa s S = some (xr r s) := by
  unfold dCallXK
  rw [h, bnd_some', if_pos hn, e]
  cases r <;> rfl
theorem callXKA_of (h : fa s S = some (xs, S0)) (h1 : fk s S0 = some (zs, S1)) (hn : (pk xs zs).length = n) (e : g (pk xs zs) S1 = some r) : dCallXKA n g pk fa fk s S = some (xr r s) := by
  unfold dCallXKA
  rw [h, bnd_some', h1, bnd_some', if_pos hn, e]
  cases r <;> rfl
end
section
variable {S : Sto} {a b c : DV} {r : XR}
theorem eq_it {S1 : Sto} {s : Sl} {fe : DE} {i j : Int} (h : fe s S = some (.int i, S1)) (e : i = j := by decide) : dTest (dOp eqD fe (dC (.int j))) s S = some (true, S1) := by
  rw [eq_ii h, decide_eq_true e]
theorem eq_if {S1 : Sto} {s : Sl} {fe : DE} {i j : Int} (h : fe s S = some (.int i, S1)) (e : i ≠ j := by decide) : dTest (dOp eqD fe (dC (.int j))) s S = some (false, S1) := by
  rw [eq_ii h, decide_eq_false e]
theorem blk_0 (e : f_places_x [a] S = some r) : blkX [some (.int 0), some a, some b, some c, some .non, none] S = some (xr r [some (.int 0), some a, some b, some c, some .non, none]) :=
  xif_t (S1 := S) (eq_it rfl) (callXK_of (zs := [a]) (S1 := S) rfl rfl e)
theorem blk_1 (e : f_heaped_x [a, b] S = some r) : blkX [some (.int 1), some a, some b, some c, some .non, none] S = some (xr r [some (.int 1), some a, some b, some c, some .non, none]) :=
  xif_f (S1 := S) (eq_if rfl) (xif_t (S1 := S) (eq_it rfl) (callXKA_of (xs := [a]) (zs := [b]) (S0 := S) (S1 := S) rfl rfl rfl e))
theorem blk_2 (e : f_settled_x [a, b, c] S = some r) : blkX [some (.int 2), some a, some b, some c, some .non, none] S = some (xr r [some (.int 2), some a, some b, some c, some .non, none]) :=
  xif_f (S1 := S) (eq_if rfl) (xif_f (S1 := S) (eq_if rfl) (xif_t (S1 := S) (eq_it rfl) (callXK_of (zs := [c, a, b]) (S1 := S) rfl rfl e)))
theorem blk_3 (e : f_settled_x [a, b, c] S = some r) : blkX [some (.int 3), some a, some b, some c, some .non, none] S = some (xr r [some (.int 3), some a, some b, some c, some .non, none]) :=
  xif_f (S1 := S) (eq_if rfl) (xif_f (S1 := S) (eq_if rfl) (xif_f (S1 := S) (eq_if rfl) (callX_of (xs := [a, b, c]) (S1 := S) rfl rfl e)))
theorem caught_val {d v : DV} (e : blkX [some d, some a, some b, some c, some .non, none] S = some (xr (.val v S) [some d, some a, some b, some c, some .non, none])) : f_law_caught_z [d, a, b, c] S = some (.non, S) := by
  refine fn_rt (d := .non) (S1 := S) ?_ exF_same
  refine seq_nx (s1 := [some d, some a, some b, some c, some .non, none]) (S1 := S) (asg_name (i := 4) rfl) ?_
  refine seq_nx (s1 := [some d, some a, some b, some c, some .non, none]) (S1 := S) ?_ (ret_of rfl)
  show dTryH CS_ 5 4 h_law_kind blkX _ S = _
  unfold dTryH
  rw [e]
  rfl
theorem caught_exc {d w : DV} {k : Str} (hk : k ∈ CS_) (hc : (L11 k).filter (fun p => p.2) = [(k, true)]) (hw : clo S.length (kd k w) = true) (e : blkX [some d, some a, some b, some c, some .non, none] S = some (xr (.exc k w S) [some d, some a, some b, some c, some .non, none])) : f_law_caught_z [d, a, b, c] S = some (kd k w, S) := by
  refine fn_rt (d := kd k w) (S1 := S) ?_ exF_same
  refine seq_nx (s1 := [some d, some a, some b, some c, some .non, none]) (S1 := S) (asg_name (i := 4) rfl) ?_
  refine seq_nx (s1 := [some d, some a, some b, some c, some (kd k w), none]) (S1 := S) ?_ (ret_of rfl)
  show dTryH CS_ 5 4 h_law_kind blkX _ S = _
  unfold dTryH
  rw [e]
  have e2 := kindH (S := S) hc hw
  show (if k ∈ CS_ ∧ 5 < 6 then _ else none) = _
  rw [if_pos ⟨hk, by decide⟩, e2]
  rfl
end
/-! each outcome -/
def Out (v : DV) : Prop := v = .non ∨ ∃ k w, v = kd k w ∧ (k = "NoFloors" ∨ k = "NoWater" ∨ k = "NoFlap") ∧ (w = .non ∨ ∃ i : Int, w = .int i)
theorem k_cs {k : Str} (h : k = "NoFloors" ∨ k = "NoWater" ∨ k = "NoFlap") : k ∈ CS_ := by
  simp only [CS_, List.mem_cons, List.not_mem_nil, or_false]
  rcases h with h | h | h <;> simp [h]
theorem k_l {k : Str} (h : k = "NoFloors" ∨ k = "NoWater" ∨ k = "NoFlap") : (L11 k).filter (fun p => p.2) = [(k, true)] := by
  rcases h with rfl | rfl | rfl <;> decide +kernel
theorem clo_kd {n : Nat} {k : Str} {w : DV} (h : w = .non ∨ ∃ i : Int, w = .int i) : clo n (kd k w) = true := by
  rcases h with rfl | ⟨i, rfl⟩ <;> rfl
section
variable {S : Sto} {a b c : Nat} {ws bs : List Int} {qs : List Rat} {d : Int}
theorem exc_out {k : Str} {w : DV} (hd : 0 ≤ d ∧ d < 4) (hk : k = "NoFloors" ∨ k = "NoWater" ∨ k = "NoFlap") (hw : w = .non ∨ ∃ i : Int, w = .int i) (h0 : d = 0 → f_places_x [.ptr a] S = some (.exc k w S)) (h1 : d = 1 → f_heaped_x [.ptr a, .ptr b] S = some (.exc k w S)) (h2 : 1 < d → f_settled_x [.ptr a, .ptr b, .ptr c] S = some (.exc k w S))
    (due : f_law_due_z [.int d, .ptr a, .ptr b, .ptr c] S = some (kd k w, S)) : ∃ v, f_law_caught_z [.int d, .ptr a, .ptr b, .ptr c] S = some (v, S) ∧ f_law_due_z [.int d, .ptr a, .ptr b, .ptr c] S = some (v, S) ∧ Out v := by
  refine ⟨kd k w, ?_, due, .inr ⟨k, w, rfl, hk, hw⟩⟩
  have : d = 0 ∨ d = 1 ∨ d = 2 ∨ d = 3 := by omega
  rcases this with rfl | rfl | rfl | rfl
  · exact caught_exc (k_cs hk) (k_l hk) (clo_kd hw) (blk_0 (h0 rfl))
  · exact caught_exc (k_cs hk) (k_l hk) (clo_kd hw) (blk_1 (h1 rfl))
  · exact caught_exc (k_cs hk) (k_l hk) (clo_kd hw) (blk_2 (h2 (by decide)))
  · exact caught_exc (k_cs hk) (k_l hk) (clo_kd hw) (blk_3 (h2 (by decide)))
theorem val_out (hd : 0 ≤ d ∧ d < 4) (h0 : d = 0 → ∃ v, f_places_x [.ptr a] S = some (.val v S)) (h1 : d = 1 → ∃ v, f_heaped_x [.ptr a, .ptr b] S = some (.val v S)) (h2 : 1 < d → ∃ v, f_settled_x [.ptr a, .ptr b, .ptr c] S = some (.val v S))
    (due : f_law_due_z [.int d, .ptr a, .ptr b, .ptr c] S = some (.non, S)) : ∃ v, f_law_caught_z [.int d, .ptr a, .ptr b, .ptr c] S = some (v, S) ∧ f_law_due_z [.int d, .ptr a, .ptr b, .ptr c] S = some (v, S) ∧ Out v := by
  refine ⟨.non, ?_, due, .inl rfl⟩
  have : d = 0 ∨ d = 1 ∨ d = 2 ∨ d = 3 := by omega
  rcases this with rfl | rfl | rfl | rfl
  · obtain ⟨v, e⟩ := h0 rfl
    exact caught_val (blk_0 e)
  · obtain ⟨v, e⟩ := h1 rfl
    exact caught_val (blk_1 e)
  · obtain ⟨v, e⟩ := h2 (by decide)
    exact caught_val (blk_2 e)
  · obtain ⟨v, e⟩ := h2 (by decide)
    exact caught_val (blk_3 e)
theorem getD_mid {α : Type} {A Z : List α} {x z : α} : (A ++ x :: Z).getD A.length z = x := by
  rw [List.getD_eq_getElem?_getD, List.getElem?_append_right (Nat.le_refl _), Nat.sub_self]
  rfl
theorem getD_left {α : Type} {A Z : List α} {x z : α} {j : Nat} (h : j < A.length) : (A ++ x :: Z).getD j z = A[j] := by
  rw [List.getD_eq_getElem?_getD, List.getElem?_append_left h, List.getElem?_eq_getElem h]
  rfl
theorem getD_mem {α : Type} {A : List α} {z : α} {j : Nat} (h : j < A.length) : A.getD j z ∈ A := by
  rw [List.getD_eq_getElem?_getD, List.getElem?_eq_getElem h]
  exact List.getElem_mem h
theorem door_ok (h : In S a b c ws qs bs) (hd : 0 ≤ d ∧ d < 4) : ∃ v, f_law_caught_z [.int d, .ptr a, .ptr b, .ptr c] S = some (v, S) ∧ f_law_due_z [.int d, .ptr a, .ptr b, .ptr c] S = some (v, S) ∧ Out v := by
  have rw := h.rw
  have rq := h.rq
  have rb := h.rb
  by_cases h0 : ws = []
  · have e := floors_nilR (S := S) (fd := .ptr a) (by rw [rw, h0]; rfl)
    have due := due_floors (d := d) h (.inl h0)
    have e0 : hdD (wL ws) = .non := by rw [h0]; rfl
    rw [e0] at due
    exact exc_out hd (.inl rfl) (.inl rfl) (fun _ => places_x e) (fun _ => heaped_x e) (fun _ => settled_x e) due
  rcases first_of (fun x : Int => decide (1 ≤ x)) ws with hf | ⟨A, x, Z, hw, hA, hx⟩
  case inr =>
    have hA' : ∀ n ∈ A, 1 ≤ n := fun n hn => of_decide_eq_true (hA n hn)
    have hx' : x < 1 := Int.not_le.mp (of_decide_eq_false hx)
    obtain ⟨r, hr⟩ : ∃ r, wL ws = A.length :: r := by
      unfold wL
      refine filt_first (by rw [hw]; simp) ?_ fun j hj => ?_
      · unfold wB
        rw [hw, getD_mid]
        exact decide_eq_true hx'
      · unfold wB
        rw [hw, getD_left hj]
        have := hA' _ (List.getElem_mem hj)
        exact decide_eq_false (by omega)
    have e := floors_badR (S := S) (X := .ptr a) (A := A) (x := x) (Z := Z) (by rw [rw, hw]) hA' hx'
    have due := due_floors (d := d) h (.inr (by rw [hr]; simp))
    have e0 : hdD (wL ws) = .int (A.length : Nat) := by rw [hr]; rfl
    rw [e0] at due
    exact exc_out hd (.inl rfl) (.inr ⟨_, rfl⟩) (fun _ => places_x e) (fun _ => heaped_x e) (fun _ => settled_x e) due
  have hf' : ∀ n ∈ ws, 1 ≤ n := fun n hn => of_decide_eq_true (hf n hn)
  have hwL : wL ws = [] := filt_none fun j hj => by
    unfold wB
    have := hf' _ (getD_mem (z := 0) hj)
    exact decide_eq_false (by omega)
  obtain ⟨v1, c1⟩ := x_of sim_check_floors ⟨_, check_floors_R rw h0 hf'⟩
  have wl := h.wl
  by_cases hl : qs.length = ws.length
  case neg =>
    by_cases hd0 : d = 0
    · exact val_out hd (fun _ => x_of sim_places (places_R rw h0 hf' (by omega))) (fun z => by omega) (fun z => by omega) (due_non h h0 hwL (.inl (by omega)) (.inl (by omega)))
    · have e := water_lenR (S := S) rw rq (by rw [List.length_map, List.length_map]; exact hl)
      exact exc_out hd (.inr (.inl rfl)) (.inl rfl) (fun z => absurd z hd0) (fun _ => heaped_x2 c1 e) (fun _ => settled_x2 c1 e) (due_len h h0 hwL (by omega) hl)
  rcases first_of (fun x : Rat => decide (0 ≤ x)) qs with hq | ⟨A, x, Z, hw, hA, hx⟩
  case inr =>
    by_cases hd0 : d = 0
    · exact val_out hd (fun _ => x_of sim_places (places_R rw h0 hf' (by omega))) (fun z => by omega) (fun z => by omega) (due_non h h0 hwL (.inl (by omega)) (.inl (by omega)))
    · have hA' : ∀ n ∈ A, 0 ≤ n := fun n hn => of_decide_eq_true (hA n hn)
      have hx' : x < 0 := Rat.not_le.mp (of_decide_eq_false hx)
      have hz : ∀ q ∈ A ++ x :: Z, Sz 7000 q := fun q hq => (h.qz q (by rw [hw]; exact hq)).mono (by decide)
      obtain ⟨r, hr⟩ : ∃ r, qL qs = A.length :: r := by
        unfold qL
        refine filt_first (by rw [hw]; simp) ?_ fun j hj => ?_
        · unfold qB
          rw [hw, getD_mid]
          exact decide_eq_true hx'
        · unfold qB
          rw [hw, getD_left hj]
          exact decide_eq_false (Rat.not_lt.mpr (hA' _ (List.getElem_mem hj)))
      have e := water_badR (S := S) (fd := .ptr a) (X := .ptr b) (A := A) (x := x) (Z := Z) rw (by rw [rq, hw]) (by rw [List.length_map, ← hl, hw]; simp; omega) (fun q hq => ⟨hA' q hq, hz q (List.mem_append_left _ hq)⟩) hx' (hz x (List.mem_append_right _ List.mem_cons_self))
      exact exc_out hd (.inr (.inl rfl)) (.inr ⟨_, rfl⟩) (fun z => absurd z hd0) (fun _ => heaped_x2 c1 e) (fun _ => settled_x2 c1 e) (due_below h h0 hwL (by omega) hl hr)
  have hq' : ∀ q ∈ qs, 0 ≤ q ∧ Sz 41 q := fun q hm => ⟨of_decide_eq_true (hq q hm), h.qz q hm⟩
  have hqL : qL qs = [] := filt_none fun j hj => by
    unfold qB
    exact decide_eq_false (Rat.not_lt.mpr (hq' _ (getD_mem (z := 0) hj)).1)
  obtain ⟨v2, c2⟩ := x_of sim_check_water ⟨_, check_water_R (S := S) rw rq hl hq' (by decide)⟩
  by_cases hd1 : d ≤ 1
  · exact val_out hd (fun _ => x_of sim_places (places_R rw h0 hf' (by omega))) (fun _ => x_of sim_heaped (heaped_R rw rq h0 hf' hl hq' (by omega))) (fun z => by omega) (due_non h h0 hwL (.inr ⟨hl, hqL⟩) (.inl hd1))
  rcases first_flap (ws.length : Int) bs [] (fun b hb => by cases hb) List.nodup_nil with ⟨g1, g2⟩ | ⟨A, x, Z, hw, hA, hn, hx⟩
  · rw [List.nil_append] at g1 g2
    have hbL : bL ws.length bs = [] := by
      unfold bL
      rw [filt_none fun j hj => ?_]
      · rfl
      · unfold bB
        have hm := g1 _ (getD_mem (z := 0) hj)
        have hnm : bs.getD j 0 ∉ bs.take j := fun z => by
          obtain ⟨i, hi, e⟩ := List.getElem_of_mem z
          have hi' : i < j := by simp at hi; omega
          rw [List.getElem_take, List.getD_eq_getElem?_getD, List.getElem?_eq_getElem hj] at e
          exact List.pairwise_iff_getElem.mp g2 i j (by omega) hj hi' e
        rw [decide_eq_true (show 0 < bs.getD j 0 ∧ bs.getD j 0 < (ws.length : Int) from ⟨by omega, hm.2⟩), decide_eq_false hnm]
        rfl
    exact val_out hd (fun z => by omega) (fun z => by omega) (fun _ => x_of sim_settled (settled_R rw rq rb h0 (fun n hn => ⟨hf' n hn, h.w9 n hn⟩) hl hq' wl g1 g2 h.bl)) (due_non h h0 hwL (.inr ⟨hl, hqL⟩) (.inr hbL))
  · rw [List.nil_append] at hw
    have e := bolted_badR (S := S) (fd := .ptr a) (X := .ptr c) (A := A) (x := x) (Z := Z) rw (by rw [rb, hw]) (by rw [List.length_map]; exact hA) hn (by rw [List.length_map]; exact hx)
    obtain ⟨r, hr⟩ : ∃ r, (List.range bs.length).filter (bB ws.length bs) = A.length :: r := by
      refine filt_first (by rw [hw]; simp) ?_ fun j hj => ?_
      · unfold bB
        rw [hw, getD_mid, List.take_left]
        rcases hx with hx | hx | hx
        · rw [decide_eq_false (show ¬ (0 < x ∧ x < (ws.length : Int)) by omega)]
          rfl
        · rw [decide_eq_false (show ¬ (0 < x ∧ x < (ws.length : Int)) by omega)]
          rfl
        · rw [decide_eq_true hx, Bool.or_true]
      · unfold bB
        rw [hw, getD_left hj]
        have hm := hA _ (List.getElem_mem hj)
        have hnm : A[j] ∉ (A ++ x :: Z).take j := fun z => by
          rw [List.take_append_of_le_length (by omega)] at z
          obtain ⟨i, hi, e⟩ := List.getElem_of_mem z
          have hi' : i < j := by simp at hi; omega
          rw [List.getElem_take] at e
          exact List.pairwise_iff_getElem.mp hn i j (by omega) hj hi' e
        rw [decide_eq_true (show 0 < A[j] ∧ A[j] < (ws.length : Int) from ⟨by omega, hm.2⟩), decide_eq_false hnm]
        rfl
    have hbL : bL ws.length bs = x :: r.map fun k : Nat => bs.getD k 0 := by
      unfold bL
      rw [hr, List.map_cons]
      congr 1
      rw [hw, getD_mid]
    exact exc_out hd (.inr (.inr rfl)) (.inr ⟨_, rfl⟩) (fun z => by omega) (fun z => by omega) (fun _ => settled_x3 c1 c2 e) (due_odd h h0 hwL (by omega) hl hqL hbL)
end
end K02
end
section
/-! the classes made by hand -/
namespace K02
open PySem PyProof.Rows PySem.Spec L2 DL FW FW.R
section
variable {S : Sto} {w : DV}
def ptrs (n m : Nat) : List DV := (List.range m).map fun i => .ptr (n + i)
def exsP (ps : List (Str × DV)) : Sto := ps.map fun p => .exn p.1 p.2
noncomputable def dMksP : List (Str × DE) → DA
  | [] => dNil
  | (c, fe) :: r => dCons (dMkX c fe) (dMksP r)
theorem ptrs_cons (n m : Nat) : ptrs n (m + 1) = .ptr n :: ptrs (n + 1) m := by
  unfold ptrs
  rw [List.range_succ_eq_map, List.map_cons, List.map_map]
  congr 1
  refine List.map_congr_left fun i _ => ?_
  show DV.ptr (n + (i + 1)) = .ptr (n + 1 + i)
  congr 1
  omega
theorem ptrs_app (n m k : Nat) : ptrs n m ++ ptrs (n + m) k = ptrs n (m + k) := by
  induction m generalizing n with
  | zero => simp [ptrs]
  | succ m ih =>
    rw [ptrs_cons, List.cons_append, show n + (m + 1) = n + 1 + m by omega, ih, show m + 1 + k = (m + k) + 1 by omega, ptrs_cons]
theorem mksP_ok {s : Sl} : ∀ (l : List (Str × DE × DV)) (S : Sto), (∀ p ∈ l, ∀ S, p.2.1 s S = some (p.2.2, S)) → dMksP (l.map fun p => (p.1, p.2.1)) s S = some (ptrs S.length l.length, S ++ exsP (l.map fun p => (p.1, p.2.2)))
  | [], S, _ => by simp [dMksP, dNil, ptrs, exsP]
  | (c, fe, v) :: l, S, h => by
    have ih := mksP_ok l (S ++ [.exn c v]) fun p hp => h p (List.mem_cons_of_mem _ hp)
    have e0 : fe s S = some (v, S) := h (c, fe, v) List.mem_cons_self S
    have e1 : dMkX c fe s S = some (.ptr S.length, S ++ [.exn c v]) := by
      rw [dMkX, e0, bnd_some']
    rw [List.map_cons, dMksP, cons_of e1 ih, List.length_cons, ptrs_cons, List.length_append, List.append_assoc]
    rfl
theorem exsP_len {ps : List (Str × DV)} : (exsP ps).length = ps.length := by simp [exsP]
theorem exsP_get {ps : List (Str × DV)} {i : Nat} {p : Str × DV} {Y : Sto} (h : ps[i]? = some p) : (S ++ exsP ps ++ Y)[S.length + i]? = some (.exn p.1 p.2) := by
  have hi := (List.getElem?_eq_some_iff.mp h).1
  rw [List.getElem?_append_left (by rw [List.length_append, exsP_len]; omega), List.getElem?_append_right (by omega), Nat.add_sub_cancel_left]
  unfold exsP
  rw [List.getElem?_map, h]
  rfl
theorem exsP_at {ps : List (Str × DV)} {i : Nat} {p : Str × DV} {Y : Sto} (h : ps[i]? = some p) : excOf (S ++ exsP ps ++ Y) (.ptr (S.length + i)) = some p := by
  have e := exsP_get (S := S) (Y := Y) h
  unfold excOf
  simp only [e]
theorem ptrs_zip {α : Type} (n : Nat) (l : List α) : ptrs n l.length = l.zipIdx.map fun p => DV.ptr (n + p.2) := by
  unfold ptrs
  rw [List.zipIdx_eq_zip_range']
  have : (List.range l.length) = (l.zip (List.range' 0 l.length)).map (·.2) := by
    rw [List.map_snd_zip (by simp), List.range_eq_range']
  rw [this, List.map_map]
  rfl
theorem zip_at {α : Type} {l : List α} {p : α × Nat} (h : p ∈ l.zipIdx) : l[p.2]? = some p.1 := by
  have := List.mem_zipIdx_iff_getElem?.mp h
  exact this
theorem zip_fst {α β : Type} (f : α → β) (l : List α) : (l.zipIdx.map fun p => f p.1) = l.map f := by
  rw [show (fun p : α × Nat => f p.1) = f ∘ Prod.fst from rfl, ← List.map_map, List.zipIdx_map_fst]
theorem lcL_none {α : Type} {φ : α → DV} {tgt : DG} {tt : DT} {te : DE} {vs : List Nat} {s : Sl} {S : Sto} : ∀ {l : List α} {acc : List DV}, (∀ x ∈ l, ∃ s1, tgt (φ x) (wipeD s vs) S = some (s1, S) ∧ tt s1 S = some (false, S)) →
    lcL tgt tt te vs (l.map φ) acc s S = some (acc, S)
  | [], acc, _ => by simp [lcL]
  | x :: l, acc, h => by
    obtain ⟨s1, h1, h2⟩ := h x (List.mem_cons_self)
    have ih := lcL_none (φ := φ) (tgt := tgt) (tt := tt) (te := te) (vs := vs) (s := s) (S := S) (l := l) (acc := acc) fun y hy => h y (List.mem_cons_of_mem _ hy)
    simp only [List.map_cons, lcL, h1, h2, bnd_some']
    simp [ih]
theorem sh_mono {n m : Nat} {p : PyData} (h : ShN n p) (hm : n ≤ m) : ShN m p := ⟨h.1, Nat.le_trans h.2 hm⟩
theorem eq_selfR {x y : DV} {p : PyData} {n : Nat} {S : Sto} (h : pyS S x = some p) (g : pyS S y = some p) (hs : ShN n p) (hn : n ≤ 64) : eqD x y S = some (.bl true, S) := by
  rw [eqD_of h g hs hs hn, PySem.SeqAt.eqv_refl p hs.1]
theorem lcL_ofB {α : Type} {φ γ : α → DV} {tgt : DG} {te : DE} {vs : List Nat} {s : Sl} {S : Sto} : ∀ {l : List α} {acc : List DV}, (∀ x ∈ l, ∃ s1, tgt (φ x) (wipeD s vs) S = some (s1, S) ∧ te s1 S = some (γ x, S)) →
    lcL tgt dYes te vs (l.map φ) acc s S = some (acc ++ l.map γ, S)
  | [], acc, _ => by simp [lcL]
  | x :: l, acc, h => by
    obtain ⟨s1, h1, h2⟩ := h x (List.mem_cons_self)
    have ih := fun acc => lcL_ofB (φ := φ) (γ := γ) (tgt := tgt) (te := te) (vs := vs) (s := s) (S := S) (l := l) (acc := acc) fun y hy => h y (List.mem_cons_of_mem _ hy)
    simp only [List.map_cons, lcL, h1, bnd_some', dYes]
    simp [h2, ih]

theorem two_ofR {α : Type} {P : α → Prop} {a b : α} (h : P a) (g : P b) : ∀ x ∈ [a, b], P x := fun x hx => by
  rcases List.mem_cons.mp hx with rfl | hx
  · exact h
  · rw [List.mem_singleton.mp hx]
    exact g
theorem sh3 {a b c : PyData} (ha : ShN 2 a) (hb : ShN 2 b) (hc : ShN 2 c) : ShN 3 (.list [a, b, c]) := shN_list (n := 2) fun x hx => by
  rcases List.mem_cons.mp hx with rfl | hx
  · exact ha
  · exact two_ofR hb hc x hx
noncomputable def E6 : List (Str × DE × DV) := [("NoFloors", dC (.int 3), .int 3), ("NoWater", dC .non, .non), ("NoFlap", dC (.int 2), .int 2), ("NoStep", dC (.int 0), .int 0), ("NoTable", dTup (dCons (dC (.int 0)) (dCons (dC (.int 1)) dNil)), .tup [.int 0, .int 1]), ("NoRows", dC .non, .non)]
noncomputable def E5 : List (Str × DE × DV) := [("NoDrop", dC .non, .non), ("NoTank", dC (.int 4), .int 4), ("NoRain", dC (.int 1), .int 1), ("NoOrder", dC .non, .non), ("NoText", dC (.str "x"), .str "x")]
def N6 : List (Str × DV) := [("NoFloors", .int 3), ("NoWater", .non), ("NoFlap", .int 2), ("NoStep", .int 0), ("NoTable", .tup [.int 0, .int 1]), ("NoRows", .non)]
def N5 : List (Str × DV) := [("NoDrop", .non), ("NoTank", .int 4), ("NoRain", .int 1), ("NoOrder", .non), ("NoText", .str "x")]
theorem e6_ok {s : Sl} : ∀ p ∈ E6, ∀ S, p.2.1 s S = some (p.2.2, S) := by
  intro p hp S
  simp only [E6, List.mem_cons, List.not_mem_nil, or_false] at hp
  rcases hp with rfl | rfl | rfl | rfl | rfl | rfl
  · rfl
  · rfl
  · rfl
  · rfl
  · exact tup2 (s := s) (S := S) (S1 := S) (S2 := S) (fe := dC (.int 0)) (fg := dC (.int 1)) rfl rfl
  · rfl
theorem e5_ok {s : Sl} : ∀ p ∈ E5, ∀ S, p.2.1 s S = some (p.2.2, S) := by
  intro p hp S
  simp only [E5, List.mem_cons, List.not_mem_nil, or_false] at hp
  rcases hp with rfl | rfl | rfl | rfl | rfl <;> rfl
theorem n_ok : ∀ p ∈ N6 ++ N5, p.1 ∈ CS_ ∧ (L11 p.1).filter (fun q => q.2) = [(p.1, true)] ∧ bX_FlapError p.1 = true ∧ ∀ n, clo n (kd p.1 p.2) = true := by
  intro p hp
  simp only [N6, N5, List.cons_append, List.nil_append, List.mem_cons, List.not_mem_nil, or_false] at hp
  rcases hp with rfl | rfl | rfl | rfl | rfl | rfl | rfl | rfl | rfl | rfl | rfl <;> exact ⟨by simp [CS_], by decide +kernel, rfl, fun n => rfl⟩
theorem eq_kinds : eqD (.lst ((N6 ++ N5).map fun p => kd p.1 p.2)) (.lst ((N6 ++ N5).map fun p => kd p.1 p.2)) S = some (.bl true, S) := by
  refine eq_selfR (n := 4) (p := .list [.list [.str "NoFloors", .int 3, .bool true], .list [.str "NoWater", .none, .bool true], .list [.str "NoFlap", .int 2, .bool true], .list [.str "NoStep", .int 0, .bool true], .list [.str "NoTable", .tuple [.int 0, .int 1], .bool true], .list [.str "NoRows", .none, .bool true], .list [.str "NoDrop", .none, .bool true], .list [.str "NoTank", .int 4, .bool true], .list [.str "NoRain", .int 1, .bool true], .list [.str "NoOrder", .none, .bool true], .list [.str "NoText", .str "x", .bool true]]) rfl rfl (shN_list (n := 3) fun q hq => ?_) (by decide)
  simp only [List.mem_cons, List.not_mem_nil, or_false] at hq
  rcases hq with rfl | rfl | rfl | rfl | rfl | rfl | rfl | rfl | rfl | rfl | rfl
  · exact sh3 (sh_mono (asc_lit (by decide +kernel)).sh (by decide)) shN_int shN_bl
  · exact sh3 (sh_mono (asc_lit (by decide +kernel)).sh (by decide)) shN_non shN_bl
  · exact sh3 (sh_mono (asc_lit (by decide +kernel)).sh (by decide)) shN_int shN_bl
  · exact sh3 (sh_mono (asc_lit (by decide +kernel)).sh (by decide)) shN_int shN_bl
  · exact sh3 (sh_mono (asc_lit (by decide +kernel)).sh (by decide)) (shN_tuple (n := 1) (two_ofR shN_int shN_int)) shN_bl
  · exact sh3 (sh_mono (asc_lit (by decide +kernel)).sh (by decide)) shN_non shN_bl
  · exact sh3 (sh_mono (asc_lit (by decide +kernel)).sh (by decide)) shN_non shN_bl
  · exact sh3 (sh_mono (asc_lit (by decide +kernel)).sh (by decide)) shN_int shN_bl
  · exact sh3 (sh_mono (asc_lit (by decide +kernel)).sh (by decide)) shN_int shN_bl
  · exact sh3 (sh_mono (asc_lit (by decide +kernel)).sh (by decide)) shN_non shN_bl
  · exact sh3 (sh_mono (asc_lit (by decide +kernel)).sh (by decide)) (sh_mono ((asc_lit (by decide +kernel)).sh) (by decide)) shN_bl
theorem errors_ok : f_law_errors_right_z [] S = some (.bl true, S) := by
  obtain ⟨S6, hS6⟩ : ∃ S6, S6 = S ++ exsP N6 := ⟨_, rfl⟩
  obtain ⟨S11, hS11⟩ : ∃ S11, S11 = S ++ exsP (N6 ++ N5) := ⟨_, rfl⟩
  have l6 : S6.length = S.length + 6 := by rw [hS6, List.length_append, exsP_len]; rfl
  have n11 : (N6 ++ N5).length = 11 := rfl
  have at11 : ∀ {i : Nat} {p : Str × DV}, (N6 ++ N5)[i]? = some p → ∀ X, excOf (S11 ++ X) (.ptr (S.length + i)) = some p := fun {i p} h X => by
    have := exsP_at (S := S) (Y := X) h
    rw [← hS11] at this
    exact this
  refine fn_rt (d := .bl true) (S1 := S11) ?_ (by rw [hS11]; exact exF_cut rfl fun n z => by cases z)
  refine seq_nx (s1 := [some (.lst (ptrs S.length 6)), none, none, none, none]) (S1 := S6) (asg_name ?_) ?_
  · have := lst_of (mksP_ok (s := startD 5 []) E6 S e6_ok) (by simp [ptrs, E6])
    rw [hS6]
    exact this
  refine seq_nx (s1 := [some (.lst (ptrs S.length 11)), none, none, none, none]) (S1 := S11) (asg_name ?_) ?_
  · have m2 := mksP_ok (s := [some (.lst (ptrs S.length 6)), none, none, none, none]) E5 S6 e5_ok
    have a2 := add_of (s := [some (.lst (ptrs S.length 6)), none, none, none, none]) (S := S6) (S1 := S6) (fe := dVar 0) (ds := ptrs S.length 6) rfl (lst_of m2 (by simp [ptrs, E5])) (by simp [ptrs, E5])
    refine Eq.trans a2 ?_
    rw [l6]
    show some (DV.lst (ptrs S.length 6 ++ ptrs (S.length + 6) 5), _) = _
    rw [ptrs_app, hS11, hS6, List.append_assoc]
    unfold exsP
    rw [List.map_append]
    rfl
  obtain ⟨w9, hw9⟩ : ∃ w9, w9 = ((N6 ++ N5).take 9).map fun p => DV.str p.1 := ⟨_, rfl⟩
  obtain ⟨w11, hw11⟩ : ∃ w11, w11 = (N6 ++ N5).map fun p => DV.str p.1 := ⟨_, rfl⟩
  obtain ⟨v11, hv11⟩ : ∃ v11, v11 = (N6 ++ N5).map fun p => p.2 := ⟨_, rfl⟩
  refine seq_nx (s1 := [some (.lst (ptrs S.length 11)), some (.lst w9), none, none, none]) (S1 := S11) (asg_name (by rw [hw9]; exact lst_of (cons_of rfl (cons_of rfl (cons_of rfl (cons_of rfl (cons_of rfl (cons_of rfl (cons_of rfl (cons_of rfl (cons_of rfl rfl))))))))) (by simp [N6, N5]))) ?_
  refine seq_nx (s1 := [some (.lst (ptrs S.length 11)), some (.lst w11), none, none, none]) (S1 := S11) (asg_name ?_) ?_
  · have := add_of (s := [some (.lst (ptrs S.length 11)), some (.lst w9), none, none, none]) (S := S11) (S1 := S11) (S2 := S11) (fe := dVar 1) (fg := dLst false (dCons (dC (.str "NoOrder")) (dCons (dC (.str "NoText")) dNil))) (ds := w9) (es := [.str "NoOrder", .str "NoText"]) rfl (lst_of (cons_of rfl (cons_of rfl rfl)) (by simp)) (by rw [hw9]; simp [N6, N5])
    rw [this, hw9, hw11]
    rfl
  refine seq_nx (s1 := [some (.lst (ptrs S.length 11)), some (.lst w11), some (.lst v11), none, none]) (S1 := S11) (asg_name (by rw [hv11]; exact lst_of (cons_of rfl (cons_of rfl (cons_of rfl (cons_of rfl (cons_of (tup2 (S1 := S11) (S2 := S11) rfl rfl) (cons_of rfl (cons_of rfl (cons_of rfl (cons_of rfl (cons_of rfl (cons_of rfl rfl))))))))))) (by simp [N6, N5]))) ?_
  refine seq_nx (s1 := [some (.lst (ptrs S.length 11)), some (.lst w11), some (.lst v11), none, none]) (S1 := S11) (if_f (S1 := S11) ?_ rfl) (ret_of ?_)
  · have told := lcL_none (φ := fun q : (Str × DV) × Nat => DV.ptr (S.length + q.2)) (tgt := dName 3) (tt := (dNot (dTest (dIsX CS_ bX_FlapError (dVar 3))))) (te := dC (.int 1)) (vs := [3]) (s := [some (.lst (ptrs S.length 11)), some (.lst w11), some (.lst v11), none, none]) (S := S11) (l := (N6 ++ N5).zipIdx) (acc := []) (fun q hq => by
      refine ⟨[some (.lst (ptrs S.length 11)), some (.lst w11), some (.lst v11), some (.ptr (S.length + q.2)), none], by simp [wipeD], ?_⟩
      have h1 := zip_at hq
      have h2 := at11 h1 []
      rw [List.append_nil] at h2
      obtain ⟨n1, n2, n3, n4⟩ := n_ok _ (List.mem_of_getElem? h1)
      simp only [dNot, dTest, dIsX, dVar, List.getElem?_cons_succ, List.getElem?_cons_zero, bnd_some', h2, n1, if_true, n3]
      rfl)
    rw [← ptrs_zip, n11] at told
    have tell := lc_of (m := false) (it := .li (.lst (ptrs S.length 11))) (S1 := S11) (fi := diL (dVar 0)) rfl rfl told (by simp)
    rw [newL_f] at tell
    have ne0 : neD (.lst []) (.lst []) S11 = some (.bl false, S11) := rfl
    rw [dTest, dOp, tell, bnd_some', lnil, bnd_some', ne0]
    rfl
  · have told := lcL_ofB (φ := fun q : (Str × DV) × Nat => DV.ptr (S.length + q.2)) (γ := fun q : (Str × DV) × Nat => kd q.1.1 q.1.2) (tgt := dName 3) (te := dCall 1 f_law_kind_z [] (dCons (dVar 3) dNil)) (vs := [3]) (s := [some (.lst (ptrs S.length 11)), some (.lst w11), some (.lst v11), none, none]) (S := S11) (l := (N6 ++ N5).zipIdx) (acc := []) (fun q hq => by
      refine ⟨[some (.lst (ptrs S.length 11)), some (.lst w11), some (.lst v11), some (.ptr (S.length + q.2)), none], by simp [wipeD], ?_⟩
      have h1 := zip_at hq
      obtain ⟨n1, n2, n3, n4⟩ := n_ok _ (List.mem_of_getElem? h1)
      have k := kindZ (S := S11) (x := .ptr (S.length + q.2)) (c := q.1.1) (w := q.1.2) (at11 h1) n1 n2 (n4 _)
      simp only [dCall, dCons, dNil, dVar, List.getElem?_cons_succ, List.getElem?_cons_zero, bnd_some', List.append_nil, List.length_cons, List.length_nil, if_true, k])
    rw [← ptrs_zip, n11, zip_fst (fun q : Str × DV => kd q.1 q.2), List.nil_append] at told
    have tell := lc_of (m := false) (it := .li (.lst (ptrs S.length 11))) (S1 := S11) (fi := diL (dVar 0)) rfl rfl told (by rw [List.length_map, n11]; decide)
    rw [newL_f] at tell
    have g11 : ∀ k, k < 11 → ∃ p, (N6 ++ N5)[k]? = some p := fun k hk => ⟨_, List.getElem?_eq_getElem (by rw [n11]; exact hk)⟩
    have due := lc_fmR (m := false) (it := .rg 0 11) (l := List.range 11) (φ := fun k : Nat => DV.int (k : Nat)) (P := fun _ => true) (g := fun k => match (N6 ++ N5)[k]? with | some p => kd p.1 p.2 | none => .non) (fi := diR1 (dCons (dC (.int 11)) dNil)) (tgt := dName 4) (tt := dYes) (te := dLst false (dCons (dOp ixD (dVar 1) (dVar 4)) (dCons (dOp ixD (dVar 2) (dVar 4)) (dCons (dC (.bl true)) dNil)))) (vs := [4]) (s := [some (.lst (ptrs S.length 11)), some (.lst w11), some (.lst v11), none, none]) (S := S11) (S0 := S11)
      (by simp [rgS_of (show (0 : Int) ≤ 11 by decide) (by decide)]) (by simp [itLen]) rg_at (fun k hk => by
        obtain ⟨p, hp⟩ := g11 k (List.mem_range.mp hk)
        refine ⟨[some (.lst (ptrs S.length 11)), some (.lst w11), some (.lst v11), none, some (.int (k : Nat))], by simp [wipeD], rfl, fun _ => ?_⟩
        simp only [hp]
        exact lst3 (S1 := S11) (S2 := S11) (ix_of (l := w11) (S1 := S11) rfl rfl (at_nat rfl (by rw [hw11, List.getElem?_map, hp]; rfl))) (ix_of (l := v11) (S1 := S11) rfl rfl (at_nat rfl (by rw [hv11, List.getElem?_map, hp]; rfl))) rfl) (by simp)
    rw [newL_f, show ((List.range 11).filter fun _ => true).map (fun k => match (N6 ++ N5)[k]? with | some p => kd p.1 p.2 | none => .non) = (N6 ++ N5).map fun p => kd p.1 p.2 from rfl] at due
    rw [dOp, tell, bnd_some', due, bnd_some', eq_kinds]
/-! alike -/
theorem alike_bl {k : Nat} {S : Sto} : f_law_alike_z (k + 1) [.bl true, .bl true] S = some (.bl true, S) := by
  have h1 := isi_of (S := S) (x := .bl true) (t := "bool") (T := "bool") (b := true) rfl (by decide)
  have e : eqD (.bl true) (.bl true) S = some (.bl true, S) := eq_selfR (n := 0) (p := .bool true) rfl rfl shN_bl (by decide)
  simp [f_law_alike_z, fnF, b_law_alike_z, h1, e]
theorem alike_non {k : Nat} {S : Sto} : f_law_alike_z (k + 1) [.non, .non] S = some (.bl true, S) := by
  simp [f_law_alike_z, fnF, b_law_alike_z]
theorem alike_out {v : DV} {S : Sto} (h : Out v) : f_law_alike_z 6 [v, v] S = some (.bl true, S) := by
  rcases h with rfl | ⟨k, w, rfl, hk, hw⟩
  · exact alike_non
  · refine alike_go (k := 5) (.inl ⟨rfl, rfl, rfl⟩) rfl rfl rfl (by simp) fun i x y hx hy => ?_
    match i with
    | 0 =>
      cases hx; cases hy
      refine alike_str ?_
      rcases hk with rfl | rfl | rfl <;> exact asc_lit (by decide +kernel)
    | 1 =>
      cases hx; cases hy
      rcases hw with rfl | ⟨j, rfl⟩
      · exact alike_non
      · exact alike_int
    | 2 => cases hx; cases hy; exact alike_bl
    | n + 3 => cases hx
end
end K02
end
section
/-! drawn rows, as lists of their own -/
namespace K02
open PySem PyProof.Rows PySem.Spec L2 DL FW FW.R
theorem exF_trayR {t t' : Tr} {G : Sto} {ds : List DV} (h : clos (G.length + 2) ds = true) : exF (some true) (t.st G) (.ptr (G.length + 2)) (t'.st (G ++ [.ml ds])) = some (.ptr (G.length + 2), t'.st (G ++ [.ml ds])) := by
  unfold exF exF1
  simp only
  have hl : (t'.st (G ++ [MO.ml ds])).length = (t.st G).length + 1 := by simp
  rw [if_neg (by omega)]
  have hc : (t.st G).length < (t'.st (G ++ [MO.ml ds])).length ∧ ∀ n : Nat, n < (t.st G).length → (t'.st (G ++ [MO.ml ds]))[n]? = (t.st G)[n]? ∨ ∃ mo, (t'.st (G ++ [MO.ml ds]))[n]? = some mo ∧ cloM (t.st G).length mo = true := by
    refine ⟨by omega, fun n hn => ?_⟩
    match n with
    | 0 => exact .inr ⟨_, rfl, clos_int⟩
    | 1 => exact .inr ⟨_, rfl, by simp [cloM, clos, clo]⟩
    | n + 2 =>
      refine .inl ?_
      show (G ++ [MO.ml ds])[n]? = G[n]?
      have : n < G.length := by simp at hn; omega
      rw [List.getElem?_append_left this]
  rw [if_pos hc]
  unfold exR
  have hg : (t'.st (G ++ [MO.ml ds]))[G.length + 2]? = some (.ml ds) := by
    show (G ++ [MO.ml ds])[G.length]? = _
    simp
  have hn : ¬ (G.length + 2 < (t.st G).length) := by simp
  have ht : (t'.st (G ++ [MO.ml ds])).take (t.st G).length = t'.st G := List.take_left (l₁ := t'.st G) (l₂ := [MO.ml ds])
  have h' : clos (t.st G).length ds = true := by simpa using h
  simp only
  rw [if_neg hn, hg]
  simp only
  rw [if_pos h', ht]
  rfl
theorem exF_trayX {t t' : Tr} {G X : Sto} {p : Nat} {ds : List DV} {m : Bool} (hp : G.length + 2 ≤ p) (hX : (t'.st (G ++ X))[p]? = some (.ml ds)) (h : clos (G.length + 2) ds = true) (hne : X ≠ []) : exF (some m) (t.st G) (.ptr p) (t'.st (G ++ X)) = some (newL m ds (t'.st G)) := by
  unfold exF exF1
  simp only
  have hx : 0 < X.length := List.length_pos_iff.mpr hne
  have hl : (t'.st (G ++ X)).length = (t.st G).length + X.length := by simp; omega
  rw [if_neg (by omega)]
  have hc : (t.st G).length < (t'.st (G ++ X)).length ∧ ∀ n : Nat, n < (t.st G).length → (t'.st (G ++ X))[n]? = (t.st G)[n]? ∨ ∃ mo, (t'.st (G ++ X))[n]? = some mo ∧ cloM (t.st G).length mo = true := by
    refine ⟨by omega, fun n hn => ?_⟩
    match n with
    | 0 => exact .inr ⟨_, rfl, clos_int⟩
    | 1 => exact .inr ⟨_, rfl, by simp [cloM, clos, clo]⟩
    | n + 2 =>
      refine .inl ?_
      show (G ++ X)[n]? = G[n]?
      have : n < G.length := by simp at hn; omega
      rw [List.getElem?_append_left this]
  rw [if_pos hc]
  unfold exR
  have hn : ¬ (p < (t.st G).length) := by simp; omega
  have ht : (t'.st (G ++ X)).take (t.st G).length = t'.st G := List.take_left (l₁ := t'.st G) (l₂ := X)
  have h' : clos (t.st G).length ds = true := by simpa using h
  simp only
  rw [if_neg hn, hX]
  simp only
  rw [if_pos h', ht]

theorem lcF_invR {tgt : DG} {te : DE} {it : DIt} {vs : List Nat} {xs : List DV} {s : Sl} (I : Nat → List DV → Sto → Prop) (h : ∀ k acc S, I k acc S → DL.itemAt it S k = some xs[k]?)
    (hs : ∀ (i : Nat) (x : DV) (acc : List DV) (S : Sto), xs[i]? = some x → I i acc S → ∃ s1, tgt x (wipeD s vs) S = some (s1, S) ∧ ∃ y S2, te s1 S = some (y, S2) ∧ I (i + 1) (acc ++ [y]) S2) :
    ∀ (k i : Nat) (acc : List DV) (S : Sto), xs.length < k + i → i ≤ xs.length → I i acc S → ∃ acc' S', lcF tgt dYes te it vs k i acc s S = some (acc', S') ∧ I xs.length acc' S'
  | 0, i, acc, S, h1, h2, hI => by omega
  | k + 1, i, acc, S, h1, h2, hI => by
    unfold lcF
    rw [h i acc S hI]
    by_cases hi : i < xs.length
    · have e1 : xs[i]? = some xs[i] := List.getElem?_eq_getElem hi
      obtain ⟨s1, a1, y, S2, a2, a3⟩ := hs i _ acc S e1 hI
      obtain ⟨acc', S', a4, a5⟩ := lcF_invR I h hs k (i + 1) (acc ++ [y]) S2 (by omega) hi a3
      refine ⟨acc', S', ?_, a5⟩
      rw [e1]
      simp only [a1, dYes, bnd_some', if_true, a2, a4]
    · have e1 : xs[i]? = none := by rw [List.getElem?_eq_none_iff]; omega
      have : i = xs.length := by omega
      subst this
      exact ⟨acc, S, by rw [e1], hI⟩
theorem law_wides_kk {t : Tr} {G : Sto} {m N : Int} (h : t.ok N) (hN : N < 2 ^ 50) (hm : 0 < m) (hm2 : m ≤ 1000) :
    ∃ (ws : List Int) (t' : Tr), f_law_wides_k [.ptr 1, .int m] (t.st G) = some (.ptr (G.length + 2), t'.st (G ++ [.ml (ws.map DV.int)])) ∧ ws ≠ [] ∧ (ws.length : Int) ≤ m ∧ (∀ w ∈ ws, 1 ≤ w ∧ w ≤ 9) ∧ t'.ok (N + 2 + m) := by
  obtain ⟨r1, t1, e1, a1, b1, k1⟩ := draw_ok (G := G) (m := 3) h (by omega) (by decide) (by decide)
  obtain ⟨r2, t2, e2, a2, b2, k2⟩ := draw_ok (G := G) (m := m) k1 (by omega) hm (by omega)
  obtain ⟨d, hd, hd2⟩ := pick3 (a := .int 1) (b := .int 2) (c := .int 9) a1 b1
  obtain ⟨wd, rfl, w0, w1⟩ : ∃ wd : Int, d = .int wd ∧ 1 ≤ wd ∧ wd ≤ 9 := by
    rcases hd2 with rfl | rfl | rfl
    · exact ⟨1, rfl, by decide, by decide⟩
    · exact ⟨2, rfl, by decide, by decide⟩
    · exact ⟨9, rfl, by decide, by decide⟩
  obtain ⟨acc, S', e3, ws, t3, rfl, rfl, hlen, hw, k3⟩ := lcL_inv (tgt := dName 3) (tt := dYes) (te := (dOp (addD false) (dC (.int 1)) (dCall 2 f_law_draw_z [] (dCons (dVar 0) (dCons (dVar 2) dNil))))) (vs := [3])
    (s := [some (.ptr 1), some (.int m), some (.int wd), none]) (fun k acc S => ∃ (ws : List Int) (t' : Tr), acc = ws.map DV.int ∧ S = t'.st G ∧ ws.length = k ∧ (∀ w ∈ ws, 1 ≤ w ∧ w ≤ 9) ∧ t'.ok (N + 1 + 1 + k))
    (xs := (List.range (1 + r2).toNat).map fun i => DV.int (0 + (i : Nat))) (acc := []) (S := t2.st G) (k := 0) ⟨[], t2, rfl, rfl, rfl, fun w hw => (by cases hw), by simpa using k2⟩ (by
      rintro i x acc S hx ⟨ws, t', rfl, rfl, hlen, hw, hk⟩
      obtain ⟨n, hn, rfl⟩ := map_at hx
      have hi : i < (1 + r2).toNat := by simpa using (List.getElem?_eq_some_iff.mp hn).1
      obtain ⟨r, t'', e, a, b, k⟩ := draw_ok (G := G) (m := wd) hk (by omega) (by omega) (by omega)
      refine ⟨_, _, true, _, rfl, rfl, ?_⟩
      rw [if_pos rfl]
      refine ⟨.int (1 + r), t''.st G, by simp [e], ws ++ [1 + r], t'', by simp, rfl, by simp [hlen], fun w h => ?_, by
        have : N + 1 + 1 + ((0 + i + 1 : Nat) : Int) = N + 1 + 1 + ((0 + i : Nat) : Int) + 1 := by omega
        rw [this]
        exact k⟩
      rcases List.mem_append.mp h with h | h
      · exact hw w h
      · cases List.mem_singleton.mp h
        omega)
  have hlen' : ws.length = (1 + r2).toNat := by simpa using hlen
  refine ⟨ws, t3, ?_, ?_, by omega, hw, k3.mono (by simp; omega)⟩
  · have hr : RgS (1 + r2) := rgS_of (by omega) (by omega)
    have hll : ws.length ≤ 100000 := by omega
    have e3' := lc_of (m := true) (it := .rg 0 (1 + r2).toNat) (S1 := t2.st G) (fi := diR1 (dCons (dOp (addD false) (dC (.int 1)) (dCall 2 f_law_draw_z [] (dCons (dVar 0) (dCons (dVar 1) dNil)))) dNil)) (s := [some (.ptr 1), some (.int m), some (.int wd), none]) (S := t1.st G) (by simp [e2, hr]) rfl (by simpa using e3) (by simpa using hll)
    rw [newL_t] at e3'
    refine fn_rt (d := .ptr (t3.st G).length) (S1 := (t3.st G) ++ [.ml (ws.map DV.int)]) ?_ (exF_trayR clos_int)
    have hix := ixD_lst (S := t1.st G) hd
    exact seq_nx (asg_name (d := .int wd) (S1 := t1.st G) (by simp [e1, hix])) (ret_of e3')
  · intro z
    rw [z] at hlen'
    simp at hlen'
    omega
theorem law_shuffled_kk {t : Tr} {G : Sto} {N : Int} {xs : List Int} (h : t.ok N) (hN : N < 2 ^ 40) (hl : xs.length ≤ 1000) :
    ∃ (out : List Int) (t' : Tr), f_law_shuffled_k [.ptr 1, dI xs] (t.st G) = some (.ptr (G.length + 2), t'.st (G ++ [.ml (out.map DV.int)])) ∧ out.Perm xs ∧ t'.ok (N + xs.length) := by
  obtain ⟨acc, S', e, out, left, t3, rfl, rfl, hp, hlen, k3⟩ := lcL_inv (tgt := dName 3) (tt := dYes) (te := (dBM "list" popAtD (dVar 2) (dCons (dCall 2 f_law_draw_z [] (dCons (dVar 0) (dCons (dCB lenD (dCons (dVar 2) dNil)) dNil))) dNil))) (vs := [3])
    (s := [some (.ptr 1), some (dI xs), some (.ptr (G.length + 2)), none]) (fun k acc S => ∃ (out left : List Int) (t' : Tr), acc = out.map DV.int ∧ S = t'.st (G ++ [.ml (left.map DV.int)]) ∧ (out ++ left).Perm xs ∧ left.length + k = xs.length ∧ t'.ok (N + k))
    (xs := (List.range xs.length).map fun i => DV.int (0 + (i : Nat))) (acc := []) (S := t.st (G ++ [.ml (xs.map DV.int)])) (k := 0) ⟨[], xs, t, rfl, rfl, List.Perm.refl _, rfl, by simpa using h⟩ (by
      rintro i x acc S hx ⟨out, left, t', rfl, rfl, hp, hlen, hk⟩
      have hi : i < xs.length := by simpa using (List.getElem?_eq_some_iff.mp hx).1
      obtain ⟨r, t'', e, r0, r1, k⟩ := draw_ok (G := G ++ [.ml (left.map DV.int)]) (m := left.length) hk (by omega) (by omega) (by omega)
      have hr : r.toNat < left.length := by omega
      have hlr : lenD [.ptr (G.length + 2)] (t'.st (G ++ [.ml (left.map DV.int)])) = some (.int (left.length : Nat), t'.st (G ++ [.ml (left.map DV.int)])) := by
        simp [lenD]
      have hix : L2.ixN (left.map DV.int).length r = some r.toNat := by
        unfold L2.ixN
        rw [if_pos r0, if_pos (by simp; omega)]
      have hpop : popAtD (.ptr (G.length + 2)) [.int r] (t''.st (G ++ [.ml (left.map DV.int)])) = some (.int (left[r.toNat]), t''.st (G ++ [.ml ((left.eraseIdx r.toNat).map DV.int)])) := by
        have hb : left.length ≤ 100000 := by omega
        have hp : ptrL (t''.st (G ++ [.ml (left.map DV.int)])) (.ptr (G.length + 2)) = some (G.length + 2, left.map DV.int) := ptrL_top (S := t''.st G)
        have hs : (t''.st (G ++ [.ml (left.map DV.int)])).set (G.length + 2) (.ml ((left.eraseIdx r.toNat).map DV.int)) = t''.st (G ++ [.ml ((left.eraseIdx r.toNat).map DV.int)]) := top_set (S := t''.st G)
        have hg : (left.map DV.int)[r.toNat]? = some (.int left[r.toNat]) := by rw [List.getElem?_map, List.getElem?_eq_getElem hr]; rfl
        have he : (left.map DV.int).eraseIdx r.toNat = (left.eraseIdx r.toNat).map DV.int := by
          rw [List.eraseIdx_eq_take_drop_succ, List.eraseIdx_eq_take_drop_succ, List.map_append, List.map_take, List.map_drop]
        unfold popAtD
        simp only [hp, hix, hg]
        rw [gate_ok (by rw [List.length_map]; exact hb), he, hs]
      refine ⟨_, _, true, _, rfl, rfl, ?_⟩
      rw [if_pos rfl]
      refine ⟨.int left[r.toNat], t''.st (G ++ [.ml ((left.eraseIdx r.toNat).map DV.int)]), ?_, out ++ [left[r.toNat]], left.eraseIdx r.toNat, t'', by simp, rfl, ?_, ?_, k.mono (by omega)⟩
      · simp [wipeD, hlr, e, hpop]
      · refine List.Perm.trans ?_ hp
        rw [List.append_assoc]
        refine List.Perm.append_left _ ?_
        rw [List.eraseIdx_eq_take_drop_succ]
        have e3 : left = left.take r.toNat ++ left[r.toNat] :: left.drop (r.toNat + 1) := by
          rw [← List.drop_eq_getElem_cons hr, List.take_append_drop]
        refine List.Perm.trans (List.perm_middle.symm : (left[r.toNat] :: (left.take r.toNat ++ left.drop (r.toNat + 1))).Perm _) ?_
        rw [← e3]
      · rw [List.length_eraseIdx_of_lt hr]
        omega)
  have hz : left = [] := by
    have : left.length = 0 := by
      simp only [List.length_map, List.length_range, Nat.zero_add] at hlen
      omega
    exact List.length_eq_zero_iff.mp this
  subst hz
  rw [List.append_nil] at hp
  refine ⟨out, t3, ?_, hp, k3.mono (by simp)⟩
  have hol : out.length ≤ 100000 := by rw [hp.length_eq]; omega
  have hrg : RgS (xs.length : Int) := rgS_of (by omega) (by omega)
  have hlx : lenD [.ptr (G.length + 2)] (t.st (G ++ [.ml (xs.map DV.int)])) = some (.int (xs.length : Nat), t.st (G ++ [.ml (xs.map DV.int)])) := by
    simp [lenD]
  refine fn_rt (d := .ptr (G.length + 3)) (S1 := t3.st (G ++ ([MO.ml []] ++ [MO.ml (out.map DV.int)]))) ?_ ((exF_trayX (ds := out.map DV.int) (by omega) (by
    show (G ++ ([MO.ml []] ++ [MO.ml (out.map DV.int)]))[G.length + 1]? = _
    rw [List.getElem?_append_right (by omega)]
    simp) clos_int (by simp)).trans rfl)
  refine seq_nx (asg_name (d := .ptr (G.length + 2)) (S1 := t.st (G ++ [.ml (xs.map DV.int)])) (by simp [dI, listD])) ?_
  have lc := lc_of (m := true) (it := .rg 0 xs.length) (S1 := t.st (G ++ [.ml (xs.map DV.int)])) (fi := diR1 (dCons (dCB lenD (dCons (dVar 2) dNil)) dNil)) (s := [some (.ptr 1), some (dI xs), some (.ptr (G.length + 2)), none]) (S := t.st (G ++ [.ml (xs.map DV.int)])) (by simp [hlx, hrg]) rfl e (by rw [List.length_map]; exact hol)
  rw [newL_t] at lc
  refine ret_of (Eq.trans lc ?_)
  show some (DV.ptr (t3.st (G ++ [MO.ml []])).length, t3.st ((G ++ [MO.ml []]) ++ [MO.ml (out.map DV.int)])) = _
  rw [List.append_assoc]
  simp
theorem law_bolts_kk {t : Tr} {G : Sto} {N : Int} {n : Nat} (h : t.ok N) (hN : N < 2 ^ 30) (h1 : 1 ≤ n) (hl : n ≤ 500) :
    ∃ (bs : List Int) (t' : Tr), f_law_bolts_k [.ptr 1, .int (n : Nat)] (t.st G) = some (.ptr (G.length + 2), t'.st (G ++ [.ml (bs.map DV.int)])) ∧ (∀ b ∈ bs, 1 ≤ b ∧ b < (n : Int)) ∧ bs.Nodup ∧ bs.length ≤ n ∧ t'.ok (N + 1 + 2 * n) := by
  obtain ⟨fs, hfs⟩ : ∃ fs : List Int, fs = (List.range (n - 1)).map (fun (i : Nat) => (1 : Int) + (i : Int)) := ⟨_, rfl⟩
  have fm : ∀ b ∈ fs, 1 ≤ b ∧ b < (n : Int) := fun b hb => by
    rw [hfs] at hb
    obtain ⟨i, hi, rfl⟩ := List.mem_map.mp hb
    have := List.mem_range.mp hi
    omega
  have fn : fs.Nodup := by
    rw [hfs]
    exact List.pairwise_map.mpr (List.nodup_range.imp fun h => by omega)
  have fl' : fs.length = n - 1 := by rw [hfs]; simp
  have e0 : dLr2 false (dC (.int 1)) (dVar 1) [some (.ptr 1), some (.int (n : Nat)), none, none, none] (t.st G) = some (dI fs, t.st G) := by
    have hg : (0 : Int) ≤ 1 ∧ (1 : Int) ≤ 100000 ∧ 0 ≤ (n : Int) ∧ (n : Int) ≤ 100000 := by omega
    have ht : ((n : Int) - 1).toNat = n - 1 := by omega
    simp only [dLr2, dC, dVar, List.getElem?_cons_zero, List.getElem?_cons_succ, bnd_some', gate_ok hg, rgD, ht, newL_f, dI, hfs, List.map_map]
    rfl
  obtain ⟨r, t1, e1, a1, b1, k1⟩ := draw_ok (G := G) (m := 4) h (by omega) (by decide) (by decide)
  have mem_of : ∀ {bs : List Int}, bs.Perm fs → (∀ b ∈ bs, 1 ≤ b ∧ b < (n : Int)) ∧ bs.Nodup ∧ bs.length ≤ n := fun hp => ⟨fun b hb => fm b (hp.mem_iff.mp hb), hp.nodup_iff.mpr fn, by rw [hp.length_eq, fl']; omega⟩
  by_cases hr : r < 2
  · by_cases hr1 : r = 1
    · obtain ⟨out, t2, e2, hp, k2⟩ := law_shuffled_kk (G := G) (xs := fs) k1 (by omega) (by omega)
      obtain ⟨m1, m2, m3⟩ := mem_of hp
      refine ⟨out, t2, fn_rt (d := .ptr (G.length + 2)) (S1 := t2.st (G ++ [.ml (out.map DV.int)])) ?_ (exF_trayR clos_int), m1, m2, m3, k2.mono (by omega)⟩
      refine seq_nx (asg_name e0) ?_
      refine seq_nx (asg_name (d := .int r) (S1 := t1.st G) (by simp [e1])) ?_
      exact seq_rt (if_t (S1 := t1.st G) (by simp [hr]) (ret_of (by simp [hr1, e2])))
    · refine ⟨[], t1, fn_rt (d := .ptr (G.length + 2)) (S1 := t1.st (G ++ [.ml (([] : List Int).map DV.int)])) ?_ (exF_trayR rfl), (fun b hb => by cases hb), List.nodup_nil, Nat.zero_le _, k1.mono (by omega)⟩
      refine seq_nx (asg_name e0) ?_
      refine seq_nx (asg_name (d := .int r) (S1 := t1.st G) (by simp [e1])) ?_
      exact seq_rt (if_t (S1 := t1.st G) (by simp [hr]) (ret_of (by simp [hr1])))
  · obtain ⟨acc, S', e, sub, t2, rfl, rfl, hs, k2⟩ := lcL_inv (tgt := dName 4) (tt := dTest (dOp eqD (dCall 2 f_law_draw_z [] (dCons (dVar 0) (dCons (dVar 3) dNil))) (dC (.int 0)))) (te := dVar 4) (vs := [4])
      (s := [some (.ptr 1), some (.int (n : Nat)), some (dI fs), some (.int r), none]) (fun k acc S => ∃ (sub : List Int) (t' : Tr), acc = sub.map DV.int ∧ S = t'.st G ∧ sub.Sublist (fs.take k) ∧ t'.ok (N + 1 + k))
      (xs := fs.map DV.int) (acc := []) (S := t1.st G) (k := 0) ⟨[], t1, rfl, rfl, List.nil_sublist _, by simpa using k1⟩ (by
        rintro i x acc S hx ⟨sub, t', rfl, rfl, hs, hk⟩
        obtain ⟨f, hf, rfl⟩ := map_at hx
        have hi : i < fs.length := (List.getElem?_eq_some_iff.mp hf).1
        obtain ⟨r2, t'', e, r0, r1, k⟩ := draw_ok (G := G) (m := r) hk (by omega) (by omega) (by omega)
        have ht : fs.take (0 + i + 1) = fs.take (0 + i) ++ [f] := by
          rw [Nat.zero_add, List.take_succ, hf]
          rfl
        have hk' : t''.ok (N + 1 + ((0 + i + 1 : Nat) : Int)) := k.mono (by omega)
        by_cases hz : r2 = 0
        · refine ⟨_, _, true, t''.st G, rfl, by simp [wipeD, e, hz], ?_⟩
          rw [if_pos rfl]
          exact ⟨.int f, t''.st G, by simp [wipeD], sub ++ [f], t'', by simp, rfl, by rw [ht]; exact List.Sublist.append hs (List.Sublist.refl _), hk'⟩
        · refine ⟨_, _, false, t''.st G, rfl, by simp [wipeD, e, hz], ?_⟩
          rw [if_neg (by decide)]
          exact ⟨sub, t'', rfl, rfl, by rw [ht]; exact hs.trans (List.sublist_append_left _ _), hk'⟩)
    rw [Nat.zero_add, List.length_map] at hs k2
    rw [List.take_length] at hs
    have sl' := hs.length_le
    obtain ⟨out, t3, e3, hp, k3⟩ := law_shuffled_kk (G := G) (xs := sub) k2 (by omega) (by omega)
    refine ⟨out, t3, fn_rt (d := .ptr (G.length + 2)) (S1 := t3.st (G ++ [.ml (out.map DV.int)])) ?_ (exF_trayR clos_int), fun b hb => fm b (hs.subset (hp.mem_iff.mp hb)), hp.nodup_iff.mpr (hs.nodup fn), by rw [hp.length_eq]; omega, k3.mono (by omega)⟩
    have lc := lc_of (m := false) (it := .li (dI fs)) (S1 := t1.st G) (fi := diL (dVar 2)) (s := [some (.ptr 1), some (.int (n : Nat)), some (dI fs), some (.int r), none]) (S := t1.st G) (by simp [diL, dI]) rfl e (by rw [List.length_map]; omega)
    rw [newL_f] at lc
    refine seq_nx (asg_name e0) ?_
    refine seq_nx (asg_name (d := .int r) (S1 := t1.st G) (by simp [e1])) ?_
    refine seq_nx (if_f (S1 := t1.st G) (by simp [hr]) rfl) ?_
    refine ret_of ?_
    show dCall 2 f_law_shuffled_k [] _ [some (.ptr 1), some (.int (n : Nat)), some (dI fs), some (.int r), none] (t1.st G) = _
    unfold dI at e3 lc ⊢
    simp only [dCall, dCons, dNil, dVar, List.getElem?_cons_zero, List.getElem?_cons_succ, bnd_some', List.append_nil, List.length_cons, List.length_nil, if_true, lc]
    exact e3
theorem law_amounts_kk {t : Tr} {G : Sto} {N b : Int} {p : Nat} {ws : List Int} (hp : ∀ t : Tr, rdL (t.st G) (.ptr p) = some (ws.map DV.int)) (h : t.ok N) (hN : N < 2 ^ 40) (hw : ∀ w ∈ ws, 1 ≤ w ∧ w ≤ 9) (hl : ws.length ≤ 1000) (hb : 0 ≤ b ∧ b ≤ 60) :
    ∃ (qs : List Rat) (t' : Tr), f_law_amounts_k [.ptr 1, .ptr p, .int b] (t.st G) = some (.ptr (G.length + 2), t'.st (G ++ [.ml (qs.map fr)])) ∧ qs.length = ws.length ∧ (∀ q ∈ qs, 0 ≤ q ∧ Sz 41 q) ∧ t'.ok (N + 6 * ws.length + 1) := by
  obtain ⟨acc, S', e3, qs, t3, rfl, rfl, hlen, hq, k3⟩ := lcF_invR (it := .li (.ptr p)) (tgt := dName 5) (te := (dCall 3 f_law_amount_z [] (dCons (dVar 0) (dCons (dVar 5) (dCons (dIf (dTest (dOp gtD (dVar 2) (dC (.int 0)))) (dVar 2) (dOp (addD false) (dC (.int 1)) (dCall 2 f_law_draw_z [] (dCons (dVar 0) (dCons (dC (.int 60)) dNil))))) dNil))))) (vs := [5])
    (s := [some (.ptr 1), some (.ptr p), some (.int b), none, none, none, none]) (fun k acc S => ∃ (qs : List Rat) (t' : Tr), acc = qs.map fr ∧ S = t'.st G ∧ qs.length = k ∧ (∀ q ∈ qs, 0 ≤ q ∧ Sz 41 q) ∧ t'.ok (N + 6 * k))
    (xs := ws.map DV.int) (fun k acc S ⟨qs, t', h1, h2, _⟩ => by rw [h2]; simp only [DL.itemAt, hp]) (by
      rintro i x acc S hx ⟨qs, t', rfl, rfl, hlen, hq, hk⟩
      obtain ⟨w, hn, rfl⟩ := map_at hx
      have hww := hw w (List.mem_of_getElem? hn)
      have hi : i < ws.length := (List.getElem?_eq_some_iff.mp hn).1
      by_cases hb0 : 0 < b
      · obtain ⟨q, t'', e, q0, q1, k⟩ := law_amount_ok (G := G) (w := w) (b := b) hk (by omega) hww (by omega)
        refine ⟨_, rfl, fr q, t''.st G, by simp [e, hb0], qs ++ [q], t'', by simp, rfl, by simp [hlen], fun p h => ?_, k.mono (by omega)⟩
        rcases List.mem_append.mp h with h | h
        · exact hq p h
        · cases List.mem_singleton.mp h
          exact ⟨q0, q1⟩
      · obtain ⟨r, tr, er, ar, br, kr⟩ := draw_ok (G := G) (m := 60) hk (by omega) (by decide) (by decide)
        obtain ⟨q, t'', e, q0, q1, k⟩ := law_amount_ok (G := G) (w := w) (b := 1 + r) kr (by omega) hww (by omega)
        refine ⟨_, rfl, fr q, t''.st G, by simp [er, e, hb0], qs ++ [q], t'', by simp, rfl, by simp [hlen], fun p h => ?_, k.mono (by omega)⟩
        rcases List.mem_append.mp h with h | h
        · exact hq p h
        · cases List.mem_singleton.mp h
          exact ⟨q0, q1⟩) (itLen (.li (.ptr p)) (t.st G) + 1) 0 [] (t.st G) (by simp [itLen, hp]) (Nat.zero_le _) ⟨[], t, rfl, rfl, rfl, fun w hw => (by cases hw), by simpa using h⟩
  have hlen' : qs.length = ws.length := by simpa using hlen
  obtain ⟨r, t4, e4, a4, b4, k4⟩ := draw_ok (G := G) (m := 5) k3 (by simp; omega) (by decide) (by decide)
  obtain ⟨d, hd, hd2⟩ := pick5 (a := .int 0) (b := .int ((ws.length : Int) - 1)) (c := .non) (e := .non) (f := .non) a4 b4
  have hRg : RgS (ws.length : Int) := rgS_of (by omega) (by omega)
  -- what is told of each
  have fin : ∀ (P : Nat → Bool), (∀ i : Nat, i < ws.length → ∀ S, dIf (dOr (dTest (dIsN false (dVar 4))) (dTest (dOp eqD (dVar 6) (dVar 4)))) (dOp ixD (dVar 3) (dVar 6)) (dTup (dCons (dC (.int 0)) (dCons (dC (.int 1)) dNil))) [some (.ptr 1), some (.ptr p), some (.int b), some (dF qs), some d, none, some (.int (i : Nat))] S = some (if P i then fr (qs.getD i 0) else fr 0, S)) →
      ∃ rs : List Rat, lcL (dName 6) dYes (dIf (dOr (dTest (dIsN false (dVar 4))) (dTest (dOp eqD (dVar 6) (dVar 4)))) (dOp ixD (dVar 3) (dVar 6)) (dTup (dCons (dC (.int 0)) (dCons (dC (.int 1)) dNil)))) [6] ((List.range ws.length).map fun i => DV.int ((i : Nat) : Int)) [] [some (.ptr 1), some (.ptr p), some (.int b), some (dF qs), some d, none, none] (t4.st G) = some (rs.map fr, t4.st G) ∧ rs.length = ws.length ∧ ∀ q ∈ rs, 0 ≤ q ∧ Sz 41 q := by
    intro P hP
    refine ⟨(List.range ws.length).map fun i => if P i then qs.getD i 0 else 0, ?_, by simp, fun q hq' => ?_⟩
    · rw [lcL_map (g := fun x => match x with
        | .int i => if P i.toNat then fr (qs.getD i.toNat 0) else fr 0
        | d => d) fun x hx => ?_]
      · simp only [List.nil_append, List.map_map, Option.some.injEq, Prod.mk.injEq, and_true]
        refine List.map_congr_left fun i _ => ?_
        simp only [Function.comp, Int.toNat_natCast]
        split <;> rfl
      · obtain ⟨i, hi, rfl⟩ := List.mem_map.mp hx
        refine ⟨_, rfl, rfl, ?_⟩
        have := hP i (by simpa using hi) (t4.st G)
        simpa using this
    · obtain ⟨i, hi, rfl⟩ := List.mem_map.mp hq'
      have hi' : i < qs.length := by rw [hlen']; simpa using hi
      split
      · rw [List.getD_eq_getElem?_getD, List.getElem?_eq_getElem hi']
        exact hq _ (List.getElem_mem hi')
      · exact ⟨Rat.le_refl, sz_zero⟩
  have ixk : ∀ i : Nat, i < ws.length → ∀ S, ixD (dF qs) (.int (i : Nat)) S = some (fr (qs.getD i 0), S) := fun i hi S => by
    have hi' : i < qs.length := by omega
    refine ixD_lst (at_nat rfl ?_)
    rw [List.getElem?_map, List.getD_eq_getElem?_getD, List.getElem?_eq_getElem hi']
    rfl
  have e0 : DV.tup [.int 0, .int 1] = fr 0 := rfl
  obtain ⟨rs, er, hrl, hrq⟩ : ∃ rs : List Rat, lcL (dName 6) dYes (dIf (dOr (dTest (dIsN false (dVar 4))) (dTest (dOp eqD (dVar 6) (dVar 4)))) (dOp ixD (dVar 3) (dVar 6)) (dTup (dCons (dC (.int 0)) (dCons (dC (.int 1)) dNil)))) [6] ((List.range ws.length).map fun i => DV.int ((i : Nat) : Int)) [] [some (.ptr 1), some (.ptr p), some (.int b), some (dF qs), some d, none, none] (t4.st G) = some (rs.map fr, t4.st G) ∧ rs.length = ws.length ∧ ∀ q ∈ rs, 0 ≤ q ∧ Sz 41 q := by
    have non : d = .non ∨ ∃ z : Int, d = .int z := by
      rcases hd2 with rfl | rfl | rfl | rfl | rfl
      · exact .inr ⟨_, rfl⟩
      · exact .inr ⟨_, rfl⟩
      · exact .inl rfl
      · exact .inl rfl
      · exact .inl rfl
    rcases non with rfl | ⟨z, rfl⟩
    · exact fin (fun _ => true) fun i hi S => by simp [ixk i hi]
    · refine fin (fun i => decide ((i : Int) = z)) fun i hi S => ?_
      by_cases hz : (i : Int) = z
      · subst hz
        simp [ixk i hi]
      · simp [hz, e0]
  refine ⟨rs, t4, ?_, hrl, hrq, k4.mono (by simp)⟩
  have hq1 : qs.length ≤ 100000 := by omega
  have hr1 : rs.length ≤ 100000 := by omega
  have hix := ixD_lst (S := t4.st G) hd
  have lp := fun t : Tr => lenD_rdR (hp t)
  rw [List.length_map] at lp
  have lc1 : dLc false (diL (dVar 1)) (dName 5) dYes (dCall 3 f_law_amount_z [] (dCons (dVar 0) (dCons (dVar 5) (dCons (dIf (dTest (dOp gtD (dVar 2) (dC (.int 0)))) (dVar 2) (dOp (addD false) (dC (.int 1)) (dCall 2 f_law_draw_z [] (dCons (dVar 0) (dCons (dC (.int 60)) dNil))))) dNil)))) [5] [some (.ptr 1), some (.ptr p), some (.int b), none, none, none, none] (t.st G) = some (dF qs, t3.st G) := by
    unfold dLc
    rw [diL_ofR (d := .ptr p) rfl (hp t), bnd_some', e3, bnd_some', gate_ok (by simpa using hq1), newL_f]
    rfl
  have er' : lcL (dName 6) dYes (dIf (dOr (dTest (dIsN false (dVar 4))) (dTest (dOp eqD (dVar 6) (dVar 4)))) (dOp ixD (dVar 3) (dVar 6)) (dTup (dCons (dC (.int 0)) (dCons (dC (.int 1)) dNil)))) [6] ((List.range ws.length).map fun i : Nat => DV.int (0 + (i : Int))) [] [some (.ptr 1), some (.ptr p), some (.int b), some (dF qs), some d, none, none] (t4.st G) = some (rs.map fr, t4.st G) := by
    simpa using er
  have lc2 := lc_of (m := true) (it := .rg 0 ws.length) (S1 := t4.st G) (fi := diR1 (dCons (dCB lenD (dCons (dVar 1) dNil)) dNil)) (s := [some (.ptr 1), some (.ptr p), some (.int b), some (dF qs), some d, none, none]) (S := t4.st G) (by simp [lp, hRg]) rfl er' (by simpa using hr1)
  rw [newL_t] at lc2
  refine fn_rt (d := .ptr (t4.st G).length) (S1 := (t4.st G) ++ [.ml (rs.map fr)]) ?_ (exF_trayR clos_fr)
  refine seq_nx (asg_name lc1) ?_
  refine seq_nx (asg_name (d := d) (S1 := t4.st G) ?_) (ret_of lc2)
  simp [lp, e4, hix]

end K02
end
section
/-! rows bent -/
namespace K02
open PySem PyProof.Rows PySem.Spec L2 DL FW FW.R
noncomputable def A1 : DS := (dAsg (dOp subD (dC (.int 0)) (dCall 2 f_law_draw_z [] (dCons (dVar 0) (dCons (dC (.int 3)) dNil)))) (dSub (dVar 1) (dCall 2 f_law_draw_z [] (dCons (dVar 0) (dCons (dCB lenD (dCons (dVar 1) dNil)) dNil)))))
noncomputable def A2 : DS := (dAsg (dOp ixD (dLst false (dCons (dC (.int 0)) (dCons (dC (.int 1)) (dCons (dUn negD (dOp powD (dC (.int 10)) (dC (.int 6)))) dNil)))) (dCall 2 f_law_draw_z [] (dCons (dVar 0) (dCons (dC (.int 3)) dNil)))) (dSub (dVar 1) (dCall 2 f_law_draw_z [] (dCons (dVar 0) (dCons (dCB lenD (dCons (dVar 1) dNil)) dNil)))))
noncomputable def bA : DS := dIfS (dTest (dOp eqD (dCall 2 f_law_draw_z [] (dCons (dVar 0) (dCons (dC (.int 4)) dNil))) (dC (.int 0)))) (dSeq A1 A2) dNext
noncomputable def bB_ : DS := (dIfS (dTest (dOp eqD (dCall 2 f_law_draw_z [] (dCons (dVar 0) (dCons (dC (.int 12)) dNil))) (dC (.int 0))))
    (dDrop (dBM0 "list" clearD (dVar 1))) dNext)
noncomputable def C1 : DS := (dAsg (dCall 2 f_law_low_z [] (dCons (dOp subD (dUn negD (dC (.int 1))) (dCall 2 f_law_draw_z [] (dCons (dVar 0) (dCons (dC (.int 99)) dNil)))) (dCons (dOp (addD false) (dC (.int 1)) (dCall 2 f_law_draw_z [] (dCons (dVar 0) (dCons (dC (.int 60)) dNil)))) dNil))) (dSub (dVar 2) (dCall 2 f_law_draw_z [] (dCons (dVar 0) (dCons (dCB lenD (dCons (dVar 2) dNil)) dNil)))))
noncomputable def bC : DS := dIfS (dTest (dOp eqD (dCall 2 f_law_draw_z [] (dCons (dVar 0) (dCons (dC (.int 3)) dNil))) (dC (.int 0)))) (dFor (diR1 (dCons (dOp (addD false) (dC (.int 1)) (dCall 2 f_law_draw_z [] (dCons (dVar 0) (dCons (dC (.int 2)) dNil)))) dNil)) (dName 4) C1) dNext
noncomputable def D1 : DS := (dDrop (dBM "list" insertD (dVar 2) (dCons (dCall 2 f_law_draw_z [] (dCons (dVar 0) (dCons (dOp (addD false) (dCB lenD (dCons (dVar 2) dNil)) (dC (.int 1))) dNil))) (dCons (dTup (dCons (dCall 2 f_law_draw_z [] (dCons (dVar 0) (dCons (dC (.int 9)) dNil))) (dCons (dC (.int 1)) dNil))) dNil))))
noncomputable def D2_ : DS := (dDrop (dBM "list" popAtD (dVar 2) (dCons (dCall 2 f_law_draw_z [] (dCons (dVar 0) (dCons (dCB lenD (dCons (dVar 2) dNil)) dNil))) dNil)))
noncomputable def bD : DS := dIfS (dTest (dOp eqD (dCall 2 f_law_draw_z [] (dCons (dVar 0) (dCons (dC (.int 5)) dNil))) (dC (.int 0)))) D1 (dIfS (dTest (dOp eqD (dCall 2 f_law_draw_z [] (dCons (dVar 0) (dCons (dC (.int 5)) dNil))) (dC (.int 0)))) D2_ dNext)
noncomputable def E1 : DS := (dAsg (dOp (addD false) (dVar 3) (dLst false (dCons (dC (.int 0)) (dCons (dCB lenD (dCons (dVar 1) dNil)) (dCons (dUn negD (dC (.int 1))) (dCons (dOp (addD false) (dOp (addD false) (dCB lenD (dCons (dVar 1) dNil)) (dC (.int 1))) (dCall 2 f_law_draw_z [] (dCons (dVar 0) (dCons (dC (.int 99)) dNil)))) (dCons (dOp subD (dUn negD (dC (.int 1))) (dCall 2 f_law_draw_z [] (dCons (dVar 0) (dCons (dC (.int 99)) dNil)))) dNil))))))) (dName 5))
noncomputable def E2 : DS := (dDrop (dBM "list" insertD (dVar 3) (dCons (dCall 2 f_law_draw_z [] (dCons (dVar 0) (dCons (dOp (addD false) (dCB lenD (dCons (dVar 3) dNil)) (dC (.int 1))) dNil))) (dCons (dOp ixD (dVar 5) (dCall 2 f_law_draw_z [] (dCons (dVar 0) (dCons (dCB lenD (dCons (dVar 5) dNil)) dNil)))) dNil))))
noncomputable def bE : DS := dFor (diR1 (dCons (dOp ixD (dLst false (dCons (dC (.int 0)) (dCons (dC (.int 0)) (dCons (dC (.int 1)) (dCons (dC (.int 2)) dNil))))) (dCall 2 f_law_draw_z [] (dCons (dVar 0) (dCons (dC (.int 4)) dNil)))) dNil)) (dName 4) (dSeq E1 E2)
theorem bent_eq : b_law_bent_z = dSeq bA (dSeq bB_ (dSeq bC (dSeq bD bE))) := rfl
abbrev st3 (t : Tr) (G : Sto) (W : List Int) (Q : List Rat) (B : List Int) : Sto := t.st (G ++ [.ml (W.map DV.int), .ml (Q.map fr), .ml (B.map DV.int)])
section
variable {t : Tr} {G : Sto} {W B : List Int} {Q : List Rat} {s : Sl} {fe fg f g : DE} {N m : Int}
theorem g2 : (st3 t G W Q B)[G.length + 2]? = some (.ml (W.map DV.int)) := by
  show (G ++ [MO.ml (W.map DV.int), .ml (Q.map fr), .ml (B.map DV.int)])[G.length]? = _
  rw [List.getElem?_append_right (Nat.le_refl _), Nat.sub_self]
  rfl
theorem g3 : (st3 t G W Q B)[G.length + 3]? = some (.ml (Q.map fr)) := by
  show (G ++ [MO.ml (W.map DV.int), .ml (Q.map fr), .ml (B.map DV.int)])[G.length + 1]? = _
  rw [List.getElem?_append_right (by omega), show G.length + 1 - G.length = 1 by omega]
  rfl
theorem g4 : (st3 t G W Q B)[G.length + 4]? = some (.ml (B.map DV.int)) := by
  show (G ++ [MO.ml (W.map DV.int), .ml (Q.map fr), .ml (B.map DV.int)])[G.length + 2]? = _
  rw [List.getElem?_append_right (by omega), show G.length + 2 - G.length = 2 by omega]
  rfl
theorem s2 {W' : List Int} : (st3 t G W Q B).set (G.length + 2) (.ml (W'.map DV.int)) = st3 t G W' Q B := by
  show _ :: _ :: (G ++ [MO.ml (W.map DV.int), .ml (Q.map fr), .ml (B.map DV.int)]).set G.length _ = _
  rw [List.set_append_right _ _ (Nat.le_refl _), Nat.sub_self]
  rfl
theorem s3 {Q' : List Rat} : (st3 t G W Q B).set (G.length + 3) (.ml (Q'.map fr)) = st3 t G W Q' B := by
  show _ :: _ :: (G ++ [MO.ml (W.map DV.int), .ml (Q.map fr), .ml (B.map DV.int)]).set (G.length + 1) _ = _
  rw [List.set_append_right _ _ (by omega), show G.length + 1 - G.length = 1 by omega]
  rfl
theorem s4 {B' : List Int} : (st3 t G W Q B).set (G.length + 4) (.ml (B'.map DV.int)) = st3 t G W Q B' := by
  show _ :: _ :: (G ++ [MO.ml (W.map DV.int), .ml (Q.map fr), .ml (B.map DV.int)]).set (G.length + 2) _ = _
  rw [List.set_append_right _ _ (by omega), show G.length + 2 - G.length = 2 by omega]
  rfl
theorem l2_ : lenD [.ptr (G.length + 2)] (st3 t G W Q B) = some (.int (W.length : Nat), st3 t G W Q B) := by
  have := lenD_rdR (S := st3 t G W Q B) (d := .ptr (G.length + 2)) (ds := W.map DV.int) (by simp only [rdL, g2])
  rwa [List.length_map] at this
theorem l3_ : lenD [.ptr (G.length + 3)] (st3 t G W Q B) = some (.int (Q.length : Nat), st3 t G W Q B) := by
  have := lenD_rdR (S := st3 t G W Q B) (d := .ptr (G.length + 3)) (ds := Q.map fr) (by simp only [rdL, g3])
  rwa [List.length_map] at this
theorem l4_ : lenD [.ptr (G.length + 4)] (st3 t G W Q B) = some (.int (B.length : Nat), st3 t G W Q B) := by
  have := lenD_rdR (S := st3 t G W Q B) (d := .ptr (G.length + 4)) (ds := B.map DV.int) (by simp only [rdL, g4])
  rwa [List.length_map] at this
theorem lenE {x : DV} {i : Nat} {n : Nat} {S : Sto} (h : s[i]? = some (some x)) (e : lenD [x] S = some (.int (n : Nat), S)) : dCB lenD (dCons (dVar i) dNil) s S = some (.int (n : Nat), S) := by
  simp only [dCB, dCons, dNil, dVar, h, bnd_some', e]
theorem drw (h0 : s[0]? = some (some (.ptr 1))) (hm : fe s (st3 t G W Q B) = some (.int m, st3 t G W Q B)) (h : t.ok N) (hN : N < 2 ^ 40) (m0 : 0 < m) (m1 : m ≤ 1000000) : ∃ r t', dCall 2 f_law_draw_z [] (dCons (dVar 0) (dCons fe dNil)) s (st3 t G W Q B) = some (.int r, st3 t' G W Q B) ∧ 0 ≤ r ∧ r < m ∧ t'.ok (N + 1) := by
  obtain ⟨r, t', e, a, b, k⟩ := draw_ok (G := G ++ [.ml (W.map DV.int), .ml (Q.map fr), .ml (B.map DV.int)]) (m := m) h (by omega) m0 (by omega)
  exact ⟨r, t', call2 (S1 := st3 t G W Q B) (S2 := st3 t G W Q B) (x := .ptr 1) (y := .int m) (by simp only [dVar, h0]) hm e, a, b, k⟩
theorem ixN_of {n : Nat} {r : Int} (a : 0 ≤ r) (b : r < (n : Int)) : L2.ixN n r = some r.toNat := by
  unfold L2.ixN
  rw [if_pos a, if_pos b]
theorem setW {r v : Int} (a : 0 ≤ r) (b : r < (W.length : Nat)) : setL (.ptr (G.length + 2)) (.int r) (.int v) (st3 t G W Q B) = some (st3 t G (W.set r.toNat v) Q B) := by
  unfold setL
  simp only [g2, List.length_map, ixN_of a b]
  rw [← List.map_set, s2]
theorem setQ {r : Int} {v : Rat} (a : 0 ≤ r) (b : r < (Q.length : Nat)) : setL (.ptr (G.length + 3)) (.int r) (fr v) (st3 t G W Q B) = some (st3 t G W (Q.set r.toNat v) B) := by
  unfold setL
  simp only [g3, List.length_map, ixN_of a b]
  rw [← List.map_set, s3]
theorem insQ {r : Int} {v : Rat} (a : 0 ≤ r) (b : r ≤ (Q.length : Nat)) (hl : Q.length ≤ 1000) : insertD (.ptr (G.length + 3)) [.int r, fr v] (st3 t G W Q B) = some (.non, st3 t G W (Q.take r.toNat ++ [v] ++ Q.drop r.toNat) B) := by
  unfold insertD
  simp only [ptrL, g3]
  have e : (Q.map fr).take r.toNat ++ [fr v] ++ (Q.map fr).drop r.toNat = (Q.take r.toNat ++ [v] ++ Q.drop r.toNat).map fr := by
    simp [List.map_take, List.map_drop]
  rw [gate_ok (by rw [List.length_map]; omega), e, s3]
theorem insB {r v : Int} (a : 0 ≤ r) (b : r ≤ (B.length : Nat)) (hl : B.length ≤ 1000) : insertD (.ptr (G.length + 4)) [.int r, .int v] (st3 t G W Q B) = some (.non, st3 t G W Q (B.take r.toNat ++ [v] ++ B.drop r.toNat)) := by
  unfold insertD
  simp only [ptrL, g4]
  have e : (B.map DV.int).take r.toNat ++ [DV.int v] ++ (B.map DV.int).drop r.toNat = (B.take r.toNat ++ [v] ++ B.drop r.toNat).map DV.int := by
    simp [List.map_take, List.map_drop]
  rw [gate_ok (by rw [List.length_map]; omega), e, s4]
theorem popQ {r : Int} (a : 0 ≤ r) (b : r < (Q.length : Nat)) (hl : Q.length ≤ 1000) : ∃ d, popAtD (.ptr (G.length + 3)) [.int r] (st3 t G W Q B) = some (d, st3 t G W (Q.eraseIdx r.toNat) B) := by
  have hr : r.toNat < Q.length := by omega
  have hg : (Q.map fr)[r.toNat]? = some (fr Q[r.toNat]) := by rw [List.getElem?_map, List.getElem?_eq_getElem hr]; rfl
  have he : (Q.map fr).eraseIdx r.toNat = (Q.eraseIdx r.toNat).map fr := by
    rw [List.eraseIdx_eq_take_drop_succ, List.eraseIdx_eq_take_drop_succ, List.map_append, List.map_take, List.map_drop]
  refine ⟨fr Q[r.toNat], ?_⟩
  unfold popAtD
  simp only [ptrL, g3, List.length_map, ixN_of a b, hg]
  rw [gate_ok (by omega), he, s3]
theorem clrW : clearD (.ptr (G.length + 2)) [] (st3 t G W Q B) = some (.non, st3 t G [] Q B) := by
  unfold clearD
  simp only [ptrL, g2]
  exact congrArg (fun z => some (DV.non, z)) (s2 (W' := []))
theorem asg_sub {S S1 S2 S3 : Sto} {v o : DV} {k : Int} (h : fe s S = some (v, S1)) (hf : f s S1 = some (o, S1)) (hg : g s S1 = some (.int k, S2)) (e : setL o (.int k) v S2 = some S3) : dAsg fe (dSub f g) s S = some (.nx s S3) := by
  simp only [dAsg, h, bnd_some', dSub, hf, hg, e]
theorem bm_of {S S2 S3 : Sto} {v o : DV} {G0 : DV → List DV → Sto → Option (DV × Sto)} {ds xs : List DV} {fa : DA} (hf : f s S = some (o, S)) (ho : rdL S o = some ds) (hg : fa s S = some (xs, S2)) (e : G0 o xs S2 = some (v, S3)) : dBM "list" G0 f fa s S = some (v, S3) := by
  simp only [dBM, hf, bnd_some', ho, Option.isSome_some, and_self, if_true, hg, e]

theorem eq_r {S1 : Sto} {S : Sto} {r j : Int} (h : fe s S = some (.int r, S1)) : dTest (dOp eqD fe (dC (.int j))) s S = some (decide (r = j), S1) := eq_ii h
abbrev sl (G : Sto) (o4 o5 : Option DV) : Sl := [some (.ptr 1), some (.ptr (G.length + 2)), some (.ptr (G.length + 3)), some (.ptr (G.length + 4)), o4, o5]
variable {o4 o5 : Option DV}
theorem mem_set9 {k : Nat} {v : Int} (h : ∀ n ∈ W, n ≤ 9) (hv : v ≤ 9) : ∀ n ∈ W.set k v, n ≤ 9 := fun n hn => by
  rcases List.mem_or_eq_of_mem_set hn with hn | rfl
  · exact h n hn
  · exact hv
theorem A1_ok (hW : 0 < W.length) (hl : W.length ≤ 1000) (hw : ∀ n ∈ W, n ≤ 9) (h : t.ok N) (hN : N < 2 ^ 39) : ∃ t' W', A1 (sl G o4 o5) (st3 t G W Q B) = some (.nx (sl G o4 o5) (st3 t' G W' Q B)) ∧ W'.length = W.length ∧ (∀ n ∈ W', n ≤ 9) ∧ t'.ok (N + 2) := by
  obtain ⟨r, t1, e, a, b, k⟩ := drw (G := G) (W := W) (Q := Q) (B := B) (s := sl G o4 o5) (fe := dC (.int 3)) (m := 3) rfl rfl h (by omega) (by decide) (by decide)
  obtain ⟨r2, t2, e2, a2, b2, k2⟩ := drw (G := G) (W := W) (Q := Q) (B := B) (s := sl G o4 o5) (m := (W.length : Nat)) rfl (lenE (i := 1) rfl l2_) k (by omega) (by omega) (by omega)
  refine ⟨t2, W.set r2.toNat (0 - r), asg_sub (S1 := st3 t1 G W Q B) (S2 := st3 t2 G W Q B) ?_ rfl e2 (setW a2 b2), by simp, mem_set9 hw (by omega), k2.mono (by omega)⟩
  simp only [dOp, dC, bnd_some', e, subD_int]
theorem A2_ok (hW : 0 < W.length) (hl : W.length ≤ 1000) (hw : ∀ n ∈ W, n ≤ 9) (h : t.ok N) (hN : N < 2 ^ 39) : ∃ t' W', A2 (sl G o4 o5) (st3 t G W Q B) = some (.nx (sl G o4 o5) (st3 t' G W' Q B)) ∧ W'.length = W.length ∧ (∀ n ∈ W', n ≤ 9) ∧ t'.ok (N + 2) := by
  obtain ⟨r, t1, e, a, b, k⟩ := drw (G := G) (W := W) (Q := Q) (B := B) (s := sl G o4 o5) (fe := dC (.int 3)) (m := 3) rfl rfl h (by omega) (by decide) (by decide)
  obtain ⟨r2, t2, e2, a2, b2, k2⟩ := drw (G := G) (W := W) (Q := Q) (B := B) (s := sl G o4 o5) (m := (W.length : Nat)) rfl (lenE (i := 1) rfl l2_) k (by omega) (by omega) (by omega)
  obtain ⟨d, hd, hd2⟩ := pick3 (a := .int 0) (b := .int 1) (c := .int (-1000000)) a b
  obtain ⟨v, rfl, hv⟩ : ∃ v : Int, d = .int v ∧ v ≤ 9 := by
    rcases hd2 with rfl | rfl | rfl
    · exact ⟨_, rfl, by decide⟩
    · exact ⟨_, rfl, by decide⟩
    · exact ⟨_, rfl, by decide⟩
  refine ⟨t2, W.set r2.toNat v, asg_sub (S1 := st3 t1 G W Q B) (S2 := st3 t2 G W Q B) (ix_of (S1 := st3 t G W Q B) (lst3 (S1 := st3 t G W Q B) (S2 := st3 t G W Q B) rfl rfl ?_) e hd) rfl e2 (setW a2 b2), by simp, mem_set9 hw hv, k2.mono (by omega)⟩
  have p6 : powD (.int 10) (.int 6) (st3 t G W Q B) = some (.int 1000000, st3 t G W Q B) := powD_int (by decide) (by decide) (by decide)
  simp only [dUn, dOp, dC, bnd_some', p6, negD_int]
theorem bA_ok (hW : 0 < W.length) (hl : W.length ≤ 1000) (hw : ∀ n ∈ W, n ≤ 9) (h : t.ok N) (hN : N < 2 ^ 38) : ∃ t' W', bA (sl G o4 o5) (st3 t G W Q B) = some (.nx (sl G o4 o5) (st3 t' G W' Q B)) ∧ W'.length = W.length ∧ (∀ n ∈ W', n ≤ 9) ∧ t'.ok (N + 5) := by
  obtain ⟨r, t1, e, a, b, k⟩ := drw (G := G) (W := W) (Q := Q) (B := B) (s := sl G o4 o5) (fe := dC (.int 4)) (m := 4) rfl rfl h (by omega) (by decide) (by decide)
  by_cases hr : r = 0
  · obtain ⟨t2, W2, e2, l2, w2, k2⟩ := A1_ok (G := G) (Q := Q) (B := B) (o4 := o4) (o5 := o5) hW hl hw k (by omega)
    obtain ⟨t3, W3, e3, l3, w3, k3⟩ := A2_ok (G := G) (Q := Q) (B := B) (o4 := o4) (o5 := o5) (by omega) (by omega) w2 k2 (by omega)
    exact ⟨t3, W3, if_t (S1 := st3 t1 G W Q B) (by rw [eq_r e, decide_eq_true hr]) (seq_nx e2 e3), by omega, w3, k3.mono (by omega)⟩
  · exact ⟨t1, W, if_f (S1 := st3 t1 G W Q B) (by rw [eq_r e, decide_eq_false hr]) rfl, rfl, hw, k.mono (by omega)⟩
theorem bB_ok (hw : ∀ n ∈ W, n ≤ 9) (h : t.ok N) (hN : N < 2 ^ 38) : ∃ t' W', bB_ (sl G o4 o5) (st3 t G W Q B) = some (.nx (sl G o4 o5) (st3 t' G W' Q B)) ∧ W'.length ≤ W.length ∧ (∀ n ∈ W', n ≤ 9) ∧ t'.ok (N + 1) := by
  obtain ⟨r, t1, e, a, b, k⟩ := drw (G := G) (W := W) (Q := Q) (B := B) (s := sl G o4 o5) (fe := dC (.int 12)) (m := 12) rfl rfl h (by omega) (by decide) (by decide)
  by_cases hr : r = 0
  · refine ⟨t1, [], if_t (S1 := st3 t1 G W Q B) (by rw [eq_r e, decide_eq_true hr]) (drop_of (d := .non) ?_), Nat.zero_le _, (fun n hn => by cases hn), k⟩
    have rd : rdL (st3 t1 G W Q B) (.ptr (G.length + 2)) = some (W.map DV.int) := by simp only [rdL, g2]
    simp only [dBM0, dVar, List.getElem?_cons_succ, List.getElem?_cons_zero, bnd_some', rd, Option.isSome_some, and_self, if_true, clrW]
  · exact ⟨t1, W, if_f (S1 := st3 t1 G W Q B) (by rw [eq_r e, decide_eq_false hr]) rfl, Nat.le_refl _, hw, k⟩
theorem C1_ok (hQ : 0 < Q.length) (hl : Q.length ≤ 1000) (hz : ∀ q ∈ Q, Sz 41 q) (h : t.ok N) (hN : N < 2 ^ 39) : ∃ t' Q', C1 (sl G o4 o5) (st3 t G W Q B) = some (.nx (sl G o4 o5) (st3 t' G W Q' B)) ∧ Q'.length = Q.length ∧ (∀ q ∈ Q', Sz 41 q) ∧ t'.ok (N + 3) := by
  obtain ⟨r, t1, e, a, b, k⟩ := drw (G := G) (W := W) (Q := Q) (B := B) (s := sl G o4 o5) (fe := dC (.int 99)) (m := 99) rfl rfl h (by omega) (by decide) (by decide)
  obtain ⟨r2, t2, e2, a2, b2, k2⟩ := drw (G := G) (W := W) (Q := Q) (B := B) (s := sl G o4 o5) (fe := dC (.int 60)) (m := 60) rfl rfl k (by omega) (by decide) (by decide)
  obtain ⟨r3, t3, e3, a3, b3, k3⟩ := drw (G := G) (W := W) (Q := Q) (B := B) (s := sl G o4 o5) (m := (Q.length : Nat)) rfl (lenE (i := 2) rfl l3_) k2 (by omega) (by omega) (by omega)
  obtain ⟨bn, hbn⟩ : ∃ bn : Nat, 1 + r2 = (bn : Int) := ⟨(1 + r2).toNat, by omega⟩
  have key := law_low_ok (a := -1 - r) (b := bn) (n := 41) (S := st3 t2 G W Q B) (by omega) (Nat.lt_of_lt_of_le (show bn < 2 ^ 6 by omega) (Nat.pow_le_pow_right (by decide) (by decide))) (by omega) (by decide)
  refine ⟨t3, Q.set r3.toNat (mkRat (-1 - r) bn), asg_sub (S1 := st3 t2 G W Q B) (S2 := st3 t3 G W Q B) (call2 (S1 := st3 t1 G W Q B) (S2 := st3 t2 G W Q B) (x := .int (-1 - r)) (y := .int (bn : Int)) ?_ ?_ key) rfl e3 (setQ a3 b3), by simp, fun q hq => ?_, k3.mono (by omega)⟩
  · simp only [dUn, dOp, dC, bnd_some', negD_int, e, subD_int]
  · simp only [dOp, dC, bnd_some', e2, addD_int, hbn]
  · rcases List.mem_or_eq_of_mem_set hq with hq | rfl
    · exact hz q hq
    · exact sz_mkRat (by omega) (by omega) (by omega)
theorem bC_ok (hQ : 0 < Q.length) (hl : Q.length ≤ 1000) (hz : ∀ q ∈ Q, Sz 41 q) (h : t.ok N) (hN : N < 2 ^ 38) : ∃ t' Q' o, bC (sl G o4 o5) (st3 t G W Q B) = some (.nx (sl G o o5) (st3 t' G W Q' B)) ∧ Q'.length = Q.length ∧ (∀ q ∈ Q', Sz 41 q) ∧ t'.ok (N + 8) := by
  obtain ⟨r, t1, e, a, b, k⟩ := drw (G := G) (W := W) (Q := Q) (B := B) (s := sl G o4 o5) (fe := dC (.int 3)) (m := 3) rfl rfl h (by omega) (by decide) (by decide)
  by_cases hr : r = 0
  · obtain ⟨r2, t2, e2, a2, b2, k2⟩ := drw (G := G) (W := W) (Q := Q) (B := B) (s := sl G o4 o5) (fe := dC (.int 2)) (m := 2) rfl rfl k (by omega) (by decide) (by decide)
    obtain ⟨s', S', e3, t3, Q3, o, rfl, rfl, l3, z3, k3⟩ := forL_inv (tgt := dName 4) (body := C1) (xs := (List.range (1 + r2).toNat).map fun i : Nat => DV.int (0 + (i : Int))) (s := sl G o4 o5) (S := st3 t2 G W Q B) (k := 0)
      (fun k s S => ∃ (t' : Tr) (Q' : List Rat) (o : Option DV), s = sl G o o5 ∧ S = st3 t' G W Q' B ∧ Q'.length = Q.length ∧ (∀ q ∈ Q', Sz 41 q) ∧ t'.ok (N + 2 + 3 * k)) ⟨t2, Q, o4, rfl, rfl, rfl, hz, by simpa using k2.mono (by omega)⟩ (by
        rintro i x s S hx ⟨t', Q', o, rfl, rfl, hl', hz', hk⟩
        have hi : i < (1 + r2).toNat := by simpa using (List.getElem?_eq_some_iff.mp hx).1
        obtain ⟨t4, Q4, e4, l4, z4, k4⟩ := C1_ok (G := G) (W := W) (B := B) (o4 := some x) (o5 := o5) (by omega) (by omega) hz' hk (by omega)
        exact ⟨sl G (some x) o5, st3 t' G W Q' B, sl G (some x) o5, _, rfl, .inl e4, t4, Q4, some x, rfl, rfl, by omega, z4, k4.mono (by omega)⟩)
    have hRg : RgS (1 + r2) := rgS_of (by omega) (by omega)
    refine ⟨t3, Q3, o, if_t (S1 := st3 t1 G W Q B) (by rw [eq_r e, decide_eq_true hr]) (for_of (it := .rg 0 (1 + r2).toNat) (S1 := st3 t2 G W Q B) ?_ rfl e3), l3, z3, k3.mono (by simp; omega)⟩
    simp only [diR1, dCons, dNil, dOp, dC, bnd_some', e2, addD_int]
    simp
    exact gate_ok ⟨by omega, by omega⟩
  · exact ⟨t1, Q, o4, if_f (S1 := st3 t1 G W Q B) (by rw [eq_r e, decide_eq_false hr]) rfl, rfl, hz, k.mono (by omega)⟩
theorem bD_ok (hQ : 0 < Q.length) (hl : Q.length ≤ 900) (hz : ∀ q ∈ Q, Sz 41 q) (h : t.ok N) (hN : N < 2 ^ 38) : ∃ t' Q', bD (sl G o4 o5) (st3 t G W Q B) = some (.nx (sl G o4 o5) (st3 t' G W Q' B)) ∧ Q'.length ≤ Q.length + 1 ∧ (∀ q ∈ Q', Sz 41 q) ∧ t'.ok (N + 4) := by
  obtain ⟨r, t1, e, a, b, k⟩ := drw (G := G) (W := W) (Q := Q) (B := B) (s := sl G o4 o5) (fe := dC (.int 5)) (m := 5) rfl rfl h (by omega) (by decide) (by decide)
  have rd : ∀ t : Tr, rdL (st3 t G W Q B) (.ptr (G.length + 3)) = some (Q.map fr) := fun t => by simp only [rdL, g3]
  by_cases hr : r = 0
  · have hm : dOp (addD false) (dCB lenD (dCons (dVar 2) dNil)) (dC (.int 1)) (sl G o4 o5) (st3 t1 G W Q B) = some (.int ((Q.length : Int) + 1), st3 t1 G W Q B) := by
      have := lenE (s := sl G o4 o5) (i := 2) rfl (l3_ (t := t1) (G := G) (W := W) (Q := Q) (B := B))
      simp only [dOp, this, bnd_some', dC, addD_int]
    obtain ⟨r2, t2, e2, a2, b2, k2⟩ := drw (G := G) (W := W) (Q := Q) (B := B) (s := sl G o4 o5) (m := (Q.length : Int) + 1) rfl hm k (by omega) (by omega) (by omega)
    obtain ⟨r3, t3, e3, a3, b3, k3⟩ := drw (G := G) (W := W) (Q := Q) (B := B) (s := sl G o4 o5) (fe := dC (.int 9)) (m := 9) rfl rfl k2 (by omega) (by decide) (by decide)
    obtain ⟨n3, rfl⟩ : ∃ n : Nat, r3 = (n : Int) := ⟨r3.toNat, by omega⟩
    have fq : DV.tup [.int (n3 : Int), .int 1] = fr ((n3 : Nat) : Rat) := by
      unfold fr
      simp
    have sz : Sz 41 ((n3 : Nat) : Rat) := by
      refine ⟨?_, ?_⟩
      · simp
        omega
      · simp
    refine ⟨t3, Q.take r2.toNat ++ [((n3 : Nat) : Rat)] ++ Q.drop r2.toNat, if_t (S1 := st3 t1 G W Q B) (by rw [eq_r e, decide_eq_true hr]) (drop_of (d := .non) (bm_of (o := .ptr (G.length + 3)) (xs := [.int r2, fr ((n3 : Nat) : Rat)]) (S2 := st3 t3 G W Q B) rfl (rd t1) (cons_of e2 (cons_of (S1 := st3 t3 G W Q B) (by rw [← fq]; exact tup2 e3 rfl) rfl)) (insQ a2 (by omega) (by omega)))), ?_, fun q hq => ?_, k3.mono (by omega)⟩
    · simp
      omega
    · rcases List.mem_append.mp hq with hq | hq
      · rcases List.mem_append.mp hq with hq | hq
        · exact hz q (List.mem_of_mem_take hq)
        · rw [List.mem_singleton.mp hq]
          exact sz
      · exact hz q (List.mem_of_mem_drop hq)
  · obtain ⟨r1, t2, e2, a2, b2, k2⟩ := drw (G := G) (W := W) (Q := Q) (B := B) (s := sl G o4 o5) (fe := dC (.int 5)) (m := 5) rfl rfl k (by omega) (by decide) (by decide)
    by_cases hr1 : r1 = 0
    · obtain ⟨r3, t3, e3, a3, b3, k3⟩ := drw (G := G) (W := W) (Q := Q) (B := B) (s := sl G o4 o5) (m := (Q.length : Nat)) rfl (lenE (i := 2) rfl l3_) k2 (by omega) (by omega) (by omega)
      obtain ⟨d, ed⟩ := popQ (t := t3) (G := G) (W := W) (Q := Q) (B := B) a3 b3 (by omega)
      refine ⟨t3, Q.eraseIdx r3.toNat, if_f (S1 := st3 t1 G W Q B) (by rw [eq_r e, decide_eq_false hr]) (if_t (S1 := st3 t2 G W Q B) (by rw [eq_r e2, decide_eq_true hr1]) (drop_of (d := d) (bm_of (o := .ptr (G.length + 3)) (xs := [.int r3]) (S2 := st3 t3 G W Q B) rfl (rd t2) (cons_of e3 rfl) ed))), ?_, fun q hq => hz q (List.mem_of_mem_eraseIdx hq), k3.mono (by omega)⟩
      have := List.length_eraseIdx_le Q r3.toNat
      omega
    · exact ⟨t2, Q, if_f (S1 := st3 t1 G W Q B) (by rw [eq_r e, decide_eq_false hr]) (if_f (S1 := st3 t2 G W Q B) (by rw [eq_r e2, decide_eq_false hr1]) rfl), by omega, hz, k2.mono (by omega)⟩
theorem E_ok (hl : B.length ≤ 900) (hw : W.length ≤ 1000) (h : t.ok N) (hN : N < 2 ^ 39) : ∃ t' B' o, (dSeq E1 E2) (sl G o4 o5) (st3 t G W Q B) = some (.nx (sl G o4 o) (st3 t' G W Q B')) ∧ B'.length = B.length + 1 ∧ t'.ok (N + 4) := by
  obtain ⟨r, t1, e, a, b, k⟩ := drw (G := G) (W := W) (Q := Q) (B := B) (s := sl G o4 o5) (fe := dC (.int 99)) (m := 99) rfl rfl h (by omega) (by decide) (by decide)
  obtain ⟨r2, t2, e2, a2, b2, k2⟩ := drw (G := G) (W := W) (Q := Q) (B := B) (s := sl G o4 o5) (fe := dC (.int 99)) (m := 99) rfl rfl k (by omega) (by decide) (by decide)
  have rd : ∀ t : Tr, rdL (st3 t G W Q B) (.ptr (G.length + 4)) = some (B.map DV.int) := fun t => by simp only [rdL, g4]
  obtain ⟨M, hM⟩ : ∃ M : List Int, M = B ++ [0, (W.length : Int), -1, (W.length : Int) + 1 + r, -1 - r2] := ⟨_, rfl⟩
  have ml : M.length = B.length + 5 := by rw [hM]; simp
  have lw : ∀ t : Tr, dCB lenD (dCons (dVar 1) dNil) (sl G o4 o5) (st3 t G W Q B) = some (.int (W.length : Nat), st3 t G W Q B) := fun t => lenE (i := 1) rfl l2_
  have e1 : E1 (sl G o4 o5) (st3 t G W Q B) = some (.nx (sl G o4 (some (.lst (M.map DV.int)))) (st3 t2 G W Q B)) := by
    refine asg_name (i := 5) (S1 := st3 t2 G W Q B) (d := .lst (M.map DV.int)) ?_
    have x4 : dOp (addD false) (dOp (addD false) (dCB lenD (dCons (dVar 1) dNil)) (dC (.int 1))) (dCall 2 f_law_draw_z [] (dCons (dVar 0) (dCons (dC (.int 99)) dNil))) (sl G o4 o5) (st3 t G W Q B) = some (.int ((W.length : Int) + 1 + r), st3 t1 G W Q B) := by
      rw [dOp, dOp, lw t]
      simp only [dC, bnd_some', addD_int] at e ⊢
      simp only [e, bnd_some', addD_int]
    have x5 : dOp subD (dUn negD (dC (.int 1))) (dCall 2 f_law_draw_z [] (dCons (dVar 0) (dCons (dC (.int 99)) dNil))) (sl G o4 o5) (st3 t1 G W Q B) = some (.int (-1 - r2), st3 t2 G W Q B) := by
      simp only [dOp, dUn, dC, bnd_some', negD_int, e2, subD_int]
    have five := lst_of (s := sl G o4 o5) (S := st3 t G W Q B) (S1 := st3 t2 G W Q B) (ds := [.int 0, .int (W.length : Nat), .int (-1), .int ((W.length : Int) + 1 + r), .int (-1 - r2)]) (cons_of (fe := dC (.int 0)) (S1 := st3 t G W Q B) rfl (cons_of (S1 := st3 t G W Q B) (lw t) (cons_of (fe := dUn negD (dC (.int 1))) (S1 := st3 t G W Q B) rfl (cons_of x4 (cons_of (S2 := st3 t2 G W Q B) (fa := dNil) x5 rfl))))) (by simp)
    have ad : addD false (.ptr (G.length + 4)) (.lst [.int 0, .int (W.length : Nat), .int (-1), .int ((W.length : Int) + 1 + r), .int (-1 - r2)]) (st3 t2 G W Q B) = some (.lst (M.map DV.int), st3 t2 G W Q B) := by
      have tr : trL (st3 t2 G W Q B) (.ptr (G.length + 4)) = some (B.map DV.int) := by simp only [trL, g4]
      simp only [addD, tr, trL_lst]
      rw [gate_ok (by simp; omega), newL_f, hM, List.map_append]
      rfl
    rw [dOp]
    simp only [dVar, List.getElem?_cons_succ, List.getElem?_cons_zero, bnd_some', five, ad]
  have hm : dOp (addD false) (dCB lenD (dCons (dVar 3) dNil)) (dC (.int 1)) (sl G o4 (some (.lst (M.map DV.int)))) (st3 t2 G W Q B) = some (.int ((B.length : Int) + 1), st3 t2 G W Q B) := by
    have := lenE (s := sl G o4 (some (.lst (M.map DV.int)))) (i := 3) rfl (l4_ (t := t2) (G := G) (W := W) (Q := Q) (B := B))
    simp only [dOp, this, bnd_some', dC, addD_int]
  obtain ⟨r3, t3, e3, a3, b3, k3⟩ := drw (G := G) (W := W) (Q := Q) (B := B) (s := sl G o4 (some (.lst (M.map DV.int)))) (m := (B.length : Int) + 1) rfl hm k2 (by omega) (by omega) (by omega)
  have lm : dCB lenD (dCons (dVar 5) dNil) (sl G o4 (some (.lst (M.map DV.int)))) (st3 t3 G W Q B) = some (.int (M.length : Nat), st3 t3 G W Q B) := by
    refine lenE (i := 5) rfl ?_
    have := lenD_rdR (S := st3 t3 G W Q B) (d := .lst (M.map DV.int)) (ds := M.map DV.int) rfl
    rwa [List.length_map] at this
  obtain ⟨r4, t4, e4, a4, b4, k4⟩ := drw (G := G) (W := W) (Q := Q) (B := B) (s := sl G o4 (some (.lst (M.map DV.int)))) (m := (M.length : Nat)) rfl lm k3 (by omega) (by omega) (by omega)
  have h4 : r4.toNat < M.length := by omega
  refine ⟨t4, B.take r3.toNat ++ [M[r4.toNat]] ++ B.drop r3.toNat, some (.lst (M.map DV.int)), seq_nx e1 (drop_of (d := .non) (bm_of (o := .ptr (G.length + 4)) (xs := [.int r3, .int M[r4.toNat]]) (S2 := st3 t4 G W Q B) rfl (rd t2) (cons_of e3 (cons_of (S1 := st3 t4 G W Q B) (ix_of (l := M.map DV.int) (S1 := st3 t3 G W Q B) rfl e4 ?_) rfl)) (insB a3 (by omega) (by omega)))), ?_, k4.mono (by omega)⟩
  · exact at_nat (n := r4.toNat) (by omega) (by rw [List.getElem?_map, List.getElem?_eq_getElem h4]; rfl)
  · simp
    omega
theorem bE_ok (hl : B.length ≤ 100) (hw : W.length ≤ 1000) (h : t.ok N) (hN : N < 2 ^ 38) : ∃ t' B' o o', bE (sl G o4 o5) (st3 t G W Q B) = some (.nx (sl G o o') (st3 t' G W Q B')) ∧ B'.length ≤ B.length + 2 ∧ t'.ok (N + 9) := by
  obtain ⟨r, t1, e, a, b, k⟩ := drw (G := G) (W := W) (Q := Q) (B := B) (s := sl G o4 o5) (fe := dC (.int 4)) (m := 4) rfl rfl h (by omega) (by decide) (by decide)
  obtain ⟨d, hd, hd2⟩ := pick4 (a := .int 0) (b := .int 0) (c := .int 1) (e := .int 2) a b
  obtain ⟨v, rfl, hv⟩ : ∃ v : Nat, d = .int (v : Int) ∧ v ≤ 2 := by
    rcases hd2 with rfl | rfl | rfl | rfl
    · exact ⟨0, rfl, by decide⟩
    · exact ⟨0, rfl, by decide⟩
    · exact ⟨1, rfl, by decide⟩
    · exact ⟨2, rfl, by decide⟩
  obtain ⟨s', S', e3, t3, B3, o, o', rfl, rfl, l3, k3⟩ := forL_inv (tgt := dName 4) (body := dSeq E1 E2) (xs := (List.range v).map fun i : Nat => DV.int (0 + (i : Int))) (s := sl G o4 o5) (S := st3 t1 G W Q B) (k := 0)
    (fun k s S => ∃ (t' : Tr) (B' : List Int) (o o' : Option DV), s = sl G o o' ∧ S = st3 t' G W Q B' ∧ B'.length = B.length + k ∧ t'.ok (N + 1 + 4 * k)) ⟨t1, B, o4, o5, rfl, rfl, rfl, by simpa using k⟩ (by
      rintro i x s S hx ⟨t', B', o, o', rfl, rfl, hl', hk⟩
      have hi : i < v := by simpa using (List.getElem?_eq_some_iff.mp hx).1
      obtain ⟨t4, B4, o2, e4, l4, k4⟩ := E_ok (G := G) (W := W) (Q := Q) (o4 := some x) (o5 := o') (B := B') (by omega) hw hk (by omega)
      exact ⟨sl G (some x) o', st3 t' G W Q B', sl G (some x) o2, _, rfl, .inl e4, t4, B4, some x, o2, rfl, rfl, by omega, k4.mono (by omega)⟩)
  have n4 : ∀ S : Sto, dLst false (dCons (dC (.int 0)) (dCons (dC (.int 0)) (dCons (dC (.int 1)) (dCons (dC (.int 2)) dNil)))) (sl G o4 o5) S = some (.lst [.int 0, .int 0, .int 1, .int 2], S) := fun S => lst_of (cons_of rfl (cons_of rfl (cons_of rfl (cons_of rfl rfl)))) (by simp)
  have ix := ix_of (n4 (st3 t G W Q B)) e hd
  have hRg : RgS (v : Int) := rgS_of (by omega) (by omega)
  refine ⟨t3, B3, o, o', for_of (it := .rg 0 v) (S1 := st3 t1 G W Q B) ?_ rfl e3, by simp at l3; omega, k3.mono (by simp; omega)⟩
  simp only [diR1, dCons, dNil, bnd_some', ix]
  simp
  exact gate_ok (by omega)
theorem bent_ok (hW : 0 < W.length) (hl : W.length ≤ 8) (hw : ∀ n ∈ W, n ≤ 9) (hQ : Q.length = W.length) (hz : ∀ q ∈ Q, Sz 41 q) (hB : B.length ≤ 8) (h : t.ok N) (hN : N < 2 ^ 37) : ∃ t' W' Q' B', f_law_bent_z [.ptr 1, .ptr (G.length + 2), .ptr (G.length + 3), .ptr (G.length + 4)] (st3 t G W Q B) = some (.non, st3 t' G W' Q' B') ∧ W'.length ≤ 8 ∧ (∀ n ∈ W', n ≤ 9) ∧ Q'.length ≤ 9 ∧ (∀ q ∈ Q', Sz 41 q) ∧ B'.length ≤ 10 ∧ t'.ok (N + 30) := by
  obtain ⟨t1, W1, e1, l1, w1, k1⟩ := bA_ok (G := G) (Q := Q) (B := B) (o4 := none) (o5 := none) hW (by omega) hw h (by omega)
  obtain ⟨t2, W2, e2, l2, w2, k2⟩ := bB_ok (G := G) (W := W1) (Q := Q) (B := B) (o4 := none) (o5 := none) w1 k1 (by omega)
  obtain ⟨t3, Q3, o, e3, l3, z3, k3⟩ := bC_ok (G := G) (W := W2) (Q := Q) (B := B) (o4 := none) (o5 := none) (by omega) (by omega) hz k2 (by omega)
  obtain ⟨t4, Q4, e4, l4, z4, k4⟩ := bD_ok (G := G) (W := W2) (Q := Q3) (B := B) (o4 := o) (o5 := none) (by omega) (by omega) z3 k3 (by omega)
  obtain ⟨t5, B5, o5, o6, e5, l5, k5⟩ := bE_ok (G := G) (W := W2) (Q := Q4) (B := B) (o4 := o) (o5 := none) (by omega) (by omega) k4 (by omega)
  refine ⟨t5, W2, Q4, B5, fn_nx (s := sl G o5 o6) (S1 := st3 t5 G W2 Q4 B5) ?_ (exF_len (by simp)), by omega, w2, by omega, z4, by omega, k5.mono (by omega)⟩
  rw [bent_eq]
  exact seq_nx e1 (seq_nx e2 (seq_nx e3 (seq_nx e4 e5)))
end
end K02
end
section
namespace K02
open PySem PyProof.Rows PySem.Spec L2 DL FW FW.R
noncomputable def doorB : DS := (dSeq (dAsg (dCall 4 f_law_due_z [] (dCons (dVar 8) (dCons (dVar 4) (dCons (dVar 5) (dCons (dVar 6) dNil))))) (dName 9))
    (dIfS (dNot (dTest (dCall 2 (f_law_alike_z 6) [] (dCons (dCall 4 f_law_caught_z [] (dCons (dVar 8) (dCons (dVar 4) (dCons (dVar 5) (dCons (dVar 6) dNil))))) (dCons (dVar 9) dNil)))))
    (dRet (dC (.bl false))) dNext))
noncomputable def turnB : DS := (dSeq (dAsg (dCall 2 f_law_wides_k [] (dCons (dVar 1) (dCons (dC (.int 8)) dNil))) (dName 4))
    (dSeq (dAsg (dCall 3 f_law_amounts_k [] (dCons (dVar 1) (dCons (dVar 4) (dCons (dCall 1 f_law_bottom_z [] (dCons (dVar 1) dNil)) dNil)))) (dName 5))
    (dSeq (dAsg (dCall 2 f_law_bolts_k [] (dCons (dVar 1) (dCons (dCB lenD (dCons (dVar 4) dNil)) dNil))) (dName 6))
    (dSeq (dDrop (dCall 4 f_law_bent_z [] (dCons (dVar 1) (dCons (dVar 4) (dCons (dVar 5) (dCons (dVar 6) dNil))))))
    (dSeq (dAsg (dTup (dCons (dCB (listD false) (dCons (dVar 4) dNil)) (dCons (dCB (listD false) (dCons (dVar 5) dNil)) (dCons (dCB (listD false) (dCons (dVar 6) dNil)) dNil)))) (dName 7))
    (dSeq (dFor (diR1 (dCons (dC (.int 4)) dNil)) (dName 8)
    doorB)
    (dIfS (dTest (dOp neD (dVar 7) (dTup (dCons (dVar 4) (dCons (dVar 5) (dCons (dVar 6) dNil))))))
    (dRet (dC (.bl false))) dNext)))))))
noncomputable def kB : DS := dFor (diR1 (dCons (dC (.int 6)) dNil)) (dName 3) turnB
theorem exF_blM {S : Sto} {b : Bool} : exF (some false) [] (.bl b) S = some (.bl b, []) := by
  unfold exF exF1
  simp only
  split
  · rename_i h
    have : S = [] := by simpa using h
    rw [this]
  · rename_i h
    have hp : 0 < S.length := by simp at h; exact List.length_pos_iff.mpr h
    rw [if_pos ⟨by simpa using hp, fun n hn => absurd hn (Nat.not_lt_zero _)⟩]
    rfl
theorem ne_selfM {x y : DV} {p : PyData} {n : Nat} {S : Sto} (h : pyS S x = some p) (g : pyS S y = some p) (hs : ShN n p) (hn : n ≤ 64) : neD x y S = some (.bl false, S) := by
  rw [neD_of h g hs hs hn, PySem.SeqAt.eqv_refl p hs.1]
  rfl
theorem tup3 {S S1 S2 S3 : Sto} {s : Sl} {fe fg fh : DE} {d e f : DV} (h : fe s S = some (d, S1)) (h2 : fg s S1 = some (e, S2)) (h3 : fh s S2 = some (f, S3)) : dTup (dCons fe (dCons fg (dCons fh dNil))) s S = some (.tup [d, e, f], S3) := by
  have g : ∀ (x y z : DV) (S : Sto), gate (0 + 1 + 1 + 1 ≤ 100000) (some (DV.tup [x, y, z], S)) = some (DV.tup [x, y, z], S) := fun x y z S => gate_ok (by decide)
  simp only [dTup, dCons, dNil, h, h2, h3, bnd_some', List.length_cons, List.length_nil, g]
section
variable {t : Tr} {G : Sto} {W B : List Int} {Q : List Rat} {N : Int} {d0 k0 k1 : DV} {o4 o5 o6 o7 o8 o9 : Option DV}
abbrev sl0 (d0 k0 k1 : DV) (G : Sto) (o7 o8 o9 : Option DV) : Sl := [some d0, some (.ptr 1), some k0, some k1, some (.ptr (G.length + 2)), some (.ptr (G.length + 3)), some (.ptr (G.length + 4)), o7, o8, o9]
theorem in_of (hw : W.length ≤ 8) (h9 : ∀ n ∈ W, n ≤ 9) (hq : Q.length ≤ 9) (hz : ∀ q ∈ Q, Sz 41 q) (hb : B.length ≤ 10) : In (st3 t G W Q B) (G.length + 2) (G.length + 3) (G.length + 4) W Q B :=
  ⟨g2, g3, g4, by omega, by omega, by omega, h9, hz⟩
theorem doorB_ok (h : In (st3 t G W Q B) (G.length + 2) (G.length + 3) (G.length + 4) W Q B) {d : Int} (hd : 0 ≤ d ∧ d < 4) : ∃ v, doorB (sl0 d0 k0 k1 G o7 (some (.int d)) o9) (st3 t G W Q B) = some (.nx (sl0 d0 k0 k1 G o7 (some (.int d)) (some v)) (st3 t G W Q B)) := by
  obtain ⟨v, e1, e2, ho⟩ := door_ok h hd
  have al := alike_out (S := st3 t G W Q B) ho
  refine ⟨v, seq_nx (asg_name (i := 9) (d := v) (S1 := st3 t G W Q B) (call4 (S1 := st3 t G W Q B) (S2 := st3 t G W Q B) (S3 := st3 t G W Q B) (S4 := st3 t G W Q B) rfl rfl rfl rfl e2)) (if_f (S1 := st3 t G W Q B) ?_ rfl)⟩
  have c := call4 (s := sl0 d0 k0 k1 G o7 (some (.int d)) (some v)) (S := st3 t G W Q B) (S1 := st3 t G W Q B) (S2 := st3 t G W Q B) (S3 := st3 t G W Q B) (S4 := st3 t G W Q B) (fe := dVar 8) (fg := dVar 4) (fh := dVar 5) (fk := dVar 6) rfl rfl rfl rfl e1
  have c2 := call2 (s := sl0 d0 k0 k1 G o7 (some (.int d)) (some v)) (S := st3 t G W Q B) (S2 := st3 t G W Q B) (fg := dVar 9) c rfl al
  show dNot (dTest _) (sl0 d0 k0 k1 G o7 (some (.int d)) (some v)) (st3 t G W Q B) = _
  rw [dNot, dTest, c2]
  rfl
theorem kept_same : neD (.tup [dI W, dF Q, dI B]) (.tup [.ptr (G.length + 2), .ptr (G.length + 3), .ptr (G.length + 4)]) (st3 t G W Q B) = some (.bl false, st3 t G W Q B) := by
  have h1 := py_dI (S := st3 t G W Q B) W
  have h2 := py_dF (S := st3 t G W Q B) Q
  have h3 := py_dI (S := st3 t G W Q B) B
  have p1 : pyS (st3 t G W Q B) (.ptr (G.length + 2)) = some (.list (W.map PyData.int)) := by
    unfold pyS
    simp only [py, g2, pys_map (f := DV.int) (g := PyData.int) (fun _ => rfl), Option.map_some]
  have p2 : pyS (st3 t G W Q B) (.ptr (G.length + 3)) = some (.list (Q.map pfr)) := by
    unfold pyS
    simp only [py, g3, pys_map (f := fr) (g := pfr) py_fr, Option.map_some]
  have p3 : pyS (st3 t G W Q B) (.ptr (G.length + 4)) = some (.list (B.map PyData.int)) := by
    unfold pyS
    simp only [py, g4, pys_map (f := DV.int) (g := PyData.int) (fun _ => rfl), Option.map_some]
  have e1 : pyS (st3 t G W Q B) (.tup [dI W, dF Q, dI B]) = some (.tuple [.list (W.map PyData.int), .list (Q.map pfr), .list (B.map PyData.int)]) := by
    unfold pyS at h1 h2 h3 ⊢
    simp only [py, pys, h1, h2, h3, Option.map_some]
  have e2 : pyS (st3 t G W Q B) (.tup [.ptr (G.length + 2), .ptr (G.length + 3), .ptr (G.length + 4)]) = some (.tuple [.list (W.map PyData.int), .list (Q.map pfr), .list (B.map PyData.int)]) := by
    unfold pyS at p1 p2 p3 ⊢
    rw [py, pys, p1, pys, p2, pys, p3]
    rfl
  refine ne_selfM e1 e2 (n := 3) (shN_tuple (n := 2) fun p hp => ?_) (by decide)
  rcases List.mem_cons.mp hp with rfl | hp
  · exact sh_mono (sh_dI W) (by decide)
  rcases List.mem_cons.mp hp with rfl | hp
  · exact sh_dF Q
  · rw [List.mem_singleton.mp hp]
    exact sh_mono (sh_dI B) (by decide)
theorem turn_ok (h : t.ok N) (hN : N < 2 ^ 29) : ∃ (t' : Tr) (G' : Sto) (o4' o5' o6' o7' o8' o9' : Option DV), turnB [some d0, some (.ptr 1), some k0, some k1, o4, o5, o6, o7, o8, o9] (t.st G) = some (.nx [some d0, some (.ptr 1), some k0, some k1, o4', o5', o6', o7', o8', o9'] (t'.st G')) ∧ t'.ok (N + 110) := by
  obtain ⟨W, t1, e1, w0, wl, w9, k1'⟩ := law_wides_kk (G := G) (m := 8) h (by omega) (by decide) (by decide)
  obtain ⟨b, t2, e2, b0, b1, k2⟩ := law_bottom_ok (G := G ++ [.ml (W.map DV.int)]) k1' (by omega)
  have rdw : ∀ t : Tr, rdL (t.st (G ++ [.ml (W.map DV.int)])) (.ptr (G.length + 2)) = some (W.map DV.int) := fun t => tr_rd
  obtain ⟨Q, t3, e3, ql, qz, k3⟩ := law_amounts_kk (G := G ++ [.ml (W.map DV.int)]) (p := G.length + 2) (ws := W) (b := b) rdw k2 (by omega) w9 (by omega) ⟨b0, b1⟩
  have wp : 0 < W.length := List.length_pos_iff.mpr w0
  obtain ⟨B, t4, e4, bb, bn, bl, k4⟩ := law_bolts_kk (G := (G ++ [.ml (W.map DV.int)]) ++ [.ml (Q.map fr)]) (n := W.length) k3 (by omega) (by omega) (by omega)
  have hs : t4.st (((G ++ [.ml (W.map DV.int)]) ++ [.ml (Q.map fr)]) ++ [.ml (B.map DV.int)]) = st3 t4 G W Q B := by
    show t4.st _ = t4.st _
    rw [List.append_assoc, List.append_assoc]
    rfl
  have p3 : (G ++ [MO.ml (W.map DV.int)]).length + 2 = G.length + 3 := by simp
  have p4 : ((G ++ [MO.ml (W.map DV.int)]) ++ [MO.ml (Q.map fr)]).length + 2 = G.length + 4 := by simp
  rw [p3] at e3
  rw [hs, p4] at e4
  obtain ⟨t5, W', Q', B', e5, w1, w2, q1, q2, b2, k5⟩ := bent_ok (t := t4) (G := G) (W := W) (Q := Q) (B := B) wp (by omega) (fun n hn => (w9 n hn).2) ql (fun q hq => (qz q hq).2) (by omega) k4 (by omega)
  have I := in_of (t := t5) (G := G) w1 w2 q1 q2 b2
  obtain ⟨s6, S6, e6, o8', o9', rfl, rfl⟩ := forL_inv (tgt := dName 8) (body := doorB) (xs := (List.range 4).map fun i : Nat => DV.int (0 + (i : Int))) (s := sl0 d0 k0 k1 G (some (.tup [dI W', dF Q', dI B'])) o8 o9) (S := st3 t5 G W' Q' B') (k := 0)
    (fun k s S => ∃ o8' o9', s = sl0 d0 k0 k1 G (some (.tup [dI W', dF Q', dI B'])) o8' o9' ∧ S = st3 t5 G W' Q' B') ⟨o8, o9, rfl, rfl⟩ (by
      rintro i x s S hx ⟨o8', o9', rfl, rfl⟩
      obtain ⟨n, hn, rfl⟩ := map_at hx
      have hn' : n < 4 := by
        have := List.mem_of_getElem? hn
        exact List.mem_range.mp this
      obtain ⟨v, e⟩ := doorB_ok (d0 := d0) (k0 := k0) (k1 := k1) (o7 := some (.tup [dI W', dF Q', dI B'])) (o9 := o9') I (d := 0 + (n : Int)) ⟨by omega, by omega⟩
      exact ⟨_, _, _, _, rfl, .inl e, _, _, rfl, rfl⟩)
  refine ⟨t5, G ++ [.ml (W'.map DV.int), .ml (Q'.map fr), .ml (B'.map DV.int)], some (.ptr (G.length + 2)), some (.ptr (G.length + 3)), some (.ptr (G.length + 4)), some (.tup [dI W', dF Q', dI B']), o8', o9', ?_, k5.mono (by omega)⟩
  refine seq_nx (asg_name (i := 4) (call2 (S1 := t.st G) (S2 := t.st G) (x := .ptr 1) (y := .int 8) rfl rfl e1)) ?_
  refine seq_nx (asg_name (i := 5) (d := .ptr (G.length + 3)) (S1 := t3.st ((G ++ [.ml (W.map DV.int)]) ++ [.ml (Q.map fr)])) (call3 (S1 := t1.st (G ++ [.ml (W.map DV.int)])) (S2 := t1.st (G ++ [.ml (W.map DV.int)])) (S3 := t2.st (G ++ [.ml (W.map DV.int)])) (x := .ptr 1) (y := .ptr (G.length + 2)) (z := .int b) rfl rfl (by simp [e2]) e3)) ?_
  have lw : lenD [.ptr (G.length + 2)] (t3.st ((G ++ [.ml (W.map DV.int)]) ++ [.ml (Q.map fr)])) = some (.int (W.length : Nat), t3.st ((G ++ [.ml (W.map DV.int)]) ++ [.ml (Q.map fr)])) := by
    have rd : rdL (t3.st (G ++ [MO.ml (W.map DV.int)]) ++ [MO.ml (Q.map fr)]) (.ptr (G.length + 2)) = some (W.map DV.int) := FW.rdL_app (rdw t3)
    have z := lenD_rdR rd
    rw [List.length_map] at z
    exact z
  refine seq_nx (asg_name (i := 6) (d := .ptr (G.length + 4)) (S1 := st3 t4 G W Q B) (call2 (S1 := t3.st ((G ++ [.ml (W.map DV.int)]) ++ [.ml (Q.map fr)])) (S2 := t3.st ((G ++ [.ml (W.map DV.int)]) ++ [.ml (Q.map fr)])) (x := .ptr 1) (y := .int (W.length : Nat)) rfl (lenE (i := 4) rfl lw) e4)) ?_
  refine seq_nx (drop_of (d := .non) (S1 := st3 t5 G W' Q' B') (call4 (S1 := st3 t4 G W Q B) (S2 := st3 t4 G W Q B) (S3 := st3 t4 G W Q B) (S4 := st3 t4 G W Q B) (x := .ptr 1) (y := .ptr (G.length + 2)) (z := .ptr (G.length + 3)) (u := .ptr (G.length + 4)) rfl rfl rfl rfl e5)) ?_
  have r2 : rdL (st3 t5 G W' Q' B') (.ptr (G.length + 2)) = some (W'.map DV.int) := I.rw
  have r3 : rdL (st3 t5 G W' Q' B') (.ptr (G.length + 3)) = some (Q'.map fr) := I.rq
  have r4 : rdL (st3 t5 G W' Q' B') (.ptr (G.length + 4)) = some (B'.map DV.int) := I.rb
  refine seq_nx (asg_name (i := 7) (d := .tup [dI W', dF Q', dI B']) (S1 := st3 t5 G W' Q' B') ?_) ?_
  · have li : ∀ {i n : Nat} {ds : List DV} {s : Sl}, s[i]? = some (some (.ptr n)) → rdL (st3 t5 G W' Q' B') (.ptr n) = some ds → ds.length ≤ 1000 → dCB (listD false) (dCons (dVar i) dNil) s (st3 t5 G W' Q' B') = some (.lst ds, st3 t5 G W' Q' B') := fun {i n ds s} h hr hn => by
      have g : gate (ds.length ≤ 100000) (some (DV.lst ds, st3 t5 G W' Q' B')) = some (DV.lst ds, st3 t5 G W' Q' B') := gate_ok (by omega)
      simp only [dCB, dCons, dNil, dVar, h, bnd_some', listD, hr, Option.some_or, newL_f, g]
    exact tup3 (li rfl r2 (by simp; omega)) (li rfl r3 (by simp; omega)) (li rfl r4 (by simp; omega))
  refine seq_nx (for_of (it := .rg 0 4) (S1 := st3 t5 G W' Q' B') ?_ rfl e6) ?_
  · simp [diR1, rgS_of (show (0 : Int) ≤ 4 by decide) (by decide)]
  refine if_f (S1 := st3 t5 G W' Q' B') ?_ rfl
  have tp := tup3 (s := sl0 d0 k0 k1 G (some (.tup [dI W', dF Q', dI B'])) o8' o9') (S := st3 t5 G W' Q' B') (S1 := st3 t5 G W' Q' B') (S2 := st3 t5 G W' Q' B') (S3 := st3 t5 G W' Q' B') (fe := dVar 4) (fg := dVar 5) (fh := dVar 6) rfl rfl rfl
  have kp := kept_same (t := t5) (G := G) (W := W') (Q := Q') (B := B')
  show dTest (dOp neD (dVar 7) _) (sl0 d0 k0 k1 G (some (.tup [dI W', dF Q', dI B'])) o8' o9') (st3 t5 G W' Q' B') = _
  simp only [dTest, dOp, tp, bnd_some']
  simp only [dVar, List.getElem?_cons_succ, List.getElem?_cons_zero, bnd_some', tp, kp]
theorem kB_ok (h : t.ok N) (hN : N < 2 ^ 28) {o3 : Option DV} : ∃ (t' : Tr) (G' : Sto) (o3' o4' o5' o6' o7' o8' o9' : Option DV), kB [some d0, some (.ptr 1), some k0, o3, o4, o5, o6, o7, o8, o9] (t.st G) = some (.nx [some d0, some (.ptr 1), some k0, o3', o4', o5', o6', o7', o8', o9'] (t'.st G')) ∧ t'.ok (N + 660) := by
  obtain ⟨s', S', e, t', G', o3', o4', o5', o6', o7', o8', o9', rfl, rfl, k⟩ := forL_inv (tgt := dName 3) (body := turnB) (xs := (List.range 6).map fun i : Nat => DV.int (0 + (i : Int))) (s := [some d0, some (.ptr 1), some k0, o3, o4, o5, o6, o7, o8, o9]) (S := t.st G) (k := 0)
    (fun k s S => ∃ (t' : Tr) (G' : Sto) (o3' o4' o5' o6' o7' o8' o9' : Option DV), s = [some d0, some (.ptr 1), some k0, o3', o4', o5', o6', o7', o8', o9'] ∧ S = t'.st G' ∧ t'.ok (N + 110 * k)) ⟨t, G, o3, o4, o5, o6, o7, o8, o9, rfl, rfl, by simpa using h⟩ (by
      rintro i x s S hx ⟨t', G', o3', o4', o5', o6', o7', o8', o9', rfl, rfl, hk⟩
      have hi : i < 6 := by simpa using (List.getElem?_eq_some_iff.mp hx).1
      obtain ⟨t2, G2, p4, p5, p6, p7, p8, p9, e, k⟩ := turn_ok (G := G') (d0 := d0) (k0 := k0) (k1 := x) (o4 := o4') (o5 := o5') (o6 := o6') (o7 := o7') (o8 := o8') (o9 := o9') hk (by omega)
      exact ⟨_, _, _, _, rfl, .inl e, t2, G2, some x, p4, p5, p6, p7, p8, p9, rfl, rfl, k.mono (by omega)⟩)
  refine ⟨t', G', o3', o4', o5', o6', o7', o8', o9', for_of (it := .rg 0 6) (S1 := t.st G) ?_ rfl e, k.mono (by rw [List.length_map, List.length_range]; omega)⟩
  simp [diR1, rgS_of (show (0 : Int) ≤ 6 by decide) (by decide)]
end
theorem law_true : ∀ ns : List Int, ns.length ≤ 63 → ∃ S', f_law_z [.rls (ns.map DL.DV.int)] [] = some (.bl true, S') := by
  intro ns hns
  obtain ⟨t0, e0, k0⟩ := law_tray_ok hns
  obtain ⟨n, hn, hn2⟩ : ∃ n : Nat, 3 + (if (ns.length : Int) < 8 then (ns.length : Int) else 8) = (n : Int) ∧ n ≤ 11 := ⟨(3 + (if (ns.length : Int) < 8 then (ns.length : Int) else 8)).toNat, by split <;> omega, by split <;> omega⟩
  obtain ⟨s', S', e, _⟩ := forL_inv (tgt := dName 2) (body := kB) (fun k s S => ∃ o2 o3 o4 o5 o6 o7 o8 o9 G t, s = [some (.rls (ns.map DV.int)), some (.ptr 1), o2, o3, o4, o5, o6, o7, o8, o9] ∧ S = Tr.st t G ∧ t.ok (660 * k))
    (xs := (List.range n).map fun i => DV.int (0 + (i : Nat))) (s := [some (.rls (ns.map DV.int)), some (.ptr 1), none, none, none, none, none, none, none, none]) (S := t0.st []) (k := 0)
    ⟨_, _, _, _, _, _, _, _, _, _, rfl, rfl, k0⟩ (by
      rintro i x s S hx ⟨o2, o3, o4, o5, o6, o7, o8, o9, G, t, rfl, rfl, hk⟩
      have hi : i < n := by simpa using (List.getElem?_eq_some_iff.mp hx).1
      obtain ⟨t', G', o3', o4', o5', o6', o7', o8', o9', e, k⟩ := kB_ok (d0 := .rls (ns.map DV.int)) (k0 := x) (G := G) (o3 := o3) (o4 := o4) (o5 := o5) (o6 := o6) (o7 := o7) (o8 := o8) (o9 := o9) hk (by omega)
      exact ⟨_, _, _, _, rfl, .inl e, _, _, _, _, _, _, _, _, _, _, rfl, rfl, k.mono (by omega)⟩)
  have hr : RgS (n : Int) := rgS_of (by omega) (by omega)
  have er := errors_ok (S := t0.st [])
  refine ⟨[], fn_rt (d := .bl true) (S1 := S') ?_ exF_blM⟩
  refine seq_nx (asg_name (d := .ptr 1) (S1 := t0.st []) (by simp [e0])) ?_
  refine seq_nx (if_f (S1 := t0.st []) (by simp [er]) rfl) ?_
  refine seq_nx (for_of (it := .rg 0 n) (S1 := t0.st []) ?_ rfl e) (ret_of rfl)
  simp [hn, hr]
end K02
end
section
open DL FW
open PySem PySem.W PyProof.Rows
set_option maxHeartbeats 0 in
set_option maxRecDepth 100000 in
theorem PySem.Challenge.cw_flapwater_k02_rows_refused_holds : PySem.Challenge.rw_flapwater_k02_rows_refused.Holds := by
  w_on; o_law; k_head; (case hw => w_witness2)
  k_fill
  refine L2.walk_of (l := PySem.Challenge.rw_flapwater_k02_rows_refused) (n := 63) (k := 10) (x := "script") (CX := fun _ => L2.CX0) (sp := fun w => DL.spLaw _) rfl (by decide) rfl ⟨rfl, by decide, by decide⟩ (fun w h Y => PySem.W.kIn_of Y) ?F (fun _ _ a ns hl _ hS => ⟨a, ns, rfl, hS, hl, fun _ => rfl⟩) (fun _ _ _ _ _ h => h)
  case F =>
    intro w mg fa h KX G hmg
    refine' K02.all_mk KX G hmg ?a0 ?l0 ?c0 ?k0 ?a1 ?l1 ?c1 ?k1 ?a2 ?l2 ?c2 ?k2 ?a3 ?l3 ?c3 ?k3 ?a4 ?l4 ?c4 ?k4 ?a5 ?l5 ?c5 ?k5 ?a6 ?l6 ?c6 ?k6 ?a7 ?l7 ?c7 ?k7 ?a8 ?l8 ?c8 ?k8 ?a9 ?l9 ?c9 ?k9 ?a10 ?l10 ?c10 ?k10 ?a11 ?l11 ?c11 ?k11 ?a12 ?l12 ?c12 ?k12 ?a13 ?l13 ?c13 ?k13 ?a14 ?l14 ?c14 ?k14 ?a15 ?l15 ?c15 ?k15 ?t15 ?u15 ?w15 ?x15 ?a16 ?l16 ?c16 ?k16 ?a17 ?l17 ?c17 ?k17 ?a18 ?l18 ?c18 ?k18 ?a19 ?l19 ?c19 ?k19 ?a20 ?l20 ?c20 ?k20 ?a21 ?l21 ?c21 ?k21 ?a22 ?l22 ?c22 ?k22 ?a23 ?l23 ?c23 ?k23 ?a24 ?l24 ?c24 ?k24 ?a25 ?l25 ?c25 ?k25 ?a26 ?l26 ?c26 ?k26 ?a27 ?l27 ?c27 ?k27 ?a28 ?l28 ?c28 ?k28 ?a29 ?l29 ?c29 ?k29 ?a30 ?l30 ?c30 ?k30 ?z0_bounds ?eS ?eO ?eZ ?eQ ?e2 ?e3 ?e5 ?e6 ?e8 ?eANoFloors ?eLNoFloors ?eBNoFloors ?eGNoFloors ?eHNoFloors ?eWNoFloors ?eINoFloors ?eTNoFloors ?eKNoFloors ?eXNoFloors ?eVNoFloors ?eMNoFloors ?eYNoFloors ?eDNoFloors ?eUNoFloors ?eFNoFloors ?eCNoFloors ?eENoFloors ?eNNoFloors ?ePNoFloors ?eRNoFloors ?e1NoFloors ?e4NoFloors ?e7NoFloors ?eANoWater ?eLNoWater ?eBNoWater ?eGNoWater ?eHNoWater ?eWNoWater ?eINoWater ?eTNoWater ?eKNoWater ?eXNoWater ?eVNoWater ?eMNoWater ?eYNoWater ?eDNoWater ?eUNoWater ?eFNoWater ?eCNoWater ?eENoWater ?eNNoWater ?ePNoWater ?eRNoWater ?e1NoWater ?e4NoWater ?e7NoWater ?eANoFlap ?eLNoFlap ?eBNoFlap ?eGNoFlap ?eHNoFlap ?eWNoFlap ?eINoFlap ?eTNoFlap ?eKNoFlap ?eXNoFlap ?eVNoFlap ?eMNoFlap ?eYNoFlap ?eDNoFlap ?eUNoFlap ?eFNoFlap ?eCNoFlap ?eENoFlap ?eNNoFlap ?ePNoFlap ?eRNoFlap ?e1NoFlap ?e4NoFlap ?e7NoFlap ?eANoStep ?eLNoStep ?eBNoStep ?eGNoStep ?eHNoStep ?eWNoStep ?eINoStep ?eTNoStep ?eKNoStep ?eXNoStep ?eVNoStep ?eMNoStep ?eYNoStep ?eDNoStep ?eUNoStep ?eFNoStep ?eCNoStep ?eENoStep ?eNNoStep ?ePNoStep ?eRNoStep ?e1NoStep ?e4NoStep ?e7NoStep ?eANoTable ?eLNoTable ?eBNoTable ?eGNoTable ?eHNoTable ?eWNoTable ?eINoTable ?eTNoTable ?eKNoTable ?eXNoTable ?eVNoTable ?eMNoTable ?eYNoTable ?eDNoTable ?eUNoTable ?eFNoTable ?eCNoTable ?eENoTable ?eNNoTable ?ePNoTable ?eRNoTable ?e1NoTable ?e4NoTable ?e7NoTable ?eANoRows ?eLNoRows ?eBNoRows ?eGNoRows ?eHNoRows ?eWNoRows ?eINoRows ?eTNoRows ?eKNoRows ?eXNoRows ?eVNoRows ?eMNoRows ?eYNoRows ?eDNoRows ?eUNoRows ?eFNoRows ?eCNoRows ?eENoRows ?eNNoRows ?ePNoRows ?eRNoRows ?e1NoRows ?e4NoRows ?e7NoRows ?eANoDrop ?eLNoDrop ?eBNoDrop ?eGNoDrop ?eHNoDrop ?eWNoDrop ?eINoDrop ?eTNoDrop ?eKNoDrop ?eXNoDrop ?eVNoDrop ?eMNoDrop ?eYNoDrop ?eDNoDrop ?eUNoDrop ?eFNoDrop ?eCNoDrop ?eENoDrop ?eNNoDrop ?ePNoDrop ?eRNoDrop ?e1NoDrop ?e4NoDrop ?e7NoDrop ?eANoTank ?eLNoTank ?eBNoTank ?eGNoTank ?eHNoTank ?eWNoTank ?eINoTank ?eTNoTank ?eKNoTank ?eXNoTank ?eVNoTank ?eMNoTank ?eYNoTank ?eDNoTank ?eUNoTank ?eFNoTank ?eCNoTank ?eENoTank ?eNNoTank ?ePNoTank ?eRNoTank ?e1NoTank ?e4NoTank ?e7NoTank ?eANoRain ?eLNoRain ?eBNoRain ?eGNoRain ?eHNoRain ?eWNoRain ?eINoRain ?eTNoRain ?eKNoRain ?eXNoRain ?eVNoRain ?eMNoRain ?eYNoRain ?eDNoRain ?eUNoRain ?eFNoRain ?eCNoRain ?eENoRain ?eNNoRain ?ePNoRain ?eRNoRain ?e1NoRain ?e4NoRain ?e7NoRain ?eANoOrder ?eLNoOrder ?eBNoOrder ?eGNoOrder ?eHNoOrder ?eWNoOrder ?eINoOrder ?eTNoOrder ?eKNoOrder ?eXNoOrder ?eVNoOrder ?eMNoOrder ?eYNoOrder ?eDNoOrder ?eUNoOrder ?eFNoOrder ?eCNoOrder ?eENoOrder ?eNNoOrder ?ePNoOrder ?eRNoOrder ?e1NoOrder ?e4NoOrder ?e7NoOrder ?eANoText ?eLNoText ?eBNoText ?eGNoText ?eHNoText ?eWNoText ?eINoText ?eTNoText ?eKNoText ?eXNoText ?eVNoText ?eMNoText ?eYNoText ?eDNoText ?eUNoText ?eFNoText ?eCNoText ?eENoText ?eNNoText ?ePNoText ?eRNoText ?e1NoText ?e4NoText ?e7NoText ?eMNoFloorsNoWater ?eMNoFloorsNoFlap ?eMNoFloorsNoStep ?eMNoFloorsNoTable ?eMNoFloorsNoRows ?eMNoFloorsNoDrop ?eMNoFloorsNoTank ?eMNoFloorsNoRain ?eMNoFloorsNoOrder ?eMNoFloorsNoText ?eMNoWaterNoFloors ?eMNoWaterNoFlap ?eMNoWaterNoStep ?eMNoWaterNoTable ?eMNoWaterNoRows ?eMNoWaterNoDrop ?eMNoWaterNoTank ?eMNoWaterNoRain ?eMNoWaterNoOrder ?eMNoWaterNoText ?eMNoFlapNoFloors ?eMNoFlapNoWater ?eMNoFlapNoStep ?eMNoFlapNoTable ?eMNoFlapNoRows ?eMNoFlapNoDrop ?eMNoFlapNoTank ?eMNoFlapNoRain ?eMNoFlapNoOrder ?eMNoFlapNoText ?eMNoStepNoFloors ?eMNoStepNoWater ?eMNoStepNoFlap ?eMNoStepNoTable ?eMNoStepNoRows ?eMNoStepNoDrop ?eMNoStepNoTank ?eMNoStepNoRain ?eMNoStepNoOrder ?eMNoStepNoText ?eMNoTableNoFloors ?eMNoTableNoWater ?eMNoTableNoFlap ?eMNoTableNoStep ?eMNoTableNoRows ?eMNoTableNoDrop ?eMNoTableNoTank ?eMNoTableNoRain ?eMNoTableNoOrder ?eMNoTableNoText ?eMNoRowsNoFloors ?eMNoRowsNoWater ?eMNoRowsNoFlap ?eMNoRowsNoStep ?eMNoRowsNoTable ?eMNoRowsNoDrop ?eMNoRowsNoTank ?eMNoRowsNoRain ?eMNoRowsNoOrder ?eMNoRowsNoText ?eMNoDropNoFloors ?eMNoDropNoWater ?eMNoDropNoFlap ?eMNoDropNoStep ?eMNoDropNoTable ?eMNoDropNoRows ?eMNoDropNoTank ?eMNoDropNoRain ?eMNoDropNoOrder ?eMNoDropNoText ?eMNoTankNoFloors ?eMNoTankNoWater ?eMNoTankNoFlap ?eMNoTankNoStep ?eMNoTankNoTable ?eMNoTankNoRows ?eMNoTankNoDrop ?eMNoTankNoRain ?eMNoTankNoOrder ?eMNoTankNoText ?eMNoRainNoFloors ?eMNoRainNoWater ?eMNoRainNoFlap ?eMNoRainNoStep ?eMNoRainNoTable ?eMNoRainNoRows ?eMNoRainNoDrop ?eMNoRainNoTank ?eMNoRainNoOrder ?eMNoRainNoText ?eMNoOrderNoFloors ?eMNoOrderNoWater ?eMNoOrderNoFlap ?eMNoOrderNoStep ?eMNoOrderNoTable ?eMNoOrderNoRows ?eMNoOrderNoDrop ?eMNoOrderNoTank ?eMNoOrderNoRain ?eMNoOrderNoText ?eMNoTextNoFloors ?eMNoTextNoWater ?eMNoTextNoFlap ?eMNoTextNoStep ?eMNoTextNoTable ?eMNoTextNoRows ?eMNoTextNoDrop ?eMNoTextNoTank ?eMNoTextNoRain ?eMNoTextNoOrder ?z_ValueError ?z_bool ?z_enumerate ?z_int ?z_isinstance ?z_len ?z_list ?z_max ?z_min ?z_range ?z_sorted ?z_str ?z_sum ?z_tuple ?z_zip ?h_NOUGHT ?l_NOUGHT ?s_NOUGHT ?v_NOUGHT ?h_gcd K02.law_true
    (case a0 => k_is)
    (case l0 => k_is)
    (case c0 => k_is)
    (case k0 => k_is)
    (case a1 => k_is)
    (case l1 => k_is)
    (case c1 => k_is)
    (case k1 => k_is)
    (case a2 => k_is)
    (case l2 => k_is)
    (case c2 => k_is)
    (case k2 => k_is)
    (case a3 => k_is)
    (case l3 => k_is)
    (case c3 => k_is)
    (case k3 => k_is)
    (case a4 => k_is)
    (case l4 => k_is)
    (case c4 => k_is)
    (case k4 => k_is)
    (case a5 => k_is)
    (case l5 => k_is)
    (case c5 => k_is)
    (case k5 => k_is)
    (case a6 => k_is)
    (case l6 => k_is)
    (case c6 => k_is)
    (case k6 => k_is)
    (case a7 => k_is)
    (case l7 => k_is)
    (case c7 => k_is)
    (case k7 => k_is)
    (case a8 => k_is)
    (case l8 => k_is)
    (case c8 => k_is)
    (case k8 => k_is)
    (case a9 => k_is)
    (case l9 => k_is)
    (case c9 => k_is)
    (case k9 => k_is)
    (case a10 => k_is)
    (case l10 => k_is)
    (case c10 => k_is)
    (case k10 => k_is)
    (case a11 => k_is)
    (case l11 => k_is)
    (case c11 => k_is)
    (case k11 => k_is)
    (case a12 => k_is)
    (case l12 => k_is)
    (case c12 => k_is)
    (case k12 => k_is)
    (case a13 => k_is)
    (case l13 => k_is)
    (case c13 => k_is)
    (case k13 => k_is)
    (case a14 => k_is)
    (case l14 => k_is)
    (case c14 => k_is)
    (case k14 => k_is)
    (case a15 => k_is)
    (case l15 => k_is)
    (case c15 => k_is)
    (case k15 => k_is)
    (case t15 => k_is)
    (case u15 => rfl)
    (case w15 => k_is)
    (case x15 => rfl)
    (case a16 => k_is)
    (case l16 => k_is)
    (case c16 => k_is)
    (case k16 => k_is)
    (case a17 => k_is)
    (case l17 => k_is)
    (case c17 => k_is)
    (case k17 => k_is)
    (case a18 => k_is)
    (case l18 => k_is)
    (case c18 => k_is)
    (case k18 => k_is)
    (case a19 => k_is)
    (case l19 => k_is)
    (case c19 => k_is)
    (case k19 => k_is)
    (case a20 => k_is)
    (case l20 => k_is)
    (case c20 => k_is)
    (case k20 => k_is)
    (case a21 => k_is)
    (case l21 => k_is)
    (case c21 => k_is)
    (case k21 => k_is)
    (case a22 => k_is)
    (case l22 => k_is)
    (case c22 => k_is)
    (case k22 => k_is)
    (case a23 => k_is)
    (case l23 => k_is)
    (case c23 => k_is)
    (case k23 => k_is)
    (case a24 => k_is)
    (case l24 => k_is)
    (case c24 => k_is)
    (case k24 => k_is)
    (case a25 => k_is)
    (case l25 => k_is)
    (case c25 => k_is)
    (case k25 => k_is)
    (case a26 => k_is)
    (case l26 => k_is)
    (case c26 => k_is)
    (case k26 => k_is)
    (case a27 => k_is)
    (case l27 => k_is)
    (case c27 => k_is)
    (case k27 => k_is)
    (case a28 => k_is)
    (case l28 => k_is)
    (case c28 => k_is)
    (case k28 => k_is)
    (case a29 => k_is)
    (case l29 => k_is)
    (case c29 => k_is)
    (case k29 => k_is)
    (case a30 => k_is)
    (case l30 => k_is)
    (case c30 => k_is)
    (case k30 => k_is)
    (case z0_bounds => k_is)
    (case eS => k_is)
    (case eO => k_is)
    (case eZ => k_is)
    (case eQ => decide +kernel)
    (case e2 => k_is)
    (case e3 => k_is)
    (case e5 => k_is)
    (case e6 => k_is)
    (case e8 => k_is)
    (case eANoFloors => k_is)
    (case eLNoFloors => k_is)
    (case eBNoFloors => k_is)
    (case eGNoFloors => k_is)
    (case eHNoFloors => k_is)
    (case eWNoFloors => k_is)
    (case eINoFloors => k_is)
    (case eTNoFloors => k_is)
    (case eKNoFloors => k_is)
    (case eXNoFloors => k_is)
    (case eVNoFloors => k_is)
    (case eMNoFloors => k_is)
    (case eYNoFloors => k_is)
    (case eDNoFloors => k_is)
    (case eUNoFloors => ks_is)
    (case eFNoFloors => k_is)
    (case eCNoFloors => k_is)
    (case eENoFloors => k_is)
    (case eNNoFloors => rfl)
    (case ePNoFloors => decide +kernel)
    (case eRNoFloors => k_is)
    (case e1NoFloors => k_is)
    (case e4NoFloors => k_is)
    (case e7NoFloors => k_is)
    (case eANoWater => k_is)
    (case eLNoWater => k_is)
    (case eBNoWater => k_is)
    (case eGNoWater => k_is)
    (case eHNoWater => k_is)
    (case eWNoWater => k_is)
    (case eINoWater => k_is)
    (case eTNoWater => k_is)
    (case eKNoWater => k_is)
    (case eXNoWater => k_is)
    (case eVNoWater => k_is)
    (case eMNoWater => k_is)
    (case eYNoWater => k_is)
    (case eDNoWater => k_is)
    (case eUNoWater => ks_is)
    (case eFNoWater => k_is)
    (case eCNoWater => k_is)
    (case eENoWater => k_is)
    (case eNNoWater => rfl)
    (case ePNoWater => decide +kernel)
    (case eRNoWater => k_is)
    (case e1NoWater => k_is)
    (case e4NoWater => k_is)
    (case e7NoWater => k_is)
    (case eANoFlap => k_is)
    (case eLNoFlap => k_is)
    (case eBNoFlap => k_is)
    (case eGNoFlap => k_is)
    (case eHNoFlap => k_is)
    (case eWNoFlap => k_is)
    (case eINoFlap => k_is)
    (case eTNoFlap => k_is)
    (case eKNoFlap => k_is)
    (case eXNoFlap => k_is)
    (case eVNoFlap => k_is)
    (case eMNoFlap => k_is)
    (case eYNoFlap => k_is)
    (case eDNoFlap => k_is)
    (case eUNoFlap => ks_is)
    (case eFNoFlap => k_is)
    (case eCNoFlap => k_is)
    (case eENoFlap => k_is)
    (case eNNoFlap => rfl)
    (case ePNoFlap => decide +kernel)
    (case eRNoFlap => k_is)
    (case e1NoFlap => k_is)
    (case e4NoFlap => k_is)
    (case e7NoFlap => k_is)
    (case eANoStep => k_is)
    (case eLNoStep => k_is)
    (case eBNoStep => k_is)
    (case eGNoStep => k_is)
    (case eHNoStep => k_is)
    (case eWNoStep => k_is)
    (case eINoStep => k_is)
    (case eTNoStep => k_is)
    (case eKNoStep => k_is)
    (case eXNoStep => k_is)
    (case eVNoStep => k_is)
    (case eMNoStep => k_is)
    (case eYNoStep => k_is)
    (case eDNoStep => k_is)
    (case eUNoStep => ks_is)
    (case eFNoStep => k_is)
    (case eCNoStep => k_is)
    (case eENoStep => k_is)
    (case eNNoStep => rfl)
    (case ePNoStep => decide +kernel)
    (case eRNoStep => k_is)
    (case e1NoStep => k_is)
    (case e4NoStep => k_is)
    (case e7NoStep => k_is)
    (case eANoTable => k_is)
    (case eLNoTable => k_is)
    (case eBNoTable => k_is)
    (case eGNoTable => k_is)
    (case eHNoTable => k_is)
    (case eWNoTable => k_is)
    (case eINoTable => k_is)
    (case eTNoTable => k_is)
    (case eKNoTable => k_is)
    (case eXNoTable => k_is)
    (case eVNoTable => k_is)
    (case eMNoTable => k_is)
    (case eYNoTable => k_is)
    (case eDNoTable => k_is)
    (case eUNoTable => ks_is)
    (case eFNoTable => k_is)
    (case eCNoTable => k_is)
    (case eENoTable => k_is)
    (case eNNoTable => rfl)
    (case ePNoTable => decide +kernel)
    (case eRNoTable => k_is)
    (case e1NoTable => k_is)
    (case e4NoTable => k_is)
    (case e7NoTable => k_is)
    (case eANoRows => k_is)
    (case eLNoRows => k_is)
    (case eBNoRows => k_is)
    (case eGNoRows => k_is)
    (case eHNoRows => k_is)
    (case eWNoRows => k_is)
    (case eINoRows => k_is)
    (case eTNoRows => k_is)
    (case eKNoRows => k_is)
    (case eXNoRows => k_is)
    (case eVNoRows => k_is)
    (case eMNoRows => k_is)
    (case eYNoRows => k_is)
    (case eDNoRows => k_is)
    (case eUNoRows => ks_is)
    (case eFNoRows => k_is)
    (case eCNoRows => k_is)
    (case eENoRows => k_is)
    (case eNNoRows => rfl)
    (case ePNoRows => decide +kernel)
    (case eRNoRows => k_is)
    (case e1NoRows => k_is)
    (case e4NoRows => k_is)
    (case e7NoRows => k_is)
    (case eANoDrop => k_is)
    (case eLNoDrop => k_is)
    (case eBNoDrop => k_is)
    (case eGNoDrop => k_is)
    (case eHNoDrop => k_is)
    (case eWNoDrop => k_is)
    (case eINoDrop => k_is)
    (case eTNoDrop => k_is)
    (case eKNoDrop => k_is)
    (case eXNoDrop => k_is)
    (case eVNoDrop => k_is)
    (case eMNoDrop => k_is)
    (case eYNoDrop => k_is)
    (case eDNoDrop => k_is)
    (case eUNoDrop => ks_is)
    (case eFNoDrop => k_is)
    (case eCNoDrop => k_is)
    (case eENoDrop => k_is)
    (case eNNoDrop => rfl)
    (case ePNoDrop => decide +kernel)
    (case eRNoDrop => k_is)
    (case e1NoDrop => k_is)
    (case e4NoDrop => k_is)
    (case e7NoDrop => k_is)
    (case eANoTank => k_is)
    (case eLNoTank => k_is)
    (case eBNoTank => k_is)
    (case eGNoTank => k_is)
    (case eHNoTank => k_is)
    (case eWNoTank => k_is)
    (case eINoTank => k_is)
    (case eTNoTank => k_is)
    (case eKNoTank => k_is)
    (case eXNoTank => k_is)
    (case eVNoTank => k_is)
    (case eMNoTank => k_is)
    (case eYNoTank => k_is)
    (case eDNoTank => k_is)
    (case eUNoTank => ks_is)
    (case eFNoTank => k_is)
    (case eCNoTank => k_is)
    (case eENoTank => k_is)
    (case eNNoTank => rfl)
    (case ePNoTank => decide +kernel)
    (case eRNoTank => k_is)
    (case e1NoTank => k_is)
    (case e4NoTank => k_is)
    (case e7NoTank => k_is)
    (case eANoRain => k_is)
    (case eLNoRain => k_is)
    (case eBNoRain => k_is)
    (case eGNoRain => k_is)
    (case eHNoRain => k_is)
    (case eWNoRain => k_is)
    (case eINoRain => k_is)
    (case eTNoRain => k_is)
    (case eKNoRain => k_is)
    (case eXNoRain => k_is)
    (case eVNoRain => k_is)
    (case eMNoRain => k_is)
    (case eYNoRain => k_is)
    (case eDNoRain => k_is)
    (case eUNoRain => ks_is)
    (case eFNoRain => k_is)
    (case eCNoRain => k_is)
    (case eENoRain => k_is)
    (case eNNoRain => rfl)
    (case ePNoRain => decide +kernel)
    (case eRNoRain => k_is)
    (case e1NoRain => k_is)
    (case e4NoRain => k_is)
    (case e7NoRain => k_is)
    (case eANoOrder => k_is)
    (case eLNoOrder => k_is)
    (case eBNoOrder => k_is)
    (case eGNoOrder => k_is)
    (case eHNoOrder => k_is)
    (case eWNoOrder => k_is)
    (case eINoOrder => k_is)
    (case eTNoOrder => k_is)
    (case eKNoOrder => k_is)
    (case eXNoOrder => k_is)
    (case eVNoOrder => k_is)
    (case eMNoOrder => k_is)
    (case eYNoOrder => k_is)
    (case eDNoOrder => k_is)
    (case eUNoOrder => ks_is)
    (case eFNoOrder => k_is)
    (case eCNoOrder => k_is)
    (case eENoOrder => k_is)
    (case eNNoOrder => rfl)
    (case ePNoOrder => decide +kernel)
    (case eRNoOrder => k_is)
    (case e1NoOrder => k_is)
    (case e4NoOrder => k_is)
    (case e7NoOrder => k_is)
    (case eANoText => k_is)
    (case eLNoText => k_is)
    (case eBNoText => k_is)
    (case eGNoText => k_is)
    (case eHNoText => k_is)
    (case eWNoText => k_is)
    (case eINoText => k_is)
    (case eTNoText => k_is)
    (case eKNoText => k_is)
    (case eXNoText => k_is)
    (case eVNoText => k_is)
    (case eMNoText => k_is)
    (case eYNoText => k_is)
    (case eDNoText => k_is)
    (case eUNoText => ks_is)
    (case eFNoText => k_is)
    (case eCNoText => k_is)
    (case eENoText => k_is)
    (case eNNoText => rfl)
    (case ePNoText => decide +kernel)
    (case eRNoText => k_is)
    (case e1NoText => k_is)
    (case e4NoText => k_is)
    (case e7NoText => k_is)
    (case eMNoFloorsNoWater => k_is)
    (case eMNoFloorsNoFlap => k_is)
    (case eMNoFloorsNoStep => k_is)
    (case eMNoFloorsNoTable => k_is)
    (case eMNoFloorsNoRows => k_is)
    (case eMNoFloorsNoDrop => k_is)
    (case eMNoFloorsNoTank => k_is)
    (case eMNoFloorsNoRain => k_is)
    (case eMNoFloorsNoOrder => k_is)
    (case eMNoFloorsNoText => k_is)
    (case eMNoWaterNoFloors => k_is)
    (case eMNoWaterNoFlap => k_is)
    (case eMNoWaterNoStep => k_is)
    (case eMNoWaterNoTable => k_is)
    (case eMNoWaterNoRows => k_is)
    (case eMNoWaterNoDrop => k_is)
    (case eMNoWaterNoTank => k_is)
    (case eMNoWaterNoRain => k_is)
    (case eMNoWaterNoOrder => k_is)
    (case eMNoWaterNoText => k_is)
    (case eMNoFlapNoFloors => k_is)
    (case eMNoFlapNoWater => k_is)
    (case eMNoFlapNoStep => k_is)
    (case eMNoFlapNoTable => k_is)
    (case eMNoFlapNoRows => k_is)
    (case eMNoFlapNoDrop => k_is)
    (case eMNoFlapNoTank => k_is)
    (case eMNoFlapNoRain => k_is)
    (case eMNoFlapNoOrder => k_is)
    (case eMNoFlapNoText => k_is)
    (case eMNoStepNoFloors => k_is)
    (case eMNoStepNoWater => k_is)
    (case eMNoStepNoFlap => k_is)
    (case eMNoStepNoTable => k_is)
    (case eMNoStepNoRows => k_is)
    (case eMNoStepNoDrop => k_is)
    (case eMNoStepNoTank => k_is)
    (case eMNoStepNoRain => k_is)
    (case eMNoStepNoOrder => k_is)
    (case eMNoStepNoText => k_is)
    (case eMNoTableNoFloors => k_is)
    (case eMNoTableNoWater => k_is)
    (case eMNoTableNoFlap => k_is)
    (case eMNoTableNoStep => k_is)
    (case eMNoTableNoRows => k_is)
    (case eMNoTableNoDrop => k_is)
    (case eMNoTableNoTank => k_is)
    (case eMNoTableNoRain => k_is)
    (case eMNoTableNoOrder => k_is)
    (case eMNoTableNoText => k_is)
    (case eMNoRowsNoFloors => k_is)
    (case eMNoRowsNoWater => k_is)
    (case eMNoRowsNoFlap => k_is)
    (case eMNoRowsNoStep => k_is)
    (case eMNoRowsNoTable => k_is)
    (case eMNoRowsNoDrop => k_is)
    (case eMNoRowsNoTank => k_is)
    (case eMNoRowsNoRain => k_is)
    (case eMNoRowsNoOrder => k_is)
    (case eMNoRowsNoText => k_is)
    (case eMNoDropNoFloors => k_is)
    (case eMNoDropNoWater => k_is)
    (case eMNoDropNoFlap => k_is)
    (case eMNoDropNoStep => k_is)
    (case eMNoDropNoTable => k_is)
    (case eMNoDropNoRows => k_is)
    (case eMNoDropNoTank => k_is)
    (case eMNoDropNoRain => k_is)
    (case eMNoDropNoOrder => k_is)
    (case eMNoDropNoText => k_is)
    (case eMNoTankNoFloors => k_is)
    (case eMNoTankNoWater => k_is)
    (case eMNoTankNoFlap => k_is)
    (case eMNoTankNoStep => k_is)
    (case eMNoTankNoTable => k_is)
    (case eMNoTankNoRows => k_is)
    (case eMNoTankNoDrop => k_is)
    (case eMNoTankNoRain => k_is)
    (case eMNoTankNoOrder => k_is)
    (case eMNoTankNoText => k_is)
    (case eMNoRainNoFloors => k_is)
    (case eMNoRainNoWater => k_is)
    (case eMNoRainNoFlap => k_is)
    (case eMNoRainNoStep => k_is)
    (case eMNoRainNoTable => k_is)
    (case eMNoRainNoRows => k_is)
    (case eMNoRainNoDrop => k_is)
    (case eMNoRainNoTank => k_is)
    (case eMNoRainNoOrder => k_is)
    (case eMNoRainNoText => k_is)
    (case eMNoOrderNoFloors => k_is)
    (case eMNoOrderNoWater => k_is)
    (case eMNoOrderNoFlap => k_is)
    (case eMNoOrderNoStep => k_is)
    (case eMNoOrderNoTable => k_is)
    (case eMNoOrderNoRows => k_is)
    (case eMNoOrderNoDrop => k_is)
    (case eMNoOrderNoTank => k_is)
    (case eMNoOrderNoRain => k_is)
    (case eMNoOrderNoText => k_is)
    (case eMNoTextNoFloors => k_is)
    (case eMNoTextNoWater => k_is)
    (case eMNoTextNoFlap => k_is)
    (case eMNoTextNoStep => k_is)
    (case eMNoTextNoTable => k_is)
    (case eMNoTextNoRows => k_is)
    (case eMNoTextNoDrop => k_is)
    (case eMNoTextNoTank => k_is)
    (case eMNoTextNoRain => k_is)
    (case eMNoTextNoOrder => k_is)
    (case z_ValueError => k_is)
    (case z_bool => k_is)
    (case z_enumerate => k_is)
    (case z_int => k_is)
    (case z_isinstance => k_is)
    (case z_len => k_is)
    (case z_list => k_is)
    (case z_max => k_is)
    (case z_min => k_is)
    (case z_range => k_is)
    (case z_sorted => k_is)
    (case z_str => k_is)
    (case z_sum => k_is)
    (case z_tuple => k_is)
    (case z_zip => k_is)
    (case h_NOUGHT => k_is)
    (case l_NOUGHT => k_is)
    (case s_NOUGHT => decide)
    (case v_NOUGHT => exact (.cons ⟨_, rfl⟩ (.cons ⟨_, rfl⟩ .nil)))
    (case h_gcd => k_is)
end
