import PyProof.Rows.All
import Wide.All
import OpenK.AllK
import Wide.FinOn
import HandS.ForMost
import HandS.Wide
import HandS.Gcd
import HandS.IsInst
import HandS.Lambda
import HandS.More
import HandS.Conv
import HandS.SetFor
import HandS.Zip
import KE.GoesMore
import KE.GoesZip
import HandS.EndTab
import KE.SortKeyHeap
import HandS.Style
import KE.KDictZip
import HandS.Sort
import HandS.Defaults
import PyProof.EnumMake
import HandS.SortInts
import HandS.MakeKwOnly
import HandS.OwnEq
import HandS.Codes
import PyProof.InstNe
import HandS.Dict
import PyProof.Rows.RuleB_pow
import PyProof.ReprRoads
import PyProof.ReprLen
import PyProof.FitsInt
import HandS.Text
import HandS.FStr
import HandS.StrMore
import HandS.Exc
import PyProof.StrOps2
import PyProof.Rows.ReprOcc
import PyProof.EqAt
import PyProof.EqKinds
import PyProof.TupleCall
import KE.KExcSuper
import KE.KSuper
import HandS.Base
import HandS.Call
import HandS.List
import HandS.Ends
import HandS.ExcInit
import HandS.WordsExc
import HandS.ExcOwn
import KE.KExcIs
import HandS.ExcIs
import HandS.ExcField
import PySem.Challenge.RW_flapwater_k39_rains_refused
set_option Elab.async false
set_option linter.all false
set_option maxRecDepth 100000
set_option maxHeartbeats 16000000
section
/-! a layer of data over the hand layer: lists that may change stand in a store, all else are plain trees -/
namespace DL
open PySem L2

inductive DV where
  | non
  | bl (b : Bool)
  | int (i : Int)
  | str (s : Str)
  | ty (n : String)
  | tup (ds : List DV)
  | lst (ds : List DV)
  | rls (ds : List DV)
  | ptr (n : Nat)
inductive MO where
  | ml (ds : List DV)
  | ins (c : Str) (fs : List (Str × DV))
  | dct (fs : List (Str × DV))
  | dci (fs : List (Int × DV))
abbrev Sto := List MO
abbrev Sl := List (Option DV)
/-- the tables of code objects that a law may write: that of the def bounds -/
noncomputable def tabAt (K : PySem.W.Frag) (fd : FuncData) : Value → List (Addr × Str)
  | Value.ref c => (match K.lookup c with
    | some ⟨_, _, Data.fields vs, _⟩ => (match (vs[11]? : Option Value) with
      | some (Value.ref P) => [(P, (fd.qualname ++ ".<locals>.") ++ "<lambda>")]
      | _ => [])
    | _ => [])
  | _ => []
noncomputable def tabsOf (K : PySem.W.Frag) (mg : Str → Option Value) : List (Addr × Str) := match mg "bounds" with
  | some (Value.ref f) => (match K.lookup f with
    | some ⟨_, _, Data.func fd, _⟩ => tabAt K fd fd.code
    | _ => [])
  | _ => []
structure Wd where
  P : Addr → Prop
  α : List Addr
  H : Hp

section
variable (K : PySem.W.Frag) (W : Wd)
mutual
def Den : DV → V → Prop
  | .non, v => v = .non
  | .bl b, v => v = .bl b
  | .int i, v => v = .int i
  | .str s, v => v = .str s
  | .ty n, v => v = .ty n
  | .tup ds, v => ∃ a vs, v = .ref a ∧ (SqT K W.H a vs ∧ (W.P a ∨ ∀ H', SqT K H' a vs)) ∧ Dens ds vs
  | .lst ds, v => ∃ a vs, v = .ref a ∧ (W.P a ∧ W.H a = some (.lst vs)) ∧ Dens ds vs
  | .rls ds, v => ∃ a vs, v = .ref a ∧ (SqL K W.H a vs ∧ (W.P a ∨ ∀ H', SqL K H' a vs)) ∧ Dens ds vs
  | .ptr n, v => ∃ a, W.α[n]? = some a ∧ v = .ref a
def Dens : List DV → List V → Prop
  | [], vs => vs = []
  | d :: ds, vs => ∃ v r, vs = v :: r ∧ Den d v ∧ Dens ds r
end
end

/-- what data leans on stands -/
structure Ex0 (W W' : Wd) : Prop where
  p : ∀ a, W.P a → W'.P a
  al : W.α <+: W'.α
  hp : ∀ a o, W.P a → W.H a = some o → W'.H a = some o
structure Ext (W W' : Wd) : Prop extends Ex0 W W' where
  pn : ∀ a, W'.P a → W.P a ∨ W.H a = none
  an : ∀ a, a ∈ W'.α → a ∈ W.α ∨ W.H a = none
  h : ∀ a o, a ∉ W.α → (∀ ps, o ≠ .tbl ps) → W.H a = some o → W'.H a = some o
  dom : ∀ a, W'.H a = none → W.H a = none
theorem Ext.refl (W : Wd) : Ext W W where
  p := fun _ h => h
  pn := fun _ h => .inl h
  al := List.prefix_refl _
  an := fun _ h => .inl h
  hp := fun _ _ _ h => h
  h := fun _ _ _ _ h => h
  dom := fun _ h => h
theorem Ext.trans {W W1 W2 : Wd} (a : Ext W W1) (b : Ext W1 W2) : Ext W W2 where
  p := fun x h => b.p x (a.p x h)
  pn := fun x h => by
    rcases b.pn x h with h | h
    · exact a.pn x h
    · exact .inr (a.dom x h)
  al := a.al.trans b.al
  an := fun x h => by
    rcases b.an x h with h | h
    · exact a.an x h
    · exact .inr (a.dom x h)
  hp := fun x o h e => b.hp x o (a.p x h) (a.hp x o h e)
  h := fun x o h n e => b.h x o (fun z => by
    rcases a.an x z with z | z
    · exact h z
    · rw [e] at z; cases z) n (a.h x o h n e)
  dom := fun x h => a.dom x (b.dom x h)
/-- the tables stay where what is no table and no code is changed -/
theorem tabs_upd {T : List (Addr × Str)} {H : Hp} {a : Addr} {o : HO} (t : LamX.Tabs T H) (h1 : ∀ ps, H a ≠ some (.tbl ps)) (h2 : ∀ c q, H a ≠ some (LamX.CodeO c q)) : LamX.Tabs T (upd H a o) := by
  intro p hp
  obtain ⟨ps, e1, e2, e3⟩ := t p hp
  refine ⟨ps, (upd_ne fun z => h1 ps (by rw [← z]; exact e1)).trans e1, e2, fun pos cv hc => ?_⟩
  obtain ⟨c, e4, e5⟩ := e3 pos cv hc
  exact ⟨c, e4, (upd_ne fun z => h2 c p.2 (by rw [← z]; exact e5)).trans e5⟩
theorem tabs_new {T : List (Addr × Str)} {H : Hp} {a : Addr} {o : HO} (t : LamX.Tabs T H) (h : H a = none) : LamX.Tabs T (upd H a o) :=
  tabs_upd t (fun ps z => by rw [h] at z; cases z) fun c q z => by rw [h] at z; cases z

section
variable {K : PySem.W.Frag} {W W' : Wd}
theorem rd_ext0 {a : Addr} {u : HO} (e : Ex0 W W') (p : W.P a) (h : Rd W.H a u) : Rd W'.H a u := by
  rcases h with h | ⟨o, h⟩
  · exact .inl (e.hp a _ p h)
  · exact .inr ⟨o, e.hp a _ p h⟩
theorem sql_ext0 {a : Addr} {vs : List V} (e : Ex0 W W') (h : SqL K W.H a vs ∧ (W.P a ∨ ∀ H', SqL K H' a vs)) : SqL K W'.H a vs ∧ (W'.P a ∨ ∀ H', SqL K H' a vs) := by
  obtain ⟨h, p | p⟩ := h
  · refine ⟨?_, .inl (e.p a p)⟩
    rcases h with h | h
    · exact .inl (rd_ext0 e p h)
    · exact .inr h
  · exact ⟨p _, .inr p⟩
theorem sqt_ext0 {a : Addr} {vs : List V} (e : Ex0 W W') (h : SqT K W.H a vs ∧ (W.P a ∨ ∀ H', SqT K H' a vs)) : SqT K W'.H a vs ∧ (W'.P a ∨ ∀ H', SqT K H' a vs) := by
  obtain ⟨h, p | p⟩ := h
  · refine ⟨?_, .inl (e.p a p)⟩
    rcases h with h | h
    · exact .inl (rd_ext0 e p h)
    · exact .inr h
  · exact ⟨p _, .inr p⟩
mutual
theorem Den.ext0 (e : Ex0 W W') : ∀ (d : DV) (v : V), Den K W d v → Den K W' d v
  | .non, _, h => h
  | .bl _, _, h => h
  | .int _, _, h => h
  | .str _, _, h => h
  | .ty _, _, h => h
  | .tup ds, _, h => by
    obtain ⟨a, vs, rfl, s, h⟩ := h
    exact ⟨a, vs, rfl, sqt_ext0 e s, Dens.ext0 e ds vs h⟩
  | .lst ds, _, h => by
    obtain ⟨a, vs, rfl, s, h⟩ := h
    exact ⟨a, vs, rfl, ⟨e.p a s.1, e.hp a _ s.1 s.2⟩, Dens.ext0 e ds vs h⟩
  | .rls ds, _, h => by
    obtain ⟨a, vs, rfl, s, h⟩ := h
    exact ⟨a, vs, rfl, sql_ext0 e s, Dens.ext0 e ds vs h⟩
  | .ptr n, _, h => by
    obtain ⟨a, h, rfl⟩ := h
    obtain ⟨t, ht⟩ := e.al
    refine ⟨a, ?_, rfl⟩
    rw [← ht, List.getElem?_append_left (List.getElem?_eq_some_iff.mp h).1]
    exact h
theorem Dens.ext0 (e : Ex0 W W') : ∀ (ds : List DV) (vs : List V), Dens K W ds vs → Dens K W' ds vs
  | [], _, h => h
  | d :: ds, _, h => by
    obtain ⟨v, r, rfl, h1, h2⟩ := h
    exact ⟨v, r, rfl, Den.ext0 e d v h1, Dens.ext0 e ds r h2⟩
end
theorem Den.ext (e : Ext W W') (d : DV) (v : V) (h : Den K W d v) : Den K W' d v := Den.ext0 e.toEx0 d v h
theorem Dens.ext (e : Ext W W') (ds : List DV) (vs : List V) (h : Dens K W ds vs) : Dens K W' ds vs := Dens.ext0 e.toEx0 ds vs h
theorem Dens.len : ∀ {ds : List DV} {vs : List V}, Dens K W ds vs → vs.length = ds.length
  | [], _, h => by
    cases (show _ = [] from h)
    rfl
  | d :: ds, _, h => by
    obtain ⟨v, r, rfl, _, h2⟩ := h
    simp [Dens.len h2]
theorem Dens.get : ∀ {ds : List DV} {vs : List V} {i : Nat} {d : DV}, Dens K W ds vs → ds[i]? = some d → ∃ v, vs[i]? = some v ∧ Den K W d v
  | [], _, _, _, _, e => by simp at e
  | d :: ds, _, 0, _, h, e => by
    obtain ⟨v, r, rfl, h1, _⟩ := h
    simp at e
    subst e
    exact ⟨v, rfl, h1⟩
  | d :: ds, _, i + 1, x, h, e => by
    obtain ⟨v, r, rfl, _, h2⟩ := h
    obtain ⟨u, e1, e2⟩ := Dens.get (i := i) (d := x) h2 (by simpa using e)
    exact ⟨u, by simpa using e1, e2⟩
theorem Dens.app : ∀ {ds es : List DV} {vs us : List V}, Dens K W ds vs → Dens K W es us → Dens K W (ds ++ es) (vs ++ us)
  | [], _, _, _, h, h' => by
    cases (show _ = [] from h)
    exact h'
  | d :: ds, _, _, _, h, h' => by
    obtain ⟨v, r, rfl, h1, h2⟩ := h
    exact ⟨v, _, rfl, h1, Dens.app h2 h'⟩
theorem Dens.one {d : DV} {v : V} (h : Den K W d v) : Dens K W [d] [v] := ⟨v, [], rfl, h, rfl⟩
theorem Dens.set : ∀ {ds : List DV} {vs : List V} {d : DV} {v : V} (i : Nat), Dens K W ds vs → Den K W d v → Dens K W (ds.set i d) (vs.set i v)
  | [], _, _, _, _, h, _ => by
    cases (show _ = [] from h)
    simp [Dens]
  | d :: ds, _, _, _, 0, h, h' => by
    obtain ⟨v, r, rfl, h1, h2⟩ := h
    exact ⟨_, r, rfl, h', h2⟩
  | d :: ds, _, _, _, i + 1, h, h' => by
    obtain ⟨v, r, rfl, h1, h2⟩ := h
    exact ⟨v, _, rfl, h1, Dens.set i h2 h'⟩
theorem Dens.take : ∀ {ds : List DV} {vs : List V} (n : Nat), Dens K W ds vs → Dens K W (ds.take n) (vs.take n)
  | _, _, 0, _ => by simp [Dens]
  | [], _, _ + 1, h => by
    cases (show _ = [] from h)
    simp [Dens]
  | d :: ds, _, n + 1, h => by
    obtain ⟨v, r, rfl, h1, h2⟩ := h
    exact ⟨v, _, rfl, h1, Dens.take n h2⟩
theorem Dens.drop : ∀ {ds : List DV} {vs : List V} (n : Nat), Dens K W ds vs → Dens K W (ds.drop n) (vs.drop n)
  | _, _, 0, h => h
  | [], _, _ + 1, h => by
    cases (show _ = [] from h)
    simp [Dens]
  | d :: ds, _, n + 1, h => by
    obtain ⟨v, r, rfl, h1, h2⟩ := h
    exact Dens.drop n h2
theorem Dens.rev : ∀ {ds : List DV} {vs : List V}, Dens K W ds vs → Dens K W ds.reverse vs.reverse
  | [], _, h => by
    cases (show _ = [] from h)
    simp [Dens]
  | d :: ds, _, h => by
    obtain ⟨v, r, rfl, h1, h2⟩ := h
    rw [List.reverse_cons, List.reverse_cons]
    exact (Dens.rev h2).app (Dens.one h1)
theorem Dens.ints : ∀ {ns : List Int} {vs : List V}, Dens K W (ns.map DV.int) vs → vs = ns.map V.int
  | [], _, h => h
  | n :: ns, _, h => by
    obtain ⟨v, r, rfl, h1, h2⟩ := h
    rw [Dens.ints h2]
    cases (show v = V.int n from h1)
    rfl
theorem dens_ints : ∀ (ns : List Int), Dens K W (ns.map DV.int) (ns.map V.int)
  | [] => rfl
  | n :: ns => ⟨_, _, rfl, rfl, dens_ints ns⟩
end

/-! ### the store is held -/
section
variable (K : PySem.W.Frag) (mg : Str → Option Value)
def FsR (W : Wd) : List (Str × DV) → List (Str × V) → Prop
  | [], vs => vs = []
  | p :: fs, vs => ∃ v r, vs = (p.1, v) :: r ∧ Den K W p.2 v ∧ FsR W fs r
def DkR (W : Wd) : List (Str × DV) → List (Key × V) → Prop
  | [], vs => vs = []
  | p :: fs, vs => ∃ v r, vs = ((Sum.inr p.1 : Key), v) :: r ∧ Den K W p.2 v ∧ DkR W fs r
def DiR (W : Wd) : List (Int × DV) → List (Key × V) → Prop
  | [], vs => vs = []
  | p :: fs, vs => ∃ v r, vs = ((Sum.inl p.1 : Key), v) :: r ∧ Den K W p.2 v ∧ DiR W fs r
def ObjR (W : Wd) (a : Addr) : MO → Prop
  | .ml ds => ∃ vs, W.H a = some (.lst vs) ∧ Dens K W ds vs
  | .ins c fs => ∃ C dx vfs, mg c = some (.ref C) ∧ W.H a = some (.ins C dx vfs) ∧ FsR K W fs vfs
  | .dct fs => ∃ kvs, W.H a = some (.dK kvs) ∧ DkR K W fs kvs
  | .dci fs => ∃ kvs, W.H a = some (.dK kvs) ∧ DiR K W fs kvs
structure Rep (W : Wd) (S : Sto) : Prop where
  len : W.α.length = S.length
  nd : W.α.Nodup
  dj : ∀ a, a ∈ W.α → ¬ W.P a
  al : ∀ a, W.P a → W.H a ≠ none
  ob : ∀ (n : Nat) (mo : MO) (a : Addr), S[n]? = some mo → W.α[n]? = some a → ObjR K mg W a mo
  tb : LamX.Tabs (tabsOf K mg) W.H
  tp : ∀ p ∈ tabsOf K mg, ¬ W.P p.1
def Slo (W : Wd) (σ : St) (s : Sl) : Prop := σ.length = s.length ∧ ∀ (i : Nat) (d : DV), s[i]? = some (some d) → ∃ v, σ[i]? = some (some v) ∧ Den K W d v
end
section
variable {K : PySem.W.Frag} {mg : Str → Option Value} {W W' : Wd} {S : Sto}
theorem FsR.ext0 (e : Ex0 W W') : ∀ {fs : List (Str × DV)} {vs : List (Str × V)}, FsR K W fs vs → FsR K W' fs vs
  | [], _, h => h
  | p :: fs, _, h => by
    obtain ⟨v, r, rfl, h1, h2⟩ := h
    exact ⟨v, r, rfl, Den.ext0 e _ _ h1, FsR.ext0 e h2⟩
theorem DkR.ext0 (e : Ex0 W W') : ∀ {fs : List (Str × DV)} {vs : List (Key × V)}, DkR K W fs vs → DkR K W' fs vs
  | [], _, h => h
  | p :: fs, _, h => by
    obtain ⟨v, r, rfl, h1, h2⟩ := h
    exact ⟨v, r, rfl, Den.ext0 e _ _ h1, DkR.ext0 e h2⟩
theorem DiR.ext0 (e : Ex0 W W') : ∀ {fs : List (Int × DV)} {vs : List (Key × V)}, DiR K W fs vs → DiR K W' fs vs
  | [], _, h => h
  | p :: fs, _, h => by
    obtain ⟨v, r, rfl, h1, h2⟩ := h
    exact ⟨v, r, rfl, Den.ext0 e _ _ h1, DiR.ext0 e h2⟩
theorem Slo.ext {σ : St} {s : Sl} (e : Ext W W') (h : Slo K W σ s) : Slo K W' σ s := ⟨h.1, fun i d q => by
  obtain ⟨v, h1, h2⟩ := h.2 i d q
  exact ⟨v, h1, Den.ext e d v h2⟩⟩
theorem Slo.set {σ : St} {s : Sl} {d : DV} {v : V} (i : Nat) (h : Slo K W σ s) (hd : Den K W d v) : Slo K W (σ.set i (some v)) (s.set i (some d)) := by
  refine ⟨by simp [h.1], fun j e q => ?_⟩
  by_cases hj : i = j
  · subst hj
    rw [List.getElem?_set] at q
    rw [List.getElem?_set]
    by_cases hl : i < s.length
    · rw [if_pos rfl, if_pos hl] at q
      cases q
      exact ⟨v, by rw [if_pos rfl, if_pos (by rw [h.1]; exact hl)], hd⟩
    · rw [if_pos rfl, if_neg hl] at q
      cases q
  · rw [List.getElem?_set_ne hj] at q ⊢
    exact h.2 j e q
theorem Rep.there (R : Rep K mg W S) {a : Addr} (h : a ∈ W.α) : W.H a ≠ none := by
  obtain ⟨n, hn, rfl⟩ := List.getElem_of_mem h
  have hl : n < S.length := by rw [← R.len]; exact hn
  have o := R.ob n S[n] W.α[n] (List.getElem?_eq_getElem hl) (List.getElem?_eq_getElem hn)
  intro z
  cases q : S[n] with
  | ml ds =>
    rw [q] at o
    obtain ⟨vs, e, _⟩ := o
    rw [z] at e
    cases e
  | ins c fs =>
    rw [q] at o
    obtain ⟨C, dx, vfs, _, e, _⟩ := o
    rw [z] at e
    cases e
  | dct fs =>
    rw [q] at o
    obtain ⟨kvs, e, _⟩ := o
    rw [z] at e
    cases e
  | dci fs =>
    rw [q] at o
    obtain ⟨kvs, e, _⟩ := o
    rw [z] at e
    cases e
theorem Rep.some (R : Rep K mg W S) {n : Nat} {mo : MO} (h : S[n]? = some mo) : ∃ a, W.α[n]? = .some a ∧ a ∈ W.α ∧ ObjR K mg W a mo := by
  have hl : n < W.α.length := by rw [R.len]; exact (List.getElem?_eq_some_iff.mp h).1
  exact ⟨W.α[n], List.getElem?_eq_getElem hl, List.getElem_mem hl, R.ob n mo _ h (List.getElem?_eq_getElem hl)⟩
theorem ObjR.ext0 (e : Ex0 W W') {a : Addr} {mo : MO} (h : ObjR K mg W a mo) (hk : W'.H a = W.H a) : ObjR K mg W' a mo := by
  cases mo with
  | ml ds =>
    obtain ⟨vs, h1, h2⟩ := h
    exact ⟨vs, hk.trans h1, Dens.ext0 e _ _ h2⟩
  | ins c fs =>
    obtain ⟨C, dx, vfs, h0, h1, h2⟩ := h
    exact ⟨C, dx, vfs, h0, hk.trans h1, FsR.ext0 e h2⟩
  | dct fs =>
    obtain ⟨kvs, h1, h2⟩ := h
    exact ⟨kvs, hk.trans h1, DkR.ext0 e h2⟩
  | dci fs =>
    obtain ⟨kvs, h1, h2⟩ := h
    exact ⟨kvs, hk.trans h1, DiR.ext0 e h2⟩
theorem ObjR.ext (e : Ext W W') {a : Addr} {mo : MO} (h : ObjR K mg W a mo) (hk : W'.H a = W.H a) : ObjR K mg W' a mo := ObjR.ext0 e.toEx0 h hk
/-- a new object, never changed -/
def Wd.froz (W : Wd) (p : Addr) (o : HO) : Wd := ⟨fun a => W.P a ∨ a = p, W.α, upd W.H p o⟩
theorem ext_froz {p : Addr} {o : HO} (hp : W.H p = none) : Ext W (W.froz p o) where
  p := fun a h => .inl h
  pn := fun a h => by
    rcases h with h | rfl
    · exact .inl h
    · exact .inr hp
  al := List.prefix_refl _
  an := fun _ h => .inl h
  hp := fun a u _ e => (upd_ne (ne_of_none e hp)).trans e
  h := fun a u _ _ e => (upd_ne (ne_of_none e hp)).trans e
  dom := fun a h => by
    by_cases e : a = p
    · subst e; exact hp
    · have z : upd W.H p o a = none := h
      rw [upd_ne e] at z
      exact z
theorem rep_froz {p : Addr} {o : HO} (R : Rep K mg W S) (hp : W.H p = none) : Rep K mg (W.froz p o) S where
  len := R.len
  nd := R.nd
  dj := fun a h q => by
    rcases q with q | rfl
    · exact R.dj a h q
    · exact R.there h hp
  al := fun a h => by
    show upd W.H p o a ≠ none
    by_cases e : a = p
    · subst e; rw [upd_same]; exact fun z => by cases z
    · rw [upd_ne e]
      rcases h with h | h
      · exact R.al a h
      · exact absurd h e
  ob := fun n mo a h1 h2 => by
    have ha : a ≠ p := fun z => by
      subst z
      exact R.there (List.mem_of_getElem? h2) hp
    exact (R.ob n mo a h1 h2).ext (ext_froz hp) (upd_ne ha)
  tb := tabs_new R.tb hp
  tp := fun t ht q => by
    rcases q with q | q
    · exact R.tp t ht q
    · obtain ⟨ps, e, _⟩ := R.tb t ht
      rw [q, hp] at e
      cases e
/-- a new object of the store -/
def Wd.more (W : Wd) (p : Addr) (o : HO) : Wd := ⟨W.P, W.α ++ [p], upd W.H p o⟩
theorem ext_more {p : Addr} {o : HO} (hp : W.H p = none) : Ext W (W.more p o) where
  p := fun a h => h
  pn := fun a h => .inl h
  al := List.prefix_append _ _
  an := fun a h => by
    rcases List.mem_append.mp h with h | h
    · exact .inl h
    · cases List.mem_singleton.mp h
      exact .inr hp
  hp := fun a u _ e => (upd_ne (ne_of_none e hp)).trans e
  h := fun a u _ _ e => (upd_ne (ne_of_none e hp)).trans e
  dom := fun a h => by
    by_cases e : a = p
    · subst e; exact hp
    · have z : upd W.H p o a = none := h
      rw [upd_ne e] at z
      exact z
theorem rep_more {p : Addr} {o : HO} {mo : MO} (R : Rep K mg W S) (hp : W.H p = none) (new : ObjR K mg (W.more p o) p mo) : Rep K mg (W.more p o) (S ++ [mo]) where
  len := by
    show (W.α ++ [p]).length = _
    simp [R.len]
  nd := by
    show (W.α ++ [p]).Nodup
    refine List.nodup_append.mpr ⟨R.nd, by simp, fun a ha b hb => ?_⟩
    cases List.mem_singleton.mp hb
    exact fun z => R.there ha (by rw [z]; exact hp)
  dj := fun a h q => by
    rcases List.mem_append.mp h with h | h
    · exact R.dj a h q
    · cases List.mem_singleton.mp h
      exact R.al p q hp
  al := fun a h => by
    show upd W.H p o a ≠ none
    by_cases e : a = p
    · subst e; rw [upd_same]; exact fun z => by cases z
    · rw [upd_ne e]
      exact R.al a h
  ob := fun n m a h1 h2 => by
    have h2 : (W.α ++ [p])[n]? = some a := h2
    by_cases hn : n < S.length
    · rw [List.getElem?_append_left hn] at h1
      rw [List.getElem?_append_left (by rw [R.len]; exact hn)] at h2
      have h3 : W.α[n]? = some a := h2
      have ha : a ≠ p := fun z => R.there (List.mem_of_getElem? h3) (z ▸ hp)
      exact (R.ob n m a h1 h3).ext (ext_more hp) (upd_ne ha)
    · have hl : n < (S ++ [mo]).length := (List.getElem?_eq_some_iff.mp h1).1
      have e : n = S.length := by
        rw [List.length_append, List.length_singleton] at hl
        omega
      subst e
      rw [List.getElem?_concat_length] at h1
      rw [← R.len, List.getElem?_concat_length] at h2
      cases h1
      cases h2
      exact new
  tb := tabs_new R.tb hp
  tp := R.tp
/-- an object of the store is changed -/
def Wd.put (W : Wd) (a : Addr) (o : HO) : Wd := ⟨W.P, W.α, upd W.H a o⟩
theorem ext_put {a : Addr} {o : HO} (R : Rep K mg W S) (ha : a ∈ W.α) : Ext W (W.put a o) where
  p := fun _ h => h
  pn := fun _ h => .inl h
  al := List.prefix_refl _
  an := fun _ h => .inl h
  hp := fun b u h e => (upd_ne (fun z => R.dj a ha (by rw [← z]; exact h))).trans e
  h := fun b u h _ e => (upd_ne (fun z => h (by rw [z]; exact ha))).trans e
  dom := fun b h => by
    have z : upd W.H a o b = none := h
    by_cases e : b = a
    · subst e; rw [upd_same] at z; cases z
    · rw [upd_ne e] at z
      exact z
theorem ObjR.plain {a : Addr} {mo : MO} (h : ObjR K mg W a mo) : (∀ ps, W.H a ≠ some (.tbl ps)) ∧ ∀ c q, W.H a ≠ some (LamX.CodeO c q) := by
  cases mo with
  | ml ds =>
    obtain ⟨vs, e, _⟩ := h
    rw [e]
    exact ⟨fun ps z => (by cases z), fun c q z => (by unfold LamX.CodeO at z; cases z)⟩
  | ins c fs =>
    obtain ⟨C, dx, vfs, _, e, _⟩ := h
    rw [e]
    exact ⟨fun ps z => (by cases z), fun c q z => (by unfold LamX.CodeO at z; cases z)⟩
  | dct fs =>
    obtain ⟨kvs, e, _⟩ := h
    rw [e]
    exact ⟨fun ps z => (by cases z), fun c q z => (by unfold LamX.CodeO at z; cases z)⟩
  | dci fs =>
    obtain ⟨kvs, e, _⟩ := h
    rw [e]
    exact ⟨fun ps z => (by cases z), fun c q z => (by unfold LamX.CodeO at z; cases z)⟩
theorem rep_put {a : Addr} {o : HO} {n : Nat} {mo : MO} (R : Rep K mg W S) (hn : W.α[n]? = some a) (new : ObjR K mg (W.put a o) a mo) : Rep K mg (W.put a o) (S.set n mo) where
  len := by
    show W.α.length = _
    simp [R.len]
  nd := R.nd
  dj := R.dj
  al := fun b h => by
    show upd W.H a o b ≠ none
    by_cases e : b = a
    · subst e; rw [upd_same]; exact fun z => by cases z
    · rw [upd_ne e]
      exact R.al b h
  ob := fun m mo' b h1 h2 => by
    by_cases hm : n = m
    · subst hm
      have hl : n < S.length := by rw [← R.len]; exact (List.getElem?_eq_some_iff.mp hn).1
      rw [List.getElem?_set_self hl] at h1
      cases h1
      have h3 : W.α[n]? = some b := h2
      rw [hn] at h3
      cases h3
      exact new
    · rw [List.getElem?_set_ne hm] at h1
      have hb : b ≠ a := fun z => by
        subst z
        exact hm (nd_ix R.nd hn h2)
      exact (R.ob m mo' b h1 h2).ext (ext_put R (List.mem_of_getElem? hn)) (upd_ne hb)
  tb := by
    have hl : n < S.length := by rw [← R.len]; exact (List.getElem?_eq_some_iff.mp hn).1
    have o1 := (R.ob n S[n] a (List.getElem?_eq_getElem hl) hn).plain
    exact tabs_upd R.tb o1.1 o1.2
  tp := R.tp
end

/-! ### making and reading lists -/
/-- m: a list that may change -/
def newL (m : Bool) (ds : List DV) (S : Sto) : DV × Sto := if m then (.ptr S.length, S ++ [.ml ds]) else (.lst ds, S)
/-- what list is it (any that can be read; one that is tracked) -/
def rdL (S : Sto) : DV → Option (List DV)
  | .lst ds => some ds
  | .rls ds => some ds
  | .ptr n => match S[n]? with
    | some (.ml ds) => some ds
    | _ => none
  | _ => none
def trL (S : Sto) : DV → Option (List DV)
  | .lst ds => some ds
  | .ptr n => match S[n]? with
    | some (.ml ds) => some ds
    | _ => none
  | _ => none
def rdT : DV → Option (List DV)
  | .tup ds => some ds
  | _ => none
section
variable {K : PySem.W.Frag} {mg : Str → Option Value} {W W' : Wd} {S : Sto}
theorem newL_ok {m : Bool} {ds : List DV} {vs : List V} {d : DV} {S' : Sto} {p : Addr} (R : Rep K mg W S) (hp : W.H p = none) (h : Dens K W ds vs) (e : newL m ds S = (d, S')) :
    ∃ W', W'.H = upd W.H p (.lst vs) ∧ Ext W W' ∧ Rep K mg W' S' ∧ Den K W' d (.ref p) := by
  unfold newL at e
  cases m with
  | true =>
    cases e
    exact ⟨W.more p (.lst vs), rfl, ext_more hp, rep_more R hp ⟨vs, upd_same, Dens.ext (ext_more hp) _ _ h⟩, p, by
      show (W.α ++ [p])[S.length]? = some p
      rw [← R.len, List.getElem?_concat_length], rfl⟩
  | false =>
    cases e
    exact ⟨W.froz p (.lst vs), rfl, ext_froz hp, rep_froz R hp, p, vs, rfl, ⟨.inr rfl, upd_same⟩, Dens.ext (ext_froz hp) _ _ h⟩
theorem newT_ok {ds : List DV} {vs : List V} {p : Addr} (R : Rep K mg W S) (hp : W.H p = none) (h : Dens K W ds vs) :
    ∃ W', W'.H = upd W.H p (.tup vs) ∧ Ext W W' ∧ Rep K mg W' S ∧ Den K W' (.tup ds) (.ref p) :=
  ⟨W.froz p (.tup vs), rfl, ext_froz hp, rep_froz R hp, p, vs, rfl, ⟨SqT.of upd_same, .inl (.inr rfl)⟩, Dens.ext (ext_froz hp) _ _ h⟩
theorem rdL_ok {d : DV} {v : V} {ds : List DV} (R : Rep K mg W S) (h : Den K W d v) (e : rdL S d = some ds) : ∃ a vs, v = .ref a ∧ SqL K W.H a vs ∧ Dens K W ds vs := by
  cases d with
  | lst es =>
    obtain ⟨a, vs, rfl, s, h⟩ := h
    cases e
    exact ⟨a, vs, rfl, SqL.of s.2, h⟩
  | rls es =>
    obtain ⟨a, vs, rfl, s, h⟩ := h
    cases e
    exact ⟨a, vs, rfl, s.1, h⟩
  | ptr n =>
    obtain ⟨a, ha, rfl⟩ := h
    unfold rdL at e
    simp only at e
    split at e
    · rename_i es q
      cases e
      obtain ⟨vs, h1, h2⟩ := R.ob n _ a q ha
      exact ⟨a, vs, rfl, SqL.of h1, h2⟩
    · cases e
  | _ => cases e
theorem trL_ok {d : DV} {v : V} {ds : List DV} (R : Rep K mg W S) (h : Den K W d v) (e : trL S d = some ds) : ∃ a vs, v = .ref a ∧ W.H a = some (.lst vs) ∧ Dens K W ds vs := by
  cases d with
  | lst es =>
    obtain ⟨a, vs, rfl, s, h⟩ := h
    cases e
    exact ⟨a, vs, rfl, s.2, h⟩
  | ptr n =>
    obtain ⟨a, ha, rfl⟩ := h
    unfold trL at e
    simp only at e
    split at e
    · rename_i es q
      cases e
      obtain ⟨vs, h1, h2⟩ := R.ob n _ a q ha
      exact ⟨a, vs, rfl, h1, h2⟩
    · cases e
  | _ => cases e
theorem rdT_ok {d : DV} {v : V} {ds : List DV} (h : Den K W d v) (e : rdT d = some ds) : ∃ a vs, v = .ref a ∧ SqT K W.H a vs ∧ Dens K W ds vs := by
  cases d with
  | tup es =>
    obtain ⟨a, vs, rfl, s, h⟩ := h
    cases e
    exact ⟨a, vs, rfl, s.1, h⟩
  | _ => cases e
theorem ptr_ok {n : Nat} {v : V} {mo : MO} (R : Rep K mg W S) (h : Den K W (.ptr n) v) (e : S[n]? = some mo) : ∃ a, v = .ref a ∧ W.α[n]? = some a ∧ a ∈ W.α ∧ ObjR K mg W a mo := by
  obtain ⟨a, ha, rfl⟩ := h
  exact ⟨a, rfl, ha, List.mem_of_getElem? ha, R.ob n _ a e ha⟩
end
end DL
end
section
namespace DL
open PySem L2

/-! ### what a reading does to data -/
abbrev DE := Sl → Sto → Option (DV × Sto)
abbrev DA := Sl → Sto → Option (List DV × Sto)
abbrev DT := Sl → Sto → Option (Bool × Sto)
abbrev DG := DV → Sl → Sto → Option (Sl × Sto)
abbrev DGs := List DV → Sl → Sto → Option (Sl × Sto)
inductive Res where
  | nx (s : Sl) (S : Sto)
  | rt (d : DV) (S : Sto)
  | bk (s : Sl) (S : Sto)
  | ct (s : Sl) (S : Sto)
abbrev DS := Sl → Sto → Option Res
def bnd {α β : Type} (o : Option (α × Sto)) (k : α → Sto → Option β) : Option β := match o with
  | none => none
  | some p => k p.1 p.2
theorem bnd_inv {α β : Type} {o : Option (α × Sto)} {k : α → Sto → Option β} {r : β} (h : bnd o k = some r) : ∃ a S, o = some (a, S) ∧ k a S = some r := by
  cases o with
  | none => cases h
  | some p => exact ⟨p.1, p.2, rfl, h⟩
section
variable (K : PySem.W.Frag) (mg : Str → Option Value)
def RE (te : TE) (f : DE) : Prop := ∀ (W : Wd) (σ : St) (s : Sl) (S : Sto) (d : DV) (S' : Sto) (Q : VK), Rep K mg W S → Slo K W σ s → f s S = some (d, S') →
  (∀ v W', Ext W W' → Rep K mg W' S' → Den K W' d v → Q v W'.H) → te σ W.H Q
def RA (ta : TA) (f : DA) : Prop := ∀ (W : Wd) (σ : St) (s : Sl) (S : Sto) (ds : List DV) (S' : Sto) (Q : List V → Hp → Prop), Rep K mg W S → Slo K W σ s → f s S = some (ds, S') →
  (∀ vs W', Ext W W' → Rep K mg W' S' → Dens K W' ds vs → Q vs W'.H) → ta σ W.H Q
def RT (tt : TT) (f : DT) : Prop := ∀ (W : Wd) (σ : St) (s : Sl) (S : Sto) (b : Bool) (S' : Sto) (Q : Bool → Hp → Prop), Rep K mg W S → Slo K W σ s → f s S = some (b, S') →
  (∀ W', Ext W W' → Rep K mg W' S' → Q b W'.H) → tt σ W.H Q
def RG (g : TG) (f : DG) : Prop := ∀ (W : Wd) (σ : St) (s : Sl) (S : Sto) (d : DV) (v : V) (s' : Sl) (S' : Sto) (Q : St → Hp → Prop), Rep K mg W S → Slo K W σ s → Den K W d v → f d s S = some (s', S') →
  (∀ σ' W', Ext W W' → Rep K mg W' S' → Slo K W' σ' s' → Q σ' W'.H) → g v σ W.H Q
def RGs (g : TGs) (f : DGs) : Prop := ∀ (W : Wd) (σ : St) (s : Sl) (S : Sto) (ds : List DV) (vs : List V) (s' : Sl) (S' : Sto) (Q : St → Hp → Prop), Rep K mg W S → Slo K W σ s → Dens K W ds vs → f ds s S = some (s', S') →
  (∀ σ' W', Ext W W' → Rep K mg W' S' → Slo K W' σ' s' → Q σ' W'.H) → g vs σ W.H Q
/-- two places, one place, an argument list: by values -/
def RO (r : R2) (g : DV → DV → Sto → Option (DV × Sto)) : Prop := ∀ (W : Wd) (S : Sto) (x y : DV) (v u : V) (d : DV) (S' : Sto) (Q : VK), Rep K mg W S → Den K W x v → Den K W y u → g x y S = some (d, S') →
  (∀ z W', Ext W W' → Rep K mg W' S' → Den K W' d z → Q z W'.H) → r v u W.H Q
def RU (r : V → Hp → VK → Prop) (g : DV → Sto → Option (DV × Sto)) : Prop := ∀ (W : Wd) (S : Sto) (x : DV) (v : V) (d : DV) (S' : Sto) (Q : VK), Rep K mg W S → Den K W x v → g x S = some (d, S') →
  (∀ z W', Ext W W' → Rep K mg W' S' → Den K W' d z → Q z W'.H) → r v W.H Q
def RC (r : List V → Hp → VK → Prop) (g : List DV → Sto → Option (DV × Sto)) : Prop := ∀ (W : Wd) (S : Sto) (xs : List DV) (vs : List V) (d : DV) (S' : Sto) (Q : VK), Rep K mg W S → Dens K W xs vs → g xs S = some (d, S') →
  (∀ z W', Ext W W' → Rep K mg W' S' → Den K W' d z → Q z W'.H) → r vs W.H Q
def RM (r : V → List V → Hp → VK → Prop) (g : DV → List DV → Sto → Option (DV × Sto)) : Prop := ∀ (W : Wd) (S : Sto) (x : DV) (xs : List DV) (v : V) (vs : List V) (d : DV) (S' : Sto) (Q : VK), Rep K mg W S → Den K W x v → Dens K W xs vs → g x xs S = some (d, S') →
  (∀ z W', Ext W W' → Rep K mg W' S' → Den K W' d z → Q z W'.H) → r v vs W.H Q
def Post (W : Wd) (D : Ends) : Res → Prop
  | .nx s S => ∀ σ' W', Ext W W' → Rep K mg W' S → Slo K W' σ' s → D.nx σ' W'.H
  | .rt d S => ∀ v W', Ext W W' → Rep K mg W' S → Den K W' d v → D.rt v W'.H
  | .bk s S => ∀ σ' W', Ext W W' → Rep K mg W' S → Slo K W' σ' s → D.bk σ' W'.H
  | .ct s S => ∀ σ' W', Ext W W' → Rep K mg W' S → Slo K W' σ' s → D.ct σ' W'.H
def RS (ts : TS) (f : DS) : Prop := ∀ (W : Wd) (σ : St) (s : Sl) (S : Sto) (r : Res) (D : Ends), Rep K mg W S → Slo K W σ s → f s S = some r → Post K mg W D r → ts D σ W.H
end
section
variable {K : PySem.W.Frag} {mg : Str → Option Value}
theorem Post.ext {W W' : Wd} {D : Ends} {r : Res} (e : Ext W W') (h : Post K mg W D r) : Post K mg W' D r := by
  cases r with
  | nx s S => exact fun σ' W'' e' => h σ' W'' (e.trans e')
  | rt d S => exact fun v W'' e' => h v W'' (e.trans e')
  | bk s S => exact fun σ' W'' e' => h σ' W'' (e.trans e')
  | ct s S => exact fun σ' W'' e' => h σ' W'' (e.trans e')

/-! ### expressions -/
variable {ta tb te tc : TE} {fa fb fc : DE} {taa : TA} {faa : DA} {tt tu : TT} {ft fu : DT} {i : Nat}
@[simp] def dVar (i : Nat) : DE := fun s S => match s[i]? with
  | some (some d) => some (d, S)
  | _ => none
theorem re_var : RE K mg (tVar i) (dVar i) := by
  intro W σ s S d S' Q R L h q
  unfold dVar at h
  split at h
  · rename_i d' e
    cases h
    obtain ⟨v, e1, e2⟩ := L.2 i _ e
    exact ⟨v, e1, q v W (Ext.refl W) R e2⟩
  · cases h
@[simp] def dC (d : DV) : DE := fun _ S => some (d, S)
theorem re_c {d : DV} {v : V} (hd : ∀ W, Den K W d v) : RE K mg (tC v) (dC d) := by
  intro W σ s S d S' Q R L h q
  cases h
  exact q v W (Ext.refl W) R (hd W)
theorem re_int {i : Int} : RE K mg (tC (.int i)) (dC (.int i)) := re_c fun _ => rfl
theorem re_bl {b : Bool} : RE K mg (tC (.bl b)) (dC (.bl b)) := re_c fun _ => rfl
theorem re_non : RE K mg (tC .non) (dC .non) := re_c fun _ => rfl
theorem re_str {x : Str} : RE K mg (tC (.str x)) (dC (.str x)) := re_c fun _ => rfl
@[simp] def dOp (g : DV → DV → Sto → Option (DV × Sto)) (f1 f2 : DE) : DE := fun s S => bnd (f1 s S) fun x S1 => bnd (f2 s S1) fun y S2 => g x y S2
theorem re_op {r : R2} {g : DV → DV → Sto → Option (DV × Sto)} (hr : RO K mg r g) (ha : RE K mg ta fa) (hb : RE K mg tb fb) : RE K mg (tOp r ta tb) (dOp g fa fb) := by
  intro W σ s S d S' Q R L h q
  obtain ⟨x, S1, e1, h⟩ := bnd_inv h
  obtain ⟨y, S2, e2, h⟩ := bnd_inv h
  refine ha W σ s S x S1 _ R L e1 fun v W1 x1 R1 d1 => ?_
  refine hb W1 σ s S1 y S2 _ R1 (L.ext x1) e2 fun u W2 x2 R2 d2 => ?_
  exact hr W2 S2 x y v u d S' Q R2 (d1.ext x2) d2 h fun z W3 x3 R3 d3 => q z W3 ((x1.trans x2).trans x3) R3 d3
@[simp] def dUn (g : DV → Sto → Option (DV × Sto)) (f : DE) : DE := fun s S => bnd (f s S) g
theorem re_un {r : V → Hp → VK → Prop} {g : DV → Sto → Option (DV × Sto)} (hr : RU K mg r g) (ha : RE K mg ta fa) : RE K mg (tUn r ta) (dUn g fa) := by
  intro W σ s S d S' Q R L h q
  obtain ⟨x, S1, e1, h⟩ := bnd_inv h
  refine ha W σ s S x S1 _ R L e1 fun v W1 x1 R1 d1 => ?_
  exact hr W1 S1 x v d S' Q R1 d1 h fun z W3 x3 R3 d3 => q z W3 (x1.trans x3) R3 d3
@[simp] def dNil : DA := fun _ S => some ([], S)
@[simp] def dCons (f : DE) (g : DA) : DA := fun s S => bnd (f s S) fun x S1 => bnd (g s S1) fun xs S2 => some (x :: xs, S2)
theorem ra_nil : RA K mg tNil dNil := by
  intro W σ s S ds S' Q R L h q
  cases h
  exact q [] W (Ext.refl W) R rfl
theorem ra_cons (ha : RE K mg ta fa) (hr : RA K mg taa faa) : RA K mg (tCons ta taa) (dCons fa faa) := by
  intro W σ s S ds S' Q R L h q
  obtain ⟨x, S1, e1, h⟩ := bnd_inv h
  obtain ⟨xs, S2, e2, h⟩ := bnd_inv h
  cases h
  refine ha W σ s S x S1 _ R L e1 fun v W1 x1 R1 d1 => ?_
  refine hr W1 σ s _ xs _ _ R1 (L.ext x1) e2 fun vs W2 x2 R2 d2 => ?_
  exact q (v :: vs) W2 (x1.trans x2) R2 ⟨v, vs, rfl, d1.ext x2, d2⟩
theorem lim_le {n : Nat} (h : n ≤ 100000) : n ≤ sizeLine := by rw [sizeLine_eq]; omega
theorem lim_lt {n : Nat} (h : n < 100000) : n < sizeLine := by rw [sizeLine_eq]; omega
open Classical in
/-- only where p holds -/
@[irreducible] noncomputable def gate {α : Type} (p : Prop) (k : Option α) : Option α := if p then k else none
theorem gate_inv {α : Type} {p : Prop} {k : Option α} {r : α} (h : gate p k = some r) : p ∧ k = some r := by
  unfold gate at h
  split at h
  · rename_i hp
    exact ⟨hp, h⟩
  · cases h
@[simp] theorem gate_ok {α : Type} {p : Prop} {k : Option α} (h : p) : gate p k = k := by
  unfold gate
  rw [if_pos h]
@[simp] noncomputable def dTup (f : DA) : DE := fun s S => bnd (f s S) fun xs S1 => gate (xs.length ≤ 100000) (some (.tup xs, S1))
theorem re_tup (h : RA K mg taa faa) : RE K mg (tTup taa) (dTup faa) := by
  intro W σ s S d S' Q R L e q
  obtain ⟨xs, S1, e1, e⟩ := bnd_inv e
  obtain ⟨hl, e⟩ := gate_inv e
  cases e
  refine h W σ s S xs _ _ R L e1 fun vs W1 x1 R1 d1 => ⟨by rw [d1.len]; exact lim_le hl, fun p hp => ?_⟩
  obtain ⟨W2, e2, x2, R2, d2⟩ := newT_ok R1 hp d1
  rw [← e2]
  exact q _ W2 (x1.trans x2) R2 d2
@[simp] noncomputable def dLst (m : Bool) (f : DA) : DE := fun s S => bnd (f s S) fun xs S1 => gate (xs.length ≤ 100000) (some (newL m xs S1))
theorem re_lst {m : Bool} (h : RA K mg taa faa) : RE K mg (tLst taa) (dLst m faa) := by
  intro W σ s S d S' Q R L e q
  obtain ⟨xs, S1, e1, e⟩ := bnd_inv e
  obtain ⟨hl, e⟩ := gate_inv e
  refine h W σ s S xs S1 _ R L e1 fun vs W1 x1 R1 d1 => ⟨by rw [d1.len]; exact lim_le hl, fun p hp => ?_⟩
  obtain ⟨W2, e2, x2, R2, d2⟩ := newL_ok R1 hp d1 (Option.some.inj e)
  rw [← e2]
  exact q _ W2 (x1.trans x2) R2 d2

/-! ### tests -/
@[simp] def dTest (f : DE) : DT := fun s S => bnd (f s S) fun x S1 => match x with
  | .bl b => some (b, S1)
  | _ => none
theorem rt_test (h : RE K mg te fa) : RT K mg (tTest te) (dTest fa) := by
  intro W σ s S b S' Q R L e q
  obtain ⟨x, S1, e1, e⟩ := bnd_inv e
  split at e
  · cases e
    exact h W σ s S _ _ _ R L e1 fun v W1 x1 R1 d1 => ⟨_, (show v = _ from d1), q W1 x1 R1⟩
  · cases e
theorem rt_B (h : RE K mg te fa) : RT K mg (tB te) (dTest fa) := rt_test h
@[simp] def dAnd (f g : DT) : DT := fun s S => bnd (f s S) fun b S1 => if b then g s S1 else some (false, S1)
@[simp] def dOr (f g : DT) : DT := fun s S => bnd (f s S) fun b S1 => if b then some (true, S1) else g s S1
@[simp] def dNot (f : DT) : DT := fun s S => bnd (f s S) fun b S1 => some (!b, S1)
theorem rt_and (h1 : RT K mg tt ft) (h2 : RT K mg tu fu) : RT K mg (tAnd tt tu) (dAnd ft fu) := by
  intro W σ s S b S' Q R L e q
  obtain ⟨x, S1, e1, e⟩ := bnd_inv e
  refine h1 W σ s S x S1 _ R L e1 fun W1 x1 R1 => ?_
  cases x with
  | true => exact iteT (h2 W1 σ s S1 b S' _ R1 (L.ext x1) e fun W2 x2 R2 => q W2 (x1.trans x2) R2)
  | false =>
    cases e
    exact iteF (q W1 x1 R1)
theorem rt_or (h1 : RT K mg tt ft) (h2 : RT K mg tu fu) : RT K mg (tOr tt tu) (dOr ft fu) := by
  intro W σ s S b S' Q R L e q
  obtain ⟨x, S1, e1, e⟩ := bnd_inv e
  refine h1 W σ s S x S1 _ R L e1 fun W1 x1 R1 => ?_
  cases x with
  | false => exact iteF (h2 W1 σ s S1 b S' _ R1 (L.ext x1) e fun W2 x2 R2 => q W2 (x1.trans x2) R2)
  | true =>
    cases e
    exact iteT (q W1 x1 R1)
theorem rt_not (h1 : RT K mg tt ft) : RT K mg (tNot tt) (dNot ft) := by
  intro W σ s S b S' Q R L e q
  obtain ⟨x, S1, e1, e⟩ := bnd_inv e
  cases e
  exact h1 W σ s S x _ _ R L e1 fun W1 x1 R1 => q W1 x1 R1
@[simp] def dAndV (f g : DE) : DE := fun s S => bnd (f s S) fun x S1 => match x with
  | .bl true => g s S1
  | .bl false => some (.bl false, S1)
  | _ => none
@[simp] def dOrV (f g : DE) : DE := fun s S => bnd (f s S) fun x S1 => match x with
  | .bl true => some (.bl true, S1)
  | .bl false => g s S1
  | _ => none
@[simp] def dNotV (f : DE) : DE := fun s S => bnd (f s S) fun x S1 => match x with
  | .bl b => some (.bl (!b), S1)
  | _ => none
@[simp] def dIf (t : DT) (f g : DE) : DE := fun s S => bnd (t s S) fun b S1 => if b then f s S1 else g s S1
theorem re_if (ht : RT K mg tt ft) (ha : RE K mg ta fa) (hb : RE K mg tb fb) : RE K mg (tIf tt ta tb) (dIf ft fa fb) := by
  intro W σ s S d S' Q R L e q
  obtain ⟨b, S1, e1, e⟩ := bnd_inv e
  refine ht W σ s S b S1 _ R L e1 fun W1 x1 R1 => ?_
  cases b with
  | true => exact iteT (ha W1 σ s S1 d S' _ R1 (L.ext x1) e fun z W2 x2 R2 d2 => q z W2 (x1.trans x2) R2 d2)
  | false => exact iteF (hb W1 σ s S1 d S' _ R1 (L.ext x1) e fun z W2 x2 R2 d2 => q z W2 (x1.trans x2) R2 d2)
/-- a chain of two comparisons -/
@[simp] def dChain (g g' : DV → DV → Sto → Option (DV × Sto)) (f1 f2 f3 : DE) : DE := fun s S => bnd (f1 s S) fun x S1 => bnd (f2 s S1) fun y S2 => bnd (g x y S2) fun z S3 => match z with
  | .bl true => bnd (f3 s S3) fun w S4 => g' y w S4
  | .bl false => some (.bl false, S3)
  | _ => none
/-! ### calls by values -/
@[simp] def dCB (g : List DV → Sto → Option (DV × Sto)) (f : DA) : DE := fun s S => bnd (f s S) g
theorem re_CB {r : List V → Hp → VK → Prop} {g : List DV → Sto → Option (DV × Sto)} (hr : RC K mg r g) (h : RA K mg taa faa) : RE K mg (tCB r taa) (dCB g faa) := by
  intro W σ s S d S' Q R L e q
  obtain ⟨xs, S1, e1, e⟩ := bnd_inv e
  refine h W σ s S xs S1 _ R L e1 fun vs W1 x1 R1 d1 => ?_
  exact hr W1 S1 xs vs d S' Q R1 d1 e fun z W3 x3 R3 d3 => q z W3 (x1.trans x3) R3 d3
/-- a method of a built-in type -/
@[simp] def dBM (T : String) (g : DV → List DV → Sto → Option (DV × Sto)) (f : DE) (fs : DA) : DE := fun s S => bnd (f s S) fun x S1 =>
  if T = "list" ∧ (rdL S1 x).isSome = true then bnd (fs s S1) fun xs S2 => g x xs S2 else none
theorem re_BM {r : V → List V → Hp → VK → Prop} {g : DV → List DV → Sto → Option (DV × Sto)} {T : String} (hr : RM K mg r g) (ho : RE K mg te fa) (h : RA K mg taa faa) : RE K mg (tBM K T r te taa) (dBM T g fa faa) := by
  intro W σ s S d S' Q R L e q
  obtain ⟨x, S1, e1, e⟩ := bnd_inv e
  split at e
  · rename_i hT
    obtain ⟨xs, S2, e2, e⟩ := bnd_inv e
    refine ho W σ s S x S1 _ R L e1 fun v W1 x1 R1 d1 => ⟨?_, ?_⟩
    · obtain ⟨ds, hd⟩ := Option.isSome_iff_exists.mp hT.2
      obtain ⟨a, vs, rfl, h1, _⟩ := rdL_ok R1 d1 hd
      exact .inl ⟨hT.1, vs, h1⟩
    · refine h W1 σ s S1 xs S2 _ R1 (L.ext x1) e2 fun vs W2 x2 R2 d2 => ?_
      exact hr W2 S2 x xs v vs d S' Q R2 (d1.ext x2) d2 e fun z W3 x3 R3 d3 => q z W3 ((x1.trans x2).trans x3) R3 d3
  · cases e
@[simp] def dBM0 (T : String) (g : DV → List DV → Sto → Option (DV × Sto)) (f : DE) : DE := fun s S => bnd (f s S) fun x S1 =>
  if T = "list" ∧ (rdL S1 x).isSome = true then g x [] S1 else none
theorem re_BM0 {r : V → List V → Hp → VK → Prop} {g : DV → List DV → Sto → Option (DV × Sto)} {T : String} (hr : RM K mg r g) (ho : RE K mg te fa) : RE K mg (tBM0 K T r te) (dBM0 T g fa) := by
  intro W σ s S d S' Q R L e q
  obtain ⟨x, S1, e1, e⟩ := bnd_inv e
  split at e
  · rename_i hT
    refine ho W σ s S x S1 _ R L e1 fun v W1 x1 R1 d1 => ⟨?_, ?_⟩
    · obtain ⟨ds, hd⟩ := Option.isSome_iff_exists.mp hT.2
      obtain ⟨a, vs, rfl, h1, _⟩ := rdL_ok R1 d1 hd
      exact .inl ⟨hT.1, vs, h1⟩
    · exact hr W1 S1 x [] v [] d S' Q R1 d1 rfl e fun z W3 x3 R3 d3 => q z W3 (x1.trans x3) R3 d3
  · cases e

/-! ### a def's promise -/
def spF (K : PySem.W.Frag) (mg : Str → Option Value) (n : Nat) (g : List DV → Sto → Option (DV × Sto)) : Sp := fun vs H Q _ => vs.length = n ∧ ∃ (W : Wd) (S : Sto) (ds : List DV) (d : DV) (S' : Sto), W.H = H ∧ Rep K mg W S ∧ Dens K W ds vs ∧ g ds S = some (d, S') ∧
  ∀ v W', Ext W W' → Rep K mg W' S' → Den K W' d v → Q v W'.H
/-- a call: the defaults behind -/
@[simp] def dCall (n : Nat) (g : List DV → Sto → Option (DV × Sto)) (dd : List DV) (f : DA) : DE := fun s S => bnd (f s S) fun xs S1 => if (xs ++ dd).length = n then g (xs ++ dd) S1 else none
theorem re_call {n : Nat} {g : List DV → Sto → Option (DV × Sto)} {dd : List DV} {dvs : List V} {E : XK} (hd : ∀ W, Dens K W dd dvs) (h : RA K mg taa faa) : RE K mg (tCall (spF K mg n g) dvs E taa) (dCall n g dd faa) := by
  intro W σ s S d S' Q R L e q
  obtain ⟨xs, S1, e1, e⟩ := bnd_inv e
  split at e
  · rename_i hl
    refine h W σ s S xs S1 _ R L e1 fun vs W1 x1 R1 d1 => ?_
    have da := d1.app (hd W1)
    exact ⟨by rw [da.len]; exact hl, W1, S1, _, d, S', rfl, R1, da, e, fun v W' x' R' d' => q v W' (x1.trans x') R' d'⟩
  · cases e
theorem re_call0 {n : Nat} {g : List DV → Sto → Option (DV × Sto)} {E : XK} (h : RA K mg taa faa) : RE K mg (tCall (spF K mg n g) [] E taa) (dCall n g [] faa) := re_call (fun _ => rfl) h
/-- with keywords: G tells the order -/
@[simp] def dCallK (n : Nat) (g : List DV → Sto → Option (DV × Sto)) (G : List DV → List DV → List DV) (f fk : DA) : DE := fun s S => bnd (f s S) fun xs S1 => bnd (fk s S1) fun ys S2 => if (G xs ys).length = n then g (G xs ys) S2 else none
end

/-! ### statements -/
@[simp] def kNx (r : Res) (g : DS) : Option Res := match r with
  | .nx s S => g s S
  | r => some r
@[simp] def dSeq (f g : DS) : DS := fun s S => match f s S with
  | none => none
  | some r => kNx r g
@[simp] def dNext : DS := fun s S => some (.nx s S)
@[simp] def dIfS (t : DT) (f g : DS) : DS := fun s S => bnd (t s S) fun b S1 => if b then f s S1 else g s S1
@[simp] def dRet (f : DE) : DS := fun s S => bnd (f s S) fun d S1 => some (.rt d S1)
@[simp] def dRetN : DS := fun _ S => some (.rt .non S)
@[simp] def dDrop (f : DE) : DS := fun s S => bnd (f s S) fun _ S1 => some (.nx s S1)
@[simp] def dBreak : DS := fun s S => some (.bk s S)
@[simp] def dCont : DS := fun s S => some (.ct s S)
@[simp] def dNever : DS := fun _ _ => none
@[simp] def dName (i : Nat) : DG := fun d s S => some (s.set i (some d), S)
@[simp] def dGNil : DGs := fun ds s S => match ds with
  | [] => some (s, S)
  | _ => none
@[simp] def dGCons (f : DG) (g : DGs) : DGs := fun ds s S => match ds with
  | [] => none
  | d :: r => match f d s S with
    | none => none
    | some p => g r p.1 p.2
@[simp] def dGTup (n : Nat) (g : DGs) : DG := fun d s S => match d with
  | .tup ds => if ds.length = n then g ds s S else none
  | _ => none
@[simp] def dAsg (f : DE) (g : DG) : DS := fun s S => bnd (f s S) fun d S1 => match g d s S1 with
  | none => none
  | some p => some (.nx p.1 p.2)
@[simp] def dPar (i j : Nat) (f : DA) : DS := fun s S => bnd (f s S) fun ds S1 => match ds with
  | [d, e] => some (.nx ((s.set i (some d)).set j (some e)) S1)
  | _ => none
@[simp] def dAug (i : Nat) (f : DE) (g : DV → DV → Sto → Option (DV × Sto)) : DS := fun s S => match s[i]? with
  | some (some x) => bnd (f s S) fun y S1 => bnd (g x y S1) fun z S2 => some (.nx (s.set i (some z)) S2)
  | _ => none
def setL (o i v : DV) (S : Sto) : Option Sto := match o, i with
  | .ptr n, .int k => match S[n]? with
    | some (.ml ds) => match ixN ds.length k with
      | some j => some (S.set n (.ml (ds.set j v)))
      | none => none
    | _ => none
  | _, _ => none
@[simp] def dSub (f g : DE) : DG := fun v s S => bnd (f s S) fun o S1 => bnd (g s S1) fun i S2 => match setL o i v S2 with
  | none => none
  | some S3 => some (s, S3)
section
variable {K : PySem.W.Frag} {mg : Str → Option Value}
variable {te ta tb : TE} {fe fa fb : DE} {tt : TT} {ft : DT} {t u : TS} {f g : DS} {taa : TA} {faa : DA} {i j n : Nat} {tg : TG} {fg : DG} {tgs : TGs} {fgs : DGs}
theorem rs_seq (h1 : RS K mg t f) (h2 : RS K mg u g) : RS K mg (tSeq t u) (dSeq f g) := by
  intro W σ s S r D R L e P
  unfold dSeq at e
  split at e
  · cases e
  · rename_i r1 e1
    refine h1 W σ s S r1 { D with nx := u D } R L e1 ?_
    cases r1 with
    | nx s1 S1 => exact fun σ1 W1 x1 R1 L1 => h2 W1 σ1 s1 S1 r D R1 L1 e (P.ext x1)
    | rt d S1 =>
      cases e
      exact P
    | bk s1 S1 =>
      cases e
      exact P
    | ct s1 S1 =>
      cases e
      exact P
theorem rs_next : RS K mg tNext dNext := by
  intro W σ s S r D R L e P
  cases e
  exact P σ W (Ext.refl W) R L
theorem rs_if (ht : RT K mg tt ft) (h1 : RS K mg t f) (h2 : RS K mg u g) : RS K mg (tIfS tt t u) (dIfS ft f g) := by
  intro W σ s S r D R L e P
  obtain ⟨b, S1, e1, e⟩ := bnd_inv e
  refine ht W σ s S b S1 _ R L e1 fun W1 x1 R1 => ?_
  cases b with
  | true => exact iteT (h1 W1 σ s S1 r D R1 (L.ext x1) e (P.ext x1))
  | false => exact iteF (h2 W1 σ s S1 r D R1 (L.ext x1) e (P.ext x1))
theorem rs_ret (h : RE K mg te fe) : RS K mg (tRet te) (dRet fe) := by
  intro W σ s S r D R L e P
  obtain ⟨d, S1, e1, e⟩ := bnd_inv e
  cases e
  exact h W σ s S d S1 _ R L e1 fun v W1 x1 R1 d1 => P v W1 x1 R1 d1
theorem rs_drop (h : RE K mg te fe) : RS K mg (tDrop te) (dDrop fe) := by
  intro W σ s S r D R L e P
  obtain ⟨d, S1, e1, e⟩ := bnd_inv e
  cases e
  exact h W σ s S d S1 _ R L e1 fun v W1 x1 R1 d1 => P σ W1 x1 R1 (L.ext x1)
theorem rs_never : RS K mg tNever dNever := by
  intro W σ s S r D R L e P
  cases e
theorem rg_name : RG K mg (gName i) (dName i) := by
  intro W σ s S d v s' S' Q R L hd e q
  cases e
  exact q _ W (Ext.refl W) R (L.set i hd)
theorem rgs_nil : RGs K mg gNil dGNil := by
  intro W σ s S ds vs s' S' Q R L hd e q
  unfold dGNil at e
  split at e
  · cases e
    exact ⟨hd, q σ W (Ext.refl W) R L⟩
  · cases e
theorem rgs_cons (h1 : RG K mg tg fg) (h2 : RGs K mg tgs fgs) : RGs K mg (gCons tg tgs) (dGCons fg fgs) := by
  intro W σ s S ds vs s' S' Q R L hd e q
  unfold dGCons at e
  split at e
  · cases e
  · rename_i d r
    split at e
    · cases e
    · rename_i p e1
      obtain ⟨v, us, rfl, d1, d2⟩ := hd
      refine ⟨v, us, rfl, h1 W σ s S d v p.1 p.2 _ R L d1 e1 fun σ1 W1 x1 R1 L1 => ?_⟩
      exact h2 W1 σ1 p.1 p.2 r us s' S' Q R1 L1 (Dens.ext x1 _ _ d2) e fun σ2 W2 x2 R2 L2 => q σ2 W2 (x1.trans x2) R2 L2
theorem rg_tup (h : RGs K mg tgs fgs) : RG K mg (gTup K n tgs) (dGTup n fgs) := by
  intro W σ s S d v s' S' Q R L hd e q
  unfold dGTup at e
  split at e
  · rename_i ds
    split at e
    · rename_i hl
      obtain ⟨a, vs, rfl, h1, h2⟩ := hd
      exact ⟨a, vs, rfl, h1.1, by rw [h2.len]; exact hl, h W σ s S ds vs s' S' Q R L h2 e q⟩
    · cases e
  · cases e
theorem rs_asg (h : RE K mg te fe) (hg : RG K mg tg fg) : RS K mg (tAsg te tg) (dAsg fe fg) := by
  intro W σ s S r D R L e P
  obtain ⟨d, S1, e1, e⟩ := bnd_inv e
  split at e
  · cases e
  · rename_i p e2
    cases e
    refine h W σ s S d S1 _ R L e1 fun v W1 x1 R1 d1 => ?_
    exact hg W1 σ s S1 d v p.1 p.2 _ R1 (L.ext x1) d1 e2 fun σ2 W2 x2 R2 L2 => P σ2 W2 (x1.trans x2) R2 L2
theorem rs_par (h : RA K mg taa faa) : RS K mg (tPar i j taa) (dPar i j faa) := by
  intro W σ s S r D R L e P
  obtain ⟨ds, S1, e1, e⟩ := bnd_inv e
  split at e
  · rename_i d d'
    cases e
    refine h W σ s S _ S1 _ R L e1 fun vs W1 x1 R1 h1 => ?_
    obtain ⟨v, r, rfl, d1, v', r', rfl, d2, h3⟩ := h1
    cases (show r' = [] from h3)
    exact ⟨v, v', rfl, P _ W1 x1 R1 (((L.ext x1).set i d1).set j d2)⟩
  · cases e
theorem rg_sub (ho : RE K mg ta fa) (hi : RE K mg tb fb) : RG K mg (gSub ta tb rSetL) (dSub fa fb) := by
  intro W σ s S d v s' S' Q R L hd e q
  obtain ⟨o, S1, e1, e⟩ := bnd_inv e
  obtain ⟨k, S2, e2, e⟩ := bnd_inv e
  split at e
  · cases e
  · rename_i S3 e3
    cases e
    refine ho W σ s S o S1 _ R L e1 fun ov W1 x1 R1 d1 => ?_
    refine hi W1 σ s S1 k S2 _ R1 (L.ext x1) e2 fun iv W2 x2 R2 d2 => ?_
    unfold setL at e3
    split at e3
    · rename_i n kk
      split at e3
      · rename_i ds hn
        split at e3
        · rename_i j hj
          cases e3
          obtain ⟨a, rfl, ha, hm, vs, h1, h2⟩ := ptr_ok R2 (d1.ext x2) hn
          refine ⟨a, vs, kk, j, rfl, d2, h1, by rw [h2.len]; exact hj, ?_⟩
          have xp := ext_put (o := HO.lst (vs.set j v)) R2 hm
          refine q σ (W2.put a (.lst (vs.set j v))) ((x1.trans x2).trans xp) (rep_put R2 ha ⟨vs.set j v, upd_same, Dens.set j (Dens.ext xp _ _ h2) (((hd.ext x1).ext x2).ext xp)⟩) (L.ext ((x1.trans x2).trans xp))
        · cases e3
      · cases e3
    · cases e3
end
end DL
end
section
/-! zip of three lists -/
namespace DL
open PySem PySem.Spec PyProof.Rows L2
/-- the lists at a, b, c as they stand at each turn, the items in new tuples of three; it ends where the first one does -/
def Itz3 (K : PySem.W.Frag) (a b c : Addr) : It :=
  ⟨fun i H => ∃ (xs ys zs : List V) (x y z : V), SqL K H a xs ∧ SqL K H b ys ∧ SqL K H c zs ∧ xs[i]? = some x ∧ ys[i]? = some y ∧ zs[i]? = some z,
    fun i H v H' => ∃ T x y z, v = .ref T ∧ H T = none ∧ H' = upd H T (.tup [x, y, z]) ∧ (∀ xs, SqL K H a xs → xs[i]? = some x) ∧ (∀ ys, SqL K H b ys → ys[i]? = some y) ∧ ∀ zs, SqL K H c zs → zs[i]? = some z,
    fun i H => ∃ xs ys zs : List V, SqL K H a xs ∧ SqL K H b ys ∧ SqL K H c zs ∧ i ≤ xs.length ∧ i ≤ ys.length ∧ i ≤ zs.length ∧ (i = xs.length ∨ i = ys.length ∨ i = zs.length)⟩
end DL
end
section
namespace DL
open PySem L2

/-! ### what a loop goes over -/
inductive DIt where
  | li (d : DV)
  | tu (d : DV)
  | rg (lo : Int) (n : Nat)
  | en (d : DV)
  | zp (d e : DV)
  | zt (d e : DV)
  | z3 (d e f : DV)
  | em (d : DV)
  | ki (fs : List (Int × DV))
/-- a tuple without items -/
def IteE (K : PySem.W.Frag) (a : Addr) : It := ⟨fun _ _ => False, fun _ _ _ _ => False, fun _ H => SqT K H a []⟩
def itemAt (it : DIt) (S : Sto) (i : Nat) : Option (Option DV) := match it with
  | .li d => match rdL S d with
    | some ds => some ds[i]?
    | none => none
  | .tu d => match rdT d with
    | some ds => some ds[i]?
    | none => none
  | .rg lo n => some (if i < n then some (.int (lo + i)) else none)
  | .en d => match rdL S d with
    | some ds => some (match ds[i]? with
      | some x => some (.tup [.int (i : Nat), x])
      | none => none)
    | none => none
  | .zp d e => match rdL S d, rdL S e with
    | some xs, some ys => some (match xs[i]?, ys[i]? with
      | some x, some y => some (.tup [x, y])
      | _, _ => none)
    | _, _ => none
  | .zt d e => match rdT d, rdT e with
    | some xs, some ys => some (match xs[i]?, ys[i]? with
      | some x, some y => some (.tup [x, y])
      | _, _ => none)
    | _, _ => none
  | .z3 d e f => match rdL S d, rdL S e, rdL S f with
    | some xs, some ys, some zs => if i ≤ xs.length ∧ i ≤ ys.length ∧ i ≤ zs.length then some (match xs[i]?, ys[i]?, zs[i]? with
      | some x, some y, some z => some (.tup [x, y, z])
      | _, _, _ => none) else none
    | _, _, _ => none
  | .em d => match rdT d with
    | some [] => some none
    | _ => none
  | .ki fs => some (fs[i]?.map fun p => .tup [.int p.1, p.2])
def itLen (it : DIt) (S : Sto) : Nat := match it with
  | .li d => match rdL S d with
    | some ds => ds.length
    | none => 0
  | .tu d => match rdT d with
    | some ds => ds.length
    | none => 0
  | .rg _ n => n
  | .en d => match rdL S d with
    | some ds => ds.length
    | none => 0
  | .zp d _ => match rdL S d with
    | some ds => ds.length
    | none => 0
  | .zt d _ => match rdT d with
    | some ds => ds.length
    | none => 0
  | .z3 d _ _ => match rdL S d with
    | some ds => ds.length
    | none => 0
  | .em _ => 0
  | .ki fs => fs.length
abbrev DI := Sl → Sto → Option (DIt × Sto)
section
variable (K : PySem.W.Frag) (mg : Str → Option Value)
def ItDen (W : Wd) : DIt → It → Prop
  | .li d, J => ∃ a, Den K W d (.ref a) ∧ J = Itl K a
  | .tu d, J => ∃ a, Den K W d (.ref a) ∧ J = Itt K a
  | .rg lo n, J => J = Itr lo n
  | .en d, J => ∃ a, Den K W d (.ref a) ∧ J = Ite K a
  | .zp d e, J => ∃ a b, Den K W d (.ref a) ∧ Den K W e (.ref b) ∧ J = Itz K a b
  | .zt d e, J => ∃ a b, Den K W d (.ref a) ∧ Den K W e (.ref b) ∧ J = RZ.ItzT K a b
  | .z3 d e f, J => ∃ a b c, Den K W d (.ref a) ∧ Den K W e (.ref b) ∧ Den K W f (.ref c) ∧ J = Itz3 K a b c
  | .em d, J => ∃ a, Den K W d (.ref a) ∧ J = IteE K a
  | .ki fs, J => ∃ a o kvs, W.P a ∧ W.H a = some (.frz o (.dK kvs)) ∧ DiR K W fs kvs ∧ J = Iti a o kvs
def RI (wi : TI) (f : DI) : Prop := ∀ (W : Wd) (σ : St) (s : Sl) (S : Sto) (it : DIt) (S' : Sto) (R : It → Hp → Prop), Rep K mg W S → Slo K W σ s → f s S = some (it, S') →
  (∀ J W', Ext W W' → Rep K mg W' S' → ItDen K W' it J → R J W'.H) → wi σ W.H R
end
section
variable {K : PySem.W.Frag} {mg : Str → Option Value} {W W' : Wd} {S : Sto}
theorem ItDen.ext0 (e : Ex0 W W') {it : DIt} {J : It} (h : ItDen K W it J) : ItDen K W' it J := by
  cases it with
  | li d =>
    obtain ⟨a, h, q⟩ := h
    exact ⟨a, Den.ext0 e _ _ h, q⟩
  | tu d =>
    obtain ⟨a, h, q⟩ := h
    exact ⟨a, Den.ext0 e _ _ h, q⟩
  | rg lo n => exact h
  | en d =>
    obtain ⟨a, h, q⟩ := h
    exact ⟨a, Den.ext0 e _ _ h, q⟩
  | zp d f =>
    obtain ⟨a, b, h, h', q⟩ := h
    exact ⟨a, b, Den.ext0 e _ _ h, Den.ext0 e _ _ h', q⟩
  | zt d f =>
    obtain ⟨a, b, h, h', q⟩ := h
    exact ⟨a, b, Den.ext0 e _ _ h, Den.ext0 e _ _ h', q⟩
  | z3 d f g =>
    obtain ⟨a, b, c, h, h', h'', q⟩ := h
    exact ⟨a, b, c, Den.ext0 e _ _ h, Den.ext0 e _ _ h', Den.ext0 e _ _ h'', q⟩
  | em d =>
    obtain ⟨a, h, q⟩ := h
    exact ⟨a, Den.ext0 e _ _ h, q⟩
  | ki fs =>
    obtain ⟨a, o, kvs, h1, h2, h3, q⟩ := h
    exact ⟨a, o, kvs, e.p _ h1, e.hp _ _ h1 h2, DiR.ext0 e h3, q⟩
theorem rdL_ref {d : DV} {a : Addr} {ds : List DV} (R : Rep K mg W S) (h : Den K W d (.ref a)) (e : rdL S d = some ds) : ∃ vs, SqL K W.H a vs ∧ Dens K W ds vs := by
  obtain ⟨b, vs, q, h1, h2⟩ := rdL_ok R h e
  cases q
  exact ⟨vs, h1, h2⟩
theorem rdT_ref {d : DV} {a : Addr} {ds : List DV} (h : Den K W d (.ref a)) (e : rdT d = some ds) : ∃ vs, SqT K W.H a vs ∧ Dens K W ds vs := by
  obtain ⟨b, vs, q, h1, h2⟩ := rdT_ok h e
  cases q
  exact ⟨vs, h1, h2⟩
theorem DiR.len : ∀ {fs : List (Int × DV)} {vs : List (Key × V)}, DiR K W fs vs → vs.length = fs.length
  | [], _, h => by
    cases (show _ = [] from h)
    rfl
  | p :: fs, _, h => by
    obtain ⟨u, r, rfl, _, h2⟩ := h
    simp [DiR.len h2]
theorem DiR.get {p : Int × DV} : ∀ {fs : List (Int × DV)} {vs : List (Key × V)} {i : Nat}, DiR K W fs vs → fs[i]? = some p → ∃ v, vs[i]? = some ((Sum.inl p.1 : Key), v) ∧ Den K W p.2 v
  | [], _, _, _, e => by cases e
  | q :: fs, _, 0, h, e => by
    obtain ⟨u, r, rfl, h1, _⟩ := h
    cases e
    exact ⟨u, rfl, h1⟩
  | q :: fs, _, i + 1, h, e => by
    obtain ⟨u, r, rfl, _, h2⟩ := h
    exact DiR.get (i := i) h2 e
theorem item_stop {it : DIt} {J : It} {i : Nat} (R : Rep K mg W S) (h : ItDen K W it J) (e : itemAt it S i = some none) : J.stop i W.H := by
  cases it with
  | li d =>
    obtain ⟨a, h, rfl⟩ := h
    simp only [itemAt] at e
    split at e
    · rename_i ds e1
      obtain ⟨vs, h1, h2⟩ := rdL_ref R h e1
      refine ⟨vs, h1, ?_⟩
      rw [h2.len]
      exact List.getElem?_eq_none_iff.mp (Option.some.inj e)
    · cases e
  | tu d =>
    obtain ⟨a, h, rfl⟩ := h
    simp only [itemAt] at e
    split at e
    · rename_i ds e1
      obtain ⟨vs, h1, h2⟩ := rdT_ref h e1
      refine ⟨vs, h1, ?_⟩
      rw [h2.len]
      exact List.getElem?_eq_none_iff.mp (Option.some.inj e)
    · cases e
  | rg lo n =>
    cases (show J = Itr lo n from h)
    simp only [itemAt] at e
    show n ≤ i
    by_cases hi : i < n
    · rw [if_pos hi] at e
      cases e
    · omega
  | en d =>
    obtain ⟨a, h, rfl⟩ := h
    simp only [itemAt] at e
    split at e
    · rename_i ds e1
      obtain ⟨vs, h1, h2⟩ := rdL_ref R h e1
      refine ⟨vs, h1, ?_⟩
      rw [h2.len]
      cases q : ds[i]? with
      | none => exact List.getElem?_eq_none_iff.mp q
      | some x =>
        rw [q] at e
        cases e
    · cases e
  | zp d f =>
    obtain ⟨a, b, h, h', rfl⟩ := h
    simp only [itemAt] at e
    split at e
    · rename_i xs ys e1 e2
      obtain ⟨vs, h1, h2⟩ := rdL_ref R h e1
      obtain ⟨us, h3, h4⟩ := rdL_ref R h' e2
      refine ⟨vs, us, h1, h3, ?_⟩
      rw [h2.len, h4.len]
      cases q : xs[i]? with
      | none => exact .inl (List.getElem?_eq_none_iff.mp q)
      | some x =>
        cases q' : ys[i]? with
        | none => exact .inr (List.getElem?_eq_none_iff.mp q')
        | some y =>
          rw [q, q'] at e
          cases e
    · cases e
  | z3 d f g =>
    obtain ⟨a, b, c, h, h', h'', rfl⟩ := h
    simp only [itemAt] at e
    split at e
    · rename_i xs ys zs e1 e2 e3
      obtain ⟨vs, h1, h2⟩ := rdL_ref R h e1
      obtain ⟨us, h3, h4⟩ := rdL_ref R h' e2
      obtain ⟨ws, h5, h6⟩ := rdL_ref R h'' e3
      split at e
      · rename_i hl
        refine ⟨vs, us, ws, h1, h3, h5, by rw [h2.len]; exact hl.1, by rw [h4.len]; exact hl.2.1, by rw [h6.len]; exact hl.2.2, ?_⟩
        rw [h2.len, h4.len, h6.len]
        cases q : xs[i]? with
        | none => exact .inl (Nat.le_antisymm hl.1 (List.getElem?_eq_none_iff.mp q))
        | some x =>
          cases q' : ys[i]? with
          | none => exact .inr (.inl (Nat.le_antisymm hl.2.1 (List.getElem?_eq_none_iff.mp q')))
          | some y =>
            cases q'' : zs[i]? with
            | none => exact .inr (.inr (Nat.le_antisymm hl.2.2 (List.getElem?_eq_none_iff.mp q'')))
            | some z =>
              rw [q, q', q''] at e
              cases e
      · cases e
    · cases e
  | zt d f =>
    obtain ⟨a, b, h, h', rfl⟩ := h
    simp only [itemAt] at e
    split at e
    · rename_i xs ys e1 e2
      obtain ⟨vs, h1, h2⟩ := rdT_ref h e1
      obtain ⟨us, h3, h4⟩ := rdT_ref h' e2
      refine ⟨vs, us, h1, h3, ?_⟩
      rw [h2.len, h4.len]
      cases q : xs[i]? with
      | none => exact .inl (List.getElem?_eq_none_iff.mp q)
      | some x =>
        cases q' : ys[i]? with
        | none => exact .inr (List.getElem?_eq_none_iff.mp q')
        | some y =>
          rw [q, q'] at e
          cases e
    · cases e
  | em d =>
    obtain ⟨a, h, rfl⟩ := h
    simp only [itemAt] at e
    split at e
    · rename_i e1
      obtain ⟨vs, h1, h2⟩ := rdT_ref h e1
      cases (show vs = [] from h2)
      exact h1
    · cases e
  | ki fs =>
    obtain ⟨a, o, kvs, h1, h2, h3, rfl⟩ := h
    simp only [itemAt, Option.some.injEq, Option.map_eq_none_iff] at e
    exact ⟨h2, by rw [h3.len]; exact List.getElem?_eq_none_iff.mp e⟩
theorem item_go {it : DIt} {J : It} {i : Nat} {d : DV} (R : Rep K mg W S) (h : ItDen K W it J) (e : itemAt it S i = some (some d)) :
    J.go i W.H ∧ ∀ x H', J.yld i W.H x H' → ∃ W', W'.H = H' ∧ Ext W W' ∧ Rep K mg W' S ∧ Den K W' d x := by
  cases it with
  | li d' =>
    obtain ⟨a, h, rfl⟩ := h
    simp only [itemAt] at e
    split at e
    · rename_i ds e1
      obtain ⟨vs, h1, h2⟩ := rdL_ref R h e1
      obtain ⟨v, h3, h4⟩ := h2.get (Option.some.inj e)
      refine ⟨⟨vs, v, h1, h3⟩, fun x H' y => ?_⟩
      obtain ⟨rfl, y⟩ := y
      have := (y vs h1).symm.trans h3
      cases this
      exact ⟨W, rfl, Ext.refl W, R, h4⟩
    · cases e
  | tu d' =>
    obtain ⟨a, h, rfl⟩ := h
    simp only [itemAt] at e
    split at e
    · rename_i ds e1
      obtain ⟨vs, h1, h2⟩ := rdT_ref h e1
      obtain ⟨v, h3, h4⟩ := h2.get (Option.some.inj e)
      refine ⟨⟨vs, v, h1, h3⟩, fun x H' y => ?_⟩
      obtain ⟨rfl, y⟩ := y
      have := (y vs h1).symm.trans h3
      cases this
      exact ⟨W, rfl, Ext.refl W, R, h4⟩
    · cases e
  | rg lo n =>
    cases (show J = Itr lo n from h)
    simp only [itemAt] at e
    by_cases hi : i < n
    · rw [if_pos hi] at e
      cases e
      refine ⟨hi, fun x H' y => ?_⟩
      obtain ⟨rfl, rfl⟩ := y
      exact ⟨W, rfl, Ext.refl W, R, rfl⟩
    · rw [if_neg hi] at e
      cases e
  | en d' =>
    obtain ⟨a, h, rfl⟩ := h
    simp only [itemAt] at e
    split at e
    · rename_i ds e1
      obtain ⟨vs, h1, h2⟩ := rdL_ref R h e1
      cases q : ds[i]? with
      | none =>
        rw [q] at e
        cases e
      | some x =>
        rw [q] at e
        cases e
        obtain ⟨v, h3, h4⟩ := h2.get q
        refine ⟨⟨vs, v, h1, h3⟩, fun x H' y => ?_⟩
        obtain ⟨T, u, rfl, hT, rfl, y⟩ := y
        have := (y vs h1).symm.trans h3
        cases this
        exact newT_ok R hT ⟨_, _, rfl, rfl, Dens.one h4⟩
    · cases e
  | em d' =>
    simp only [itemAt] at e
    split at e <;> cases e
  | zp d' f =>
    obtain ⟨a, b, h, h', rfl⟩ := h
    simp only [itemAt] at e
    split at e
    · rename_i xs ys e1 e2
      obtain ⟨vs, h1, h2⟩ := rdL_ref R h e1
      obtain ⟨us, h3, h4⟩ := rdL_ref R h' e2
      cases q : xs[i]? with
      | none =>
        rw [q] at e
        cases e
      | some x =>
        cases q' : ys[i]? with
        | none =>
          rw [q, q'] at e
          cases e
        | some y =>
          rw [q, q'] at e
          cases e
          obtain ⟨v, h5, h6⟩ := h2.get q
          obtain ⟨u, h7, h8⟩ := h4.get q'
          refine ⟨⟨vs, us, v, u, h1, h3, h5, h7⟩, fun x H' z => ?_⟩
          obtain ⟨T, x', y', rfl, hT, rfl, z1, z2⟩ := z
          have := (z1 vs h1).symm.trans h5
          cases this
          have := (z2 us h3).symm.trans h7
          cases this
          exact newT_ok R hT ⟨_, _, rfl, h6, Dens.one h8⟩
    · cases e
  | z3 d' f g =>
    obtain ⟨a, b, c, h, h', h'', rfl⟩ := h
    simp only [itemAt] at e
    split at e
    · rename_i xs ys zs e1 e2 e3
      obtain ⟨vs, h1, h2⟩ := rdL_ref R h e1
      obtain ⟨us, h3, h4⟩ := rdL_ref R h' e2
      obtain ⟨ws, h5, h6⟩ := rdL_ref R h'' e3
      split at e
      · cases q : xs[i]? with
        | none =>
          rw [q] at e
          cases e
        | some x =>
          cases q' : ys[i]? with
          | none =>
            rw [q, q'] at e
            cases e
          | some y =>
            cases q'' : zs[i]? with
            | none =>
              rw [q, q', q''] at e
              cases e
            | some z =>
              rw [q, q', q''] at e
              cases e
              obtain ⟨v, h7, h8⟩ := h2.get q
              obtain ⟨u, h9, h10⟩ := h4.get q'
              obtain ⟨y', h11, h12⟩ := h6.get q''
              refine ⟨⟨vs, us, ws, v, u, y', h1, h3, h5, h7, h9, h11⟩, fun x H' z => ?_⟩
              obtain ⟨T, x', y2, z2, rfl, hT, rfl, z1, z3, z4⟩ := z
              have := (z1 vs h1).symm.trans h7
              cases this
              have := (z3 us h3).symm.trans h9
              cases this
              have := (z4 ws h5).symm.trans h11
              cases this
              exact newT_ok R hT ⟨_, _, rfl, h8, _, _, rfl, h10, Dens.one h12⟩
      · cases e
    · cases e
  | zt d' f =>
    obtain ⟨a, b, h, h', rfl⟩ := h
    simp only [itemAt] at e
    split at e
    · rename_i xs ys e1 e2
      obtain ⟨vs, h1, h2⟩ := rdT_ref h e1
      obtain ⟨us, h3, h4⟩ := rdT_ref h' e2
      cases q : xs[i]? with
      | none =>
        rw [q] at e
        cases e
      | some x =>
        cases q' : ys[i]? with
        | none =>
          rw [q, q'] at e
          cases e
        | some y =>
          rw [q, q'] at e
          cases e
          obtain ⟨v, h5, h6⟩ := h2.get q
          obtain ⟨u, h7, h8⟩ := h4.get q'
          refine ⟨⟨vs, us, v, u, h1, h3, h5, h7⟩, fun x H' z => ?_⟩
          obtain ⟨T, x', y', rfl, hT, rfl, z1, z2⟩ := z
          have := (z1 vs h1).symm.trans h5
          cases this
          have := (z2 us h3).symm.trans h7
          cases this
          exact newT_ok R hT ⟨_, _, rfl, h6, Dens.one h8⟩
    · cases e
  | ki fs =>
    obtain ⟨a, o, kvs, h1, h2, h3, rfl⟩ := h
    simp only [itemAt, Option.some.injEq, Option.map_eq_some_iff] at e
    obtain ⟨p, e1, rfl⟩ := e
    obtain ⟨v, e2, e3⟩ := h3.get e1
    refine ⟨⟨h2, (List.getElem?_eq_some_iff.mp e2).1⟩, fun x H' y => ?_⟩
    obtain ⟨T, kk, u, e4, rfl, hT, rfl⟩ := y
    rw [e2] at e4
    cases e4
    exact newT_ok R hT ⟨_, _, rfl, rfl, Dens.one e3⟩

/-! ### how it begins -/
variable {tl te : TE} {fl fe : DE} {taa : TA} {faa : DA}
def diL (f : DE) : DI := fun s S => bnd (f s S) fun d S1 => if (rdL S1 d).isSome = true then some (.li d, S1) else none
theorem ri_list (h : RE K mg tl fl) : RI K mg (iList K tl) (diL fl) := by
  intro W σ s S it S' R Rp L e q
  obtain ⟨d, S1, e1, e⟩ := bnd_inv e
  split at e
  · rename_i hi
    cases e
    refine h W σ s S d _ _ Rp L e1 fun v W1 x1 R1 d1 => ?_
    obtain ⟨ds, hd⟩ := Option.isSome_iff_exists.mp hi
    obtain ⟨a, vs, rfl, h1, _⟩ := rdL_ok R1 d1 hd
    exact ⟨a, rfl, ⟨vs, h1⟩, q _ W1 x1 R1 ⟨a, d1, rfl⟩⟩
  · cases e
noncomputable def diR1 (f : DA) : DI := fun s S => bnd (f s S) fun ds S1 => match ds with
  | [.int j] => gate (-(2 ^ 62) ≤ j ∧ j < 2 ^ 62) (some (.rg 0 j.toNat, S1))
  | _ => none
theorem ri_rng1 (h : RA K mg taa faa) : RI K mg (iRng1 taa) (diR1 faa) := by
  intro W σ s S it S' R Rp L e q
  obtain ⟨d, S1, e1, e⟩ := bnd_inv e
  split at e
  · rename_i j
    obtain ⟨hj, e⟩ := gate_inv e
    cases e
    refine h W σ s S _ _ _ Rp L e1 fun vs W1 x1 R1 d1 => ?_
    obtain ⟨v, r, rfl, hv, hr⟩ := d1
    cases (show v = V.int j from hv)
    cases (show r = [] from hr)
    exact ⟨j, rfl, hj.1, hj.2, q _ W1 x1 R1 rfl⟩
  · cases e
noncomputable def diR2 (f : DA) : DI := fun s S => bnd (f s S) fun ds S1 => match ds with
  | [.int i, .int j] => gate (-(2 ^ 62) ≤ i ∧ i < 2 ^ 62 ∧ -(2 ^ 62) ≤ j ∧ j < 2 ^ 62) (some (.rg i (j - i).toNat, S1))
  | _ => none
def diEE (f : DA) : DI := fun s S => bnd (f s S) fun ds S1 => match ds with
  | [.tup []] => some (.em (.tup []), S1)
  | [d] => if (rdL S1 d).isSome = true then some (.en d, S1) else none
  | _ => none
def iEnumB (K : PySem.W.Frag) (ta : TA) : TI := fun σ H R => ta σ H fun vs H1 => ∃ a, vs = [.ref a] ∧ ((∃ xs, SqL K H1 a xs ∧ R (Ite K a) H1) ∨ (SqT K H1 a [] ∧ R (IteE K a) H1))
theorem ri_enumB (h : RA K mg taa faa) : RI K mg (iEnumB K taa) (diEE faa) := by
  intro W σ s S it S' R Rp L e q
  obtain ⟨d, S1, e1, e⟩ := bnd_inv e
  split at e
  · cases e
    refine h W σ s S _ _ _ Rp L e1 fun vs W1 x1 R1 d1 => ?_
    obtain ⟨v, r, rfl, hv, hr⟩ := d1
    cases (show r = [] from hr)
    obtain ⟨a, vs, rfl, h1, h2⟩ := rdT_ok hv rfl
    cases (show vs = [] from h2)
    exact ⟨a, rfl, .inr ⟨h1, q _ W1 x1 R1 ⟨a, hv, rfl⟩⟩⟩
  · rename_i d
    split at e
    · rename_i hi
      cases e
      refine h W σ s S _ _ _ Rp L e1 fun vs W1 x1 R1 d1 => ?_
      obtain ⟨v, r, rfl, hv, hr⟩ := d1
      cases (show r = [] from hr)
      obtain ⟨ds, hd⟩ := Option.isSome_iff_exists.mp hi
      obtain ⟨a, vs, rfl, h1, _⟩ := rdL_ok R1 hv hd
      exact ⟨a, rfl, .inl ⟨vs, h1, q _ W1 x1 R1 ⟨a, hv, rfl⟩⟩⟩
    · cases e
  · cases e
def diE (f : DA) : DI := fun s S => bnd (f s S) fun ds S1 => match ds with
  | [d] => if (rdL S1 d).isSome = true then some (.en d, S1) else none
  | _ => none
theorem ri_enum (h : RA K mg taa faa) : RI K mg (iEnum K taa) (diE faa) := by
  intro W σ s S it S' R Rp L e q
  obtain ⟨d, S1, e1, e⟩ := bnd_inv e
  split at e
  · rename_i d
    split at e
    · rename_i hi
      cases e
      refine h W σ s S _ _ _ Rp L e1 fun vs W1 x1 R1 d1 => ?_
      obtain ⟨v, r, rfl, hv, hr⟩ := d1
      cases (show r = [] from hr)
      obtain ⟨ds, hd⟩ := Option.isSome_iff_exists.mp hi
      obtain ⟨a, vs, rfl, h1, _⟩ := rdL_ok R1 hv hd
      exact ⟨a, vs, rfl, h1, q _ W1 x1 R1 ⟨a, hv, rfl⟩⟩
    · cases e
  · cases e
def diZ (f : DA) : DI := fun s S => bnd (f s S) fun ds S1 => match ds with
  | [d, d'] => if (rdL S1 d).isSome = true ∧ (rdL S1 d').isSome = true then some (.zp d d', S1) else none
  | _ => none
theorem ri_zip (h : RA K mg taa faa) : RI K mg (iZip K taa) (diZ faa) := by
  intro W σ s S it S' R Rp L e q
  obtain ⟨d, S1, e1, e⟩ := bnd_inv e
  split at e
  · rename_i d d'
    split at e
    · rename_i hi
      cases e
      refine h W σ s S _ _ _ Rp L e1 fun vs W1 x1 R1 d1 => ?_
      obtain ⟨v, r, rfl, hv, u, r', rfl, hu, hr⟩ := d1
      cases (show r' = [] from hr)
      obtain ⟨ds, hd⟩ := Option.isSome_iff_exists.mp hi.1
      obtain ⟨ds', hd'⟩ := Option.isSome_iff_exists.mp hi.2
      obtain ⟨a, vs, rfl, h1, _⟩ := rdL_ok R1 hv hd
      obtain ⟨b, us, rfl, h2, _⟩ := rdL_ok R1 hu hd'
      exact ⟨a, b, vs, us, rfl, h1, h2, q _ W1 x1 R1 ⟨a, b, hv, hu, rfl⟩⟩
    · cases e
  · cases e
end

/-! ### for, while -/
@[simp] def kLoop (r : Res) (next : DS) : Option Res := match r with
  | .nx s S => next s S
  | .ct s S => next s S
  | .bk s S => some (.nx s S)
  | .rt d S => some (.rt d S)
def forF (tgt : DG) (body : DS) (it : DIt) : Nat → Nat → DS
  | 0, _ => fun _ _ => none
  | k + 1, i => fun s S => match itemAt it S i with
    | none => none
    | some none => some (.nx s S)
    | some (some d) => match tgt d s S with
      | none => none
      | some p => match body p.1 p.2 with
        | none => none
        | some r => kLoop r (forF tgt body it k (i + 1))
def dFor (fi : DI) (tgt : DG) (body : DS) : DS := fun s S => bnd (fi s S) fun it S1 => forF tgt body it (itLen it S1 + 1) 0 s S1
def whileF (c : DT) (b : DS) : Nat → DS
  | 0 => fun _ _ => none
  | k + 1 => fun s S => bnd (c s S) fun t S1 => if t = true then (match b s S1 with
      | none => none
      | some r => kLoop r (whileF c b k)) else some (.nx s S1)
@[irreducible] def FUEL : Nat := 2 ^ 1000000
def dWhile (c : DT) (b : DS) : DS := whileF c b FUEL
section
variable {K : PySem.W.Frag} {mg : Str → Option Value} {wi : TI} {fi : DI} {tg : TG} {fg : DG} {tb : TS} {fb : DS} {tt : TT} {ft : DT}
theorem rs_for (hi : RI K mg wi fi) (hg : RG K mg tg fg) (hb : RS K mg tb fb) : RS K mg (tFor wi tg tb) (dFor fi fg fb) := by
  intro W σ s S r D R L e P
  obtain ⟨it, S1, e1, e⟩ := bnd_inv e
  refine hi W σ s S it S1 _ R L e1 fun J W1 x1 R1 hJ => ?_
  have P1 := P.ext x1
  refine ⟨fun i m σ' H' => ∃ W' s' S', W'.H = H' ∧ Ext W1 W' ∧ Rep K mg W' S' ∧ Slo K W' σ' s' ∧ forF fg fb it m i s' S' = some r,
    ⟨_, W1, s, S1, rfl, Ext.refl W1, R1, L.ext x1, e⟩, ?_⟩
  rintro i m σ2 H2 ⟨W2, s2, S2, rfl, x2, R2, L2', e2⟩
  have hJ2 := hJ.ext0 x2.toEx0
  cases m with
  | zero => cases e2
  | succ m =>
    unfold forF at e2
    split at e2
    · cases e2
    · rename_i hit
      cases e2
      exact .inl ⟨item_stop R2 hJ2 hit, P1 σ2 W2 x2 R2 L2'⟩
    · rename_i d hit
      obtain ⟨hgo, hy⟩ := item_go R2 hJ2 hit
      refine .inr ⟨hgo, fun σ' H' => ∃ W' s' S', W'.H = H' ∧ Ext W1 W' ∧ Rep K mg W' S' ∧ Slo K W' σ' s' ∧ forF fg fb it m (i + 1) s' S' = some r, fun σ' H' h => ⟨m, Nat.lt_succ_self m, h⟩, fun x H' y => ?_⟩
      obtain ⟨W3, rfl, x3, R3, d3⟩ := hy x H' y
      split at e2
      · cases e2
      · rename_i p ep
        refine hg W3 σ2 s2 S2 d x p.1 p.2 _ R3 (L2'.ext x3) d3 ep fun σ4 W4 x4 R4 L4 => ?_
        have x14 : Ext W1 W4 := (x2.trans x3).trans x4
        split at e2
        · cases e2
        · rename_i r' er
          refine hb W4 σ4 p.1 p.2 r' _ R4 L4 er ?_
          cases r' with
          | nx s5 S5 => exact fun σ5 W5 x5 R5 L5 => ⟨W5, s5, S5, rfl, x14.trans x5, R5, L5, e2⟩
          | ct s5 S5 => exact fun σ5 W5 x5 R5 L5 => ⟨W5, s5, S5, rfl, x14.trans x5, R5, L5, e2⟩
          | bk s5 S5 =>
            cases e2
            exact fun σ5 W5 x5 R5 L5 => P1 σ5 W5 (x14.trans x5) R5 L5
          | rt d5 S5 =>
            cases e2
            exact fun v W5 x5 R5 d5' => P1 v W5 (x14.trans x5) R5 d5'
theorem rs_while (hc : RT K mg tt ft) (hb : RS K mg tb fb) : RS K mg (tWhile tt tb) (dWhile ft fb) := by
  intro W σ s S r D R L e P
  refine ⟨fun m σ' H' => ∃ W' s' S', W'.H = H' ∧ Ext W W' ∧ Rep K mg W' S' ∧ Slo K W' σ' s' ∧ whileF ft fb m s' S' = some r,
    ⟨_, W, s, S, rfl, Ext.refl W, R, L, e⟩, ?_⟩
  rintro m σ2 H2 ⟨W2, s2, S2, rfl, x2, R2, L2', e2⟩
  cases m with
  | zero => cases e2
  | succ m =>
    unfold whileF at e2
    obtain ⟨t, S3, e3, e2⟩ := bnd_inv e2
    refine hc W2 σ2 s2 S2 t S3 _ R2 L2' e3 fun W3 x3 R3 => ?_
    cases t with
    | false =>
      rw [if_neg Bool.false_ne_true] at e2
      cases e2
      exact iteF (P σ2 W3 (x2.trans x3) R3 (L2'.ext x3))
    | true =>
      rw [if_pos rfl] at e2
      refine iteT ⟨fun σ' H' => ∃ W' s' S', W'.H = H' ∧ Ext W W' ∧ Rep K mg W' S' ∧ Slo K W' σ' s' ∧ whileF ft fb m s' S' = some r, fun σ' H' h => ⟨m, Nat.lt_succ_self m, h⟩, ?_⟩
      split at e2
      · cases e2
      · rename_i r' er
        refine hb W3 σ2 s2 S3 r' _ R3 (L2'.ext x3) er ?_
        have x13 : Ext W W3 := x2.trans x3
        cases r' with
        | nx s5 S5 => exact fun σ5 W5 x5 R5 L5 => ⟨W5, s5, S5, rfl, x13.trans x5, R5, L5, e2⟩
        | ct s5 S5 => exact fun σ5 W5 x5 R5 L5 => ⟨W5, s5, S5, rfl, x13.trans x5, R5, L5, e2⟩
        | bk s5 S5 =>
          cases e2
          exact fun σ5 W5 x5 R5 L5 => P σ5 W5 (x13.trans x5) R5 L5
        | rt d5 S5 =>
          cases e2
          exact fun v W5 x5 R5 d5' => P v W5 (x13.trans x5) R5 d5'
end

/-! ### list comprehensions -/
@[simp] def wipeD (s : Sl) : List Nat → Sl
  | [] => s
  | v :: vs => (wipeD s vs).set v none
theorem wipe_get (σ : St) : ∀ (vs : List Nat) (j : Nat), (wipe σ vs)[j]? = if j ∈ vs ∧ j < σ.length then some none else σ[j]?
  | [], j => by simp [wipe]
  | v :: vs, j => by
    show ((wipe σ vs).set v none)[j]? = _
    rw [List.getElem?_set, wipe_length, wipe_get σ vs j]
    by_cases h : v = j
    · subst h
      by_cases hl : v < σ.length
      · simp [hl]
      · have : σ[v]? = none := List.getElem?_eq_none (by omega)
        simp [hl, this]
    · simp only [h, if_false, List.mem_cons]
      have h' : ¬ j = v := fun e => h e.symm
      simp [h']
theorem wipeD_get (s : Sl) : ∀ (vs : List Nat) (j : Nat), (wipeD s vs)[j]? = if j ∈ vs ∧ j < s.length then some none else s[j]?
  | [], j => by simp [wipeD]
  | v :: vs, j => by
    have hlen : ∀ vs : List Nat, (wipeD s vs).length = s.length := by
      intro vs
      induction vs with
      | nil => rfl
      | cons w ws ih => simp [wipeD, ih]
    show ((wipeD s vs).set v none)[j]? = _
    rw [List.getElem?_set, hlen, wipeD_get s vs j]
    by_cases h : v = j
    · subst h
      by_cases hl : v < s.length
      · simp [hl]
      · have : s[v]? = none := List.getElem?_eq_none (by omega)
        simp [hl, this]
    · simp only [h, if_false, List.mem_cons]
      have h' : ¬ j = v := fun e => h e.symm
      simp [h']
theorem wipeD_length (s : Sl) : ∀ vs : List Nat, (wipeD s vs).length = s.length
  | [] => rfl
  | v :: vs => by simp [wipeD, wipeD_length s vs]
theorem wipe_wipe (σ : St) (vs : List Nat) : wipe (wipe σ vs) vs = wipe σ vs := by
  apply List.ext_getElem?
  intro j
  rw [wipe_get, wipe_get, wipe_length]
  split <;> rfl
theorem wipe_set (σ : St) (vs : List Nat) {i : Nat} (hi : i ∈ vs) (x : Option V) : wipe (σ.set i x) vs = wipe σ vs := by
  apply List.ext_getElem?
  intro j
  rw [wipe_get, wipe_get, List.length_set, List.getElem?_set]
  by_cases h : j ∈ vs ∧ j < σ.length
  · rw [if_pos h, if_pos h]
  · rw [if_neg h, if_neg h]
    by_cases e : i = j
    · subst e
      have : ¬ i < σ.length := fun q => h ⟨hi, q⟩
      rw [if_pos rfl, if_neg this, List.getElem?_eq_none (by omega)]
    · rw [if_neg e]
theorem Slo.wipe {K : PySem.W.Frag} {W : Wd} {σ : St} {s : Sl} (L : Slo K W σ s) (vs : List Nat) : Slo K W (L2.wipe σ vs) (wipeD s vs) := by
  refine ⟨by rw [wipe_length, wipeD_length, L.1], fun i d h => ?_⟩
  rw [wipeD_get] at h
  by_cases hv : i ∈ vs ∧ i < s.length
  · rw [if_pos hv] at h
    cases h
  · rw [if_neg hv] at h
    obtain ⟨v, h1, h2⟩ := L.2 i d h
    refine ⟨v, ?_, h2⟩
    rw [wipe_get, L.1, if_neg hv]
    exact h1
section
variable (K : PySem.W.Frag) (mg : Str → Option Value)
/-- a target whose names are the block's own -/
def RGv (vs : List Nat) (g : TG) (f : DG) : Prop := ∀ (W : Wd) (σ : St) (s : Sl) (S : Sto) (d : DV) (v : V) (s' : Sl) (S' : Sto) (Q : St → Hp → Prop), Rep K mg W S → Slo K W σ s → Den K W d v → f d s S = some (s', S') →
  (∀ σ', L2.wipe σ' vs = L2.wipe σ vs → S' = S → Slo K W σ' s' → Q σ' W.H) → g v σ W.H Q
def RGsv (ws : List Nat) (g : TGs) (f : DGs) : Prop := ∀ (W : Wd) (σ : St) (s : Sl) (S : Sto) (ds : List DV) (vs : List V) (s' : Sl) (S' : Sto) (Q : St → Hp → Prop), Rep K mg W S → Slo K W σ s → Dens K W ds vs → f ds s S = some (s', S') →
  (∀ σ', L2.wipe σ' ws = L2.wipe σ ws → S' = S → Slo K W σ' s' → Q σ' W.H) → g vs σ W.H Q
end
section
variable {K : PySem.W.Frag} {mg : Str → Option Value} {vs : List Nat} {i n : Nat} {tg : TG} {fg : DG} {tgs : TGs} {fgs : DGs}
theorem rgv_name (hi : i ∈ vs) : RGv K mg vs (gName i) (dName i) := by
  intro W σ s S d v s' S' Q R L hd e q
  cases e
  exact q _ (wipe_set σ vs hi _) rfl (L.set i hd)
theorem rgsv_nil : RGsv K mg vs gNil dGNil := by
  intro W σ s S ds us s' S' Q R L hd e q
  unfold dGNil at e
  split at e
  · cases e
    exact ⟨hd, q σ rfl rfl L⟩
  · cases e
theorem rgsv_cons (h1 : RGv K mg vs tg fg) (h2 : RGsv K mg vs tgs fgs) : RGsv K mg vs (gCons tg tgs) (dGCons fg fgs) := by
  intro W σ s S ds us s' S' Q R L hd e q
  unfold dGCons at e
  split at e
  · cases e
  · rename_i d r
    split at e
    · cases e
    · rename_i p e1
      obtain ⟨v, us, rfl, d1, d2⟩ := hd
      refine ⟨v, us, rfl, h1 W σ s S d v p.1 p.2 _ R L d1 e1 fun σ1 w1 s1 L1 => ?_⟩
      exact h2 W σ1 p.1 p.2 r us s' S' Q (s1 ▸ R) L1 d2 e fun σ2 w2 s2 L2 => q σ2 (w2.trans w1) (s2.trans s1) L2
theorem rgv_tup (h : RGsv K mg vs tgs fgs) : RGv K mg vs (gTup K n tgs) (dGTup n fgs) := by
  intro W σ s S d v s' S' Q R L hd e q
  unfold dGTup at e
  split at e
  · rename_i ds
    split at e
    · rename_i hl
      obtain ⟨a, us, rfl, h1, h2⟩ := hd
      exact ⟨a, us, rfl, h1.1, by rw [h2.len]; exact hl, h W σ s S ds us s' S' Q R L h2 e q⟩
    · cases e
  · cases e
end
@[simp] def dYes : DT := fun _ S => some (true, S)
theorem rt_yes {K : PySem.W.Frag} {mg : Str → Option Value} : RT K mg tYes dYes := by
  intro W σ s S b S' Q R L e q
  cases e
  exact q W (Ext.refl W) R
def lcF (tgt : DG) (tt : DT) (te : DE) (it : DIt) (vs : List Nat) : Nat → Nat → List DV → Sl → Sto → Option (List DV × Sto)
  | 0, _, _, _, _ => none
  | k + 1, i, acc, s, S => match itemAt it S i with
    | none => none
    | some none => some (acc, S)
    | some (some d) => match tgt d (wipeD s vs) S with
      | none => none
      | some p => bnd (tt p.1 p.2) fun b S2 => if b = true then bnd (te p.1 S2) fun y S3 => lcF tgt tt te it vs k (i + 1) (acc ++ [y]) s S3 else lcF tgt tt te it vs k (i + 1) acc s S2
noncomputable def dLc (m : Bool) (fi : DI) (tgt : DG) (tt : DT) (te : DE) (vs : List Nat) : DE := fun s S => bnd (fi s S) fun it S1 => bnd (lcF tgt tt te it vs (itLen it S1 + 1) 0 [] s S1) fun acc S2 => gate (acc.length ≤ 100000) (some (newL m acc S2))
theorem lcF_len {tgt : DG} {tt : DT} {te : DE} {it : DIt} {vs : List Nat} : ∀ (k i : Nat) (acc : List DV) (s : Sl) (S : Sto) (acc' : List DV) (S' : Sto), lcF tgt tt te it vs k i acc s S = some (acc', S') → acc.length ≤ acc'.length
  | 0, _, _, _, _, _, _, h => by cases h
  | k + 1, i, acc, s, S, acc', S', h => by
    unfold lcF at h
    split at h
    · cases h
    · cases h
      exact Nat.le_refl _
    · split at h
      · cases h
      · obtain ⟨b, S2, _, h⟩ := bnd_inv h
        split at h
        · obtain ⟨y, S3, _, h⟩ := bnd_inv h
          have := lcF_len k (i + 1) _ s S3 acc' S' h
          rw [List.length_append, List.length_singleton] at this
          omega
        · exact lcF_len k (i + 1) _ s S2 acc' S' h
section
variable {K : PySem.W.Frag} {mg : Str → Option Value} {W : Wd} {S : Sto}
/-- a list that stands alone -/
def Wd.loose (W : Wd) (p : Addr) (o : HO) : Wd := ⟨W.P, W.α, upd W.H p o⟩
theorem ex0_loose {p : Addr} {o : HO} (hp : ¬ W.P p) : Ex0 W (W.loose p o) where
  p := fun _ h => h
  al := List.prefix_refl _
  hp := fun a u h e => (upd_ne (fun z => hp (by rw [← z]; exact h))).trans e
theorem rep_loose {p : Addr} {o : HO} (R : Rep K mg W S) (hp : ¬ W.P p) (ha : p ∉ W.α) (hl : (∀ ps, W.H p ≠ some (.tbl ps)) ∧ ∀ c q, W.H p ≠ some (LamX.CodeO c q)) : Rep K mg (W.loose p o) S where
  len := R.len
  nd := R.nd
  dj := R.dj
  al := fun a h => by
    show upd W.H p o a ≠ none
    by_cases e : a = p
    · subst e; rw [upd_same]; exact fun z => by cases z
    · rw [upd_ne e]
      exact R.al a h
  ob := fun n mo a h1 h2 => by
    have h3 : W.α[n]? = some a := h2
    have hne : a ≠ p := fun z => ha (by rw [← z]; exact List.mem_of_getElem? h3)
    exact (R.ob n mo a h1 h3).ext0 (ex0_loose hp) (upd_ne hne)
  tb := tabs_upd R.tb hl.1 hl.2
  tp := R.tp
theorem plain_none {H : Hp} {p : Addr} (h : H p = none) : (∀ ps, H p ≠ some (.tbl ps)) ∧ ∀ c q, H p ≠ some (LamX.CodeO c q) := ⟨fun ps z => (by rw [h] at z; cases z), fun c q z => (by rw [h] at z; cases z)⟩
theorem plain_lst {H : Hp} {p : Addr} {vs : List V} (h : H p = some (.lst vs)) : (∀ ps, H p ≠ some (.tbl ps)) ∧ ∀ c q, H p ≠ some (LamX.CodeO c q) := ⟨fun ps z => (by rw [h] at z; cases z), fun c q z => (by rw [h] at z; unfold LamX.CodeO at z; cases z)⟩
theorem ext_loose {W0 : Wd} {p : Addr} {o : HO} (e : Ext W0 W) (h0 : W0.H p = none) (hp : ¬ W.P p) (ha : p ∉ W.α) : Ext W0 (W.loose p o) where
  p := e.p
  pn := e.pn
  al := e.al
  an := e.an
  hp := fun a u h q => (upd_ne (ne_of_none q h0)).trans (e.hp a u h q)
  h := fun a u h n q => (upd_ne (ne_of_none q h0)).trans (e.h a u h n q)
  dom := fun a h => by
    have z : upd W.H p o a = none := h
    by_cases q : a = p
    · subst q; exact h0
    · rw [upd_ne q] at z
      exact e.dom a z
/-- it is kept -/
theorem newL_at {m : Bool} {ds : List DV} {vs : List V} {d : DV} {S' : Sto} {p : Addr} (R : Rep K mg W S) (hD : W.H p = some (.lst vs)) (hp : ¬ W.P p) (ha : p ∉ W.α) (h : Dens K W ds vs) (e : newL m ds S = (d, S')) :
    ∃ W', W'.H = W.H ∧ (∀ W0, Ext W0 W → W0.H p = none → Ext W0 W') ∧ Rep K mg W' S' ∧ Den K W' d (.ref p) := by
  unfold newL at e
  cases m with
  | true =>
    cases e
    have x0 : Ex0 W ⟨W.P, W.α ++ [p], W.H⟩ := ⟨fun _ h => h, List.prefix_append _ _, fun _ _ _ h => h⟩
    refine ⟨⟨W.P, W.α ++ [p], W.H⟩, rfl, fun W0 x hn => ?_, ?_, p, ?_, rfl⟩
    · exact { p := x.p, pn := x.pn, al := x.al.trans (List.prefix_append _ _), an := fun a h => by
                rcases List.mem_append.mp h with h | h
                · exact x.an a h
                · cases List.mem_singleton.mp h
                  exact .inr hn
              hp := x.hp, h := x.h, dom := x.dom }
    · refine ⟨by simp [R.len], ?_, fun a h q => ?_, R.al, fun n mo a h1 h2 => ?_, R.tb, R.tp⟩
      · refine List.nodup_append.mpr ⟨R.nd, by simp, fun a h b hb => ?_⟩
        cases List.mem_singleton.mp hb
        exact fun z => ha (by rw [← z]; exact h)
      · rcases List.mem_append.mp h with h | h
        · exact R.dj a h q
        · cases List.mem_singleton.mp h
          exact hp q
      · have h2 : (W.α ++ [p])[n]? = some a := h2
        by_cases hn : n < S.length
        · rw [List.getElem?_append_left hn] at h1
          rw [List.getElem?_append_left (by rw [R.len]; exact hn)] at h2
          exact (R.ob n mo a h1 h2).ext0 x0 rfl
        · have hl : n < (S ++ [MO.ml ds]).length := (List.getElem?_eq_some_iff.mp h1).1
          have e : n = S.length := by
            rw [List.length_append, List.length_singleton] at hl
            omega
          subst e
          rw [List.getElem?_concat_length] at h1
          rw [← R.len, List.getElem?_concat_length] at h2
          cases h1
          cases h2
          exact ⟨vs, hD, Dens.ext0 x0 _ _ h⟩
    · show (W.α ++ [p])[S.length]? = some p
      rw [← R.len, List.getElem?_concat_length]
  | false =>
    cases e
    have x0 : Ex0 W ⟨fun a => W.P a ∨ a = p, W.α, W.H⟩ := ⟨fun _ h => .inl h, List.prefix_refl _, fun _ _ _ h => h⟩
    refine ⟨⟨fun a => W.P a ∨ a = p, W.α, W.H⟩, rfl, fun W0 x hn => ?_, ?_, p, vs, rfl, ⟨.inr rfl, hD⟩, Dens.ext0 x0 _ _ h⟩
    · exact { p := fun a h => .inl (x.p a h), pn := fun a h => by
                rcases h with h | rfl
                · exact x.pn a h
                · exact .inr hn
              al := x.al, an := x.an, hp := x.hp, h := x.h, dom := x.dom }
    · refine ⟨R.len, R.nd, fun a h q => ?_, fun a h => ?_, fun n mo a h1 h2 => (R.ob n mo a h1 h2).ext0 x0 rfl, R.tb, fun t ht q => q.elim (R.tp t ht) fun z => by
        obtain ⟨ps, e, _⟩ := R.tb t ht
        rw [z, hD] at e
        cases e⟩
      · rcases q with q | rfl
        · exact R.dj a h q
        · exact ha h
      · rcases h with h | rfl
        · exact R.al a h
        · rw [hD]
          exact fun z => by cases z
variable {wi : TI} {fi : DI} {tg : TG} {fg : DG} {tt : TT} {ft : DT} {te : TE} {fe : DE} {vs : List Nat}
theorem re_lc {m : Bool} (hi : RI K mg wi fi) (hg : RGv K mg vs tg fg) (ht : RT K mg tt ft) (he : RE K mg te fe) : RE K mg (tLc wi tg tt te vs) (dLc m fi fg ft fe vs) := by
  intro W σ s S d S' Q R L e q
  obtain ⟨it, S1, e1, e⟩ := bnd_inv e
  obtain ⟨accE, SE, eE, e⟩ := bnd_inv e
  obtain ⟨hlim, e⟩ := gate_inv e
  have eN := Option.some.inj e
  refine hi W σ s S it S1 _ R L e1 fun J W1 x1 R1 hJ D hD => ?_
  have nP1 : ¬ W1.P D := fun h => R1.al D h hD
  have na1 : D ∉ W1.α := fun h => R1.there h hD
  refine ⟨fun i k H' => ∃ W' acc vsA S', W'.H = H' ∧ Ext W1 W' ∧ Rep K mg W' S' ∧ ¬ W'.P D ∧ D ∉ W'.α ∧ W'.H D = some (.lst vsA) ∧ Dens K W' acc vsA ∧ lcF fg ft fe it vs k i acc s S' = some (accE, SE),
    ⟨_, W1.loose D (.lst []), [], [], S1, rfl, ext_loose (Ext.refl W1) hD nP1 na1, rep_loose R1 nP1 na1 (plain_none hD), nP1, na1, upd_same, rfl, eE⟩, ?_⟩
  rintro i k H2 ⟨W2, acc, vsA, S2, rfl, x2, R2, nP2, na2, hD2, dA, e2⟩
  have hJ2 := hJ.ext0 x2.toEx0
  cases k with
  | zero => cases e2
  | succ k =>
    unfold lcF at e2
    split at e2
    · cases e2
    · rename_i hit
      cases e2
      refine .inl ⟨item_stop R2 hJ2 hit, ?_⟩
      obtain ⟨W3, h3, x3, R3, d3⟩ := newL_at R2 hD2 nP2 na2 dA eN
      rw [← h3]
      exact q _ W3 (x1.trans (x3 W1 x2 hD)) R3 d3
    · rename_i dd hit
      obtain ⟨hgo, hy⟩ := item_go R2 hJ2 hit
      refine .inr ⟨hgo, fun H' => ∃ W' acc vsA S', W'.H = H' ∧ Ext W1 W' ∧ Rep K mg W' S' ∧ ¬ W'.P D ∧ D ∉ W'.α ∧ W'.H D = some (.lst vsA) ∧ Dens K W' acc vsA ∧ lcF fg ft fe it vs k (i + 1) acc s S' = some (accE, SE), fun H' h => ⟨k, Nat.lt_succ_self k, h⟩, fun x H' y => ?_⟩
      obtain ⟨W3, rfl, x3, R3, d3⟩ := hy x H' y
      split at e2
      · cases e2
      · rename_i p ep
        obtain ⟨b, S4, e4, e2⟩ := bnd_inv e2
        refine hg W3 (L2.wipe σ vs) (wipeD s vs) S2 dd x p.1 p.2 _ R3 ((L.ext ((x1.trans x2).trans x3)).wipe vs) d3 ep fun σ4 hw hs L4 => ?_
        refine ⟨hw.trans (wipe_wipe σ vs), ?_⟩
        have R3' : Rep K mg W3 p.2 := hs ▸ R3
        refine ht W3 σ4 p.1 p.2 b S4 _ R3' L4 e4 fun W4 x4 R4 => ?_
        have x24 : Ext W2 W4 := x3.trans x4
        have nD : ∀ {W' : Wd}, Ext W2 W' → ¬ W'.P D ∧ D ∉ W'.α ∧ W'.H D = some (.lst vsA) := fun {W'} z =>
          ⟨fun h => (z.pn D h).elim nP2 fun g => (by rw [hD2] at g; cases g), fun h => (z.an D h).elim na2 fun g => (by rw [hD2] at g; cases g), z.h D _ na2 (fun _ z => by cases z) hD2⟩
        cases b with
        | false =>
          rw [if_neg Bool.false_ne_true] at e2
          obtain ⟨n1, n2, n3⟩ := nD x24
          exact iteF ⟨W4, acc, vsA, S4, rfl, x2.trans x24, R4, n1, n2, n3, Dens.ext x24 _ _ dA, e2⟩
        | true =>
          rw [if_pos rfl] at e2
          obtain ⟨yv, S5, e5, e2⟩ := bnd_inv e2
          refine iteT (he W4 σ4 p.1 S4 yv S5 _ R4 (L4.ext x4) e5 fun v5 W5 x5 R5 d5 => ?_)
          have x25 := x24.trans x5
          obtain ⟨n1, n2, n3⟩ := nD x25
          have dA5 := Dens.ext x25 _ _ dA
          have hlen := lcF_len k (i + 1) _ s S5 accE SE e2
          rw [List.length_append, List.length_singleton] at hlen
          refine ⟨vsA, n3, by rw [dA5.len]; exact lim_lt (by omega), W5.loose D (.lst (vsA ++ [v5])), acc ++ [yv], vsA ++ [v5], S5, rfl, ext_loose (x2.trans x25) hD n1 n2, rep_loose R5 n1 n2 (plain_lst n3), n1, n2, upd_same, ?_, e2⟩
          exact Dens.ext0 (ex0_loose n1) _ _ (dA5.app (Dens.one d5))
end
end DL
end
section
namespace DL
open PySem PyProof.Rows PySem.Spec L2

/-! ### a def as a function of data -/
mutual
def clo (n : Nat) : DV → Bool
  | .ptr k => decide (k < n)
  | .tup ds => clos n ds
  | .lst ds => clos n ds
  | .rls ds => clos n ds
  | _ => true
def clos (n : Nat) : List DV → Bool
  | [] => true
  | d :: ds => clo n d && clos n ds
end
def cloM (n : Nat) : MO → Bool
  | .ml ds => clos n ds
  | .ins _ fs => fs.all fun p => clo n p.2
  | .dct fs => fs.all fun p => clo n p.2
  | .dci fs => fs.all fun p => clo n p.2
@[simp] def startD (n : Nat) (ds : List DV) : Sl := ds.map some ++ List.replicate (n - ds.length) none
def exR (m : Bool) (n0 : Nat) (d : DV) (S' : Sto) : Option (DV × Sto) := match d with
  | .ptr n => if n < n0 then some (.ptr n, S'.take n0) else match S'[n]? with
    | some (.ml ds) => if clos n0 ds = true then some (newL m ds (S'.take n0)) else none
    | _ => none
  | d => if clo n0 d = true then some (d, S'.take n0) else none
open Classical in
noncomputable def exF1 (m : Bool) (S : Sto) (d : DV) (S' : Sto) : Option (DV × Sto) :=
  if S'.length = S.length then some (d, S')
  else if S.length < S'.length ∧ (∀ n : Nat, n < S.length → S'[n]? = S[n]? ∨ ∃ mo, S'[n]? = some mo ∧ cloM S.length mo = true) then exR m S.length d S'
  else none
/-- none: all is handed on; some false: the result is frozen, the rest forgotten; some true: the result stays a list that may change -/
noncomputable def exF (m : Option Bool) (S : Sto) (d : DV) (S' : Sto) : Option (DV × Sto) := match m with
  | none => some (d, S')
  | some m => exF1 m S d S'
noncomputable def fnF (m : Option Bool) (n : Nat) (body : DS) : List DV → Sto → Option (DV × Sto) := fun ds S => match body (startD n ds) S with
  | some (.nx _ S') => exF m S .non S'
  | some (.rt d S') => exF m S d S'
  | _ => none
section
variable {K : PySem.W.Frag} {mg : Str → Option Value} {W W' : Wd} {S : Sto}
mutual
theorem Den.clo : ∀ {d : DV} {v : V}, Den K W d v → clo W.α.length d = true
  | .non, _, _ => rfl
  | .bl _, _, _ => rfl
  | .int _, _, _ => rfl
  | .str _, _, _ => rfl
  | .ty _, _, _ => rfl
  | .tup ds, _, h => by
    obtain ⟨a, vs, _, _, h⟩ := h
    exact Dens.clos (ds := ds) h
  | .lst ds, _, h => by
    obtain ⟨a, vs, _, _, h⟩ := h
    exact Dens.clos (ds := ds) h
  | .rls ds, _, h => by
    obtain ⟨a, vs, _, _, h⟩ := h
    exact Dens.clos (ds := ds) h
  | .ptr n, _, h => by
    obtain ⟨a, h, _⟩ := h
    exact decide_eq_true (List.getElem?_eq_some_iff.mp h).1
theorem Dens.clos : ∀ {ds : List DV} {vs : List V}, Dens K W ds vs → clos W.α.length ds = true
  | [], _, _ => rfl
  | d :: ds, _, h => by
    obtain ⟨v, r, _, h1, h2⟩ := h
    show (DL.clo _ d && DL.clos _ ds) = true
    rw [Den.clo h1, Dens.clos h2]
    rfl
end
theorem FsR.clos : ∀ {fs : List (Str × DV)} {vs : List (Str × V)}, FsR K W fs vs → (fs.all fun p => clo W.α.length p.2) = true
  | [], _, _ => rfl
  | p :: fs, _, h => by
    obtain ⟨v, r, _, h1, h2⟩ := h
    rw [List.all_cons, Den.clo h1, FsR.clos h2]
    rfl
theorem DkR.clos : ∀ {fs : List (Str × DV)} {vs : List (Key × V)}, DkR K W fs vs → (fs.all fun p => DL.clo W.α.length p.2) = true
  | [], _, _ => rfl
  | p :: fs, _, h => by
    obtain ⟨v, r, _, h1, h2⟩ := h
    rw [List.all_cons, Den.clo h1, DkR.clos h2]
    rfl
theorem DiR.clos : ∀ {fs : List (Int × DV)} {vs : List (Key × V)}, DiR K W fs vs → (fs.all fun p => DL.clo W.α.length p.2) = true
  | [], _, _ => rfl
  | p :: fs, _, h => by
    obtain ⟨v, r, _, h1, h2⟩ := h
    rw [List.all_cons, Den.clo h1, DiR.clos h2]
    rfl
theorem ObjR.clo {a : Addr} {mo : MO} (h : ObjR K mg W a mo) : cloM W.α.length mo = true := by
  cases mo with
  | ml ds =>
    obtain ⟨vs, _, h⟩ := h
    exact Dens.clos h
  | ins c fs =>
    obtain ⟨_, _, vs, _, _, h⟩ := h
    exact FsR.clos h
  | dct fs =>
    obtain ⟨vs, _, h⟩ := h
    exact DkR.clos h
  | dci fs =>
    obtain ⟨vs, _, h⟩ := h
    exact DiR.clos h
/-- the store cut back -/
def Wd.cut (W : Wd) (α : List Addr) : Wd := ⟨W.P, α, W.H⟩
section
variable {α : List Addr} (hα : α <+: W.α)
include hα
mutual
theorem Den.cut : ∀ {d : DV} {v : V}, DL.clo α.length d = true → Den K W d v → Den K (W.cut α) d v
  | .non, _, _, h => h
  | .bl _, _, _, h => h
  | .int _, _, _, h => h
  | .str _, _, _, h => h
  | .ty _, _, _, h => h
  | .tup ds, _, c, h => by
    obtain ⟨a, vs, e, s, h⟩ := h
    exact ⟨a, vs, e, s, Dens.cut (ds := ds) c h⟩
  | .lst ds, _, c, h => by
    obtain ⟨a, vs, e, s, h⟩ := h
    exact ⟨a, vs, e, s, Dens.cut (ds := ds) c h⟩
  | .rls ds, _, c, h => by
    obtain ⟨a, vs, e, s, h⟩ := h
    exact ⟨a, vs, e, s, Dens.cut (ds := ds) c h⟩
  | .ptr n, _, c, h => by
    obtain ⟨a, h, e⟩ := h
    refine ⟨a, ?_, e⟩
    have hn : n < α.length := of_decide_eq_true c
    obtain ⟨t, ht⟩ := hα
    rw [← ht, List.getElem?_append_left hn] at h
    exact h
theorem Dens.cut : ∀ {ds : List DV} {vs : List V}, DL.clos α.length ds = true → Dens K W ds vs → Dens K (W.cut α) ds vs
  | [], _, _, h => h
  | d :: ds, _, c, h => by
    obtain ⟨v, r, e, h1, h2⟩ := h
    have c' : (DL.clo α.length d && DL.clos α.length ds) = true := c
    rw [Bool.and_eq_true] at c'
    exact ⟨v, r, e, Den.cut c'.1 h1, Dens.cut c'.2 h2⟩
end
theorem FsR.cut : ∀ {fs : List (Str × DV)} {vs : List (Str × V)}, (fs.all fun p => DL.clo α.length p.2) = true → FsR K W fs vs → FsR K (W.cut α) fs vs
  | [], _, _, h => h
  | p :: fs, _, c, h => by
    obtain ⟨v, r, e, h1, h2⟩ := h
    rw [List.all_cons, Bool.and_eq_true] at c
    exact ⟨v, r, e, Den.cut hα c.1 h1, FsR.cut c.2 h2⟩
theorem DkR.cut : ∀ {fs : List (Str × DV)} {vs : List (Key × V)}, (fs.all fun p => DL.clo α.length p.2) = true → DkR K W fs vs → DkR K (W.cut α) fs vs
  | [], _, _, h => h
  | p :: fs, _, c, h => by
    obtain ⟨v, r, e, h1, h2⟩ := h
    rw [List.all_cons, Bool.and_eq_true] at c
    exact ⟨v, r, e, Den.cut hα c.1 h1, DkR.cut c.2 h2⟩
theorem DiR.cut : ∀ {fs : List (Int × DV)} {vs : List (Key × V)}, (fs.all fun p => DL.clo α.length p.2) = true → DiR K W fs vs → DiR K (W.cut α) fs vs
  | [], _, _, h => h
  | p :: fs, _, c, h => by
    obtain ⟨v, r, e, h1, h2⟩ := h
    rw [List.all_cons, Bool.and_eq_true] at c
    exact ⟨v, r, e, Den.cut hα c.1 h1, DiR.cut c.2 h2⟩
theorem ObjR.cut {a : Addr} {mo : MO} (c : cloM α.length mo = true) (h : ObjR K mg W a mo) : ObjR K mg (W.cut α) a mo := by
  cases mo with
  | ml ds =>
    obtain ⟨vs, e, h⟩ := h
    exact ⟨vs, e, Dens.cut hα c h⟩
  | ins cc fs =>
    obtain ⟨C, dx, vs, e1, e2, h⟩ := h
    exact ⟨C, dx, vs, e1, e2, FsR.cut hα c h⟩
  | dct ff =>
    obtain ⟨vs, e1, h⟩ := h
    exact ⟨vs, e1, DkR.cut hα c h⟩
  | dci ff =>
    obtain ⟨vs, e1, h⟩ := h
    exact ⟨vs, e1, DiR.cut hα c h⟩
end
theorem exF1_ok {m : Bool} {d d2 : DV} {S' S2 : Sto} {v : V} (R : Rep K mg W S) (x : Ext W W') (R' : Rep K mg W' S') (h : Den K W' d v) (e : exF1 m S d S' = some (d2, S2)) :
    ∃ W2, W2.H = W'.H ∧ Ext W W2 ∧ Rep K mg W2 S2 ∧ Den K W2 d2 v := by
  unfold exF1 at e
  split at e
  · cases e
    exact ⟨W', rfl, x, R', h⟩
  · split at e
    rotate_left
    · cases e
    rename_i hc
    obtain ⟨hlt, hcl⟩ := hc
    have xt : Ext W (W'.cut W.α) := { p := x.p, pn := x.pn, al := List.prefix_refl _, an := fun _ h => .inl h, hp := x.hp, h := x.h, dom := x.dom }
    have Rt : Rep K mg (W'.cut W.α) (S'.take S.length) := by
      refine ⟨?_, R.nd, fun a ha => R'.dj a (x.al.subset ha), R'.al, fun n mo a h1 h2 => ?_, R'.tb, R'.tp⟩
      · show W.α.length = _
        rw [R.len, List.length_take]
        omega
      · have h2 : W.α[n]? = some a := h2
        have hn : n < S.length := by rw [← R.len]; exact (List.getElem?_eq_some_iff.mp h2).1
        rw [List.getElem?_take_of_lt hn] at h1
        have h3 : W'.α[n]? = some a := by
          obtain ⟨t, ht⟩ := x.al
          rw [← ht, List.getElem?_append_left (by rw [R.len]; exact hn)]
          exact h2
        have o := R'.ob n mo a h1 h3
        refine o.cut x.al ?_
        rw [R.len]
        rcases hcl n hn with q | ⟨mo', q, c⟩
        · have o2 := R.ob n mo a (q ▸ h1) h2
          have := o2.clo
          rwa [R.len] at this
        · rw [h1] at q
          cases q
          exact c
    have hd : ∀ {d : DV} {v : V}, clo S.length d = true → Den K W' d v → Den K (W'.cut W.α) d v := fun c h => Den.cut x.al (by rw [R.len]; exact c) h
    have hds : ∀ {ds : List DV} {vs : List V}, clos S.length ds = true → Dens K W' ds vs → Dens K (W'.cut W.α) ds vs := fun c h => Dens.cut x.al (by rw [R.len]; exact c) h
    unfold exR at e
    split at e
    · rename_i n
      split at e
      · rename_i hn
        cases e
        exact ⟨W'.cut W.α, rfl, xt, Rt, hd (decide_eq_true hn) h⟩
      · rename_i hn
        split at e
        · rename_i ds hS
          split at e
          · rename_i hcd
            obtain ⟨a, rfl, ha, hm, vs, hv, hdv⟩ := ptr_ok R' h hS
            have na : a ∉ W.α := fun z => by
              obtain ⟨k, hk⟩ := List.mem_iff_getElem?.mp z
              have hk2 : W'.α[k]? = some a := by
                obtain ⟨t, ht⟩ := x.al
                rw [← ht, List.getElem?_append_left (List.getElem?_eq_some_iff.mp hk).1]
                exact hk
              have := nd_ix R'.nd hk2 ha
              have hlt : k < W.α.length := (List.getElem?_eq_some_iff.mp hk).1
              rw [R.len] at hlt
              omega
            obtain ⟨W2, h2, x2, R2, d2'⟩ := newL_at Rt (p := a) (vs := vs) hv (R'.dj a hm) na (hds hcd hdv) (Option.some.inj e)
            exact ⟨W2, h2, x2 W xt ((x.an a hm).resolve_left na), R2, d2'⟩
          · cases e
        · cases e
    · split at e
      · rename_i hcd
        cases e
        exact ⟨W'.cut W.α, rfl, xt, Rt, hd hcd h⟩
      · cases e
theorem exF_ok {m : Option Bool} {d d2 : DV} {S' S2 : Sto} {v : V} (R : Rep K mg W S) (x : Ext W W') (R' : Rep K mg W' S') (h : Den K W' d v) (e : exF m S d S' = some (d2, S2)) :
    ∃ W2, W2.H = W'.H ∧ Ext W W2 ∧ Rep K mg W2 S2 ∧ Den K W2 d2 v := by
  cases m with
  | none =>
    cases e
    exact ⟨W', rfl, x, R', h⟩
  | some m => exact exF1_ok R x R' h e
theorem slo_start {N : List Str} {ds : List DV} {vs : List V} (h : Dens K W ds vs) : Slo K W (start N vs) (startD N.length ds) := by
  refine ⟨by simp [L2.start, startD, h.len], fun i d e => ?_⟩
  unfold startD at e
  by_cases hi : i < ds.length
  · rw [List.getElem?_append_left (by simpa using hi), List.getElem?_map] at e
    cases q : ds[i]? with
    | none =>
      rw [q] at e
      cases e
    | some d' =>
      rw [q] at e
      cases e
      obtain ⟨v, h1, h2⟩ := h.get q
      refine ⟨v, ?_, h2⟩
      unfold L2.start
      rw [List.getElem?_append_left (by simpa [h.len] using hi), List.getElem?_map, h1]
      rfl
  · rw [List.getElem?_append_right (by simpa using hi)] at e
    obtain ⟨_, e⟩ := List.getElem?_eq_some_iff.mp e
    rw [List.getElem_replicate] at e
    cases e
theorem fn_dl {P : Program} {w : World} {base : Heap} {x qual : Str} {st : Stmt} {f : Addr} {fd : FuncData} {N ps : List Str} {k n : Nat} {m : Option Bool} {body : DS} (F : Fun K x qual st f fd) (S : FnScope N ps (defScope st)) (hps : ps.length = n)
    (hb : ∀ (cdv : Value) (A : Around) (outer : List Env) (s : Shared) (H : Hp) (E : XK), Room k (A.deeper (envOfC qual (defScope st) s.heap.objs.size f cdv)) →
      ∃ t, PSs (cxOf CX0 P w K mg base N qual (defScope st) f cdv A outer s H E).nox (defBody st) t ∧ RS K mg t body) :
    FnOk P w K mg base CX0 (k + 1) f fd ps (spF K mg n (fnF m N.length body)) := by
  refine F.ok S (fun vs H Q E h => h.1.trans hps.symm) fun cdv A outer s H vs Q E hr h => ?_
  obtain ⟨t, ht, hR⟩ := hb cdv A outer s H E hr
  refine ⟨t, ht, ?_⟩
  obtain ⟨_, W, S, ds, d, S', rfl, R, hd, hg, q⟩ := h
  unfold fnF at hg
  split at hg
  · rename_i s1 S1 e1
    refine hR W _ _ S _ _ R (slo_start hd) e1 fun σ1 W1 x1 R1 L1 => ?_
    obtain ⟨W2, h2, x2, R2, d2⟩ := exF_ok R x1 R1 (d := .non) (v := V.non) rfl hg
    rw [← h2]
    exact q _ W2 x2 R2 d2
  · rename_i d1 S1 e1
    refine hR W _ _ S _ _ R (slo_start hd) e1 fun v1 W1 x1 R1 d1 => ?_
    obtain ⟨W2, h2, x2, R2, d2⟩ := exF_ok R x1 R1 d1 hg
    rw [← h2]
    exact q _ W2 x2 R2 d2
  · cases hg
end
end DL
end
section
namespace DL
open PySem PyProof.Rows PySem.Spec L2

abbrev D2 := DV → DV → Sto → Option (DV × Sto)
/-- how large a factor may be -/
def BITS : Nat := 400000
def Fits (i : Int) : Prop := i.natAbs < 2 ^ BITS
theorem Fits.mul {i j : Int} (h : Fits i) (g : Fits j) : CMulW i j := wide_mul h g (by decide) (by decide) (by decide)
open Classical in
noncomputable def mulD : D2 := fun x y S => match x, y with
  | .int i, .int j => if Fits i ∧ Fits j then some (.int (i * j), S) else none
  | _, _ => none
def subD : D2 := fun x y S => match x, y with
  | .int i, .int j => some (.int (i - j), S)
  | _, _ => none
noncomputable def addD (m : Bool) : D2 := fun x y S => match x, y with
  | .int i, .int j => some (.int (i + j), S)
  | x, y => match trL S x, trL S y with
    | some a, some b => gate (a.length + b.length ≤ 100000) (some (newL m (a ++ b) S))
    | _, _ => none
def DIVB : Nat := 8000
def FitsD (j : Int) : Prop := 0 < j ∧ j.natAbs < 2 ^ DIVB
open Classical in
noncomputable def fdivD : D2 := fun x y S => match x, y with
  | .int i, .int j => if FitsD j then some (.int (i / j), S) else none
  | _, _ => none
noncomputable def modD : D2 := fun x y S => match x, y with
  | .int i, .int j => gate (0 < j) (some (.int (i % j), S))
  | _, _ => none
noncomputable def powD : D2 := fun x y S => match x, y with
  | .int i, .int j => gate (0 ≤ j ∧ j ≤ 1000 ∧ i.natAbs < 2 ^ 64) (some (.int (i ^ j.toNat), S))
  | _, _ => none
def cmpD (p : Int → Int → Bool) : D2 := fun x y S => match x, y with
  | .int i, .int j => some (.bl (p i j), S)
  | _, _ => none
def ltD : D2 := cmpD fun i j => decide (i < j)
def leD : D2 := cmpD fun i j => decide (i ≤ j)
def gtD : D2 := cmpD fun i j => decide (j < i)
def geD : D2 := cmpD fun i j => decide (j ≤ i)
section
variable {K : PySem.W.Frag} {mg : Str → Option Value}
theorem ro_I {C : Int → Int → Prop} {g : Int → Int → V} {g' : D2} (h : ∀ x y S d S', g' x y S = some (d, S') → ∃ i j, x = .int i ∧ y = .int j ∧ C i j ∧ S' = S ∧ ∀ W, Den K W d (g i j)) : RO K mg (rI C g) g' := by
  intro W S x y v u d S' Q R hx hy e q
  obtain ⟨i, j, rfl, rfl, c, rfl, hd⟩ := h x y S d S' e
  exact ⟨i, j, hx, hy, c, q _ W (Ext.refl W) R (hd W)⟩
theorem ro_I0 {g : Int → Int → V} {g' : D2} (h : ∀ x y S d S', g' x y S = some (d, S') → ∃ i j, x = .int i ∧ y = .int j ∧ S' = S ∧ ∀ W, Den K W d (g i j)) : RO K mg (rI0 g) g' := by
  intro W S x y v u d S' Q R hx hy e q
  obtain ⟨i, j, rfl, rfl, rfl, hd⟩ := h x y S d S' e
  exact ⟨i, j, hx, hy, q _ W (Ext.refl W) R (hd W)⟩
theorem ro_mul : RO K mg (rI CMulW fun i j => .int (i * j)) mulD := ro_I fun x y S d S' e => by
  unfold mulD at e
  split at e
  · split at e
    · rename_i h
      cases e
      exact ⟨_, _, rfl, rfl, h.1.mul h.2, rfl, fun _ => rfl⟩
    · cases e
  · cases e
theorem ro_sub : RO K mg (rI0 fun i j => .int (i - j)) subD := ro_I0 fun x y S d S' e => by
  unfold subD at e
  split at e
  · cases e
    exact ⟨_, _, rfl, rfl, rfl, fun _ => rfl⟩
  · cases e
theorem ro_fdiv : RO K mg (rI CDivW fun i j => .int (i / j)) fdivD := ro_I fun x y S d S' e => by
  unfold fdivD at e
  split at e
  · split at e
    · rename_i h
      cases e
      exact ⟨_, _, rfl, rfl, wide_div h.1 h.2 (by decide) (by decide), rfl, fun _ => rfl⟩
    · cases e
  · cases e
theorem ro_mod : RO K mg (rI (fun _ j => 0 < j) fun i j => .int (i % j)) modD := ro_I fun x y S d S' e => by
  unfold modD at e
  split at e
  · obtain ⟨h, e⟩ := gate_inv e
    cases e
    exact ⟨_, _, rfl, rfl, h, rfl, fun _ => rfl⟩
  · cases e
theorem ro_pow : RO K mg (rI CPow fun i j => .int (i ^ j.toNat)) powD := ro_I fun x y S d S' e => by
  unfold powD at e
  split at e
  · obtain ⟨h, e⟩ := gate_inv e
    cases e
    exact ⟨_, _, rfl, rfl, ⟨h.1, by omega, h.2.2⟩, rfl, fun _ => rfl⟩
  · cases e
theorem ro_cmp {p : Int → Int → Bool} : RO K mg (rI0 fun i j => .bl (p i j)) (cmpD p) := ro_I0 fun x y S d S' e => by
  unfold cmpD at e
  split at e
  · cases e
    exact ⟨_, _, rfl, rfl, rfl, fun _ => rfl⟩
  · cases e
theorem ro_lt : RO K mg (rI0 fun i j => .bl (decide (i < j))) ltD := ro_cmp
theorem ro_gt : RO K mg (rI0 fun i j => .bl (decide (j < i))) gtD := ro_cmp
theorem ro_ge : RO K mg (rI0 fun i j => .bl (decide (j ≤ i))) geD := ro_cmp
/-- ints, or lists -/
def rAddG : R2 := fun x y H Q => (rI0 fun i j => .int (i + j)) x y H Q ∨ rCat x y H Q
theorem op_addG {X : Cx} : OpR X (binaryOp .Add) rAddG := op_add.or op_cat
theorem ro_add {m : Bool} : RO K mg rAddG (addD m) := by
  intro W S x y v u d S' Q R hx hy e q
  unfold addD at e
  split at e
  · cases e
    exact .inl ⟨_, _, hx, hy, q _ W (Ext.refl W) R rfl⟩
  · split at e
    · rename_i a b ha hb
      obtain ⟨hl, e⟩ := gate_inv e
      obtain ⟨p, vs, rfl, h1, h2⟩ := trL_ok R hx ha
      obtain ⟨p', us, rfl, h3, h4⟩ := trL_ok R hy hb
      refine .inr ⟨p, p', vs, us, rfl, rfl, h1, h3, by rw [h2.len, h4.len]; exact lim_le hl, fun z hz => ?_⟩
      obtain ⟨W2, e2, x2, R2, d2⟩ := newL_ok R hz (h2.app h4) (Option.some.inj e)
      rw [← e2]
      exact q _ W2 x2 R2 d2
    · cases e

/-! ### == over data -/
mutual
def py (r : Nat → Option PyData) : DV → Option PyData
  | .non => some .none
  | .bl b => some (.bool b)
  | .int i => some (.int i)
  | .str s => some (.str s)
  | .ty _ => none
  | .tup ds => (pys r ds).map .tuple
  | .lst ds => (pys r ds).map .list
  | .rls ds => (pys r ds).map .list
  | .ptr n => r n
def pys (r : Nat → Option PyData) : List DV → Option (List PyData)
  | [] => some []
  | d :: ds => match py r d, pys r ds with
    | some p, some ps => some (p :: ps)
    | _, _ => none
end
def pyS (S : Sto) : DV → Option PyData := py fun n => match S[n]? with
  | some (.ml ds) => (pys (fun _ => none) ds).map .list
  | _ => none
def eqD : D2 := fun x y S => match pyS S x, pyS S y with
  | some p, some q => if SeqAt.shaped p = true ∧ SeqAt.shaped q = true then some (.bl (PyData.eqv p q), S) else none
  | _, _ => none
def neD : D2 := fun x y S => match pyS S x, pyS S y with
  | some p, some q => if SeqAt.shaped p = true ∧ SeqAt.shaped q = true then some (.bl (!PyData.eqv p q), S) else none
  | _, _ => none
section
variable {W : Wd} {r : Nat → Option PyData} (hr : ∀ n q a, r n = some q → W.α[n]? = some a → Dp K W.H (.ref a) q)
include hr
mutual
theorem py_ok : ∀ {d : DV} {v : V} {p : PyData}, py r d = some p → Den K W d v → Dp K W.H v p
  | .non, _, _, e, h => by
    cases (show _ = V.non from h)
    cases e
    exact .non
  | .bl b, _, _, e, h => by
    cases (show _ = V.bl b from h)
    cases e
    exact .bl b
  | .int i, _, _, e, h => by
    cases (show _ = V.int i from h)
    cases e
    exact .int i
  | .str s, _, _, e, h => by
    cases (show _ = V.str s from h)
    cases e
    exact .str s
  | .ty n, _, _, e, _ => by cases e
  | .tup ds, _, _, e, h => by
    obtain ⟨a, vs, rfl, s, h⟩ := h
    cases q : pys r ds with
    | none =>
      simp only [py, q] at e
      cases e
    | some ps =>
      simp only [py, q, Option.map_some] at e
      cases e
      exact .tup s.1 (pys_ok q h)
  | .lst ds, _, _, e, h => by
    obtain ⟨a, vs, rfl, s, h⟩ := h
    cases q : pys r ds with
    | none =>
      simp only [py, q] at e
      cases e
    | some ps =>
      simp only [py, q, Option.map_some] at e
      cases e
      exact .lst (SqL.of s.2) (pys_ok q h)
  | .rls ds, _, _, e, h => by
    obtain ⟨a, vs, rfl, s, h⟩ := h
    cases q : pys r ds with
    | none =>
      simp only [py, q] at e
      cases e
    | some ps =>
      simp only [py, q, Option.map_some] at e
      cases e
      exact .lst s.1 (pys_ok q h)
  | .ptr n, _, _, e, h => by
    obtain ⟨a, h, rfl⟩ := h
    exact hr n _ a e h
theorem pys_ok : ∀ {ds : List DV} {vs : List V} {ps : List PyData}, pys r ds = some ps → Dens K W ds vs → DpAll K W.H vs ps
  | [], _, _, e, h => by
    cases (show _ = [] from h)
    cases e
    exact .nil
  | d :: ds, _, _, e, h => by
    obtain ⟨v, us, rfl, h1, h2⟩ := h
    cases q : py r d with
    | none =>
      simp only [pys, q] at e
      cases e
    | some p =>
      cases q' : pys r ds with
      | none =>
        simp only [pys, q, q'] at e
        cases e
      | some ps =>
        simp only [pys, q, q'] at e
        cases e
        exact .cons (py_ok q h1) (pys_ok q' h2)
end
end
theorem pyS_ok {W : Wd} {S : Sto} {d : DV} {v : V} {p : PyData} (R : Rep K mg W S) (e : pyS S d = some p) (h : Den K W d v) : Dp K W.H v p := by
  refine py_ok (fun n q a e h => ?_) e h
  split at e
  · rename_i ds hS
    obtain ⟨vs, h1, h2⟩ := R.ob n _ a hS h
    cases q' : pys (fun _ => none) ds with
    | none =>
      simp only [q'] at e
      cases e
    | some ps =>
      simp only [q', Option.map_some] at e
      cases e
      exact .lst (SqL.of h1) (pys_ok (fun _ _ _ z _ => by cases z) q' h2)
  · cases e
theorem ro_eq : RO K mg (rEqD K) eqD := by
  intro W S x y v u d S' Q R hx hy e q
  unfold eqD at e
  split at e
  · rename_i p p' h1 h2
    split at e
    · rename_i hs
      cases e
      exact ⟨p, p', pyS_ok R h1 hx, pyS_ok R h2 hy, hs.1, hs.2, q _ W (Ext.refl W) R rfl⟩
    · cases e
  · cases e
theorem ro_ne : RO K mg (rNeD K) neD := by
  intro W S x y v u d S' Q R hx hy e q
  unfold neD at e
  split at e
  · rename_i p p' h1 h2
    split at e
    · rename_i hs
      cases e
      exact ⟨p, p', pyS_ok R h1 hx, pyS_ok R h2 hy, hs.1, hs.2, q _ W (Ext.refl W) R rfl⟩
    · cases e
  · cases e

/-! ### is None, in, an item -/
@[simp] def nonB : DV → Bool
  | .non => true
  | _ => false
theorem nonB_ok {W : Wd} {d : DV} {v : V} (h : Den K W d v) : decide (v = .non) = nonB d := by
  cases d with
  | non =>
    cases (show v = V.non from h)
    rfl
  | bl b =>
    cases (show v = V.bl b from h)
    rfl
  | int i =>
    cases (show v = V.int i from h)
    rfl
  | str s =>
    cases (show v = V.str s from h)
    rfl
  | ty n =>
    cases (show v = V.ty n from h)
    rfl
  | tup ds =>
    obtain ⟨a, vs, rfl, _⟩ := h
    rfl
  | lst ds =>
    obtain ⟨a, vs, rfl, _⟩ := h
    rfl
  | rls ds =>
    obtain ⟨a, vs, rfl, _⟩ := h
    rfl
  | ptr n =>
    obtain ⟨a, _, rfl⟩ := h
    rfl
variable {ta tb te : TE} {fa fb fe : DE} {taa : TA} {faa : DA}
@[simp] def dIsN (neg : Bool) (f : DE) : DE := fun s S => bnd (f s S) fun x S1 => some (.bl (if neg then !nonB x else nonB x), S1)
theorem re_isN (h : RE K mg ta fa) : RE K mg (tIsN ta) (dIsN false fa) := by
  intro W σ s S d S' Q R L e q
  obtain ⟨x, S1, e1, e⟩ := bnd_inv e
  cases e
  refine h W σ s S x _ _ R L e1 fun v W1 x1 R1 d1 => q _ W1 x1 R1 ?_
  show V.bl (decide (v = .non)) = _
  rw [nonB_ok d1]
  rfl
def toV : DV → Option V
  | .non => some .non
  | .bl b => some (.bl b)
  | .int i => some (.int i)
  | .str s => some (.str s)
  | _ => none
def toVs : List DV → Option (List V)
  | [] => some []
  | d :: ds => match toV d, toVs ds with
    | some v, some vs => some (v :: vs)
    | _, _ => none
theorem toV_ok {W : Wd} {d : DV} {v u : V} (e : toV d = some u) (h : Den K W d v) : v = u ∧ flatV v = true := by
  cases d with
  | non =>
    cases (show v = V.non from h)
    cases e
    exact ⟨rfl, rfl⟩
  | bl b =>
    cases (show v = V.bl b from h)
    cases e
    exact ⟨rfl, rfl⟩
  | int i =>
    cases (show v = V.int i from h)
    cases e
    exact ⟨rfl, rfl⟩
  | str s =>
    cases (show v = V.str s from h)
    cases e
    exact ⟨rfl, rfl⟩
  | _ => cases e
theorem toVs_ok {W : Wd} : ∀ {ds : List DV} {vs us : List V}, toVs ds = some us → Dens K W ds vs → vs = us ∧ vs.all flatV = true
  | [], _, _, e, h => by
    cases (show _ = [] from h)
    cases e
    exact ⟨rfl, rfl⟩
  | d :: ds, _, _, e, h => by
    obtain ⟨v, r, rfl, h1, h2⟩ := h
    unfold toVs at e
    split at e
    · rename_i u us e1 e2
      cases e
      obtain ⟨rfl, f1⟩ := toV_ok e1 h1
      obtain ⟨rfl, f2⟩ := toVs_ok e2 h2
      exact ⟨rfl, by rw [List.all_cons, f1, f2]; rfl⟩
    · cases e
def inD (neg : Bool) : D2 := fun x y S => match toV x, (rdL S y).or (rdT y) with
  | some u, some ds => match toVs ds with
    | some us => some (.bl (if neg then !inV u us else inV u us), S)
    | none => none
  | _, _ => none
theorem ro_in {neg : Bool} : RO K mg (rIn K neg) (inD neg) := by
  intro W S x y v u d S' Q R hx hy e q
  unfold inD at e
  split at e
  · rename_i u' ds h1 h2
    split at e
    · rename_i us h3
      cases e
      obtain ⟨rfl, f1⟩ := toV_ok h1 hx
      cases h4 : rdL S y with
      | some es =>
        rw [h4] at h2
        cases h2
        obtain ⟨a, vs, rfl, h5, h6⟩ := rdL_ok R hy h4
        obtain ⟨rfl, f2⟩ := toVs_ok h3 h6
        exact ⟨a, vs, rfl, .inl h5, f1, f2, q _ W (Ext.refl W) R rfl⟩
      | none =>
        rw [h4] at h2
        obtain ⟨a, vs, rfl, h5, h6⟩ := rdT_ok hy h2
        obtain ⟨rfl, f2⟩ := toVs_ok h3 h6
        exact ⟨a, vs, rfl, .inr h5, f1, f2, q _ W (Ext.refl W) R rfl⟩
    · cases e
  · cases e
theorem Dens.atI {W : Wd} {ds : List DV} {vs : List V} {i : Int} {d : DV} (h : Dens K W ds vs) (e : L2.atI ds i = some d) : ∃ v, L2.atI vs i = some v ∧ Den K W d v := by
  unfold L2.atI at e ⊢
  rw [h.len]
  cases q : ixN ds.length i with
  | none =>
    rw [q] at e
    cases e
  | some j =>
    rw [q] at e
    obtain ⟨v, h1, h2⟩ := h.get (show ds[j]? = some d from e)
    exact ⟨v, h1, h2⟩
def ixD : D2 := fun x y S => match y with
  | .int i => match (rdL S x).or (rdT x) with
    | some ds => match L2.atI ds i with
      | some d => some (d, S)
      | none => none
    | none => none
  | _ => none
theorem ro_ix : RO K mg (rIx K) ixD := by
  intro W S x y v u d S' Q R hx hy e q
  unfold ixD at e
  split at e
  · rename_i i
    cases (show u = V.int i from hy)
    split at e
    · rename_i ds h2
      split at e
      · rename_i d' h3
        cases e
        cases h4 : rdL S x with
        | some es =>
          rw [h4] at h2
          cases h2
          obtain ⟨a, vs, rfl, h5, h6⟩ := rdL_ok R hx h4
          obtain ⟨w, h7, h8⟩ := h6.atI h3
          exact .inl ⟨a, vs, i, w, rfl, rfl, h5, h7, q _ W (Ext.refl W) R h8⟩
        | none =>
          rw [h4] at h2
          obtain ⟨a, vs, rfl, h5, h6⟩ := rdT_ok hx h2
          obtain ⟨w, h7, h8⟩ := h6.atI h3
          exact .inr (.inl ⟨a, vs, i, w, rfl, rfl, h5, h7, q _ W (Ext.refl W) R h8⟩)
      · cases e
    · cases e
  · cases e

/-! ### slices -/
abbrev DO := Sl → Sto → Option (Option Int × Sto)
def ROp (K : PySem.W.Frag) (mg : Str → Option Value) (to : TO) (f : DO) : Prop := ∀ (W : Wd) (σ : L2.St) (s : Sl) (S : Sto) (o : Option Int) (S' : Sto) (Q : Option Int → Hp → Prop), Rep K mg W S → Slo K W σ s → f s S = some (o, S') →
  (∀ W', Ext W W' → Rep K mg W' S' → Q o W'.H) → to σ W.H Q
@[simp] def doN : DO := fun _ S => some (none, S)
@[simp] def doS (f : DE) : DO := fun s S => bnd (f s S) fun x S1 => match x with
  | .int i => some (some i, S1)
  | _ => none
theorem ro_none : ROp K mg tNoPart doN := by
  intro W σ s S o S' Q R L e q
  cases e
  exact q W (Ext.refl W) R
theorem ro_some (h : RE K mg ta fa) : ROp K mg (tPart ta) (doS fa) := by
  intro W σ s S o S' Q R L e q
  obtain ⟨x, S1, e1, e⟩ := bnd_inv e
  split at e
  · cases e
    exact h W σ s S _ _ _ R L e1 fun v W1 x1 R1 d1 => ⟨_, d1, q W1 x1 R1⟩
  · cases e
def cutL {α : Type} (xs : List α) (lo hi : Option Int) : List α := (xs.drop (HT.sIx xs.length 0 lo)).take (HT.sIx xs.length xs.length hi - HT.sIx xs.length 0 lo)
theorem Dens.cutL {W : Wd} {ds : List DV} {vs : List V} (lo hi : Option Int) (h : Dens K W ds vs) : Dens K W (DL.cutL ds lo hi) (cutV vs lo hi) := by
  unfold DL.cutL cutV
  rw [h.len]
  exact (h.drop _).take _
def dSlL (m : Bool) (f : DE) (fl fh : DO) : DE := fun s S => bnd (f s S) fun x S1 => bnd (fl s S1) fun lo S2 => bnd (fh s S2) fun hi S3 => match rdL S3 x with
  | some ds => some (newL m (cutL ds lo hi) S3)
  | none => none
theorem re_slL {m : Bool} {tl th : TO} {fl fh : DO} (h : RE K mg ta fa) (hl : ROp K mg tl fl) (hh : ROp K mg th fh) : RE K mg (tSl (rSlL K) ta tl th) (dSlL m fa fl fh) := by
  intro W σ s S d S' Q R L e q
  obtain ⟨x, S1, e1, e⟩ := bnd_inv e
  obtain ⟨lo, S2, e2, e⟩ := bnd_inv e
  obtain ⟨hi, S3, e3, e⟩ := bnd_inv e
  split at e
  · rename_i ds hd
    refine h W σ s S x S1 _ R L e1 fun v W1 x1 R1 d1 => ?_
    refine hl W1 σ s S1 lo S2 _ R1 (L.ext x1) e2 fun W2 x2 R2 => ?_
    refine hh W2 σ s S2 hi S3 _ R2 (L.ext (x1.trans x2)) e3 fun W3 x3 R3 => ?_
    obtain ⟨a, vs, rfl, h1, h2⟩ := rdL_ok R3 (d1.ext (x2.trans x3)) hd
    refine ⟨a, vs, rfl, h1, fun p hp => ?_⟩
    obtain ⟨W4, e4, x4, R4, d4⟩ := newL_ok R3 hp (h2.cutL lo hi) (Option.some.inj e)
    rw [← e4]
    exact q _ W4 (((x1.trans x2).trans x3).trans x4) R4 d4
  · cases e
end
end DL
end
section
namespace DL
open PySem PyProof.Rows PySem.Spec L2
abbrev DC := List DV → Sto → Option (DV × Sto)
abbrev DM := DV → List DV → Sto → Option (DV × Sto)
section
variable {K : PySem.W.Frag} {mg : Str → Option Value}

/-! ### built-in calls -/
def rLen (K : PySem.W.Frag) : List V → Hp → VK → Prop := fun xs H Q => ∃ p ys, xs = [.ref p] ∧ (SqL K H p ys ∨ SqT K H p ys) ∧ Q (.int ys.length) H
theorem cr_len {X : Cx} : CallR X (.builtin "len") (rLen X.K) := call_len_seq
def lenD : DC := fun xs S => match xs with
  | [x] => match (rdL S x).or (rdT x) with
    | some ds => some (.int (ds.length : Nat), S)
    | none => none
  | _ => none
theorem rd_ok {W : Wd} {S : Sto} {x : DV} {v : V} {ds : List DV} (R : Rep K mg W S) (h : Den K W x v) (e : (rdL S x).or (rdT x) = some ds) : ∃ a vs, v = .ref a ∧ (SqL K W.H a vs ∨ SqT K W.H a vs) ∧ Dens K W ds vs := by
  cases h4 : rdL S x with
  | some es =>
    rw [h4] at e
    cases e
    obtain ⟨a, vs, rfl, h5, h6⟩ := rdL_ok R h h4
    exact ⟨a, vs, rfl, .inl h5, h6⟩
  | none =>
    rw [h4] at e
    obtain ⟨a, vs, rfl, h5, h6⟩ := rdT_ok h e
    exact ⟨a, vs, rfl, .inr h5, h6⟩
theorem dens1 {W : Wd} {x : DV} {vs : List V} (h : Dens K W [x] vs) : ∃ v, vs = [v] ∧ Den K W x v := by
  obtain ⟨v, r, rfl, h1, h2⟩ := h
  cases (show r = [] from h2)
  exact ⟨v, rfl, h1⟩
theorem dens2 {W : Wd} {x y : DV} {vs : List V} (h : Dens K W [x, y] vs) : ∃ v u, vs = [v, u] ∧ Den K W x v ∧ Den K W y u := by
  obtain ⟨v, r, rfl, h1, u, r', rfl, h2, h3⟩ := h
  cases (show r' = [] from h3)
  exact ⟨v, u, rfl, h1, h2⟩
theorem rc_len : RC K mg (rLen K) lenD := by
  intro W S xs vs d S' Q R h e q
  unfold lenD at e
  split at e
  · rename_i x
    split at e
    · rename_i ds hd
      cases e
      obtain ⟨v, rfl, hv⟩ := dens1 h
      obtain ⟨a, us, rfl, h1, h2⟩ := rd_ok R hv hd
      refine ⟨a, us, rfl, h1, q _ W (Ext.refl W) R ?_⟩
      rw [h2.len]
      rfl
    · cases e
  · cases e
def rAbs : List V → Hp → VK → Prop := fun xs H Q => ∃ i, xs = [.int i] ∧ Q (.int (if i < 0 then -i else i)) H
theorem cr_abs {X : Cx} : CallR X (.builtin "abs") rAbs := call_abs
def absD : DC := fun xs S => match xs with
  | [.int i] => some (.int (if i < 0 then -i else i), S)
  | _ => none
theorem rc_abs : RC K mg rAbs absD := by
  intro W S xs vs d S' Q R h e q
  unfold absD at e
  split at e
  · rename_i i
    cases e
    obtain ⟨v, rfl, hv⟩ := dens1 h
    cases (show v = V.int i from hv)
    exact ⟨i, rfl, q _ W (Ext.refl W) R rfl⟩
  · cases e
def rInt1 : List V → Hp → VK → Prop := fun xs H Q => (∃ i, xs = [.int i] ∧ Q (.int i) H) ∨ ∃ k, xs = [.bl k] ∧ Q (.int (if k then 1 else 0)) H
theorem cr_int1 {X : Cx} : CallR X (.type "int") rInt1 := call_int1
def intD : DC := fun xs S => match xs with
  | [.int i] => some (.int i, S)
  | [.bl k] => some (.int (if k then 1 else 0), S)
  | _ => none
theorem rc_int1 : RC K mg rInt1 intD := by
  intro W S xs vs d S' Q R h e q
  unfold intD at e
  split at e
  · rename_i i
    cases e
    obtain ⟨v, rfl, hv⟩ := dens1 h
    cases (show v = V.int i from hv)
    exact .inl ⟨i, rfl, q _ W (Ext.refl W) R rfl⟩
  · rename_i k
    cases e
    obtain ⟨v, rfl, hv⟩ := dens1 h
    cases (show v = V.bl k from hv)
    exact .inr ⟨k, rfl, q _ W (Ext.refl W) R rfl⟩
  · cases e
/-- the ints of a list of ints -/
def toI : DV → Option Int
  | .int i => some i
  | _ => none
def toIs : List DV → Option (List Int)
  | [] => some []
  | d :: ds => match toI d, toIs ds with
    | some i, some is => some (i :: is)
    | _, _ => none
theorem toIs_ok {W : Wd} : ∀ {ds : List DV} {vs : List V} {ns : List Int}, toIs ds = some ns → Dens K W ds vs → vs = ns.map V.int
  | [], _, _, e, h => by
    cases (show _ = [] from h)
    cases e
    rfl
  | d :: ds, _, _, e, h => by
    obtain ⟨v, r, rfl, h1, h2⟩ := h
    unfold toIs at e
    split at e
    · rename_i i is e1 e2
      cases e
      rw [toIs_ok e2 h2]
      unfold toI at e1
      split at e1
      · cases e1
        cases (show v = V.int i from h1)
        rfl
      · cases e1
    · cases e
theorem toIs_map (ns : List Int) : toIs (ns.map DV.int) = some ns := by
  induction ns with
  | nil => rfl
  | cons n ns ih => simp [toIs, toI, ih]
def rMinG (K : PySem.W.Frag) : List V → Hp → VK → Prop := fun xs H Q => (∃ i j, xs = [.int i, .int j] ∧ Q (.int (if j < i then j else i)) H) ∨ rMin K xs H Q
theorem cr_minG {X : Cx} (hc : X.calm = true) : CallR X (.builtin "min") (rMinG X.K) := (call_min2 hc).or (cr_min hc)
def maxI : List Int → Int
  | [] => 0
  | [n] => n
  | n :: ns => max n (maxI ns)
def minI : List Int → Int
  | [] => 0
  | [n] => n
  | n :: ns => min n (minI ns)
theorem maxI_mem : ∀ {ns : List Int}, ns ≠ [] → maxI ns ∈ ns ∧ ∀ y ∈ ns, y ≤ maxI ns
  | [], h => absurd rfl h
  | [n], _ => by simp [maxI]
  | n :: m :: ns, _ => by
    obtain ⟨h1, h2⟩ := maxI_mem (ns := m :: ns) (by simp)
    have e : maxI (n :: m :: ns) = max n (maxI (m :: ns)) := rfl
    rw [e]
    refine ⟨?_, fun y hy => ?_⟩
    · by_cases q : n ≤ maxI (m :: ns)
      · rw [show max n (maxI (m :: ns)) = maxI (m :: ns) by omega]
        exact List.mem_cons_of_mem _ h1
      · rw [show max n (maxI (m :: ns)) = n by omega]
        exact List.mem_cons_self
    · rcases List.mem_cons.mp hy with rfl | hy
      · omega
      · have := h2 y hy
        omega
theorem minI_mem : ∀ {ns : List Int}, ns ≠ [] → minI ns ∈ ns ∧ ∀ y ∈ ns, minI ns ≤ y
  | [], h => absurd rfl h
  | [n], _ => by simp [minI]
  | n :: m :: ns, _ => by
    obtain ⟨h1, h2⟩ := minI_mem (ns := m :: ns) (by simp)
    have e : minI (n :: m :: ns) = min n (minI (m :: ns)) := rfl
    rw [e]
    refine ⟨?_, fun y hy => ?_⟩
    · by_cases q : n ≤ minI (m :: ns)
      · rw [show min n (minI (m :: ns)) = n by omega]
        exact List.mem_cons_self
      · rw [show min n (minI (m :: ns)) = minI (m :: ns) by omega]
        exact List.mem_cons_of_mem _ h1
    · rcases List.mem_cons.mp hy with rfl | hy
      · omega
      · have := h2 y hy
        omega
def maxD : DC := fun xs S => match xs with
  | [.int i, .int j] => some (.int (if j > i then j else i), S)
  | [x] => match rdL S x with
    | some ds => match toIs ds with
      | some ns => if 0 < ns.length then some (.int (maxI ns), S) else none
      | none => none
    | none => none
  | _ => none
def minD : DC := fun xs S => match xs with
  | [.int i, .int j] => some (.int (if j < i then j else i), S)
  | [x] => match rdL S x with
    | some ds => match toIs ds with
      | some ns => if 0 < ns.length then some (.int (minI ns), S) else none
      | none => none
    | none => none
  | _ => none
theorem rc_min : RC K mg (rMinG K) minD := by
  intro W S xs vs d S' Q R h e q
  unfold minD at e
  split at e
  · rename_i i j
    cases e
    obtain ⟨v, u, rfl, hv, hu⟩ := dens2 h
    cases (show v = V.int i from hv)
    cases (show u = V.int j from hu)
    exact .inl ⟨i, j, rfl, q _ W (Ext.refl W) R rfl⟩
  · rename_i x
    split at e
    · rename_i ds hd
      split at e
      · rename_i ns hn
        split at e
        · rename_i hl
          cases e
          obtain ⟨v, rfl, hv⟩ := dens1 h
          obtain ⟨a, us, rfl, h1, h2⟩ := rdL_ok R hv hd
          cases toIs_ok hn h2
          have hne : ns ≠ [] := by
            intro z
            subst z
            exact absurd hl (by decide)
          obtain ⟨m1, m2⟩ := minI_mem hne
          refine .inr ⟨a, ns, rfl, h1, hl, fun m hm hle => ?_⟩
          have : m = minI ns := by
            have := hle _ m1
            have := m2 _ hm
            omega
          exact q _ W (Ext.refl W) R (by rw [this]; rfl)
        · cases e
      · cases e
    · cases e
  · cases e
def sumD : DC := fun xs S => match xs with
  | [x] => match rdL S x with
    | some ds => match toIs ds with
      | some ns => some (.int ns.sum, S)
      | none => none
    | none => none
  | _ => none
theorem rc_sum : RC K mg (rSum K) sumD := by
  intro W S xs vs d S' Q R h e q
  unfold sumD at e
  split at e
  · rename_i x
    split at e
    · rename_i ds hd
      split at e
      · rename_i ns hn
        cases e
        obtain ⟨v, rfl, hv⟩ := dens1 h
        obtain ⟨a, us, rfl, h1, h2⟩ := rdL_ok R hv hd
        cases toIs_ok hn h2
        exact ⟨a, ns, rfl, h1, q _ W (Ext.refl W) R rfl⟩
      · cases e
    · cases e
  · cases e
/-- rising -/
def sortI (ns : List Int) : List Int := ns.mergeSort (fun a b => decide (a ≤ b))
theorem sortI_eq {ns ms : List Int} (h : ms.Perm ns) (s : ms.Pairwise (· ≤ ·)) : ms = sortI ns := by
  have p : (sortI ns).Perm ns := List.mergeSort_perm ns _
  have s2 : (sortI ns).Pairwise (· ≤ ·) := by
    have := List.pairwise_mergeSort (le := fun (a b : Int) => decide (a ≤ b)) (fun a b c h1 h2 => by simp at *; omega) (fun a b => by simp; omega) ns
    exact this.imp fun h => by simpa using h
  exact (h.trans p.symm).eq_of_pairwise (fun a b _ _ h1 h2 => by omega) s s2
def rListOf (K : PySem.W.Frag) : List V → Hp → VK → Prop := fun xs H Q => ∃ p ys, xs = [.ref p] ∧ (SqL K H p ys ∨ SqT K H p ys) ∧ ∀ l, H l = none → Q (.ref l) (upd H l (.lst ys))
theorem cr_listOf {X : Cx} : CallR X (.type "list") (rListOf X.K) := call_list_of
def listD (m : Bool) : DC := fun xs S => match xs with
  | [x] => match (rdL S x).or (rdT x) with
    | some ds => some (newL m ds S)
    | none => none
  | _ => none
theorem rc_list {m : Bool} : RC K mg (rListOf K) (listD m) := by
  intro W S xs vs d S' Q R h e q
  unfold listD at e
  split at e
  · rename_i x
    split at e
    · rename_i ds hd
      obtain ⟨v, rfl, hv⟩ := dens1 h
      obtain ⟨a, us, rfl, h1, h2⟩ := rd_ok R hv hd
      refine ⟨a, us, rfl, h1, fun l hl => ?_⟩
      obtain ⟨W2, e2, x2, R2, d2⟩ := newL_ok R hl h2 (Option.some.inj e)
      rw [← e2]
      exact q _ W2 x2 R2 d2
    · cases e
  · cases e
def gcdD : DC := fun xs S => match xs with
  | [.int a, .int b] => some (.int ((Nat.gcd a.natAbs b.natAbs : Nat) : Int), S)
  | _ => none
theorem rc_gcd : RC K mg rGcd gcdD := by
  intro W S xs vs d S' Q R h e q
  unfold gcdD at e
  split at e
  · rename_i a b
    cases e
    obtain ⟨v, u, rfl, hv, hu⟩ := dens2 h
    cases (show v = V.int a from hv)
    cases (show u = V.int b from hu)
    exact ⟨a, b, rfl, q _ W (Ext.refl W) R rfl⟩
  · cases e
/-! ### list(range(..)) -/
variable {ta tb te : TE} {fa fb fe : DE} {taa : TA} {faa : DA}
def rgD (a b : Int) : List DV := (List.range (b - a).toNat).map fun i => DV.int (a + (i : Nat))
theorem dens_rg {W : Wd} (a b : Int) : Dens K W (rgD a b) (rgV a b) := by
  unfold rgD rgV
  generalize List.range (b - a).toNat = l
  induction l with
  | nil => rfl
  | cons x r ih => exact ⟨_, _, rfl, rfl, ih⟩
noncomputable def dLr1' (m : Bool) (f : DE) : DE := fun s S => bnd (f s S) fun x S1 => match x with
  | .int j => gate (0 ≤ j ∧ j ≤ 100000) (some (newL m (rgD 0 j) S1))
  | _ => none
theorem re_lr1 {m : Bool} (ha : RE K mg ta fa) : RE K mg (tLstRg (tRg1 ta)) (dLr1' m fa) := by
  intro W σ s S d S' Q R L e q
  obtain ⟨x, S1, e1, e⟩ := bnd_inv e
  split at e
  · rename_i j
    obtain ⟨hl, e⟩ := gate_inv e
    refine ha W σ s S _ S1 _ R L e1 fun v W1 x1 R1 d1 => ?_
    refine ⟨j, d1, RgOk.of_le (by omega) (by omega) (by omega) hl.1, fun p hp => ?_⟩
    obtain ⟨W3, e3, x3, R3, d3⟩ := newL_ok R1 hp (dens_rg 0 j) (Option.some.inj e)
    rw [← e3]
    exact q _ W3 (x1.trans x3) R3 d3
  · cases e

/-! ### truth -/
def truD (S : Sto) (x : DV) : Option Bool := match x with
  | .non => some false
  | .bl b => some b
  | .int i => some (i != 0)
  | x => match (rdL S x).or (rdT x) with
    | some ds => some (!ds.isEmpty)
    | none => none
@[simp] def dTru (f : DE) : DT := fun s S => bnd (f s S) fun x S1 => match truD S1 x with
  | some b => some (b, S1)
  | none => none
theorem isEmpty_dens {W : Wd} : ∀ {ds : List DV} {vs : List V}, Dens K W ds vs → vs.isEmpty = ds.isEmpty
  | [], _, h => by
    cases (show _ = [] from h)
    rfl
  | d :: ds, _, h => by
    obtain ⟨v, r, rfl, _⟩ := h
    rfl
theorem rt_tru (h : RE K mg te fe) : RT K mg (fun σ H Q => te σ H fun x H' => ∃ k, TruV K x H' k ∧ Q k H') (dTru fe) := by
  intro W σ s S b S' Q R L e q
  obtain ⟨x, S1, e1, e⟩ := bnd_inv e
  split at e
  · rename_i b' hb
    cases e
    refine h W σ s S x _ _ R L e1 fun v W1 x1 R1 d1 => ⟨_, ?_, q W1 x1 R1⟩
    unfold truD at hb
    split at hb
    · cases hb
      cases (show v = V.non from d1)
      rfl
    · cases hb
      cases (show v = V.bl _ from d1)
      rfl
    · cases hb
      cases (show v = V.int _ from d1)
      rfl
    · split at hb
      · rename_i ds hd
        cases hb
        obtain ⟨a, vs, rfl, h1, h2⟩ := rd_ok R1 d1 hd
        rw [← isEmpty_dens h2]
        rcases h1 with h1 | h1
        · exact .inl ⟨vs, h1, rfl⟩
        · exact .inr (.inl ⟨vs, h1, rfl⟩)
      · cases hb
  · cases e

/-! ### isinstance of built-in types -/
def tyS (S : Sto) : DV → Option String
  | .non => some "NoneType"
  | .bl _ => some "bool"
  | .int _ => some "int"
  | .str _ => some "str"
  | .tup _ => some "tuple"
  | .lst _ => some "list"
  | .ptr n => match S[n]? with
    | some (.ml _) => some "list"
    | _ => none
  | _ => none
/-- isinstance(x, T) -/
def isiD : DC := fun xs S => match xs with
  | [x, .ty T] => match tyS S x with
    | some t => match kitB t T with
      | some b => some (.bl b, S)
      | none => none
    | none => none
  | _ => none
/-- isinstance(x, (T1, T2)) -/
def kitsB (t : String) : List String → Option Bool
  | [] => some false
  | T :: Ts => match kitB t T with
    | some true => some true
    | some false => kitsB t Ts
    | none => none
@[simp] def dIsiT (Ts : List String) (f : DE) : DE := fun s S => bnd (f s S) fun x S1 => match tyS S1 x with
  | some t => match kitsB t Ts with
    | some b => some (.bl b, S1)
    | none => none
  | none => none
/-! ### methods of lists -/
def ptrL (S : Sto) (x : DV) : Option (Nat × List DV) := match x with
  | .ptr n => match S[n]? with
    | some (.ml ds) => some (n, ds)
    | _ => none
  | _ => none
theorem ptrL_ok {W : Wd} {S : Sto} {x : DV} {v : V} {n : Nat} {ds : List DV} (R : Rep K mg W S) (e : ptrL S x = some (n, ds)) (h : Den K W x v) :
    ∃ a vs, v = .ref a ∧ W.H a = some (.lst vs) ∧ Dens K W ds vs ∧ ∀ es us, Dens K W es us → ∃ W', W'.H = upd W.H a (.lst us) ∧ Ext W W' ∧ Rep K mg W' (S.set n (.ml es)) := by
  unfold ptrL at e
  split at e
  · split at e
    · rename_i hS
      cases e
      obtain ⟨a, rfl, ha, hm, vs, h1, h2⟩ := ptr_ok R h hS
      refine ⟨a, vs, rfl, h1, h2, fun es us he => ?_⟩
      have xp := ext_put (o := HO.lst us) R hm
      exact ⟨W.put a (.lst us), rfl, xp, rep_put R ha ⟨us, upd_same, Dens.ext xp _ _ he⟩⟩
    · cases e
  · cases e
noncomputable def appendD : DM := fun x vs S => match ptrL S x, vs with
  | some (n, ds), [y] => gate (ds.length < 100000) (some (.non, S.set n (.ml (ds ++ [y]))))
  | _, _ => none
theorem rm_append : RM K mg rAppend appendD := by
  intro W S x xs v vs d S' Q R hx hs e q
  unfold appendD at e
  split at e
  · rename_i n ds y h1
    obtain ⟨hl, e⟩ := gate_inv e
    cases e
    obtain ⟨u, rfl, hu⟩ := dens1 hs
    obtain ⟨a, us, rfl, h2, h3, h4⟩ := ptrL_ok R h1 hx
    obtain ⟨W', e1, x1, R1⟩ := h4 _ _ (h3.app (Dens.one hu))
    refine ⟨a, us, u, rfl, rfl, h2, by rw [h3.len]; exact lim_lt hl, ?_⟩
    rw [← e1]
    exact q _ W' x1 R1 rfl
  · cases e
noncomputable def extendD : DM := fun x vs S => match ptrL S x, vs with
  | some (n, ds), [y] => match trL S y with
    | some es => gate (ds.length + es.length ≤ 100000) (some (.non, S.set n (.ml (ds ++ es))))
    | none => none
  | _, _ => none
theorem rm_extend : RM K mg rExtend extendD := by
  intro W S x xs v vs d S' Q R hx hs e q
  unfold extendD at e
  split at e
  · rename_i n ds y h1
    split at e
    · rename_i es hes
      obtain ⟨hl, e⟩ := gate_inv e
      cases e
      obtain ⟨u, rfl, hu⟩ := dens1 hs
      obtain ⟨a, us, rfl, h2, h3, h4⟩ := ptrL_ok R h1 hx
      obtain ⟨b, ws, rfl, h5, h6⟩ := trL_ok R hu hes
      obtain ⟨W', e1, x1, R1⟩ := h4 _ _ (h3.app h6)
      refine ⟨a, b, us, ws, rfl, rfl, h2, h5, by rw [h3.len, h6.len]; exact lim_le hl, ?_⟩
      rw [← e1]
      exact q _ W' x1 R1 rfl
    · cases e
  · cases e
theorem Dens.dropLast {W : Wd} {ds : List DV} {vs : List V} (h : Dens K W ds vs) : Dens K W ds.dropLast vs.dropLast := by
  rw [List.dropLast_eq_take, List.dropLast_eq_take, h.len]
  exact h.take _
def popD : DM := fun x vs S => match ptrL S x, vs with
  | some (n, ds), [] => match ds[ds.length - 1]? with
    | some y => some (y, S.set n (.ml ds.dropLast))
    | none => none
  | _, _ => none
theorem rm_pop : RM K mg rPop popD := by
  intro W S x xs v vs d S' Q R hx hs e q
  unfold popD at e
  split at e
  · rename_i n ds h1
    split at e
    · rename_i y hy
      cases e
      cases (show vs = [] from hs)
      obtain ⟨a, us, rfl, h2, h3, h4⟩ := ptrL_ok R h1 hx
      obtain ⟨u, hu1, hu2⟩ := h3.get hy
      obtain ⟨W', e1, x1, R1⟩ := h4 _ _ h3.dropLast
      refine ⟨a, us, u, rfl, rfl, h2, by rw [h3.len]; exact hu1, ?_⟩
      rw [← e1]
      exact q _ W' x1 R1 (hu2.ext x1)
    · cases e
  · cases e
noncomputable def popAtD : DM := fun x vs S => match ptrL S x, vs with
  | some (n, ds), [.int i] => match ixN ds.length i with
    | some k => match ds[k]? with
      | some y => gate (ds.length ≤ 100000) (some (y, S.set n (.ml (ds.eraseIdx k))))
      | none => none
    | none => none
  | _, _ => none
def rInsert : V → List V → Hp → VK → Prop := fun x vs H Q => ∃ (l : Addr) (xs : List V) (i : Int) (y : V), x = .ref l ∧ vs = [.int i, y] ∧ H l = some (.lst xs) ∧ xs.length < sizeLine ∧ 0 ≤ i ∧ i < 2 ^ 63 ∧
    Q .non (upd H l (.lst (xs.take i.toNat ++ [y] ++ xs.drop i.toNat)))
theorem mt_insertG {X : Cx} : MtR X "list.insert" rInsert := mt_insert
noncomputable def insertD : DM := fun x vs S => match ptrL S x, vs with
  | some (n, ds), [.int i, y] => gate (ds.length < 100000 ∧ 0 ≤ i ∧ i ≤ 100000) (some (.non, S.set n (.ml (ds.take i.toNat ++ [y] ++ ds.drop i.toNat))))
  | _, _ => none
theorem rm_insert : RM K mg rInsert insertD := by
  intro W S x xs v vs d S' Q R hx hs e q
  unfold insertD at e
  split at e
  · rename_i n ds i y h1
    obtain ⟨hl, e⟩ := gate_inv e
    cases e
    obtain ⟨ui, u, rfl, hi, hu⟩ := dens2 hs
    cases (show ui = V.int i from hi)
    obtain ⟨a, us, rfl, h2, h3, h4⟩ := ptrL_ok R h1 hx
    obtain ⟨W', e1, x1, R1⟩ := h4 _ _ (((h3.take i.toNat).app (Dens.one hu)).app (h3.drop i.toNat))
    refine ⟨a, us, i, u, rfl, rfl, h2, by rw [h3.len]; exact lim_lt hl.1, hl.2.1, by omega, ?_⟩
    rw [← e1]
    exact q _ W' x1 R1 rfl
  · cases e
end
end DL
end
section
namespace DL
open PySem PyProof.Rows PySem.Spec L2
/-! ### keywords -/
section
variable {K : PySem.W.Frag} {mg : Str → Option Value}
section
variable {X : Cx} {CX : CXT} {k : Nat} {f : Addr} {fd : FuncData} {ps ks : List Str} {sp : Sp} {E : XK} {x : Str} {p pos : Pos} {kws : List Keyword} {tk : TA} {g : List Value → List Value → List Value} {gV : List V → List V → List V}
end
/-! ### the rest -/
def negD : DV → Sto → Option (DV × Sto) := fun x S => match x with
  | .int i => some (.int (-i), S)
  | _ => none
theorem ru_neg : RU K mg (rU fun i => .int (-i)) negD := by
  intro W S x v d S' Q R hx e q
  unfold negD at e
  split at e
  · cases e
    exact ⟨_, hx, q _ W (Ext.refl W) R rfl⟩
  · cases e
/-- the start: the script and tables of code objects are tracked -/
theorem start_world {H : Hp} {a : Addr} {ns : List Int} (t : LamX.Tabs (tabsOf K mg) H) (h : SqL K H a (ns.map V.int)) : ∃ W : Wd, W.H = H ∧ Rep K mg W [] ∧ Den K W (.rls (ns.map DV.int)) (.ref a) := by
  have hd : ∀ W : Wd, Dens K W (ns.map DV.int) (ns.map V.int) := fun W => dens_ints ns
  have rep : ∀ P : Addr → Prop, (∀ b, P b → H b ≠ none) → (∀ b, P b → ∀ ps, H b ≠ some (.tbl ps)) → Rep K mg ⟨P, [], H⟩ [] := fun P hP hQ =>
    ⟨rfl, List.nodup_nil, fun b hb => (nomatch hb), hP, fun n mo b h1 _ => (by simp at h1), t, fun p hp q => by
      obtain ⟨ps, e, _⟩ := t p hp
      exact hQ p.1 q ps e⟩
  rcases h with h | h
  · refine ⟨⟨fun b => b = a, [], H⟩, rfl, rep _ (fun b hb => ?_) (fun b hb ps => ?_), a, _, rfl, ⟨.inl h, .inl rfl⟩, hd _⟩
    · rw [hb]
      rcases h with h | ⟨o, h⟩
      · rw [h]
        exact fun z => by cases z
      · rw [h]
        exact fun z => by cases z
    · rw [hb]
      rcases h with h | ⟨o, h⟩
      · rw [h]
        exact fun z => by cases z
      · rw [h]
        exact fun z => by cases z
  · exact ⟨⟨fun _ => False, [], H⟩, rfl, rep _ (fun b hb => hb.elim) (fun b hb => hb.elim), a, _, rfl, ⟨.inr h, .inr fun _ => .inr h⟩, hd _⟩
/-- a constant tuple of ints, of the written part -/
theorem den_ktup {a : Addr} {o : Obj} {its : Array Value} {n : Nat} {ns : List Int} (h1 : K.lookup a = some o) (h2 : o.cls = .type "tuple") (h3 : o.data = .seq its n) (h4 : its.size ≤ sizeLine) (h5 : Vals (ns.map V.int) its.toList) (W : Wd) :
    Den K W (.tup (ns.map DV.int)) (.ref a) := ⟨a, ns.map V.int, rfl, ⟨.inr ⟨o, its, n, h1, h2, h3, h4, h5⟩, .inr fun _ => .inr ⟨o, its, n, h1, h2, h3, h4, h5⟩⟩, dens_ints ns⟩
def spLawT (K : PySem.W.Frag) (mg : Str → Option Value) : Sp := fun vs H Q _ => LamX.Tabs (tabsOf K mg) H ∧ ∃ (a : Addr) (ns : List Int), vs = [.ref a] ∧ SqL K H a (ns.map V.int) ∧ ns.length ≤ 63 ∧ ∀ H', Q (.bl true) H'
end
end DL
end
section
/-! sorted(xs, key=lambda x: x[0]) -/
namespace LK
open PySem LamX PySem.Spec PyProof.Rows L2
/-- the lambda's text -/
abbrev keyBody (x : Str) (p1 p2 p3 : Pos) (j : Nat) : Expr := .Subscript (.Name x p1) (.Constant (.int 0) j p2) p3
structure KeyLam (x : Str) (params : Arguments) (scope : Scope) (body : Expr) : Prop where
  kind : scope.kind = .function
  noCo : scope.isCoroutine = false
  noGen : scope.isGenerator = false
  names : scope.names = [(x, .local)]
  bind : ∀ (q : Str) (pm cv ctv u : Value), bindArgs (PySem.W.kla_fn "<lambda>" q params body scope [] pm cv ctv) ⟨[u], []⟩ = pure [(x, u)]
  dbg : (x == ("__debug__" : Str)) = false
/-- the lambda called with a tuple gives its first -/
theorem key_call {prog : Program} {w : World} {A : Around} {s : Shared} {f c' t : Addr} {qual x : Str} {params : Arguments} {scope : Scope} {pm ctv : Value} {p1 p2 p3 : Pos} {j : Nat} {items : Array Value} {k : Int} {tk : Tok}
    (L : KeyLam x params scope (keyBody x p1 p2 p3 j)) (hf : s.heap.get? f = some (PySem.W.kla_obj "<lambda>" qual params (keyBody x p1 p2 p3 j) scope [] pm c' ctv)) (hc : s.heap.CodeRec (.ref c') qual) (hd : A.depth < recursionLimit) (lim : s.heap.NoLimit)
    (ht : IsTup s.heap t items) (hi : items[0]? = some (.int k tk)) : wpAny (model prog w) A (call (.ref f) [.ref t]) (PySem.W.KeyPure (.int k) s) (fun _ _ => False) s := by
  refine wpAny_call (PySem.W.kla_callFunE hd hf rfl L.noCo L.noGen rfl hc ?_)
  rw [L.bind]
  have loc : scope.names.lookup x = some .local := by rw [L.names]; simp
  refine wpAny_pure (wpAny_newFunctionEnv (fun y hy => by rw [L.names] at hy; cases List.mem_singleton.mp hy; exact fun z => by cases z) (fun y hy => by cases List.mem_singleton.mp hy; exact loc) (fun h₁ hns hsb => ⟨lim.fresh _ hsb, ?_⟩) L.kind)
  have kp : ∀ y oy, s.heap.get? y = some oy → h₁.get? y = some oy := fun y oy e => hsb.extBut y oy (Nat.ne_of_lt (Heap.lt_size e)) (Heap.get?_push_of_some _ e)
  refine PySem.W.kla_codeExpr (Subscript_ (wpAny_Name (wpAny_loadName_local (v := .ref t) L.kind loc hns (by simp) ?_) L.dbg))
  refine wpAny_Constant_int ?_
  have ht1 : IsTup h₁ t items := by
    obtain ⟨o, e, r⟩ := ht
    exact ⟨o, kp _ _ e, r⟩
  have hz : 0 < items.size := (Array.getElem?_eq_some_iff.mp hi).1
  refine subscriptTail_builtinR (x := Value.int k tk) (T := "tuple") (IsTup.typeIs ht1) slot_tuple_getitem.lookup (getItem_tuple (j := 0) ht1 (by decide) (by decide) (seqIndex_of (by decide) (by omega)) hi ⟨rfl, ?_⟩)
  exact ⟨h₁, _, rfl, kp, .int k tk⟩
/-- what making the lambda does to what is tracked -/
structure Grown (H H1 : Hp) (P : Addr) (q : Str) : Prop where
  old : ∀ b u, H b = some u → (∀ ps, u ≠ .tbl ps) → H1 b = some u
  tb : ∀ b, b ≠ P → ∀ ps, H b = some (.tbl ps) → H1 b = some (.tbl ps)
  tab : TabS H1 P q
theorem Grown.dom {H H1 : Hp} {P : Addr} {q : Str} (g : Grown H H1 P q) {b : Addr} (h : H1 b = none) : H b = none := by
  cases e : H b with
  | none => rfl
  | some u =>
    exfalso
    by_cases hb : b = P
    · obtain ⟨ps, e1, _⟩ := g.tab
      rw [hb, e1] at h
      cases h
    · cases u with
      | tbl ps =>
        rw [g.tb b hb ps e] at h
        cases h
      | _ =>
        rw [g.old b _ e (fun ps z => by cases z)] at h
        cases h
section
variable {X : Cx} {s : Shared} {pins : List (Addr × Obj)} {σ : L2.St} {H : Hp}
theorem lam_made {c P : Addr} {x : Str} {params : Arguments} {body : Expr} {scope : Scope} {pos : Pos} {E : Value → Shared → Prop} {Q : Value → Shared → Prop} (I : Inv X pins σ H s) (TB : TabB X.base X.mg c P) (code : X.env.code = .ref c) (L : KeyLam x params scope body) (hdef : defaultsOf params X.env = ([], []))
    (t : TabS H P (X.env.qual ++ "<lambda>"))
    (go : ∀ (f c' : Addr) (pm ctv : Value) (H1 : Hp) (s' : Shared), Inv X pins σ H1 s' → Grown H H1 P (X.env.qual ++ "<lambda>") → s'.heap.get? f = some (PySem.W.kla_obj "<lambda>" (X.env.qual ++ "<lambda>") params body scope [] pm c' ctv) →
      s'.heap.CodeRec (.ref c') (X.env.qual ++ "<lambda>") → Q (.ref f) s') : wpAny (model X.prog X.w) X.A (eval (.Lambda params body scope pos) X.env) Q E s := by
  obtain ⟨q, hq⟩ : ∃ q, q = X.env.qual ++ "<lambda>" := ⟨_, rfl⟩
  have clo : cloFrom X.env.cells scope.names [] = [] := by rw [L.names]; rfl
  have clos : closureFor scope X.env = pure [] := by
    have z := closure_ok (scope := scope) (env := X.env) fun y hy e => by
      rw [L.names] at hy
      cases List.mem_singleton.mp hy
      cases e
    rwa [clo] at z
  have known : ∀ {H1 : Hp} {s' : Shared} {c' : Addr}, Inv X pins σ H1 s' → H1 c' = some (CodeO c' (X.env.qual ++ "<lambda>")) → s'.heap.CodeRec (.ref c') (X.env.qual ++ "<lambda>") := fun J e => by
    obtain ⟨⟨oc, vs, tk, e1, e2, e3⟩, _⟩ := J.hok _ _ e
    exact ⟨_, oc, vs, tk, rfl, e1, e2, e3⟩
  obtain ⟨ps, tP, tr, am⟩ := t
  have oP := I.hok P _ tP
  apply PySem.W.kla_eval hdef
  cases hc : (codeAmong pos ps.toList) with
  | some cv =>
    obtain ⟨c', rfl, hco⟩ := am pos cv hc
    apply PySem.W.kla_makeFunctionHit clos I.ok.glob (I.mod.glob.keeps I.bk) code (TB.code.keeps I.bk) oP tr hc (TB.bm.keeps I.bk)
    intro ctv h' tk grow _
    have J := I.kept (t' := tk) fun b o e => Heap.get?_push_of_some (PySem.W.kla_obj "<lambda>" (X.env.qual ++ "<lambda>") params body scope [] ((X.mg "__name__").getD .none) c' ctv) (grow b o e)
    exact go _ c' _ ctv H _ J ⟨fun b u e _ => e, fun b _ qs e => e, ps, tP, tr, am⟩ (Heap.get?_push_size _ rfl) (known J hco)
  | none =>
    apply PySem.W.kla_makeFunction clos I.ok.glob (I.mod.glob.keeps I.bk) code (TB.code.keeps I.bk) oP tr hc TB.gP (TB.bm.keeps I.bk)
    intro c' ctv h' tk grow ge lt rec htab
    obtain ⟨c2, oc, vs, tt, e0, e1, e2, e3⟩ := rec
    cases e0
    have fresh : H c' = none := I.hok.fresh ge
    obtain ⟨more, hmore⟩ : ∃ more : Array Value, more = #[rawInt pos.line, rawInt pos.col, .ref c'] := ⟨_, rfl⟩
    rw [← hmore] at htab
    obtain ⟨H1, hH1⟩ : ∃ H1, H1 = upd (upd H P (.tbl (ps ++ more))) c' (CodeO c' (X.env.qual ++ "<lambda>")) := ⟨_, rfl⟩
    have J := inv_table (c := c') (q := X.env.qual ++ "<lambda>") (t' := tk) (more := more) (h' := h'.push (PySem.W.kla_obj "<lambda>" (X.env.qual ++ "<lambda>") params body scope [] ((X.mg "__name__").getD .none) c' ctv)) I tP (fun b o hb e => Heap.get?_push_of_some _ (grow b o hb e)) (Heap.get?_push_of_some _ htab) ge ⟨oc, vs, tt, Heap.get?_push_of_some _ e1, e2, e3⟩
    rw [← hH1] at J
    have nP : P ≠ c' := ne_of_none tP fresh
    have keep : ∀ b u, b ≠ P → H b = some u → H1 b = some u := fun b u hb e => by rw [hH1, upd_ne (ne_of_none e fresh), upd_ne hb]; exact e
    have hc' : H1 c' = some (CodeO c' (X.env.qual ++ "<lambda>")) := by rw [hH1, upd_same]
    have notP : ∀ b u, H b = some u → (∀ qs, u ≠ .tbl qs) → b ≠ P := fun b u e n z => by
      rw [z, tP] at e
      exact n ps (Option.some.inj e).symm
    refine go h'.objs.size c' ((X.mg "__name__").getD .none) ctv H1 _ J ⟨fun b u e n => keep b u (notP b u e n) e, fun b hb qs e => keep b _ hb e, ps ++ more, ?_, ?_, fun p' cv hcv => ?_⟩ (Heap.get?_push_size _ rfl) (known J hc')
    · rw [hH1, upd_ne nP, upd_same]
    · rw [hmore, Array.toList_append]
      exact PySem.TriplesOk_snoc _ _ _ _ tr
    · rw [hmore, Array.toList_append] at hcv
      rcases among_app _ tr hcv with z | z
      · obtain ⟨c0, a1, a2⟩ := am p' cv z
        exact ⟨c0, a1, keep _ _ (notP _ _ a2 codeO_ne) a2⟩
      · exact ⟨c', z, hc'⟩
end
/-- the items in the order of their keys, equal keys in their old order -/
def byKey {α : Type} (bs : List (α × Int)) : List (α × Int) := bs.mergeSort fun a b => decide (a.2 ≤ b.2)
theorem vals_each : ∀ {vs : List Value} {bs : List (V × Int)} {R : Value → V × Int → Prop}, PySem.W.EachIs R vs bs → (∀ v b, R v b → RelV b.1 v) → Vals (bs.map (·.1)) vs
  | _, _, _, .nil, _ => .nil
  | _, _, _, .cons h t, g => .cons (g _ _ h) (vals_each t g)
theorem each_vals {R : Value → V × Int → Prop} : ∀ {bs : List (V × Int)} {vs : List Value}, Vals (bs.map (·.1)) vs → (∀ b ∈ bs, ∀ v, RelV b.1 v → R v b) → PySem.W.EachIs R vs bs
  | [], _, h, _ => by
    cases h
    exact .nil
  | b :: bs, _, h, g => by
    cases h with
    | cons h t => exact .cons (g b List.mem_cons_self _ h) (each_vals t fun b' hb => g b' (List.mem_cons_of_mem _ hb))
def tSortKey (K : PySem.W.Frag) (P : Addr) (q : Str) (te : TE) : TE := fun σ H Q => te σ H fun x H1 => ∃ (a : Addr) (bs : List (V × Int)), x = .ref a ∧ SqL K H1 a (bs.map (·.1)) ∧ (∀ b ∈ bs, ∃ t xs, b.1 = .ref t ∧ SqT K H1 t (V.int b.2 :: xs)) ∧ TabS H1 P q ∧
  ∀ (H2 : Hp) (p : Addr), Grown H1 H2 P q → H2 p = none → Q (.ref p) (upd H2 p (.lst ((byKey bs).map (·.1))))
section
variable {K : PySem.W.Frag} {H H1 : Hp} {P : Addr} {q : Str}
theorem Grown.rd {a : Addr} {u : HO} (g : Grown H H1 P q) (n : ∀ ps, u ≠ .tbl ps) (h : Rd H a u) : Rd H1 a u := by
  rcases h with h | ⟨o, h⟩
  · exact .inl (g.old a u h n)
  · exact .inr ⟨o, g.old a _ h fun ps z => by cases z⟩
theorem Grown.sql {a : Addr} {xs : List V} (g : Grown H H1 P q) (h : SqL K H a xs) : SqL K H1 a xs := by
  rcases h with h | h
  · exact .inl (g.rd (fun ps z => by cases z) h)
  · exact .inr h
theorem Grown.sqt {a : Addr} {xs : List V} (g : Grown H H1 P q) (h : SqT K H a xs) : SqT K H1 a xs := by
  rcases h with h | h
  · exact .inl (g.rd (fun ps z => by cases z) h)
  · exact .inr h
end
section
variable {X : Cx}
/-- sorted(e, key=lambda x: x[0]) -/
theorem pe_sortKey {c P : Addr} {x : Str} {params : Arguments} {scope : Scope} {e : Expr} {te : TE} {p p1 p2 p3 lpos kpos pos : Pos} {j : Nat} (hg : Gl X "sorted") (hm : X.mg "sorted" = none) (he : PE X e te) (TB : TabB X.base X.mg c P) (code : X.env.code = .ref c)
    (L : KeyLam x params scope (keyBody x p1 p2 p3 j)) (hdef : defaultsOf params X.env = ([], [])) (hd : X.A.depth + 4 < recursionLimit) (hu : X.A.units + 4 < cLine)
    (hst0 : starEach [e] X.env = (false, eval e X.env) :: starEach [] X.env := by rfl) (hst : backTo pos (starEach [e] X.env) = (false, eval e X.env) :: backTo pos (starEach [] X.env) := by rfl) (hpl : (backTo pos (starEach [e] X.env)).any (·.1) = false := by rfl) :
    PE X (.Call (.Name "sorted" p) [e] [⟨some "key", .Lambda params (keyBody x p1 p2 p3 j) scope lpos, kpos⟩] pos) (tSortKey X.K P (X.env.qual ++ "<lambda>") te) := by
  constructor
  intro pins s σ H Q I h
  refine wpAny_Call_Name_kw (ld_blt (u := .builtin "sorted") I hg hm (by rfl) ?_ (by decide) (by decide))
  obtain ⟨Φ, hΦ⟩ : ∃ Φ : V → Hp → Prop, Φ = fun x H1 => ∃ (a : Addr) (bs : List (V × Int)), x = .ref a ∧ SqL X.K H1 a (bs.map (·.1)) ∧ (∀ b ∈ bs, ∃ t xs, b.1 = .ref t ∧ SqT X.K H1 t (V.int b.2 :: xs)) ∧ TabS H1 P (X.env.qual ++ "<lambda>") ∧
      ∀ (H2 : Hp) (p : Addr), Grown H1 H2 P (X.env.qual ++ "<lambda>") → H2 p = none → Q (.ref p) (upd H2 p (.lst ((byKey bs).map (·.1)))) := ⟨_, rfl⟩
  have h : te σ H Φ := by rw [hΦ]; exact h
  have h' : tCons te tNil σ H fun vs H1 => match vs with | [x] => Φ x H1 | _ => False := h
  refine PyProof.Rows.callWith_kw (thn ((pa_cons he pa_nil hst0).run pos pins s σ H _ I h') fun us s1 ⟨vs, H1, I1, rv, q⟩ => ?_) hst hpl
  obtain ⟨xv, ev, q⟩ : ∃ xv, vs = [xv] ∧ Φ xv H1 := by
    match vs, q with
    | [xv], q => exact ⟨xv, rfl, q⟩
    | [], q => exact q.elim
    | _ :: _ :: _, q => exact q.elim
  subst ev
  rw [hΦ] at q
  obtain ⟨a, bs, rfl, hS, hB, hT, q⟩ := q
  obtain rfl := Vals.ref1 rv
  refine wpAny_evalAll_cons (wpAny_bind (lam_made I1 TB code L hdef hT fun f c' pm ctv H2 s2 I2 G hf hcr => wpAny_bind (wpAny_standAt (wpAny_pure (wpAny_evalAll_nil ?_)))))
  have hS2 := G.sql hS
  obtain ⟨its, ri, pl, hz⟩ := I2.list hS2
  have li := ri.length
  rw [List.length_map] at li hz
  have each := each_vals (R := fun v b => RelV b.1 v ∧ ∃ (t : Addr) (items : Array Value) (tk : Tok), v = .ref t ∧ IsTup s2.heap t items ∧ items[0]? = some (.int b.2 tk)) ri fun b hb v rb => by
    obtain ⟨t, xs, et, ht⟩ := hB b hb
    rw [et] at rb
    obtain rfl : v = Value.ref t := rb
    obtain ⟨js, rj, pj, _⟩ := I2.tuple (G.sqt ht)
    obtain ⟨u, eu, ru⟩ := rj.get (i := 0) (x := V.int b.2) rfl
    obtain ⟨tk, rfl⟩ := ru
    exact ⟨et ▸ rfl, t, js.toArray, tk, rfl, pj, by simpa using eu⟩
  have hu3 : X.A.units + 2 < cLine := by omega
  show wpAny _ _ (call (.builtin "sorted") [.ref a] [(Str.ofString "key", .ref f)]) _ _ s2
  refine PySem.W.sorted_key_data (b := false) (fun b : V × Int => PyData.int b.2) pl.isList each (PySem.W.AllAlike.of fun b b' => rfl) (PySem.W.Sortable.others fun b => ⟨fun z => (by cases z), fun xs z => (by cases z)⟩) hz (fun b hb => hu3) (PyProof.Rows.ksk_s1 _ _) (fun _ => PyProof.Rows.ksk_l1 _ _) (fun y => PyProof.Rows.ksk_t1 f y) (fun v b hR hb g tk keep => ?_) fun out n g tk keep fresh new hlen eo => ?_
  · obtain ⟨_, t, items, k0, rfl, ht, hi⟩ := hR
    have J := I2.kept (h' := g) (t' := tk) keep
    refine key_call L (keep _ _ hf) ?_ (show X.A.depth < recursionLimit by omega) J.nolimit ?_ hi
    · obtain ⟨c2, oc, us, tt, e0, e1, e2, e3⟩ := hcr
      exact ⟨c2, oc, us, tt, e0, keep _ _ e1, e2, e3⟩
    · obtain ⟨o, e1, r⟩ := ht
      exact ⟨o, keep _ _ e1, r⟩
  · have e2 := PySem.W.dataLe_int (fun b : V × Int => b.2)
    rw [e2] at eo
    have ro := vals_each eo fun v b h => h.1
    have lo : ((byKey bs).map (·.1)).length ≤ sizeLine := by
      rw [List.length_map]
      unfold byKey
      rw [List.length_mergeSort]
      exact hz
    have fr : H2 (s2.heap.objs.size + 1) = none := I2.hok.fresh (Nat.le_succ _)
    exact ⟨.ref _, upd H2 (s2.heap.objs.size + 1) (.lst ((byKey bs).map (·.1))), I2.laid (h' := g) (t' := tk) keep (Nat.le_succ _) ⟨lo, out, n, ro, new⟩, rfl, q H2 _ G fr⟩
end
end LK
end
section
/-! sorted(xs, key=lambda x: x[0]) as a function of data -/
namespace DL
open PySem PyProof.Rows PySem.Spec L2
def firstD : DV → Option Int
  | .tup (.int k :: _) => some k
  | _ => none
def firstsD : List DV → Option (List Int)
  | [] => some []
  | d :: ds => match firstD d, firstsD ds with
    | some k, some ks => some (k :: ks)
    | _, _ => none
def dSortKey (m : Bool) (fe : DE) : DE := fun s S => bnd (fe s S) fun x S1 => match rdL S1 x with
  | some ds => match firstsD ds with
    | some ks => some (newL m ((LK.byKey (ds.zip ks)).map (·.1)) S1)
    | none => none
  | none => none
theorem firstsD_len : ∀ {ds : List DV} {ks : List Int}, firstsD ds = some ks → ks.length = ds.length
  | [], _, e => by
    cases e
    rfl
  | d :: ds, ks, e => by
    unfold firstsD at e
    split at e
    · rename_i k ks' _ h
      cases e
      simp [firstsD_len h]
    · cases e
section
variable {K : PySem.W.Frag} {mg : Str → Option Value} {W W' : Wd} {S : Sto}
theorem firsts_den : ∀ {ds : List DV} {ks : List Int} {vs : List V}, firstsD ds = some ks → Dens K W ds vs → ∀ b ∈ vs.zip ks, ∃ t xs, b.1 = V.ref t ∧ SqT K W.H t (V.int b.2 :: xs)
  | [], _, _, e, h, b, hb => by
    cases e
    cases (show _ = [] from h)
    simp at hb
  | d :: ds, ks, _, e, h, b, hb => by
    unfold firstsD at e
    split at e
    · rename_i k ks' hk h'
      cases e
      obtain ⟨v, r, rfl, h1, h2⟩ := h
      rw [List.zip_cons_cons] at hb
      rcases List.mem_cons.mp hb with rfl | hb
      · unfold firstD at hk
        split at hk
        · rename_i k2 rest
          cases hk
          obtain ⟨a, us, rfl, st, hs⟩ := h1
          obtain ⟨u, us', rfl, hu, _⟩ := hs
          cases (show u = V.int k from hu)
          exact ⟨a, us', rfl, st.1⟩
        · cases hk
      · exact firsts_den h' h2 b hb
    · cases e
theorem byKey_map {α β : Type} (f : α → β) (bs : List (α × Int)) : LK.byKey (bs.map fun b => (f b.1, b.2)) = (LK.byKey bs).map fun b => (f b.1, b.2) := by
  unfold LK.byKey
  exact (List.map_mergeSort (r := fun a b : α × Int => decide (a.2 ≤ b.2)) (s := fun a b : β × Int => decide (a.2 ≤ b.2)) (f := fun b : α × Int => (f b.1, b.2)) (fun a _ b _ => rfl)).symm
theorem Dens.ix : ∀ {ds : List DV} {vs : List V}, Dens K W ds vs → ∀ (i : Nat) (hi : i < ds.length) (hj : i < vs.length), Den K W ds[i] vs[i]
  | [], _, _, i, hi, _ => by simp at hi
  | d :: ds, _, h, i, hi, hj => by
    obtain ⟨v, r, rfl, h1, h2⟩ := h
    cases i with
    | zero => exact h1
    | succ i => exact Dens.ix h2 i (by simpa using hi) (by simpa using hj)
theorem dens_of : ∀ {xs : List (DV × V)}, (∀ x ∈ xs, Den K W x.1 x.2) → Dens K W (xs.map (·.1)) (xs.map (·.2))
  | [], _ => rfl
  | x :: xs, h => ⟨x.2, xs.map (·.2), rfl, h x List.mem_cons_self, dens_of fun y hy => h y (List.mem_cons_of_mem _ hy)⟩
theorem dens_zip : ∀ {ds : List DV} {vs : List V}, Dens K W ds vs → (∀ x ∈ ds.zip vs, Den K W x.1 x.2) ∧ (ds.zip vs).map (·.1) = ds ∧ (ds.zip vs).map (·.2) = vs
  | [], _, h => by
    cases (show _ = [] from h)
    simp
  | d :: ds, _, h => by
    obtain ⟨v, r, rfl, h1, h2⟩ := h
    obtain ⟨a, b, c⟩ := dens_zip h2
    refine ⟨fun x hx => ?_, by simp [b], by simp [c]⟩
    rw [List.zip_cons_cons] at hx
    rcases List.mem_cons.mp hx with rfl | hx
    · exact h1
    · exact a x hx
theorem byKey_dens {ds : List DV} {vs : List V} {ks : List Int} (h : Dens K W ds vs) (hk : ks.length = ds.length) : Dens K W ((LK.byKey (ds.zip ks)).map (·.1)) ((LK.byKey (vs.zip ks)).map (·.1)) := by
  obtain ⟨a, b, c⟩ := dens_zip h
  obtain ⟨xs, hxs⟩ : ∃ xs, xs = ds.zip vs := ⟨_, rfl⟩
  rw [← hxs] at a b c
  have e1 : ds.zip ks = (xs.zip ks).map fun p => (p.1.1, p.2) := by rw [← b, List.zip_map_left]; rfl
  have e2 : vs.zip ks = (xs.zip ks).map fun p => (p.1.2, p.2) := by rw [← c, List.zip_map_left]; rfl
  rw [e1, e2, byKey_map (fun p : DV × V => p.1), byKey_map (fun p : DV × V => p.2), List.map_map, List.map_map]
  have key : ∀ x ∈ (LK.byKey (xs.zip ks)).map (·.1), Den K W x.1 x.2 := fun x hx => by
    obtain ⟨p, hp, rfl⟩ := List.mem_map.mp hx
    unfold LK.byKey at hp
    have := (List.mergeSort_perm _ _).mem_iff.mp hp
    exact a p.1 (List.of_mem_zip this).1
  have := dens_of key
  rw [List.map_map, List.map_map] at this
  exact this
theorem re_sortKey {m : Bool} {P : Addr} {q : Str} {te : TE} {fe : DE} (hT : tabsOf K mg = [(P, q)]) (h : RE K mg te fe) : RE K mg (LK.tSortKey K P q te) (dSortKey m fe) := by
  intro W σ s S d S' Q R L e q'
  obtain ⟨x, S1, e1, e⟩ := bnd_inv e
  refine h W σ s S x S1 _ R L e1 fun v W1 x1 R1 d1 => ?_
  split at e
  · rename_i ds hd
    split at e
    · rename_i ks hk
      obtain ⟨a, vs, rfl, hS, hD⟩ := rdL_ok R1 d1 hd
      have lk := firstsD_len hk
      have lv := hD.len
      have tb := R1.tb
      have tp := R1.tp
      rw [hT] at tb tp
      refine ⟨a, vs.zip ks, rfl, by rw [List.map_fst_zip (by omega)]; exact hS, firsts_den hk hD, tb (P, q) (by simp), fun H2 p G hp => ?_⟩
      obtain ⟨W2, hW2⟩ : ∃ W2 : Wd, W2 = ⟨W1.P, W1.α, H2⟩ := ⟨_, rfl⟩
      have hH : W2.H = H2 := by rw [hW2]
      have nP : ∀ b, W1.P b → ∀ ps, W1.H b = some (.tbl ps) → b ≠ P := fun b hb ps e z => tp (P, q) (by simp) (z ▸ hb)
      have keepP : ∀ b u, W1.P b → W1.H b = some u → H2 b = some u := fun b u hb e => by
        cases u with
        | tbl ps => exact G.tb b (nP b hb ps e) ps e
        | _ => exact G.old b _ e (fun ps z => by cases z)
      have ex : Ext W1 W2 := by
        rw [hW2]
        exact { p := fun _ h => h, al := List.prefix_refl _, hp := fun b u hb e => keepP b u hb e, pn := fun _ h => .inl h, an := fun _ h => .inl h, h := fun b u _ n e => G.old b u e n, dom := fun b h => G.dom h }
      have R2 : Rep K mg W2 S1 := by
        refine ⟨by rw [hW2]; exact R1.len, by rw [hW2]; exact R1.nd, fun b hb q => R1.dj b (by rw [hW2] at hb; exact hb) (by rw [hW2] at q; exact q), fun b hb z => ?_, fun n mo b h1 h2 => ?_, ?_, ?_⟩
        · rw [hW2] at hb z
          exact R1.al b hb (G.dom z)
        · have h3 : W1.α[n]? = some b := by rw [hW2] at h2; exact h2
          have o := R1.ob n mo b h1 h3
          refine o.ext ex ?_
          rw [hH]
          cases hu : W1.H b with
          | none => exact absurd hu (R1.there (List.mem_of_getElem? h3))
          | some u => exact G.old b u hu fun ps z => o.plain.1 ps (by rw [hu, z])
        · rw [hT, hH]
          intro t ht
          cases List.mem_singleton.mp ht
          exact G.tab
        · rw [hW2]
          exact R1.tp
      have dd := byKey_dens hD lk
      obtain ⟨W3, e3, x3, R3, d3⟩ := newL_ok R2 (by rw [hH]; exact hp) (Dens.ext ex _ _ dd) (Option.some.inj e)
      rw [hH] at e3
      rw [← e3]
      exact q' _ W3 ((x1.trans ex).trans x3) R3 d3
    · cases e
  · cases e
end
end DL
end
section
/-! the end of a law whose text has the def bounds: its table of code objects -/
namespace DL
open PySem PyProof.Rows PySem.Spec L2 LamX
/-- the table of bounds is empty where the law begins -/
def BndTab (K : PySem.W.Frag) (mg : Str → Option Value) (h : Heap) : Prop := ∀ (b c P : Addr) (o : Obj) (fd : FuncData) (k : Obj) (vs : Array Value), mg "bounds" = some (.ref b) → K.lookup b = some o → o.data = .func fd → fd.code = .ref c → K.lookup c = some k → k.data = .fields vs → vs[11]? = some (.ref P) →
  h.get? P = some ({ cls := .none, data := .fields #[] } : Obj)
section
variable {K : PySem.W.Frag} {mg : Str → Option Value}
/-- a def whose code object is known -/
theorem fn_dlT {P : Program} {w : World} {base : Heap} {x qual : Str} {st : Stmt} {f c : Addr} {fd : FuncData} {N ps : List Str} {k n : Nat} {m : Option Bool} {body : DS} (F : Fun K x qual st f fd) (code : fd.code = .ref c) (S : FnScope N ps (defScope st)) (hps : ps.length = n)
    (hb : ∀ (A : Around) (outer : List Env) (s : Shared) (H : Hp) (E : XK), Room k (A.deeper (envOfC qual (defScope st) s.heap.objs.size f (.ref c))) →
      ∃ t, PSs (cxOf CX0 P w K mg base N qual (defScope st) f (.ref c) A outer s H E).nox (defBody st) t ∧ RS K mg t body) :
    FnOk P w K mg base CX0 (k + 1) f fd ps (spF K mg n (fnF m N.length body)) := by
  have len : ∀ vs H Q E, spF K mg n (fnF m N.length body) vs H Q E → vs.length = ps.length := fun vs H Q E h => h.1.trans hps.symm
  obtain ⟨oc, od, kv, dc, pm, an, cdv, ct, sl, rfl, lk, hcd⟩ := F.ex
  cases (show cdv = .ref c from code)
  apply fn_of lk hcd S len
  intro A outer s H vs Q E hr h
  obtain ⟨t, ht, hR⟩ := hb A outer s H E hr
  refine ⟨t, ht.nox, ?_⟩
  obtain ⟨_, W, Sx, ds, d, S', rfl, R, hd, hg, q⟩ := h
  unfold fnF at hg
  split at hg
  · rename_i s1 S1 e1
    refine hR W _ _ Sx _ _ R (slo_start hd) e1 fun σ1 W1 x1 R1 L1 => ?_
    obtain ⟨W2, h2, x2, R2, d2⟩ := exF_ok R x1 R1 (d := .non) (v := V.non) rfl hg
    rw [← h2]
    exact q _ W2 x2 R2 d2
  · rename_i d1 S1 e1
    refine hR W _ _ Sx _ _ R (slo_start hd) e1 fun v1 W1 x1 R1 d1 => ?_
    obtain ⟨W2, h2, x2, R2, d2⟩ := exF_ok R x1 R1 d1 hg
    rw [← h2]
    exact q _ W2 x2 R2 d2
  · cases hg
theorem dp4 {k : Nat} {A : Around} (hr : Room k A) : A.depth + 4 < recursionLimit := by
  have := hr.dp
  omega
theorem un4 {k : Nat} {A : Around} (hr : Room k A) : A.units + 4 < cLine := by
  have := hr.un
  omega
/-- xs[::-1] -/
def dRevL (m : Bool) (fe : DE) : DE := fun s S => bnd (fe s S) fun x S1 => match rdL S1 x with
  | some ds => some (newL m ds.reverse S1)
  | none => none
theorem re_revL {m : Bool} {te : TE} {fe : DE} (h : RE K mg te fe) : RE K mg (tRevL K te) (dRevL m fe) := by
  intro W σ s S d S' Q R L e q
  obtain ⟨x, S1, e1, e⟩ := bnd_inv e
  refine h W σ s S x S1 _ R L e1 fun v W1 x1 R1 d1 => ?_
  split at e
  · rename_i ds hd
    obtain ⟨a, vs, rfl, hS, hD⟩ := rdL_ok R1 d1 hd
    refine ⟨a, vs, rfl, hS, fun p hp => ?_⟩
    obtain ⟨W2, e2, x2, R2, d2⟩ := newL_ok R1 hp hD.rev (Option.some.inj e)
    rw [← e2]
    exact q _ W2 (x1.trans x2) R2 d2
  · cases e
/-- the facts that a text with bounds has -/
structure Bnd (K : PySem.W.Frag) (mg : Str → Option Value) (fd : FuncData) (c P : Addr) : Prop where
  code : fd.code = .ref c
  tabs : tabsOf K mg = [(P, (("bounds" : Str) ++ ".<locals>.") ++ "<lambda>")]
end
end DL
end
section
/-! how the functions of data are reckoned -/
namespace DL
open PySem PyProof.Rows PySem.Spec L2

section
variable {α β : Type} {s : Sl} {S S1 : Sto} {d x y : DV} {i j k n : Int}
@[simp] theorem bnd_some' {a : α} {k : α → Sto → Option β} : bnd (some (a, S)) k = k a S := rfl
@[simp] theorem bnd_none {k : α → Sto → Option β} : bnd none k = none := rfl
end
/-! ### what is gone over, as a list -/
def itemsOf : DIt → Option (List DV)
  | .li (.lst ds) => some ds
  | .li (.rls ds) => some ds
  | .tu (.tup ds) => some ds
  | .rg lo n => some ((List.range n).map fun i => DV.int (lo + (i : Nat)))
  | .en (.lst ds) => some (ds.mapIdx fun i x => DV.tup [.int (i : Nat), x])
  | .zp (.lst xs) (.lst ys) => some (List.zipWith (fun x y => DV.tup [x, y]) xs ys)
  | .em (.tup []) => some []
  | .ki fs => some (fs.map fun p => DV.tup [.int p.1, p.2])
  | _ => none
@[simp] theorem items_lst {ds : List DV} : itemsOf (.li (.lst ds)) = some ds := rfl
@[simp] theorem items_rls {ds : List DV} : itemsOf (.li (.rls ds)) = some ds := rfl
@[simp] theorem items_tup {ds : List DV} : itemsOf (.tu (.tup ds)) = some ds := rfl
@[simp] theorem items_rg {lo : Int} {n : Nat} : itemsOf (.rg lo n) = some ((List.range n).map fun i => DV.int (lo + (i : Nat))) := rfl
@[simp] theorem items_en {ds : List DV} : itemsOf (.en (.lst ds)) = some (ds.mapIdx fun i x => DV.tup [.int (i : Nat), x]) := rfl
@[simp] theorem items_zp {xs ys : List DV} : itemsOf (.zp (.lst xs) (.lst ys)) = some (List.zipWith (fun x y => DV.tup [x, y]) xs ys) := rfl
@[simp] theorem items_em : itemsOf (.em (.tup [])) = some [] := rfl
def RgS (j : Int) : Prop := -(2 ^ 62) ≤ j ∧ j < 2 ^ 62
theorem rgS_of {j : Int} (h : 0 ≤ j) (h2 : j ≤ 1000000) : RgS j := ⟨by omega, by omega⟩
noncomputable def rg1D (ds : List DV) (S : Sto) : Option (DIt × Sto) := match ds with
  | [.int j] => gate (-(2 ^ 62) ≤ j ∧ j < 2 ^ 62) (some (.rg 0 j.toNat, S))
  | _ => none
noncomputable def rg2D (ds : List DV) (S : Sto) : Option (DIt × Sto) := match ds with
  | [.int i, .int j] => gate (-(2 ^ 62) ≤ i ∧ i < 2 ^ 62 ∧ -(2 ^ 62) ≤ j ∧ j < 2 ^ 62) (some (.rg i (j - i).toNat, S))
  | _ => none
@[simp] theorem diR1_eq {f : DA} {s : Sl} {S : Sto} : diR1 f s S = bnd (f s S) rg1D := rfl
@[simp] theorem diR2_eq {f : DA} {s : Sl} {S : Sto} : diR2 f s S = bnd (f s S) rg2D := rfl
@[simp] theorem rg1_int {S : Sto} {j : Int} (h : RgS j) : rg1D [.int j] S = some (.rg 0 j.toNat, S) := by
  unfold RgS at h
  simp only [rg1D]
  rw [gate_ok h]
@[simp] theorem rg2_int {S : Sto} {i j : Int} (h : RgS i) (h' : RgS j) : rg2D [.int i, .int j] S = some (.rg i (j - i).toNat, S) := by
  unfold RgS at h h'
  simp only [rg2D]
  rw [gate_ok ⟨h.1, h.2, h'.1, h'.2⟩]
theorem items_at {it : DIt} {xs : List DV} (h : itemsOf it = some xs) (S : Sto) (i : Nat) : itemAt it S i = some xs[i]? ∧ xs.length ≤ itLen it S := by
  cases it with
  | ki fs =>
    cases h
    exact ⟨by simp [itemAt], by simp [itLen]⟩
  | li d =>
    cases d with
    | lst ds => cases h; exact ⟨rfl, Nat.le_refl _⟩
    | rls ds => cases h; exact ⟨rfl, Nat.le_refl _⟩
    | _ => cases h
  | tu d =>
    cases d with
    | tup ds => cases h; exact ⟨rfl, Nat.le_refl _⟩
    | _ => cases h
  | rg lo n =>
    cases h
    refine ⟨?_, by simp [itLen]⟩
    unfold itemAt
    by_cases hi : i < n <;> simp [hi]
  | em d =>
    cases d with
    | tup ds =>
      cases ds with
      | nil =>
        cases h
        exact ⟨rfl, Nat.le_refl _⟩
      | cons d ds => cases h
    | _ => cases h
  | en d =>
    cases d with
    | lst ds =>
      cases h
      refine ⟨?_, by simp [itLen, rdL]⟩
      simp only [itemAt, rdL, List.getElem?_mapIdx]
      cases ds[i]? <;> rfl
    | _ => cases h
  | zt d e => cases h
  | z3 d e f => cases h
  | zp d e =>
    cases d with
    | lst xs =>
      cases e with
      | lst ys =>
        cases h
        refine ⟨?_, by simp [itLen, rdL]; omega⟩
        simp only [itemAt, rdL, List.getElem?_zipWith]
        cases xs[i]? <;> cases ys[i]? <;> rfl
      | _ => cases h
    | _ => cases h
/-- a loop over a list -/
def forL (tgt : DG) (body : DS) : List DV → DS
  | [] => fun s S => some (.nx s S)
  | d :: ds => fun s S => match tgt d s S with
    | none => none
    | some p => match body p.1 p.2 with
      | none => none
      | some r => kLoop r (forL tgt body ds)
theorem forF_items {tgt : DG} {body : DS} {it : DIt} {xs : List DV} (h : itemsOf it = some xs) : ∀ (k i : Nat) (s : Sl) (S : Sto), xs.length < k + i → i ≤ xs.length → forF tgt body it k i s S = forL tgt body (xs.drop i) s S
  | 0, i, s, S, hk, hi => by omega
  | k + 1, i, s, S, hk, hi' => by
    have h1 := (items_at h S i).1
    by_cases hi : i < xs.length
    · rw [List.getElem?_eq_getElem hi] at h1
      rw [List.drop_eq_getElem_cons hi]
      simp only [forF, forL, h1]
      cases e : tgt xs[i] s S with
      | none => rfl
      | some p =>
        simp only
        cases e2 : body p.1 p.2 with
        | none => rfl
        | some r =>
          simp only
          have ih : ∀ s S, forF tgt body it k (i + 1) s S = forL tgt body (xs.drop (i + 1)) s S := fun s S => forF_items h k (i + 1) s S (by omega) (by omega)
          cases r <;> simp [kLoop, ih]
    · have hn : xs[i]? = none := List.getElem?_eq_none (by omega)
      rw [hn] at h1
      rw [List.drop_eq_nil_of_le (by omega)]
      simp only [forF, forL, h1]

theorem dFor_eq {fi : DI} {tgt : DG} {body : DS} {s : Sl} {S : Sto} : dFor fi tgt body s S = bnd (fi s S) fun it S1 => match itemsOf it with
    | some xs => forL tgt body xs s S1
    | none => forF tgt body it (itLen it S1 + 1) 0 s S1 := by
  unfold dFor
  cases e : fi s S with
  | none => rfl
  | some p =>
    obtain ⟨it, S1⟩ := p
    simp only [bnd_some']
    cases h : itemsOf it with
    | none => rfl
    | some xs =>
      simp only
      rw [forF_items h _ 0 s S1 (by have := (items_at h S1 0).2; omega) (Nat.zero_le _), List.drop_zero]
/-- a comprehension over a list -/
def lcL (tgt : DG) (tt : DT) (te : DE) (vs : List Nat) : List DV → List DV → Sl → Sto → Option (List DV × Sto)
  | [], acc, _, S => some (acc, S)
  | d :: ds, acc, s, S => match tgt d (wipeD s vs) S with
    | none => none
    | some p => bnd (tt p.1 p.2) fun b S2 => if b = true then bnd (te p.1 S2) fun y S3 => lcL tgt tt te vs ds (acc ++ [y]) s S3 else lcL tgt tt te vs ds acc s S2
theorem lcF_items {tgt : DG} {tt : DT} {te : DE} {vs : List Nat} {it : DIt} {xs : List DV} (h : itemsOf it = some xs) : ∀ (k i : Nat) (acc : List DV) (s : Sl) (S : Sto), xs.length < k + i → i ≤ xs.length → lcF tgt tt te it vs k i acc s S = lcL tgt tt te vs (xs.drop i) acc s S
  | 0, i, acc, s, S, hk, hi => by omega
  | k + 1, i, acc, s, S, hk, hi' => by
    have h1 := (items_at h S i).1
    by_cases hi : i < xs.length
    · rw [List.getElem?_eq_getElem hi] at h1
      rw [List.drop_eq_getElem_cons hi]
      simp only [lcF, lcL, h1]
      cases e : tgt xs[i] (wipeD s vs) S with
      | none => rfl
      | some p =>
        simp only
        have ih : ∀ acc s S, lcF tgt tt te it vs k (i + 1) acc s S = lcL tgt tt te vs (xs.drop (i + 1)) acc s S := fun acc s S => lcF_items h k (i + 1) acc s S (by omega) (by omega)
        simp only [ih]
    · have hn : xs[i]? = none := List.getElem?_eq_none (by omega)
      rw [hn] at h1
      rw [List.drop_eq_nil_of_le (by omega)]
      simp only [lcF, lcL, h1]
theorem dLc_eq {m : Bool} {fi : DI} {tgt : DG} {tt : DT} {te : DE} {vs : List Nat} {s : Sl} {S : Sto} : dLc m fi tgt tt te vs s S = bnd (fi s S) fun it S1 => bnd (match itemsOf it with
    | some xs => lcL tgt tt te vs xs [] s S1
    | none => lcF tgt tt te it vs (itLen it S1 + 1) 0 [] s S1) fun acc S2 => gate (acc.length ≤ 100000) (some (newL m acc S2)) := by
  unfold dLc
  cases e : fi s S with
  | none => rfl
  | some p =>
    obtain ⟨it, S1⟩ := p
    simp only [bnd_some']
    cases h : itemsOf it with
    | none => rfl
    | some xs =>
      simp only
      rw [lcF_items h _ 0 [] s S1 (by have := (items_at h S1 0).2; omega) (Nat.zero_le _), List.drop_zero]
/-- each element by a function, the store as it was -/
theorem lcL_map {tgt : DG} {tt : DT} {te : DE} {vs : List Nat} {g : DV → DV} {s : Sl} {S : Sto} : ∀ {xs acc : List DV}, (∀ x ∈ xs, ∃ s1, tgt x (wipeD s vs) S = some (s1, S) ∧ tt s1 S = some (true, S) ∧ te s1 S = some (g x, S)) →
    lcL tgt tt te vs xs acc s S = some (acc ++ xs.map g, S)
  | [], acc, _ => by simp [lcL]
  | x :: xs, acc, h => by
    obtain ⟨s1, h1, h2, h3⟩ := h x (List.mem_cons_self)
    simp only [lcL, h1, h2, h3, bnd_some', if_true]
    rw [lcL_map fun y hy => h y (List.mem_cons_of_mem _ hy)]
    simp
/-- each element with a state of the store: I holds at each turn -/
theorem lcL_inv {tgt : DG} {tt : DT} {te : DE} {vs : List Nat} {s : Sl} (I : Nat → List DV → Sto → Prop) : ∀ {xs acc : List DV} {S : Sto} {k : Nat}, I k acc S →
    (∀ (i : Nat) (x : DV) (acc : List DV) (S : Sto), xs[i]? = some x → I (k + i) acc S → ∃ s1 S1 b S2, tgt x (wipeD s vs) S = some (s1, S1) ∧ tt s1 S1 = some (b, S2) ∧ (if b = true then ∃ y S3, te s1 S2 = some (y, S3) ∧ I (k + i + 1) (acc ++ [y]) S3 else I (k + i + 1) acc S2)) →
    ∃ acc' S', lcL tgt tt te vs xs acc s S = some (acc', S') ∧ I (k + xs.length) acc' S'
  | [], acc, S, k, h0, _ => ⟨acc, S, rfl, h0⟩
  | x :: xs, acc, S, k, h0, hs => by
    obtain ⟨s1, S1, b, S2, h1, h2, h3⟩ := hs 0 x acc S rfl h0
    have step : ∀ (i : Nat) (y : DV) (acc : List DV) (S : Sto), xs[i]? = some y → I (k + 1 + i) acc S → ∃ s1 S1 b S2, tgt y (wipeD s vs) S = some (s1, S1) ∧ tt s1 S1 = some (b, S2) ∧ (if b = true then ∃ y S3, te s1 S2 = some (y, S3) ∧ I (k + 1 + i + 1) (acc ++ [y]) S3 else I (k + 1 + i + 1) acc S2) := fun i y acc S e h => by
      have := hs (i + 1) y acc S (by simpa using e) (by rw [show k + (i + 1) = k + 1 + i by omega]; exact h)
      rw [show k + (i + 1) + 1 = k + 1 + i + 1 by omega] at this
      exact this
    cases b with
    | true =>
      rw [if_pos rfl] at h3
      obtain ⟨y, S3, h4, h5⟩ := h3
      obtain ⟨acc', S', e, hI⟩ := lcL_inv I (k := k + 1) h5 step
      refine ⟨acc', S', ?_, by rw [List.length_cons, show k + (xs.length + 1) = k + 1 + xs.length by omega]; exact hI⟩
      simp only [lcL, h1, h2, h4, bnd_some', if_true]
      exact e
    | false =>
      rw [if_neg (by decide)] at h3
      obtain ⟨acc', S', e, hI⟩ := lcL_inv I (k := k + 1) h3 step
      refine ⟨acc', S', ?_, by rw [List.length_cons, show k + (xs.length + 1) = k + 1 + xs.length by omega]; exact hI⟩
      simp only [lcL, h1, h2, bnd_some', Bool.false_eq_true, if_false]
      exact e
/-- a loop that always goes on, by an invariant -/
theorem forL_inv {tgt : DG} {body : DS} (I : Nat → Sl → Sto → Prop) : ∀ {xs : List DV} {s : Sl} {S : Sto} {k : Nat}, I k s S →
    (∀ (i : Nat) (x : DV) (s : Sl) (S : Sto), xs[i]? = some x → I (k + i) s S → ∃ s1 S1 s2 S2, tgt x s S = some (s1, S1) ∧ (body s1 S1 = some (.nx s2 S2) ∨ body s1 S1 = some (.ct s2 S2)) ∧ I (k + i + 1) s2 S2) →
    ∃ s' S', forL tgt body xs s S = some (.nx s' S') ∧ I (k + xs.length) s' S'
  | [], s, S, k, h0, _ => ⟨s, S, rfl, h0⟩
  | x :: xs, s, S, k, h0, hs => by
    obtain ⟨s1, S1, s2, S2, h1, h2, h3⟩ := hs 0 x s S rfl h0
    obtain ⟨s', S', e, hI⟩ := forL_inv (tgt := tgt) (body := body) I (xs := xs) (k := k + 1) h3 fun i y s S e h => by
      have := hs (i + 1) y s S (by simpa using e) (by rw [show k + (i + 1) = k + 1 + i by omega]; exact h)
      rw [show k + (i + 1) + 1 = k + 1 + i + 1 by omega] at this
      exact this
    refine ⟨s', S', ?_, by rw [List.length_cons, show k + (xs.length + 1) = k + 1 + xs.length by omega]; exact hI⟩
    simp only [forL, h1]
    rcases h2 with h2 | h2 <;> simp only [h2, kLoop] <;> exact e
@[simp] theorem exF_same {m : Option Bool} {S : Sto} {d : DV} : exF m S d S = some (d, S) := by
  cases m with
  | none => rfl
  | some m => simp [exF, exF1]
theorem exF_len {m : Option Bool} {S S' : Sto} {d : DV} (h : S'.length = S.length) : exF m S d S' = some (d, S') := by
  cases m with
  | none => rfl
  | some m => simp [exF, exF1, h]
@[simp] theorem exF_raw {S S' : Sto} {d : DV} : exF none S d S' = some (d, S') := rfl
/-! ### operations -/
section
variable {S : Sto} {i j : Int} {x y d : DV} {ds es : List DV} {m : Bool}
@[simp] theorem subD_int : subD (.int i) (.int j) S = some (.int (i - j), S) := rfl
@[simp] theorem addD_int : addD m (.int i) (.int j) S = some (.int (i + j), S) := rfl
@[simp] theorem mulD_int (h : Fits i) (g : Fits j) : mulD (.int i) (.int j) S = some (.int (i * j), S) := by
  simp [mulD, h, g]
@[simp] theorem fdivD_int (h : FitsD j) : fdivD (.int i) (.int j) S = some (.int (i / j), S) := by
  simp [fdivD, h]
@[simp] theorem modD_int (h : 0 < j) : modD (.int i) (.int j) S = some (.int (i % j), S) := by
  simp [modD, h]
theorem powD_int (h : 0 ≤ j) (h1 : j ≤ 1000) (h2 : i.natAbs < 2 ^ 64) : powD (.int i) (.int j) S = some (.int (i ^ j.toNat), S) := by
  unfold powD
  simp only
  rw [gate_ok ⟨h, h1, h2⟩]
@[simp] theorem ltD_int : ltD (.int i) (.int j) S = some (.bl (decide (i < j)), S) := rfl
@[simp] theorem leD_int : leD (.int i) (.int j) S = some (.bl (decide (i ≤ j)), S) := rfl
@[simp] theorem gtD_int : gtD (.int i) (.int j) S = some (.bl (decide (j < i)), S) := rfl
@[simp] theorem geD_int : geD (.int i) (.int j) S = some (.bl (decide (j ≤ i)), S) := rfl
@[simp] theorem negD_int : negD (.int i) S = some (.int (-i), S) := rfl
@[simp] theorem rdL_lst : rdL S (.lst ds) = some ds := rfl
@[simp] theorem rdL_rls : rdL S (.rls ds) = some ds := rfl
@[simp] theorem rdL_tup : rdL S (.tup ds) = none := rfl
@[simp] theorem rdT_tup : rdT (.tup ds) = some ds := rfl
@[simp] theorem trL_lst : trL S (.lst ds) = some ds := rfl
@[simp] theorem addD_lst : addD m (.lst ds) (.lst es) S = gate (ds.length + es.length ≤ 100000) (some (newL m (ds ++ es) S)) := rfl
@[simp] theorem newL_f : newL false ds S = (.lst ds, S) := rfl
@[simp] theorem newL_t : newL true ds S = (.ptr S.length, S ++ [.ml ds]) := rfl
@[simp] theorem atI_0 {α : Type} {a : α} {l : List α} : L2.atI (a :: l) 0 = some a := L2.atI_nat (xs := a :: l) (j := 0) (v := a) rfl
@[simp] theorem atI_1 {α : Type} {a b : α} {l : List α} : L2.atI (a :: b :: l) 1 = some b := by
  have := L2.atI_nat (xs := a :: b :: l) (j := 1) (v := b) rfl
  exact this
@[simp] theorem gcdD_int : gcdD [.int i, .int j] S = some (.int ((Nat.gcd i.natAbs j.natAbs : Nat) : Int), S) := rfl
@[simp] theorem absD_int : absD [.int i] S = some (.int (if i < 0 then -i else i), S) := rfl
@[simp] theorem maxD_int : maxD [.int i, .int j] S = some (.int (if j > i then j else i), S) := rfl
@[simp] theorem minD_int : minD [.int i, .int j] S = some (.int (if j < i then j else i), S) := rfl
@[simp] theorem lenD_lst : lenD [.lst ds] S = some (.int (ds.length : Nat), S) := rfl
@[simp] theorem lenD_rls : lenD [.rls ds] S = some (.int (ds.length : Nat), S) := rfl
@[simp] theorem lenD_tup : lenD [.tup ds] S = some (.int (ds.length : Nat), S) := rfl
theorem ixD_lst (h : L2.atI ds i = some d) : ixD (.lst ds) (.int i) S = some (d, S) := by
  simp [ixD, h]
theorem ixD_tup (h : L2.atI ds i = some d) : ixD (.tup ds) (.int i) S = some (d, S) := by
  simp [ixD, h]
theorem at_nat {α : Type} {l : List α} {n : Nat} {a : α} {k : Int} (hk : k = (n : Int)) (h : l[n]? = some a) : L2.atI l k = some a := by
  rw [hk]
  exact L2.atI_nat h
end
theorem fits_of {i : Int} {n : Nat} (h : i.natAbs < 2 ^ n) (hn : n ≤ 400000) : Fits i := Nat.lt_of_lt_of_le h (Nat.pow_le_pow_right (by decide) hn)
theorem fitsD_of {i : Int} {n : Nat} (h0 : 0 < i) (h : i.natAbs < 2 ^ n) (hn : n ≤ 8000) : FitsD i := ⟨h0, Nat.lt_of_lt_of_le h (Nat.pow_le_pow_right (by decide) hn)⟩
theorem fits_small {i : Int} (h : i.natAbs < 2 ^ 200) : Fits i := fits_of h (by decide)
theorem fitsD_small {i : Int} (h0 : 0 < i) (h : i.natAbs < 2 ^ 200) : FitsD i := fitsD_of h0 h (by decide)
/-! ### equal data -/
def ShN (n : Nat) (p : PyData) : Prop := p.canLay0 = true ∧ p.depth ≤ n
theorem ShN.shaped {n : Nat} {p : PyData} (h : ShN n p) (hn : n ≤ 64) : SeqAt.shaped p = true := by
  unfold SeqAt.shaped
  rw [h.1, Bool.true_and]
  exact decide_eq_true (Nat.le_trans h.2 hn)
theorem shN_int {n : Nat} {i : Int} : ShN n (.int i) := ⟨rfl, Nat.zero_le _⟩
theorem shN_non {n : Nat} : ShN n .none := ⟨rfl, Nat.zero_le _⟩
theorem shN_bl {n : Nat} {b : Bool} : ShN n (.bool b) := ⟨rfl, Nat.zero_le _⟩
theorem canLay_all : ∀ {ps : List PyData}, (∀ p ∈ ps, p.canLay0 = true) → PyData.canLayAll0 ps = true
  | [], _ => rfl
  | p :: ps, h => by
    show (p.canLay0 && PyData.canLayAll0 ps) = true
    rw [h p (List.mem_cons_self), canLay_all fun q hq => h q (List.mem_cons_of_mem _ hq)]
    rfl
theorem depth_all {n : Nat} : ∀ {ps : List PyData}, (∀ p ∈ ps, p.depth ≤ n) → PyData.depthAll ps ≤ n
  | [], _ => Nat.zero_le _
  | p :: ps, h => by
    show max p.depth (PyData.depthAll ps) ≤ n
    have h1 := h p (List.mem_cons_self)
    have h2 := depth_all fun q hq => h q (List.mem_cons_of_mem _ hq)
    omega
theorem shN_list {n : Nat} {ps : List PyData} (h : ∀ p ∈ ps, ShN n p) : ShN (n + 1) (.list ps) := ⟨canLay_all fun p hp => (h p hp).1, Nat.succ_le_succ (depth_all fun p hp => (h p hp).2)⟩
theorem shN_tuple {n : Nat} {ps : List PyData} (h : ∀ p ∈ ps, ShN n p) : ShN (n + 1) (.tuple ps) := ⟨canLay_all fun p hp => (h p hp).1, Nat.succ_le_succ (depth_all fun p hp => (h p hp).2)⟩
theorem pys_map {α : Type} {r : Nat → Option PyData} {f : α → DV} {g : α → PyData} (h : ∀ x, py r (f x) = some (g x)) : ∀ xs : List α, pys r (xs.map f) = some (xs.map g)
  | [] => rfl
  | x :: xs => by simp [pys, h x, pys_map h xs]
theorem eqv_map {α : Type} [DecidableEq α] {g : α → PyData} (h : ∀ x y, PyData.eqv (g x) (g y) = decide (x = y)) : ∀ xs ys : List α, PyData.eqvAll (xs.map g) (ys.map g) = decide (xs = ys)
  | [], [] => by simp [PyData.eqvAll]
  | [], y :: ys => by simp [PyData.eqvAll]
  | x :: xs, [] => by simp [PyData.eqvAll]
  | x :: xs, y :: ys => by simp [PyData.eqvAll, h x y, eqv_map h xs ys]
theorem eqD_of {S : Sto} {x y : DV} {p q : PyData} {n : Nat} (h1 : pyS S x = some p) (h2 : pyS S y = some q) (h3 : ShN n p) (h4 : ShN n q) (hn : n ≤ 64) : eqD x y S = some (.bl (PyData.eqv p q), S) := by
  simp [eqD, h1, h2, h3.shaped hn, h4.shaped hn]
theorem neD_of {S : Sto} {x y : DV} {p q : PyData} {n : Nat} (h1 : pyS S x = some p) (h2 : pyS S y = some q) (h3 : ShN n p) (h4 : ShN n q) (hn : n ≤ 64) : neD x y S = some (.bl (!PyData.eqv p q), S) := by
  simp [neD, h1, h2, h3.shaped hn, h4.shaped hn]
@[simp] theorem eqD_int {S : Sto} {i j : Int} : eqD (.int i) (.int j) S = some (.bl (decide (i = j)), S) := by
  rw [eqD_of (n := 0) rfl rfl shN_int shN_int (by decide)]
  simp [PyData.eqv, Bool.beq_eq_decide_eq]
@[simp] theorem neD_int {S : Sto} {i j : Int} : neD (.int i) (.int j) S = some (.bl (!decide (i = j)), S) := by
  rw [neD_of (n := 0) rfl rfl shN_int shN_int (by decide)]
  simp [PyData.eqv, Bool.beq_eq_decide_eq]
/-- while: it ends -/
theorem while_step {c : DT} {b : DS} {n : Nat} {s s2 : Sl} {S S1 S2 : Sto} (h1 : c s S = some (true, S1)) (h2 : b s S1 = some (.nx s2 S2)) : whileF c b (n + 1) s S = whileF c b n s2 S2 := by
  simp [whileF, h1, h2]
theorem while_end {c : DT} {b : DS} {n : Nat} {s : Sl} {S S1 : Sto} (h1 : c s S = some (false, S1)) : whileF c b (n + 1) s S = some (.nx s S1) := by
  simp [whileF, h1]
theorem lt_fuel {n k : Nat} (h : n < 2 ^ k) (hk : k ≤ 1000000) : n < FUEL := by
  unfold FUEL
  exact Nat.lt_of_lt_of_le h (Nat.pow_le_pow_right (by decide) hk)
/-! ### a statement at a time -/
section
variable {f g : DS} {fe : DE} {s s1 : Sl} {S S1 S2 : Sto} {d : DV} {i n : Nat} {r : Option Res}
theorem seq_nx (h1 : f s S = some (.nx s1 S1)) (h2 : g s1 S1 = r) : dSeq f g s S = r := by
  simp only [dSeq, h1, kNx, h2]
theorem seq_rt (h1 : f s S = some (.rt d S1)) : dSeq f g s S = some (.rt d S1) := by
  simp only [dSeq, h1, kNx]
theorem asg_name (h : fe s S = some (d, S1)) : dAsg fe (dName i) s S = some (.nx (s.set i (some d)) S1) := by
  simp only [dAsg, h, bnd_some', dName]
theorem ret_of (h : fe s S = some (d, S1)) : dRet fe s S = some (.rt d S1) := by
  simp only [dRet, h, bnd_some']
theorem drop_of (h : fe s S = some (d, S1)) : dDrop fe s S = some (.nx s S1) := by
  simp only [dDrop, h, bnd_some']
theorem if_t {t : DT} (h : t s S = some (true, S1)) (h2 : f s S1 = r) : dIfS t f g s S = r := by
  simp only [dIfS, h, bnd_some', if_true, h2]
theorem if_f {t : DT} (h : t s S = some (false, S1)) (h2 : g s S1 = r) : dIfS t f g s S = r := by
  simp only [dIfS, h, bnd_some', Bool.false_eq_true, if_false, h2]
theorem lc_of {m : Bool} {fi : DI} {tgt : DG} {tt : DT} {te : DE} {vs : List Nat} {it : DIt} {xs acc : List DV} (h : fi s S = some (it, S1)) (hx : itemsOf it = some xs) (hl : lcL tgt tt te vs xs [] s S1 = some (acc, S2)) (hn : acc.length ≤ 100000) :
    dLc m fi tgt tt te vs s S = some (newL m acc S2) := by
  rw [dLc_eq, h, bnd_some', hx]
  simp only [hl, bnd_some', gate_ok hn]
theorem for_of {fi : DI} {tgt : DG} {body : DS} {it : DIt} {xs : List DV} (h : fi s S = some (it, S1)) (hx : itemsOf it = some xs) (hl : forL tgt body xs s S1 = r) : dFor fi tgt body s S = r := by
  rw [dFor_eq, h, bnd_some', hx]
  exact hl
theorem fn_rt {m : Option Bool} {body : DS} {ds : List DV} {r : Option (DV × Sto)} (h : body (startD n ds) S = some (.rt d S1)) (h2 : exF m S d S1 = r) : fnF m n body ds S = r := by
  simp only [fnF, h, h2]
theorem fn_nx {m : Option Bool} {body : DS} {ds : List DV} {r : Option (DV × Sto)} (h : body (startD n ds) S = some (.nx s S1)) (h2 : exF m S .non S1 = r) : fnF m n body ds S = r := by
  simp only [fnF, h, h2]
end
end DL
end
section
namespace FW
open PySem PyProof.Rows PySem.Spec L2 DL
/-! ### each def as a function of data -/
noncomputable def b_law_alike_z (rec : List DV → Sto → Option (DV × Sto)) : DS :=
    (dSeq (dIfS (dTest (dIsN false (dVar 1)))
    (dRet (dIsN false (dVar 0))) dNext)
    (dSeq (dIfS (dTest (dCB isiD (dCons (dVar 1) (dCons (dC (.ty "bool")) dNil))))
    (dRet (dAndV (dCB isiD (dCons (dVar 0) (dCons (dC (.ty "bool")) dNil))) (dOp eqD (dVar 0) (dVar 1)))) dNext)
    (dSeq (dIfS (dTest (dCB isiD (dCons (dVar 1) (dCons (dC (.ty "int")) dNil))))
    (dRet (dAndV (dCB isiD (dCons (dVar 0) (dCons (dC (.ty "int")) dNil))) (dAndV (dNotV (dCB isiD (dCons (dVar 0) (dCons (dC (.ty "bool")) dNil)))) (dOp eqD (dVar 0) (dVar 1))))) dNext)
    (dSeq (dIfS (dTest (dCB isiD (dCons (dVar 1) (dCons (dC (.ty "str")) dNil))))
    (dRet (dAndV (dCB isiD (dCons (dVar 0) (dCons (dC (.ty "str")) dNil))) (dOp eqD (dVar 0) (dVar 1)))) dNext)
    (dSeq (dIfS (dOr (dTest (dOp neD (dCB isiD (dCons (dVar 0) (dCons (dC (.ty "list")) dNil))) (dCB isiD (dCons (dVar 1) (dCons (dC (.ty "list")) dNil))))) (dTest (dOp neD (dCB isiD (dCons (dVar 0) (dCons (dC (.ty "tuple")) dNil))) (dCB isiD (dCons (dVar 1) (dCons (dC (.ty "tuple")) dNil))))))
    (dRet (dC (.bl false))) dNext)
    (dSeq (dIfS (dTest (dOp neD (dCB lenD (dCons (dVar 0) dNil)) (dCB lenD (dCons (dVar 1) dNil))))
    (dRet (dC (.bl false))) dNext)
    (dSeq (dFor (diR1 (dCons (dCB lenD (dCons (dVar 1) dNil)) dNil)) (dName 2)
    (dIfS (dNot (dTest (dCall 2 rec [] (dCons (dOp ixD (dVar 0) (dVar 2)) (dCons (dOp ixD (dVar 1) (dVar 2)) dNil)))))
    (dRet (dC (.bl false))) dNext))
    (dRet (dC (.bl true))))))))))
noncomputable def f_law_alike_z : Nat → List DV → Sto → Option (DV × Sto)
  | 0 => fun _ _ => none
  | k + 1 => fnF (some false) 3 (b_law_alike_z (f_law_alike_z k))
noncomputable def b_law_low_z : DS :=
    (dSeq (dPar 2 3 (dCons (dCB maxD (dCons (dVar 0) (dCons (dOp subD (dC (.int 0)) (dVar 0)) dNil))) (dCons (dVar 1) dNil)))
    (dSeq (dWhile (dTest (dOp gtD (dVar 2) (dC (.int 0))))
    (dPar 2 3 (dCons (dOp modD (dVar 3) (dVar 2)) (dCons (dVar 2) dNil))))
    (dRet (dTup (dCons (dOp fdivD (dVar 0) (dVar 3)) (dCons (dOp fdivD (dVar 1) (dVar 3)) dNil))))))
noncomputable def f_law_low_z : List DV → Sto → Option (DV × Sto) := fnF (some false) 4 b_law_low_z
noncomputable def b_lowest_z : DS :=
    (dSeq (dAsg (dCB gcdD (dCons (dVar 0) (dCons (dVar 1) dNil))) (dName 2))
    (dRet (dTup (dCons (dOp fdivD (dVar 0) (dVar 2)) (dCons (dOp fdivD (dVar 1) (dVar 2)) dNil)))))
noncomputable def f_lowest_z : List DV → Sto → Option (DV × Sto) := fnF (some false) 3 b_lowest_z
noncomputable def b_plus_z : DS :=
    (dSeq (dAsg (dCB gcdD (dCons (dOp ixD (dVar 0) (dC (.int 1))) (dCons (dOp ixD (dVar 1) (dC (.int 1))) dNil))) (dName 2))
    (dSeq (dAsg (dOp fdivD (dOp ixD (dVar 0) (dC (.int 1))) (dVar 2)) (dName 3))
    (dSeq (dAsg (dCall 2 f_lowest_z [] (dCons (dOp (addD false) (dOp mulD (dOp ixD (dVar 0) (dC (.int 0))) (dOp fdivD (dOp ixD (dVar 1) (dC (.int 1))) (dVar 2))) (dOp mulD (dOp ixD (dVar 1) (dC (.int 0))) (dVar 3))) (dCons (dVar 2) dNil))) (dGTup 2 (dGCons (dName 4) (dGCons (dName 5) dGNil))))
    (dRet (dTup (dCons (dVar 4) (dCons (dOp mulD (dOp mulD (dVar 5) (dVar 3)) (dOp fdivD (dOp ixD (dVar 1) (dC (.int 1))) (dVar 2))) dNil)))))))
noncomputable def f_plus_z : List DV → Sto → Option (DV × Sto) := fnF (some false) 6 b_plus_z
noncomputable def b_above_z : DS :=
    (dRet (dOp gtD (dOp mulD (dOp ixD (dVar 0) (dC (.int 0))) (dOp ixD (dVar 1) (dC (.int 1)))) (dOp mulD (dOp ixD (dVar 1) (dC (.int 0))) (dOp ixD (dVar 0) (dC (.int 1))))))
noncomputable def f_above_z : List DV → Sto → Option (DV × Sto) := fnF (some false) 2 b_above_z
noncomputable def b_check_water_z : DS :=
    (dSeq (dIfS (dTest (dOp neD (dCB lenD (dCons (dVar 1) dNil)) (dCB lenD (dCons (dVar 0) dNil))))
    dNever dNext)
    (dFor (diE (dCons (dVar 1) dNil)) (dGTup 2 (dGCons (dName 2) (dGCons (dName 3) dGNil)))
    (dIfS (dTest (dCall 2 f_above_z [] (dCons (dC (.tup [(.int 0), (.int 1)])) (dCons (dVar 3) dNil))))
    dNever dNext)))
noncomputable def f_check_water_z : List DV → Sto → Option (DV × Sto) := fnF (some false) 4 b_check_water_z
noncomputable def b_check_floors_z : DS :=
    (dSeq (dIfS (dTest (dOp eqD (dCB lenD (dCons (dVar 0) dNil)) (dC (.int 0))))
    dNever dNext)
    (dFor (diE (dCons (dVar 0) dNil)) (dGTup 2 (dGCons (dName 1) (dGCons (dName 2) dGNil)))
    (dIfS (dTest (dOp ltD (dVar 2) (dC (.int 1))))
    dNever dNext)))
noncomputable def f_check_floors_z : List DV → Sto → Option (DV × Sto) := fnF (some false) 3 b_check_floors_z
noncomputable def b_sums_k : DS :=
    (dSeq (dAsg (dLst true (dCons (dC (.tup [(.int 0), (.int 1)])) dNil)) (dName 1))
    (dSeq (dFor (diL (dVar 0)) (dName 2)
    (dDrop (dBM "list" appendD (dVar 1) (dCons (dCall 2 f_plus_z [] (dCons (dOp ixD (dVar 1) (dUn negD (dC (.int 1)))) (dCons (dVar 2) dNil))) dNil))))
    (dRet (dVar 1))))
noncomputable def b_sums_z : DS :=
    (dSeq (dAsg (dLst true (dCons (dC (.tup [(.int 0), (.int 1)])) dNil)) (dName 1))
    (dSeq (dFor (diL (dVar 0)) (dName 2)
    (dDrop (dBM "list" appendD (dVar 1) (dCons (dCall 2 f_plus_z [] (dCons (dOp ixD (dVar 1) (dUn negD (dC (.int 1)))) (dCons (dVar 2) dNil))) dNil))))
    (dRet (dVar 1))))
noncomputable def f_sums_z : List DV → Sto → Option (DV × Sto) := fnF (some false) 3 b_sums_z
noncomputable def b_heaped_z : DS :=
    (dSeq (dDrop (dCall 1 f_check_floors_z [] (dCons (dVar 0) dNil)))
    (dSeq (dDrop (dCall 2 f_check_water_z [] (dCons (dVar 0) (dCons (dVar 1) dNil))))
    (dRet (dCall 1 f_sums_z [] (dCons (dVar 1) dNil)))))
noncomputable def f_heaped_z : List DV → Sto → Option (DV × Sto) := fnF (some false) 2 b_heaped_z
noncomputable def b_law_draw_z : DS :=
    (dSeq (dWhile (dAnd (dTest (dOp ltD (dOp ixD (dVar 0) (dC (.int 1))) (dC (.int 2)))) (dTest (dOp neD (dOp ixD (dVar 0) (dC (.int 0))) (dLst false dNil))))
    (dAsg (dBM "list" popAtD (dOp ixD (dVar 0) (dC (.int 0))) (dCons (dC (.int 0)) dNil)) (dSub (dVar 0) (dC (.int 1)))))
    (dSeq (dIfS (dTest (dOp geD (dOp ixD (dVar 0) (dC (.int 1))) (dC (.int 2))))
    (dSeq (dAsg (dOp modD (dOp ixD (dVar 0) (dC (.int 1))) (dVar 1)) (dName 2))
    (dSeq (dAsg (dOp fdivD (dOp ixD (dVar 0) (dC (.int 1))) (dVar 1)) (dSub (dVar 0) (dC (.int 1))))
    (dRet (dVar 2)))) dNext)
    (dSeq (dAsg (dOp (addD false) (dOp ixD (dVar 0) (dC (.int 3))) (dC (.int 1))) (dSub (dVar 0) (dC (.int 3))))
    (dSeq (dAsg (dOp modD (dOp (addD false) (dOp mulD (dOp (addD false) (dOp ixD (dVar 0) (dC (.int 2))) (dC (.int 5))) (dOp powD (dOp (addD false) (dOp ixD (dVar 0) (dC (.int 3))) (dC (.int 2))) (dC (.int 3)))) (dOp mulD (dC (.int 1000003)) (dOp ixD (dVar 0) (dC (.int 3))))) (dOp subD (dOp powD (dC (.int 2)) (dC (.int 61))) (dC (.int 1)))) (dName 3))
    (dRet (dOp modD (dOp fdivD (dOp modD (dOp powD (dVar 3) (dC (.int 5))) (dOp (addD false) (dOp powD (dC (.int 10)) (dC (.int 18))) (dC (.int 9)))) (dC (.int 64))) (dVar 1)))))))
noncomputable def f_law_draw_z : List DV → Sto → Option (DV × Sto) := fnF (some false) 4 b_law_draw_z
noncomputable def b_law_amount_z : DS :=
    (dSeq (dAsg (dLst true (dCons (dC (.int 0)) (dCons (dOp mulD (dOp mulD (dVar 1) (dVar 2)) (dCall 2 f_law_draw_z [] (dCons (dVar 0) (dCons (dC (.int 4)) dNil)))) (dCons (dCall 2 f_law_draw_z [] (dCons (dVar 0) (dCons (dC (.int 20)) dNil))) (dCons (dCall 2 f_law_draw_z [] (dCons (dVar 0) (dCons (dOp powD (dC (.int 10)) (dC (.int 4))) dNil))) dNil))))) (dName 3))
    (dSeq (dDrop (dBM "list" appendD (dVar 3) (dCons (dCall 2 f_law_draw_z [] (dCons (dVar 0) (dCons (dOp powD (dC (.int 10)) (dC (.int 12))) dNil))) dNil)))
    (dRet (dCall 2 f_law_low_z [] (dCons (dOp ixD (dVar 3) (dCall 2 f_law_draw_z [] (dCons (dVar 0) (dCons (dC (.int 5)) dNil)))) (dCons (dVar 2) dNil))))))
noncomputable def f_law_amount_z : List DV → Sto → Option (DV × Sto) := fnF (some false) 4 b_law_amount_z
end FW
end
section
namespace FW
open PySem PyProof.Rows PySem.Spec L2 DL
/-! ### fractions -/
def fr (q : Rat) : DV := .tup [.int q.num, .int (q.den : Int)]
/-- how large -/
def Sz (n : Nat) (q : Rat) : Prop := q.num.natAbs < 2 ^ n ∧ q.den < 2 ^ n
theorem Sz.mono {n m : Nat} {q : Rat} (h : Sz n q) (hm : n ≤ m) : Sz m q := ⟨Nat.lt_of_lt_of_le h.1 (Nat.pow_le_pow_right (by decide) hm), Nat.lt_of_lt_of_le h.2 (Nat.pow_le_pow_right (by decide) hm)⟩
theorem Sz.fn {n : Nat} {q : Rat} (h : Sz n q) (hn : n ≤ 400000) : Fits q.num := fits_of h.1 hn
theorem Sz.fd {n : Nat} {q : Rat} (h : Sz n q) (hn : n ≤ 400000) : Fits (q.den : Int) := fits_of (by simpa using h.2) hn
theorem sz_mkRat {a : Int} {b n : Nat} (hb : 0 < b) (h1 : a.natAbs < 2 ^ n) (h2 : b < 2 ^ n) : Sz n (mkRat a b) := by
  have hb0 : ¬ b = 0 := by omega
  refine ⟨?_, ?_⟩
  · rw [Rat.num_mkRat, if_neg hb0]
    refine Nat.lt_of_le_of_lt ?_ h1
    rw [Int.natAbs_ediv_of_dvd (Int.ofNat_dvd_left.mpr (Nat.gcd_dvd_right _ _))]
    exact Nat.div_le_self _ _
  · rw [Rat.den_mkRat, if_neg hb0]
    exact Nat.lt_of_le_of_lt (Nat.div_le_self _ _) h2
theorem Sz.add {n m : Nat} {p q : Rat} (h : Sz n p) (g : Sz m q) : Sz (n + m + 1) (p + q) := by
  rw [Rat.add_def']
  have hm : ∀ a b : Nat, a < 2 ^ n → b < 2 ^ m → a * b < 2 ^ (n + m) := fun a b h1 h2 => by
    rw [Nat.pow_add]
    exact Nat.mul_lt_mul'' h1 h2
  have e : 2 ^ (n + m + 1) = 2 ^ (n + m) + 2 ^ (n + m) := by rw [Nat.pow_succ]; omega
  refine sz_mkRat (Nat.mul_pos p.den_pos q.den_pos) ?_ ?_
  · have h1 := hm _ _ h.1 g.2
    have h2 := hm _ _ h.2 g.1
    have t := Int.natAbs_add_le (p.num * q.den) (q.num * p.den)
    rw [Int.natAbs_mul, Int.natAbs_mul, Int.natAbs_natCast, Int.natAbs_natCast] at t
    rw [Nat.mul_comm q.num.natAbs] at t
    omega
  · have := hm _ _ h.2 g.2
    omega
theorem mkRat_fr {a : Int} {b : Nat} (hb : 0 < b) : DV.tup [.int (a / ((a.natAbs.gcd b : Nat) : Int)), .int ((b : Int) / ((a.natAbs.gcd b : Nat) : Int))] = fr (mkRat a b) := by
  have hb0 : ¬ b = 0 := by omega
  unfold fr
  rw [Rat.num_mkRat, Rat.den_mkRat, if_neg hb0, if_neg hb0, Nat.gcd_comm]
  simp
theorem gcd_fitsD {a b : Nat} (hb : 0 < b) (h : b < 2 ^ 8000) : FitsD ((a.gcd b : Nat) : Int) := by
  refine ⟨by have := Nat.gcd_pos_of_pos_right a hb; omega, ?_⟩
  rw [Int.natAbs_natCast]
  exact Nat.lt_of_le_of_lt (Nat.gcd_le_right a hb) h
theorem lowest_ok {a : Int} {b : Nat} {S : Sto} (hb : 0 < b) (h : b < 2 ^ 8000) : f_lowest_z [.int a, .int (b : Int)] S = some (fr (mkRat a b), S) := by
  have g : FitsD ((a.natAbs.gcd b : Nat) : Int) := gcd_fitsD hb h
  rw [← mkRat_fr hb]
  simp [f_lowest_z, fnF, b_lowest_z, startD, g]
theorem low_loop {d0 d1 : DV} {S : Sto} : ∀ (m x y : Nat), x < m → whileF (dTest (dOp gtD (dVar 2) (dC (.int 0)))) (dPar 2 3 (dCons (dOp modD (dVar 3) (dVar 2)) (dCons (dVar 2) dNil))) m [some d0, some d1, some (.int (x : Int)), some (.int (y : Int))] S =
    some (.nx [some d0, some d1, some (.int 0), some (.int ((x.gcd y : Nat) : Int))] S)
  | 0, x, y, h => by omega
  | m + 1, x, y, h => by
    by_cases hx : x = 0
    · subst hx
      rw [while_end (S1 := S) (by simp)]
      simp
    · have hx' : (0 : Int) < (x : Int) := by omega
      have hx0 : 0 < x := by omega
      rw [while_step (S1 := S) (s2 := [some d0, some d1, some (.int ((y % x : Nat) : Int)), some (.int (x : Int))]) (S2 := S) (by simp [hx0]) (by simp [hx0]), low_loop m (y % x) x (by have := Nat.mod_lt y (Nat.pos_of_ne_zero hx); omega), ← Nat.gcd_rec]
theorem law_low_ok {a : Int} {b n : Nat} {S : Sto} (hb : 0 < b) (h : b < 2 ^ 8000) (ha : a.natAbs < 2 ^ n) (hn : n ≤ 1000000) : f_law_low_z [.int a, .int (b : Int)] S = some (fr (mkRat a b), S) := by
  have g : FitsD ((a.natAbs.gcd b : Nat) : Int) := gcd_fitsD hb h
  have e : (if 0 - a > a then 0 - a else a) = ((a.natAbs : Nat) : Int) := by split <;> omega
  rw [← mkRat_fr hb]
  simp only [f_law_low_z, fnF, b_law_low_z, startD, dSeq, dPar, dCB, dCons, dNil, dVar, dOp, dC, bnd_some', subD_int, maxD_int, List.map, List.length, List.replicate, List.cons_append, List.nil_append, List.getElem?_cons_zero, List.getElem?_cons_succ, List.set, kNx, e]
  simp only [dWhile, low_loop _ _ _ (lt_fuel ha hn), kNx]
  simp [g]
theorem fr_add (p q : Rat) (g N : _) (hg : g = p.den.gcd q.den) (hN : N = p.num * ((q.den / g : Nat) : Int) + q.num * ((p.den / g : Nat) : Int)) :
   (mkRat N g).num = (p + q).num ∧ (mkRat N g).den * (p.den / g) * (q.den / g) = (p + q).den := by
  have aux := Rat.add.aux p q hg rfl rfl
  have hpd := p.den_pos
  have hqd := q.den_pos
  have hg0 : 0 < g := hg ▸ Nat.gcd_pos_of_pos_left _ hpd
  obtain ⟨p', hp'⟩ : g ∣ p.den := hg ▸ Nat.gcd_dvd_left _ _
  obtain ⟨q', hq'⟩ : g ∣ q.den := hg ▸ Nat.gcd_dvd_right _ _
  have ep : p.den / g = p' := by rw [hp']; exact Nat.mul_div_cancel_left _ hg0
  have eq : q.den / g = q' := by rw [hq']; exact Nat.mul_div_cancel_left _ hg0
  simp only at aux
  rw [ep, eq] at aux
  rw [ep, eq] at hN
  rw [ep, eq]
  rw [← hN] at aux
  have hp0 : 0 < p' := by
    rcases Nat.eq_zero_or_pos p' with h | h
    · subst h; omega
    · exact h
  have hd : 0 < p' * q.den := Nat.mul_pos hp0 hqd
  have e : p + q = mkRat N (p' * q.den) := by
    rw [Rat.add_def', Rat.mkRat_eq_iff (by exact Nat.ne_of_gt (Nat.mul_pos hpd hqd)) (by omega), hN, hp', hq']
    push_cast
    grind
  have hb0 : ¬ g = 0 := by omega
  have hb1 : ¬ p' * q.den = 0 := by omega
  rw [e]
  simp only [Rat.num_mkRat, Rat.den_mkRat, if_neg hb0, if_neg hb1]
  rw [Nat.gcd_comm g, Nat.gcd_comm (p' * q.den), ← aux]
  refine ⟨rfl, ?_⟩
  obtain ⟨m, hm⟩ : N.natAbs.gcd g ∣ g := Nat.gcd_dvd_right _ _
  have hh : 0 < N.natAbs.gcd g := Nat.gcd_pos_of_pos_right _ hg0
  generalize N.natAbs.gcd g = h at *
  subst hm
  rw [hq', Nat.mul_div_cancel_left _ hh]
  have : p' * (h * m * q') = h * (m * p' * q') := by grind
  rw [this, Nat.mul_div_cancel_left _ hh]
theorem plus_ok {p q : Rat} {n m : Nat} {S : Sto} (h : Sz n p) (g : Sz m q) (hl : n + m ≤ 7000) : f_plus_z [fr p, fr q] S = some (fr (p + q), S) := by
  have hp0 := p.den_pos
  have hq0 := q.den_pos
  have hqs : q.den < 2 ^ 8000 := Nat.lt_of_lt_of_le g.2 (Nat.pow_le_pow_right (by decide) (by omega))
  obtain ⟨c, hc⟩ : ∃ c, c = p.den.gcd q.den := ⟨_, rfl⟩
  have hc0 : 0 < c := hc ▸ Nat.gcd_pos_of_pos_left _ hp0
  have hcq : c ≤ q.den := hc ▸ Nat.gcd_le_right _ hq0
  have hcs : c < 2 ^ 8000 := by omega
  have hg : FitsD ((c : Nat) : Int) := hc ▸ gcd_fitsD hq0 hqs
  obtain ⟨e1, e2⟩ := fr_add p q c _ hc rfl
  have key := lowest_ok (a := p.num * ((q.den / c : Nat) : Int) + q.num * ((p.den / c : Nat) : Int)) (b := c) (S := S) hc0 hcs
  have zd : (mkRat (p.num * ((q.den / c : Nat) : Int) + q.num * ((p.den / c : Nat) : Int)) c).den ≤ c := by
    rw [Rat.den_mkRat, if_neg (by omega)]
    exact Nat.div_le_self _ _
  generalize hr : mkRat (p.num * ((q.den / c : Nat) : Int) + q.num * ((p.den / c : Nat) : Int)) c = r at key e1 e2 zd
  have f1 := h.fn (by omega); have f2 := h.fd (by omega); have f3 := g.fn (by omega); have f4 := g.fd (by omega)
  have lp : p.den / c ≤ p.den := Nat.div_le_self _ _
  have lq : q.den / c ≤ q.den := Nat.div_le_self _ _
  have f5 : Fits ((q.den / c : Nat) : Int) := fits_of (n := m) (by have := g.2; simp only [Int.natAbs_natCast]; omega) (by omega)
  have f6 : Fits ((p.den / c : Nat) : Int) := fits_of (n := n) (by have := h.2; simp only [Int.natAbs_natCast]; omega) (by omega)
  have f7 : Fits ((r.den : Nat) : Int) := fits_of (n := m) (by have := g.2; simp only [Int.natAbs_natCast]; omega) (by omega)
  have f8 : Fits (((r.den * (p.den / c) : Nat)) : Int) := fits_of (n := m + n) (by
    simp only [Int.natAbs_natCast]
    rw [Nat.pow_add]
    exact Nat.mul_lt_mul'' (by have := g.2; omega) (by have := h.2; omega)) (by omega)
  simp only [Int.natCast_mul, Int.natCast_ediv] at f5 f6 f8 key
  simp [f_plus_z, fnF, b_plus_z, fr, ixD, startD, ← hc, hg, f1, f2, f3, f4, f5, f6] at key ⊢
  rw [key]
  simp [f5, f6, f7, f8, hg, e1]
  rw [← e2]
  push_cast
  rfl
theorem above_ok {p q : Rat} {n m : Nat} {S : Sto} (h : Sz n p) (g : Sz m q) (hn : n ≤ 7000) (hm : m ≤ 7000) : f_above_z [fr p, fr q] S = some (.bl (decide (q < p)), S) := by
  have f1 := h.fn (by omega); have f2 := h.fd (by omega); have f3 := g.fn (by omega); have f4 := g.fd (by omega)
  simp [f_above_z, fnF, b_above_z, fr, ixD, f1, f2, f3, f4, Rat.lt_iff]
/-! ### floors, water -/
def dI (ns : List Int) : DV := .lst (ns.map DV.int)
def dF (qs : List Rat) : DV := .lst (qs.map fr)
theorem forL_same {tgt : DG} {body : DS} {S : Sto} (I : Sl → Prop) : ∀ {xs : List DV} {s : Sl}, I s → (∀ x ∈ xs, ∀ s, I s → ∃ s1 s2, tgt x s S = some (s1, S) ∧ body s1 S = some (.nx s2 S) ∧ I s2) → ∃ s', forL tgt body xs s S = some (.nx s' S) ∧ I s'
  | [], s, h, _ => ⟨s, rfl, h⟩
  | x :: xs, s, h, hs => by
    obtain ⟨s1, s2, h1, h2, h3⟩ := hs x (List.mem_cons_self) s h
    obtain ⟨s', e, hI⟩ := forL_same I (xs := xs) h3 fun y hy => hs y (List.mem_cons_of_mem _ hy)
    exact ⟨s', by simp [forL, h1, h2, e], hI⟩
theorem check_floors_ok {ns : List Int} {S : Sto} (h0 : ns ≠ []) (h : ∀ n ∈ ns, 1 ≤ n) : f_check_floors_z [dI ns] S = some (.non, S) := by
  have hl : ¬ (ns.length : Int) = 0 := by
    cases ns with
    | nil => exact absurd rfl h0
    | cons n r => simp; omega
  have hl' : ns.length ≠ 0 := by omega
  obtain ⟨s', e, _⟩ := forL_same (tgt := dGTup 2 (dGCons (dName 1) (dGCons (dName 2) dGNil))) (body := dIfS (dTest (dOp ltD (dVar 2) (dC (.int 1)))) dNever dNext) (S := S) (fun s => s.length = 3) (xs := (ns.map DV.int).mapIdx fun i x => DV.tup [.int (i : Nat), x]) (s := [some (dI ns), none, none]) rfl fun x hx s hs => by
    rw [List.mem_mapIdx] at hx
    obtain ⟨i, hi, rfl⟩ := hx
    match s, hs with
    | [a, b, c], _ =>
      have hi' : i < ns.length := by simpa using hi
      have := h ns[i] (List.getElem_mem hi')
      refine ⟨[a, some (.int (i : Nat)), some (.int ns[i])], [a, some (.int (i : Nat)), some (.int ns[i])], by simp, ?_, rfl⟩
      have hn : ¬ ns[i] < 1 := by omega
      simp [hn]
  simp [f_check_floors_z, fnF, b_check_floors_z, dFor_eq, dI, diE, hl'] at e ⊢
  rw [e]
  simp
theorem check_water_ok {ns : List Int} {qs : List Rat} {S : Sto} {n : Nat} (hl : qs.length = ns.length) (h : ∀ q ∈ qs, 0 ≤ q ∧ Sz n q) (hn : n ≤ 7000) : f_check_water_z [dI ns, dF qs] S = some (.non, S) := by
  obtain ⟨s', e, _⟩ := forL_same (tgt := dGTup 2 (dGCons (dName 2) (dGCons (dName 3) dGNil))) (body := dIfS (dTest (dCall 2 f_above_z [] (dCons (dC (.tup [(.int 0), (.int 1)])) (dCons (dVar 3) dNil)))) dNever dNext) (S := S) (fun s => s.length = 4) (xs := (qs.map fr).mapIdx fun i x => DV.tup [.int (i : Nat), x]) (s := [some (dI ns), some (dF qs), none, none]) rfl fun x hx s hs => by
    rw [List.mem_mapIdx] at hx
    obtain ⟨i, hi, rfl⟩ := hx
    match s, hs with
    | [a, b, c, d], _ =>
      have hi' : i < qs.length := by simpa using hi
      have hq := h qs[i] (List.getElem_mem hi')
      have h0 : Sz n (0 : Rat) := ⟨Nat.two_pow_pos n, Nat.lt_of_le_of_lt (show (0 : Rat).den ≤ qs[i].den from qs[i].den_pos) hq.2.2⟩
      have key := above_ok (S := S) h0 hq.2 hn hn
      have hlt : ¬ qs[i] < 0 := by
        have := hq.1
        grind
      refine ⟨[a, b, some (.int (i : Nat)), some (fr qs[i])], [a, b, some (.int (i : Nat)), some (fr qs[i])], by simp, ?_, rfl⟩
      have e0 : DV.tup [.int 0, .int 1] = fr 0 := rfl
      simp [e0, key, hlt]
  simp [f_check_water_z, fnF, b_check_water_z, dFor_eq, dI, dF, diE, hl] at e ⊢
  rw [e]
  simp
end FW
end
section
namespace FW
open PySem PyProof.Rows PySem.Spec L2 DL
/-! ### the store's top -/
section
variable {S : Sto} {ds : List DV} {mo mo' : MO} {m : Bool}
@[simp] theorem top_get : (S ++ [mo])[S.length]? = some mo := List.getElem?_concat_length
@[simp] theorem top_set : (S ++ [mo]).set S.length mo' = S ++ [mo'] := by
  rw [List.set_append_right _ _ (Nat.le_refl _), Nat.sub_self]
  rfl
@[simp] theorem rdL_top : rdL (S ++ [.ml ds]) (.ptr S.length) = some ds := by
  unfold rdL
  simp
@[simp] theorem trL_top : trL (S ++ [.ml ds]) (.ptr S.length) = some ds := by
  unfold trL
  simp
@[simp] theorem ptrL_top : ptrL (S ++ [.ml ds]) (.ptr S.length) = some (S.length, ds) := by
  unfold ptrL
  simp
theorem exF_top (h : clos S.length ds = true) : exF (some m) S (.ptr S.length) (S ++ [.ml ds]) = some (newL m ds S) := by
  unfold exF exF1
  simp only
  rw [if_neg (by simp), if_pos ⟨by simp, fun n hn => .inl (by rw [List.getElem?_append_left hn])⟩]
  unfold exR
  simp only
  rw [if_neg (Nat.lt_irrefl _), top_get]
  simp only
  rw [if_pos h, List.take_left]
end
theorem clos_map {α : Type} {f : α → DV} {n : Nat} (h : ∀ x, clo n (f x) = true) : ∀ xs : List α, clos n (xs.map f) = true
  | [] => rfl
  | x :: xs => by
    show (clo n (f x) && clos n (xs.map f)) = true
    rw [h x, clos_map h xs]
    rfl
@[simp] theorem clo_fr {n : Nat} {q : Rat} : clo n (fr q) = true := rfl
@[simp] theorem clos_fr {n : Nat} {qs : List Rat} : clos n (qs.map fr) = true := clos_map (fun _ => rfl) qs
@[simp] theorem clos_int {n : Nat} {qs : List Int} : clos n (qs.map DV.int) = true := clos_map (fun _ => rfl) qs
/-! ### heaps -/
def hf : Rat → List Rat → List Rat
  | a, [] => [a]
  | a, q :: qs => a :: hf (a + q) qs
def hfI : Int → List Int → List Int
  | a, [] => [a]
  | a, q :: qs => a :: hfI (a + q) qs
theorem appendD_top {S : Sto} {ds : List DV} {d : DV} (h : ds.length < 100000) : appendD (.ptr S.length) [d] (S ++ [.ml ds]) = some (.non, S ++ [.ml (ds ++ [d])]) := by
  simp [appendD, h]
/-- each amount, and each heap, of bounded size -/
def Hz (B : Nat) (qs : List Rat) : Prop := (∀ q ∈ qs, Sz B q) ∧ ∀ x ∈ hf 0 qs, Sz B x
theorem sums_loopB {S : Sto} {x : Option DV} {B : Nat} (hB : B ≤ 3500) : ∀ (qs : List Rat) (a : Rat) (acc : List Rat) (y : Option DV), (∀ x ∈ hf a qs, Sz B x) → (∀ q ∈ qs, Sz B q) → acc.length + qs.length + 1 < 100000 →
    ∃ y', forL (dName 2) (dDrop (dBM "list" appendD (dVar 1) (dCons (dCall 2 f_plus_z [] (dCons (dOp ixD (dVar 1) (dUn negD (dC (.int 1)))) (dCons (dVar 2) dNil))) dNil))) (qs.map fr) [x, some (.ptr S.length), y] (S ++ [.ml ((acc ++ [a]).map fr)]) =
      some (.nx [x, some (.ptr S.length), y'] (S ++ [.ml ((acc ++ hf a qs).map fr)]))
  | [], a, acc, y, _, _, _ => ⟨y, by simp [forL, hf]⟩
  | q :: qs, a, acc, y, ha, hq, hl => by
    have hq0 := hq q (List.mem_cons_self)
    obtain ⟨y', e⟩ := sums_loopB (S := S) (x := x)  hB qs (a + q) (acc ++ [a]) (some (fr q)) (fun x hx => ha x (List.mem_cons_of_mem _ hx)) (fun p hp => hq p (List.mem_cons_of_mem _ hp)) (by simp at hl ⊢; omega)
    refine ⟨y', ?_⟩
    have hp := plus_ok (S := S ++ [.ml ((acc ++ [a]).map fr)]) (ha a List.mem_cons_self) hq0 (by omega)
    have h1 : ixD (.ptr S.length) (.int (-1)) (S ++ [.ml ((acc ++ [a]).map fr)]) = some (fr a, S ++ [.ml ((acc ++ [a]).map fr)]) := by
      have : L2.atI ((acc ++ [a]).map fr) (-1) = some (fr a) := by
        rw [List.map_append]
        exact L2.atI_last _ _
      simp only [ixD, rdL_top, Option.or, this]
    have h2 := appendD_top (S := S) (ds := (acc ++ [a]).map fr) (d := fr (a + q)) (by simp at hl ⊢; omega)
    have e3 : ((acc ++ [a]).map fr ++ [fr (a + q)]) = (acc ++ [a] ++ [a + q]).map fr := by simp
    rw [e3] at h2
    simp only [List.map_cons, forL, dName, List.set_cons_succ, List.set_cons_zero, dDrop, dBM, dVar, List.getElem?_cons_zero, List.getElem?_cons_succ, bnd_some', rdL_top, Option.isSome_some, and_self, if_true, dCons, dCall, dOp, dUn, dC, negD_int, h1, dNil, List.append_nil, List.length_cons, List.length_nil, hp, h2, kLoop]
    rw [e]
    simp [hf]
theorem sums_runB {S : Sto} {qs : List Rat} {B : Nat} (h : Hz B qs) (hB : B ≤ 3500) (hl : qs.length < 10000) :
    b_sums_k [some (dF qs), none, none] S = some (.rt (.ptr S.length) (S ++ [.ml ((hf 0 qs).map fr)])) := by
  obtain ⟨y', e⟩ := sums_loopB (S := S) (x := some (dF qs)) hB qs 0 [] none h.2 h.1 (by simp; omega)
  have e0 : DV.tup [.int 0, .int 1] = fr 0 := rfl
  simp only [List.map_append, List.nil_append, List.map_cons, List.map_nil] at e
  simp [b_sums_k, dFor_eq, diL, e0]
  simp [dF] at e ⊢
  rw [e]
  simp
theorem sums_okzB {S : Sto} {qs : List Rat} {B : Nat} (h : Hz B qs) (hB : B ≤ 3500) (hl : qs.length < 10000) :
    f_sums_z [dF qs] S = some (dF (hf 0 qs), S) := by
  refine fn_rt (sums_runB h hB hl) ?_
  rw [exF_top clos_fr]
  rfl
theorem heaped_okzB {S : Sto} {ns : List Int} {qs : List Rat} {B : Nat} (h0 : ns ≠ []) (h1 : ∀ n ∈ ns, 1 ≤ n) (hlen : qs.length = ns.length) (hq : ∀ q ∈ qs, 0 ≤ q) (h : Hz B qs) (hB : B ≤ 3500) (hl : qs.length < 10000) :
    f_heaped_z [dI ns, dF qs] S = some (dF (hf 0 qs), S) := by
  have c1 := check_floors_ok (S := S) h0 h1
  have c2 := check_water_ok (S := S) (n := B) hlen (fun q z => ⟨hq q z, h.1 q z⟩) (by omega)
  have c3 := sums_okzB (S := S) h hB hl
  refine fn_rt (d := dF (hf 0 qs)) (S1 := S) ?_ (by simp)
  refine seq_nx (drop_of (d := .non) (S1 := S) (by simp [c1])) ?_
  refine seq_nx (drop_of (d := .non) (S1 := S) (by simp [c2])) ?_
  exact ret_of (by simp [c3])
end FW
end
section
namespace FW
open PySem PyProof.Rows PySem.Spec L2 DL
/-! ### the tray -/
structure Tr where
  gs : List Int
  a : Int
  f : Int
  n : Int
def Tr.st (t : Tr) (G : Sto) : Sto := .ml (t.gs.map DV.int) :: .ml [.ptr 0, .int t.a, .int t.f, .int t.n] :: G
structure Tr.ok (N : Int) (t : Tr) : Prop where
  f0 : 0 ≤ t.f
  f1 : t.f < 2 ^ 61
  n0 : 0 ≤ t.n
  n1 : t.n ≤ N
  l : t.gs.length ≤ 63
theorem Tr.ok.mono {N M : Int} {t : Tr} (h : t.ok N) (hm : N ≤ M) : t.ok M := ⟨h.f0, h.f1, h.n0, Int.le_trans h.n1 hm, h.l⟩
@[simp] theorem pow2_61 {S : Sto} : powD (.int 2) (.int 61) S = some (.int 2305843009213693952, S) := powD_int (by decide) (by decide) (by decide)
@[simp] theorem pow10_18 {S : Sto} : powD (.int 10) (.int 18) S = some (.int 1000000000000000000, S) := powD_int (by decide) (by decide) (by decide)
@[simp] theorem pow10_4 {S : Sto} : powD (.int 10) (.int 4) S = some (.int 10000, S) := powD_int (by decide) (by decide) (by decide)
@[simp] theorem pow10_6 {S : Sto} : powD (.int 10) (.int 6) S = some (.int 1000000, S) := powD_int (by decide) (by decide) (by decide)
@[simp] theorem pow10_12 {S : Sto} : powD (.int 10) (.int 12) S = some (.int 1000000000000, S) := powD_int (by decide) (by decide) (by decide)
section
variable {t : Tr} {G : Sto} {i : Int} {d : DV} {ds : List DV}
@[simp] theorem tr_rd1 : rdL (t.st G) (.ptr 1) = some [.ptr 0, .int t.a, .int t.f, .int t.n] := rfl
@[simp] theorem tr_rd0 : rdL (t.st G) (.ptr 0) = some (t.gs.map DV.int) := rfl
@[simp] theorem tr_ptr0 : ptrL (t.st G) (.ptr 0) = some (0, t.gs.map DV.int) := rfl
@[simp] theorem tr_at2 {α : Type} {a b c : α} {l : List α} : L2.atI (a :: b :: c :: l) 2 = some c := L2.atI_nat (xs := a :: b :: c :: l) (j := 2) (v := c) rfl
@[simp] theorem tr_at3 {α : Type} {a b c e : α} {l : List α} : L2.atI (a :: b :: c :: e :: l) 3 = some e := L2.atI_nat (xs := a :: b :: c :: e :: l) (j := 3) (v := e) rfl
@[simp] theorem tr_ix0 : ixD (.ptr 1) (.int 0) (t.st G) = some (.ptr 0, t.st G) := by simp [ixD]
@[simp] theorem tr_ix1 : ixD (.ptr 1) (.int 1) (t.st G) = some (.int t.a, t.st G) := by simp [ixD]
@[simp] theorem tr_ix2 : ixD (.ptr 1) (.int 2) (t.st G) = some (.int t.f, t.st G) := by simp [ixD]
@[simp] theorem tr_ix3 : ixD (.ptr 1) (.int 3) (t.st G) = some (.int t.n, t.st G) := by simp [ixD]
@[simp] theorem tr_set1 : setL (.ptr 1) (.int 1) (.int i) (t.st G) = some (({ t with a := i } : Tr).st G) := rfl
@[simp] theorem tr_set3 : setL (.ptr 1) (.int 3) (.int i) (t.st G) = some (({ t with n := i } : Tr).st G) := rfl
end
theorem neD_ints {S : Sto} {x : DV} {gs : List Int} (h : pyS S x = some (.list (gs.map PyData.int))) : neD x (.lst []) S = some (.bl (!gs.isEmpty), S) := by
  rw [neD_of (n := 1) h (show pyS S (.lst []) = some (.list []) from rfl) (shN_list fun p hp => by
    obtain ⟨i, _, rfl⟩ := List.mem_map.mp hp
    exact shN_int) (shN_list fun p hp => by cases hp) (by decide)]
  cases gs <;> rfl
theorem tr_py0 {t : Tr} {G : Sto} : pyS (t.st G) (.ptr 0) = some (.list (t.gs.map PyData.int)) := by
  show (pys _ (t.gs.map DV.int)).map PyData.list = _
  rw [pys_map (g := PyData.int) fun _ => rfl]
  rfl
theorem draw_loop {d : DV} {x y : Option DV} {G : Sto} : ∀ (m : Nat) (t : Tr), t.gs.length < m → t.gs.length ≤ 63 →
    ∃ gs a, whileF (dAnd (dTest (dOp ltD (dOp ixD (dVar 0) (dC (.int 1))) (dC (.int 2)))) (dTest (dOp neD (dOp ixD (dVar 0) (dC (.int 0))) (dLst false dNil))))
    (dAsg (dBM "list" popAtD (dOp ixD (dVar 0) (dC (.int 0))) (dCons (dC (.int 0)) dNil)) (dSub (dVar 0) (dC (.int 1)))) m [some (.ptr 1), some d, x, y] (t.st G) = some (.nx [some (.ptr 1), some d, x, y] (({ t with gs := gs, a := a } : Tr).st G)) ∧ gs.length ≤ t.gs.length
  | 0, t, h, _ => by omega
  | m + 1, t, h, h63 => by
    obtain ⟨gs, a, f, n⟩ := t
    by_cases ha : a < 2
    · cases gs with
      | nil =>
        refine ⟨[], a, ?_, Nat.le_refl _⟩
        rw [while_end (S1 := (Tr.mk [] a f n).st G) (by
          simp [ha, neD_ints (tr_py0 (t := Tr.mk [] a f n) (G := G))])]
      | cons g gs =>
        obtain ⟨gs', a', e, hl⟩ := draw_loop (d := d) (x := x) (y := y) (G := G) m (Tr.mk gs g f n) (by simp at h ⊢; omega) (by simp at h63 ⊢; omega)
        refine ⟨gs', a', ?_, by simp at hl ⊢; omega⟩
        have hp : popAtD (.ptr 0) [.int 0] ((Tr.mk (g :: gs) a f n).st G) = some (.int g, (Tr.mk gs a f n).st G) := by
          have hlen : gs.length + 1 ≤ 100000 := by simp at h63; omega
          have hix : L2.ixN (gs.length + 1) 0 = some 0 := by
            unfold L2.ixN
            rw [if_pos (by decide), if_pos (by omega)]
            rfl
          simp [popAtD, hix, hlen]
          rfl
        rw [while_step (S1 := (Tr.mk (g :: gs) a f n).st G) (s2 := [some (.ptr 1), some d, x, y]) (S2 := (Tr.mk gs g f n).st G) (by
          simp [ha, neD_ints (tr_py0 (t := Tr.mk (g :: gs) a f n) (G := G))]) (by simp [hp])]
        exact e
    · refine ⟨gs, a, ?_, Nat.le_refl _⟩
      rw [while_end (S1 := (Tr.mk gs a f n).st G) (by simp [ha])]

theorem fits_lt {i : Int} (h0 : 0 ≤ i) (h : i < 2 ^ 200) : Fits i := fits_small (by omega)
theorem draw_ok {t : Tr} {G : Sto} {m N : Int} (h : t.ok N) (hN : N < 2 ^ 60) (hm : 0 < m) (hm2 : m < 2 ^ 200) :
    ∃ (r : Int) (t' : Tr), f_law_draw_z [.ptr 1, .int m] (t.st G) = some (.int r, t'.st G) ∧ 0 ≤ r ∧ r < m ∧ t'.ok (N + 1) := by
  obtain ⟨gs, a, e, hl⟩ := draw_loop (d := .int m) (x := none) (y := none) (G := G) FUEL t (lt_fuel (k := 6) (by have := h.l; omega) (by decide)) h.l
  have hf0 := h.f0; have hf1 := h.f1; have hn0 := h.n0; have hn1 := h.n1; have hl63 := h.l
  have fm : FitsD m := fitsD_small hm (by omega)
  have hlen : ∀ t' : Tr, (t'.st G).length = (t.st G).length := fun _ => rfl
  by_cases ha : a < 2
  · -- a mixed draw
    have hn3 : 0 ≤ t.n + 1 + 2 ∧ t.n + 1 + 2 < 2 ^ 62 := by omega
    have p3 : ∀ S, powD (.int (t.n + 1 + 2)) (.int 3) S = some (.int ((t.n + 1 + 2) ^ 3), S) := fun S => powD_int (by decide) (by decide) (by omega)
    have c3 : 0 ≤ (t.n + 1 + 2) ^ 3 ∧ (t.n + 1 + 2) ^ 3 < 2 ^ 186 := by
      refine ⟨Int.pow_nonneg hn3.1, ?_⟩
      have h1 : (t.n + 1 + 2).toNat ^ 3 < (2 ^ 62) ^ 3 := Nat.pow_lt_pow_left (by omega) (by decide)
      have h2 : (t.n + 1 + 2) ^ 3 = (((t.n + 1 + 2).toNat ^ 3 : Nat) : Int) := by
        rw [Int.natCast_pow, Int.toNat_of_nonneg hn3.1]
      rw [h2]
      omega
    have f1 : Fits (t.f + 5) := fits_lt (by omega) (by omega)
    have f2 : Fits ((t.n + 1 + 2) ^ 3) := fits_lt c3.1 (by omega)
    have f3 : Fits 1000003 := fits_lt (by decide) (by decide)
    have f4 : Fits (t.n + 1) := fits_lt (by omega) (by omega)
    have hx : ∃ x : Int, x = ((t.f + 5) * (t.n + 1 + 2) ^ 3 + 1000003 * (t.n + 1)) % 2305843009213693951 := ⟨_, rfl⟩
    obtain ⟨x, hx⟩ := hx
    have x0 : 0 ≤ x ∧ x < 2305843009213693951 := by
      rw [hx]
      exact ⟨Int.emod_nonneg _ (by decide), Int.emod_lt_of_pos _ (by decide)⟩
    have p5 : ∀ S, powD (.int x) (.int 5) S = some (.int (x ^ 5), S) := fun S => powD_int (by decide) (by decide) (by omega)
    have f64 : FitsD 64 := fitsD_small (by decide) (by decide)
    refine ⟨x ^ 5 % 1000000000000000009 / 64 % m, Tr.mk gs a t.f (t.n + 1), ?_, Int.emod_nonneg _ (by omega), Int.emod_lt_of_pos _ hm, ⟨hf0, hf1, by show 0 ≤ t.n + 1; omega, by show t.n + 1 ≤ N + 1; omega, by show gs.length ≤ 63; omega⟩⟩
    simp only [f_law_draw_z, fnF, b_law_draw_z, dSeq, dWhile, startD, List.map, List.length, List.replicate, List.cons_append, List.nil_append, e, kNx]
    have ha' : ¬ 2 ≤ a := by omega
    simp [ha', p3, f1, f2, f3, f4]
    rw [← hx]
    simp [p5, hm, f64]
    exact exF_len rfl
  · have ha' : 2 ≤ a := by omega
    refine ⟨a % m, Tr.mk gs (a / m) t.f t.n, ?_, Int.emod_nonneg _ (by omega), Int.emod_lt_of_pos _ hm, ⟨hf0, hf1, hn0, by show t.n ≤ N + 1; omega, by show gs.length ≤ 63; omega⟩⟩
    simp only [f_law_draw_z, fnF, b_law_draw_z, dSeq, dWhile, startD, List.map, List.length, List.replicate, List.cons_append, List.nil_append, e, kNx]
    simp [ha', hm, fm]
    exact exF_len rfl
end FW
end
section
namespace FW
open PySem PyProof.Rows PySem.Spec L2 DL
theorem map_at {α : Type} {f : α → DV} {xs : List α} {i : Nat} {d : DV} (h : (xs.map f)[i]? = some d) : ∃ x, xs[i]? = some x ∧ d = f x := by
  rw [List.getElem?_map] at h
  cases q : xs[i]? with
  | none => rw [q] at h; cases h
  | some x => rw [q] at h; cases h; exact ⟨x, rfl, rfl⟩
section
variable {t t' : Tr} {G : Sto} {d : DV} {ds : List DV} {mo : MO}
@[simp] theorem tr_len : (t.st G).length = G.length + 2 := rfl
@[simp] theorem tr_app {X : Sto} : t.st G ++ X = t.st (G ++ X) := rfl
theorem tr_append (h : ds.length < 100000) : appendD (.ptr (G.length + 2)) [d] (t.st (G ++ [.ml ds])) = some (.non, t.st (G ++ [.ml (ds ++ [d])])) := appendD_top (S := t.st G) h
@[simp] theorem tr_rd : rdL (t.st (G ++ [.ml ds])) (.ptr (G.length + 2)) = some ds := rdL_top (S := t.st G)
theorem exF_tray {X : Sto} {d : DV} (h : clo (G.length + 2) d = true) (hp : ∀ n, d ≠ .ptr n) : exF (some false) (t.st G) d (t'.st (G ++ X)) = some (d, t'.st G) := by
  unfold exF exF1
  simp only
  split
  · rename_i hx
    have : X = [] := by simpa using hx
    subst this
    rw [List.append_nil]
  · rename_i hx
    have hc : (t.st G).length < (t'.st (G ++ X)).length ∧ ∀ n : Nat, n < (t.st G).length → (t'.st (G ++ X))[n]? = (t.st G)[n]? ∨ ∃ mo, (t'.st (G ++ X))[n]? = some mo ∧ cloM (t.st G).length mo = true := by
      refine ⟨?_, fun n hn => ?_⟩
      · simp at hx ⊢
        have : X.length ≠ 0 := fun z => hx (List.length_eq_zero_iff.mp z)
        omega
      · match n with
        | 0 => exact .inr ⟨_, rfl, clos_int⟩
        | 1 => exact .inr ⟨_, rfl, by simp [cloM, clos, clo]⟩
        | n + 2 =>
          refine .inl ?_
          show (G ++ X)[n]? = G[n]?
          have : n < G.length := by simp at hn; omega
          rw [List.getElem?_append_left this]
    rw [if_pos hc]
    unfold exR
    split
    · exact absurd rfl (hp _)
    · rw [if_pos (by simpa using h)]
      have : (t'.st (G ++ X)).take (t.st G).length = t'.st G := List.take_left (l₁ := t'.st G) (l₂ := X)
      rw [this]
end
theorem pick3 {r : Int} {a b c : DV} (h0 : 0 ≤ r) (h : r < 3) : ∃ d, L2.atI [a, b, c] r = some d ∧ (d = a ∨ d = b ∨ d = c) := by
  have : r = 0 ∨ r = 1 ∨ r = 2 := by omega
  rcases this with rfl | rfl | rfl
  · exact ⟨a, by simp, .inl rfl⟩
  · exact ⟨b, by simp, .inr (.inl rfl)⟩
  · exact ⟨c, by simp, .inr (.inr rfl)⟩
end FW
end
section
namespace FW
open PySem PyProof.Rows PySem.Spec L2 DL
theorem pick4 {r : Int} {a b c e : DV} (h0 : 0 ≤ r) (h : r < 4) : ∃ d, L2.atI [a, b, c, e] r = some d ∧ (d = a ∨ d = b ∨ d = c ∨ d = e) := by
  have : r = 0 ∨ r = 1 ∨ r = 2 ∨ r = 3 := by omega
  rcases this with rfl | rfl | rfl | rfl
  · exact ⟨a, by simp, .inl rfl⟩
  · exact ⟨b, by simp, .inr (.inl rfl)⟩
  · exact ⟨c, by simp, .inr (.inr (.inl rfl))⟩
  · exact ⟨e, by simp, .inr (.inr (.inr rfl))⟩
theorem pick5 {r : Int} {a b c e f : DV} (h0 : 0 ≤ r) (h : r < 5) : ∃ d, L2.atI [a, b, c, e, f] r = some d ∧ (d = a ∨ d = b ∨ d = c ∨ d = e ∨ d = f) := by
  have : r = 0 ∨ r = 1 ∨ r = 2 ∨ r = 3 ∨ r = 4 := by omega
  rcases this with rfl | rfl | rfl | rfl | rfl
  · exact ⟨a, by simp, .inl rfl⟩
  · exact ⟨b, by simp, .inr (.inl rfl)⟩
  · exact ⟨c, by simp, .inr (.inr (.inl rfl))⟩
  · exact ⟨e, by simp, .inr (.inr (.inr (.inl rfl)))⟩
  · exact ⟨f, at_nat (n := 4) rfl rfl, .inr (.inr (.inr (.inr rfl)))⟩
theorem sz_zero {n : Nat} (hn : 0 < n := by decide) : Sz n (0 : Rat) := ⟨Nat.two_pow_pos n, Nat.one_lt_two_pow (by omega)⟩
theorem nonneg_mkRat {a : Int} {b : Nat} (h : 0 ≤ a) : 0 ≤ mkRat a b := by
  rw [← Rat.num_nonneg, Rat.num_mkRat]
  split
  · exact Int.le_refl _
  · exact Int.ediv_nonneg h (by omega)
theorem fr_not_ptr {q : Rat} : ∀ n, fr q ≠ .ptr n := fun n h => by cases h
theorem law_amount_ok {t : Tr} {G : Sto} {N w b : Int} (h : t.ok N) (hN : N < 2 ^ 50) (hw : 1 ≤ w ∧ w ≤ 9) (hb : 1 ≤ b ∧ b ≤ 60) :
    ∃ (q : Rat) (t' : Tr), f_law_amount_z [.ptr 1, .int w, .int b] (t.st G) = some (fr q, t'.st G) ∧ 0 ≤ q ∧ Sz 41 q ∧ t'.ok (N + 5) := by
  obtain ⟨r1, t1, e1, a1, b1, k1⟩ := draw_ok (G := G) (m := 4) h (by omega) (by decide) (by decide)
  obtain ⟨r2, t2, e2, a2, b2, k2⟩ := draw_ok (G := G) (m := 20) k1 (by omega) (by decide) (by decide)
  obtain ⟨r3, t3, e3, a3, b3, k3⟩ := draw_ok (G := G) (m := 10000) k2 (by omega) (by decide) (by decide)
  have fw : Fits w := fits_lt (by omega) (by omega)
  have fb : Fits b := fits_lt (by omega) (by omega)
  have hwb : 0 ≤ w * b ∧ w * b ≤ 540 := by
    refine ⟨Int.mul_nonneg (by omega) (by omega), ?_⟩
    have := Int.mul_le_mul hw.2 hb.2 (by omega) (by decide)
    omega
  have hwbr : 0 ≤ w * b * r1 ∧ w * b * r1 ≤ 1620 := by
    refine ⟨Int.mul_nonneg hwb.1 a1, ?_⟩
    have := Int.mul_le_mul hwb.2 (show r1 ≤ 3 by omega) a1 (by decide)
    omega
  have fwb : Fits (w * b) := fits_lt hwb.1 (by omega)
  have fr1 : Fits r1 := fits_lt a1 (by omega)
  have hS : ∀ ds : List DV, t3.st (G ++ [.ml ds]) = t3.st (G ++ [.ml ds]) := fun _ => rfl
  obtain ⟨r4, t4, e4, a4, b4, k4⟩ := draw_ok (G := G ++ [.ml [.int 0, .int (w * b * r1), .int r2, .int r3]]) (m := 1000000000000) k3 (by omega) (by decide) (by decide)
  obtain ⟨r5, t5, e5, a5, b5, k5⟩ := draw_ok (G := G ++ [.ml [.int 0, .int (w * b * r1), .int r2, .int r3, .int r4]]) (m := 5) k4 (by omega) (by decide) (by decide)
  obtain ⟨d, hd, hd2⟩ := pick5 (a := .int 0) (b := .int (w * b * r1)) (c := .int r2) (e := .int r3) (f := .int r4) a5 b5
  obtain ⟨x, rfl, x0, x1⟩ : ∃ x : Int, d = .int x ∧ 0 ≤ x ∧ x ≤ 1000000000000 := by
    rcases hd2 with rfl | rfl | rfl | rfl | rfl
    · exact ⟨_, rfl, by omega, by omega⟩
    · exact ⟨_, rfl, by omega, by omega⟩
    · exact ⟨_, rfl, by omega, by omega⟩
    · exact ⟨_, rfl, by omega, by omega⟩
    · exact ⟨_, rfl, by omega, by omega⟩
  obtain ⟨bn, rfl⟩ : ∃ bn : Nat, b = (bn : Int) := ⟨b.toNat, by omega⟩
  have key := law_low_ok (a := x) (b := bn) (n := 41) (S := t5.st (G ++ [.ml [.int 0, .int (w * bn * r1), .int r2, .int r3, .int r4]])) (by omega) (Nat.lt_of_lt_of_le (show bn < 2 ^ 6 by omega) (Nat.pow_le_pow_right (by decide) (by decide))) (by omega) (by decide)
  have hap : appendD (.ptr (G.length + 2)) [.int r4] (t4.st (G ++ [.ml [.int 0, .int (w * bn * r1), .int r2, .int r3]])) = some (.non, t4.st (G ++ [.ml [.int 0, .int (w * bn * r1), .int r2, .int r3, .int r4]])) := tr_append (by simp)
  refine ⟨mkRat x bn, t5, ?_, nonneg_mkRat x0, sz_mkRat (by omega) (by omega) (by omega), k5.mono (by omega)⟩
  simp only [f_law_amount_z, fnF, b_law_amount_z]
  simp [e1, e2, e3, fw, fb, fwb, fr1, hap, e4, e5, ixD, hd, key]
  exact exF_tray rfl fr_not_ptr
end FW
end
section
namespace FW
open PySem PyProof.Rows PySem.Spec L2 DL
/-! ### alike -/
def KOk (t : String) : Prop := L2.kitB t "bool" = some (t == "bool") ∧ L2.kitB t "int" = some (t == "int" || t == "bool") ∧ L2.kitB t "str" = some (t == "str") ∧ L2.kitB t "list" = some (t == "list") ∧ L2.kitB t "tuple" = some (t == "tuple")
theorem kok_int : KOk "int" := by
  unfold KOk
  decide +kernel
theorem isi_of {S : Sto} {x : DV} {t T : String} {b : Bool} (h : tyS S x = some t) (h2 : L2.kitB t T = some b) : isiD [x, .ty T] S = some (.bl b, S) := by
  simp only [isiD, h, h2]
@[simp] theorem neD_bl {S : Sto} {i j : Bool} : neD (.bl i) (.bl j) S = some (.bl (!decide (i = j)), S) := by
  rw [neD_of (n := 0) rfl rfl shN_bl shN_bl (by decide)]
  cases i <;> cases j <;> rfl
@[simp] theorem alike_int {k : Nat} {i : Int} {S : Sto} : f_law_alike_z (k + 1) [.int i, .int i] S = some (.bl true, S) := by
  have h1 := isi_of (S := S) (x := .int i) (t := "int") rfl kok_int.1
  have h2 := isi_of (S := S) (x := .int i) (t := "int") rfl kok_int.2.1
  simp [f_law_alike_z, fnF, b_law_alike_z, h1, h2]
theorem cut_take {α : Type} {xs : List α} {i : Nat} (h : i ≤ xs.length) : cutL xs none (some (i : Int)) = xs.take i := by
  unfold cutL
  rw [HT.sIx_none, HT.sIx_nat]
  simp [Nat.min_eq_left h]
theorem hfI_takes : ∀ (ws : List Int) (a : Int), (List.range (ws.length + 1)).map (fun i => a + (ws.take i).sum) = hfI a ws
  | [], a => by simp [hfI]
  | w :: ws, a => by
    rw [List.length_cons, List.range_succ_eq_map]
    simp only [List.map_cons, List.map_map, hfI, List.take_zero, List.sum_nil, Int.add_zero]
    rw [← hfI_takes ws (a + w)]
    congr 1
    refine List.map_congr_left fun i _ => ?_
    simp [Int.add_assoc]
end FW
end
section
/-! list(zip(xs, ys)) -/
namespace DLZ
open PySem PySem.Calls PyProof.Rows PySem.Spec PySem.W
theorem past {a b S : Addr} (h : S < b ∨ b = S) (k : a < S) : b ≠ a := fun e => by
  subst e
  rcases h with h | h
  · exact Nat.lt_asymm h k
  · rw [h] at k
    exact Nat.lt_irrefl _ k
/-- the pairs made so far -/
structure Made (xs ys : Array Value) (lo : Addr) (h : Heap) (ts : List Addr) : Prop where
  up : ts.Pairwise (· < ·)
  hi : ∀ t ∈ ts, lo < t
  at_ : ∀ (j : Nat) (t : Addr), ts[j]? = some t → ∃ x y, xs[j]? = some x ∧ ys[j]? = some y ∧ IsPair h t x y
theorem Made.lt {xs ys : Array Value} {lo : Addr} {h : Heap} {ts : List Addr} (g : Made xs ys lo h ts) {t : Addr} (ht : t ∈ ts) : t < h.objs.size := by
  obtain ⟨j, hj⟩ := List.mem_iff_getElem?.mp ht
  obtain ⟨_, _, _, _, e⟩ := g.at_ j t hj
  exact Heap.lt_size e
structure Zs (z TI TO i1 i2 l1 l2 : Addr) (xs ys : Array Value) (S : Addr) (i : Nat) (h : Heap) : Prop where
  ti : IsPair h TI (.ref i1) (.ref i2)
  a1 : h.IsListIter i1 l1 i
  a2 : h.IsListIter i2 l2 i
  b1 : h.IsList l1 xs
  b2 : h.IsList l2 ys
  zz : (IsZip h z TI TO .none ∧ ∃ a b, IsPair h TO a b) ∨ ∃ T f oT, IsZipHeld h z TI TO T f ∧ h.get? T = some oT ∧ T ≠ z ∧ T ≠ i1 ∧ T ≠ i2 ∧ T ≠ S
structure OffS (z TI TO i1 i2 l1 l2 S : Addr) : Prop where
  z : S ≠ z
  ti : S ≠ TI
  to : S ≠ TO
  i1 : S ≠ i1
  i2 : S ≠ i2
  l1 : S ≠ l1
  l2 : S ≠ l2
section
variable {prog : Program} {w : World} {A : Around} {E : Value → Shared → Prop} {s : Shared} {z TI TO i1 i2 l1 l2 S : Addr} {xs ys : Array Value}
theorem Zs.stay {i : Nat} {h h' : Heap} (o : OffS z TI TO i1 i2 l1 l2 S) (g : Zs z TI TO i1 i2 l1 l2 xs ys S i h) (k : ∀ b u, b ≠ S → h.get? b = some u → h'.get? b = some u) : Zs z TI TO i1 i2 l1 l2 xs ys S i h' where
  ti := k _ _ o.ti.symm g.ti
  a1 := g.a1.at fun u e => k _ u o.i1.symm e
  a2 := g.a2.at fun u e => k _ u o.i2.symm e
  b1 := g.b1.at fun u e => k _ u o.l1.symm e
  b2 := g.b2.at fun u e => k _ u o.l2.symm e
  zz := by
    rcases g.zz with ⟨q, a, b, q2⟩ | ⟨T, f, oT, q, q2, r1, r2, r3, r4⟩
    · exact .inl ⟨k _ _ o.z.symm q, a, b, k _ _ o.to.symm q2⟩
    · exact .inr ⟨T, f, oT, k _ _ o.z.symm q, k _ _ r4 q2, r1, r2, r3, r4⟩
theorem next_item {i : Nat} {Q : Option Value → Shared → Prop} (D : ZipApart z TI TO i1 i2 l1 l2) (g : Zs z TI TO i1 i2 l1 l2 xs ys S i s.heap) (hS : S < s.heap.objs.size) (hi : i < min xs.size ys.size)
    (q : ∀ h', Zs z TI TO i1 i2 l1 l2 xs ys S (i + 1) h' → (∃ x y, xs[i]? = some x ∧ ys[i]? = some y ∧ IsPair h' s.heap.objs.size x y) → h'.objs.size = s.heap.objs.size + 1 →
      (∀ b u, b ≠ z → b ≠ TO → b ≠ i1 → b ≠ i2 → s.heap.get? b = some u → h'.get? b = some u) → Q (some (.ref s.heap.objs.size)) { s with heap := h' }) : wpAny (model prog w) A (pyNext (.ref z)) Q E s := by
  have px : xs[i]? = some xs[i] := Array.getElem?_eq_getElem (by omega)
  have py : ys[i]? = some ys[i] := Array.getElem?_eq_getElem (by omega)
  have ne : ∀ {c o}, s.heap.get? c = some o → s.heap.objs.size ≠ c := fun e => Nat.ne_of_gt (Heap.lt_size e)
  have m1 : s.heap.objs.size ≠ i1 := let ⟨_, e, _⟩ := g.a1; ne e
  have m2 : s.heap.objs.size ≠ i2 := let ⟨_, e, _⟩ := g.a2; ne e
  rcases g.zz with ⟨hz, a, b, hTO⟩ | ⟨T, f, oT, hz, hT, r1, r2, r3, r4⟩
  · refine wpAny_pyNext_zip_item D hz g.ti hTO g.a1 g.a2 g.b1 g.b2 px py fun h' c1 c2 c3 c4 c5 c6 hk => ?_
    exact q h' ⟨hk _ _ D.TIz D.TITO D.TIi1 D.TIi2 g.ti, c3, c4, g.b1.at fun o e => hk _ o D.l1z D.l1TO D.l1i1 D.l1i2 e, g.b2.at fun o e => hk _ o D.l2z D.l2TO D.l2i1 D.l2i2 e,
      .inr ⟨_, false, _, c1, c5, ne hz, m1, m2, Nat.ne_of_gt hS⟩⟩ ⟨_, _, px, py, c5⟩ c6 fun b u n1 n2 n3 n4 e => hk b u n1 n2 n3 n4 e
  · refine wpAny_pyNext_zip_item_held D hz hT g.ti g.a1 g.a2 g.b1 g.b2 px py fun h' c1 c3 c4 c5 c6 hk => ?_
    exact q h' ⟨hk _ _ D.TIz D.TIi1 D.TIi2 g.ti, c3, c4, g.b1.at fun o e => hk _ o D.l1z D.l1i1 D.l1i2 e, g.b2.at fun o e => hk _ o D.l2z D.l2i1 D.l2i2 e,
      .inr ⟨T, true, oT, c1, hk _ _ r1 r2 r3 hT, r1, r2, r3, r4⟩⟩ ⟨_, _, px, py, c5⟩ c6 fun b u n1 n2 n3 n4 e => hk b u n1 n3 n4 e
theorem next_done {i : Nat} {Q : Option Value → Shared → Prop} (hh : A.handled = none) (D : ZipApart z TI TO i1 i2 l1 l2) (g : Zs z TI TO i1 i2 l1 l2 xs ys S i s.heap) (hi : min xs.size ys.size ≤ i)
    (q : ∀ h', (∀ b u, b ≠ z → b ≠ TO → b ≠ i1 → b ≠ i2 → s.heap.get? b = some u → h'.get? b = some u) → Q none { s with heap := h' }) : wpAny (model prog w) A (pyNext (.ref z)) Q E s := by
  have out : xs[i]? = none ∨ ys[i]? = none := by
    rcases Nat.le_total xs.size ys.size with h | h
    · exact .inl (Array.getElem?_eq_none (by omega))
    · exact .inr (Array.getElem?_eq_none (by omega))
  rcases g.zz with ⟨hz, a, b, hTO⟩ | ⟨T, f, oT, hz, hT, r1, r2, r3, r4⟩
  · exact wpAny_pyNext_zip_end hh D hz g.ti hTO g.a1 g.a2 g.b1 g.b2 out fun h' hk => q h' hk
  · exact wpAny_pyNext_zip_end_held hh D hz hT g.ti g.a1 g.a2 g.b1 g.b2 out fun h' hk => q h' fun b u n1 _ n3 n4 e => hk b u n1 n3 n4 e
end
section
variable {prog : Program} {w : World} {A : Around} {s : Shared} {R : Result → Shared → Prop} {z TI TO i1 i2 l1 l2 S : Addr} {xs ys : Array Value}
theorem drain (hh : A.handled = none) (D : ZipApart z TI TO i1 i2 l1 l2) (o : OffS z TI TO i1 i2 l1 l2 S) (hlow : z < S ∧ TO < S ∧ i1 < S ∧ i2 < S) (hn : xs.size ≤ sizeLine) (res : Value) {h₁ : Heap}
    (hR : ∀ h' acc c ts, (∀ b u, b ≠ S → b ≠ z → b ≠ TO → b ≠ i1 → b ≠ i2 → h₁.get? b = some u → h'.get? b = some u) → h'.get? S = some { cls := .type "list", dict := none, data := .seq acc c, slots := #[] } → ts.length = min xs.size ys.size → Made xs ys S h' ts →
      acc.toList = ts.map Value.ref → R (.ok (.ret res)) { s with heap := h' }) :
    ∀ (k i : Nat) (h : Heap) (c : Nat) (acc : Array Value) (ts : List Addr), min xs.size ys.size - i = k → i ≤ min xs.size ys.size → Zs z TI TO i1 i2 l1 l2 xs ys S i h → (∀ b u, b ≠ S → b ≠ z → b ≠ TO → b ≠ i1 → b ≠ i2 → h₁.get? b = some u → h.get? b = some u) →
      h.get? S = some { cls := .type "list", dict := none, data := .seq acc c, slots := #[] } → acc.toList = ts.map Value.ref → ts.length = i → Made xs ys S h ts →
      codeAny (model prog w) A (.builtin "list.extend.loop" ⟨[.ref S, .ref z, res], []⟩) R { s with heap := h } := by
  intro k
  induction k with
  | zero =>
    intro i h c acc ts hk hi g keep hS hacc hl hG
    refine codeAny_builtin PySem.F.entry_extend_loop ?_
    rw [Around.under_plainId PySem.F.plain_extend_loop _]
    show wpAny _ A.in1 (pyNext (.ref z) >>= _) _ _ _
    refine wpAny_bind (next_done (s := { s with heap := h }) (A := A.in1) hh D g (by omega) fun h' he => ?_)
    have he2 : ∀ b u, S < b ∨ b = S → h.get? b = some u → h'.get? b = some u := fun b u hb e => he b u (past hb hlow.1) (past hb hlow.2.1) (past hb hlow.2.2.1) (past hb hlow.2.2.2) e
    refine wpAny_pure (hR h' acc c ts (fun b u n0 n1 n2 n3 n4 e => he b u n1 n2 n3 n4 (keep b u n0 n1 n2 n3 n4 e)) (he2 S _ (.inr rfl) hS) (by omega) ⟨hG.up, hG.hi, fun j t hj => ?_⟩ hacc)
    obtain ⟨x, y, ex, ey, e⟩ := hG.at_ j t hj
    exact ⟨x, y, ex, ey, he2 t _ (.inl (hG.hi t (List.mem_of_getElem? hj))) e⟩
  | succ k ih =>
    intro i h c acc ts hk hi g keep hS hacc hl hG
    have hlt : i < min xs.size ys.size := by omega
    have hsz : acc.size = i := by rw [← Array.length_toList, hacc, List.length_map, hl]
    have hSl : S < h.objs.size := Heap.lt_size hS
    refine codeAny_builtin PySem.F.entry_extend_loop ?_
    rw [Around.under_plainId PySem.F.plain_extend_loop _]
    show wpAny _ A.in1 (pyNext (.ref z) >>= _) _ _ _
    refine wpAny_bind (next_item (s := { s with heap := h }) (S := S) D g hSl hlt fun h' g' hp hz' he => ?_)
    dsimp only at hp hz' he ⊢
    have he2 : ∀ b u, S < b ∨ b = S → h.get? b = some u → h'.get? b = some u := fun b u hb e => he b u (past hb hlow.1) (past hb hlow.2.1) (past hb hlow.2.2.1) (past hb hlow.2.2.2) e
    have hS' := he2 S _ (.inr rfl) hS
    have up : ∀ b u, b ≠ S → h'.get? b = some u → (h'.update S (Obj.mapSeq (·.push (Value.ref h.objs.size)))).get? b = some u := fun b u hb e => (Heap.get?_update_other _ _ (Ne.symm hb)).trans e
    show wpAny _ A.in1 (updateSeq S (·.push (Value.ref h.objs.size)) >>= _) _ _ _
    refine wpAny_bind ?_
    refine wpAny_updateSeq hS' rfl (wpAny_pure ⟨plainId_quiet PySem.F.plain_extend_loop _, ih (i + 1) _ _ (acc.push (Value.ref h.objs.size)) (ts ++ [h.objs.size]) (by omega) hlt (g'.stay o up)
      (fun b u n0 n1 n2 n3 n4 e => up b u n0 (he b u n1 n2 n3 n4 (keep b u n0 n1 n2 n3 n4 e))) (Heap.get?_update_self _ hS' rfl) (by rw [Array.toList_push, hacc, List.map_append]; rfl) (by rw [List.length_append, hl]; rfl) ⟨?_, ?_, ?_⟩⟩) (by rw [hsz]; omega) (by
        rw [Array.size_push, hsz]
        omega)
    · refine List.pairwise_append.mpr ⟨hG.up, List.pairwise_singleton _ _, fun a ha b hb => ?_⟩
      rw [List.mem_singleton.mp hb]
      exact hG.lt ha
    · intro t ht
      rcases List.mem_append.mp ht with ht | ht
      · exact hG.hi t ht
      · rw [List.mem_singleton.mp ht]; exact hSl
    · intro j b hj
      rcases Nat.lt_trichotomy j ts.length with h1 | h1 | h1
      · rw [List.getElem?_append_left h1] at hj
        obtain ⟨x, y, ex, ey, e⟩ := hG.at_ j b hj
        have hb := hG.hi b (List.mem_of_getElem? hj)
        exact ⟨x, y, ex, ey, up b _ (Nat.ne_of_gt hb) (he2 b _ (.inl hb) e)⟩
      · subst h1
        have hb : h.objs.size = b := by simpa using hj
        subst hb
        obtain ⟨x, y, ex, ey, e⟩ := hp
        rw [hl]
        exact ⟨x, y, ex, ey, up _ _ (Nat.ne_of_gt hSl) e⟩
      · have hnone : (ts ++ [h.objs.size])[j]? = none := List.getElem?_eq_none (by rw [List.length_append, List.length_singleton]; omega)
        rw [hnone] at hj; cases hj
end
section
variable {prog : Program} {w : World} {A : Around} {E : Value → Shared → Prop} {s : Shared} {z TI TO i1 i2 l1 l2 S : Addr} {xs ys : Array Value}
theorem no_len : typeLookup (.type "zip") "__len__" = pure none := am_miss_of_fast (by decide +kernel)
theorem no_hint : typeLookup (.type "zip") "__length_hint__" = pure none := am_miss_of_fast (by decide +kernel)
theorem hint {Q : Bool → Shared → Prop} (hT : s.TypeIs (.ref z) "zip") (h : Q true s) : wpAny (model prog w) A (Builtin.List.listLengthHint (.ref z)) Q E s := by
  unfold Builtin.List.listLengthHint
  refine wpAny_bind (wpAny_specialOf hT no_len ?_)
  simp only [Option.isSome_none, Bool.false_eq_true, if_false]
  show wpAny _ _ (specialOf _ _ >>= _) _ _ _
  refine wpAny_bind (wpAny_specialOf hT no_hint ?_)
  exact wpAny_pure h
theorem extend {R : Result → Shared → Prop} (hh : A.handled = none) (D : ZipApart z TI TO i1 i2 l1 l2) (o : OffS z TI TO i1 i2 l1 l2 S) (hlow : z < S ∧ TO < S ∧ i1 < S ∧ i2 < S) (hn : xs.size ≤ sizeLine) (res : Value) {c₀ : Nat}
    (hz : IsZip s.heap z TI TO .none) (g : Zs z TI TO i1 i2 l1 l2 xs ys S 0 s.heap) (hS : s.heap.get? S = some { cls := .type "list", data := .seq #[] c₀ })
    (hR : ∀ h' acc c ts, (∀ b u, b ≠ S → b ≠ z → b ≠ TO → b ≠ i1 → b ≠ i2 → s.heap.get? b = some u → h'.get? b = some u) → h'.get? S = some { cls := .type "list", dict := none, data := .seq acc c, slots := #[] } → ts.length = min xs.size ys.size → Made xs ys S h' ts →
      acc.toList = ts.map Value.ref → R (.ok (.ret res)) { s with heap := h' }) :
    wpAny (model prog w) A.in1 (Builtin.List.listExtendWith (.ref S) (.ref z) res)
      (fun fin s' => match fin with | .done f => R (.ok f) s' | .again c' => c'.quiet = true ∧ codeAny (model prog w) A c' R s') (fun e s' => R (.error e) s') s := by
  have hT : s.TypeIs (.ref z) "zip" := ⟨_, hz, rfl⟩
  have q1 : Builtin.List.listSameRef (.ref S) (.ref z) = false := by simp [Builtin.List.listSameRef, o.z]
  have q2 : (Value.type "zip" == Value.type "list") = false := by decide
  have q3 : (Value.type "zip" == Value.type "tuple") = false := by decide
  unfold Builtin.List.listExtendWith
  refine wpAny_bind (wpAny_typeOf (T := "zip") hT ?_)
  simp only [q1, q2, q3, Bool.or_false, Bool.false_eq_true, if_false]
  refine wpAny_bind (wpAny_pyIter_zip hz ?_)
  refine wpAny_bind (wpAny_holding (hint hT ?_))
  simp only [Bool.true_or, if_true]
  refine wpAny_bind (wpAny_rule ?_)
  refine wpAny_bind ?_
  show wpAny _ _ (updateSeq S (·.push .none) >>= fun _ => updateSeq S (·.pop)) _ _ _
  refine wpAny_bind (wpAny_updateSeq hS rfl ?_)
  have hS₂ := Heap.get?_update_self (Obj.mapSeq (·.push Value.none)) hS rfl
  refine wpAny_updateSeq (hz := by seq_fits) hS₂ rfl ?_
  have hS₃ := Heap.get?_update_self (Obj.mapSeq (·.pop)) hS₂ rfl
  have kp : ∀ b u, b ≠ S → s.heap.get? b = some u → ((s.heap.update S (Obj.mapSeq (·.push Value.none))).update S (Obj.mapSeq (·.pop))).get? b = some u := fun b u hb e => (Heap.get?_update_other _ _ (Ne.symm hb)).trans ((Heap.get?_update_other _ _ (Ne.symm hb)).trans e)
  refine wpAny_pure ⟨plainId_quiet PySem.F.plain_extend_loop _, ?_⟩
  exact drain (s := s) (h₁ := s.heap) hh D o hlow hn res hR _ 0 _ _ #[] [] rfl (Nat.zero_le _) (g.stay o kp) (fun b u n0 _ _ _ _ e => kp b u n0 e) hS₃ rfl rfl ⟨.nil, (fun _ h => nomatch h), (fun j t hj => by simp at hj)⟩
theorem list_call {Q : Value → Shared → Prop} (hh : A.handled = none) (D : ZipApart z TI TO i1 i2 l1 l2) (hn : xs.size ≤ sizeLine)
    (hz : IsZip s.heap z TI TO .none) (ti : IsPair s.heap TI (.ref i1) (.ref i2)) (to : ∃ a b, IsPair s.heap TO a b) (a1 : s.heap.IsListIter i1 l1 0) (a2 : s.heap.IsListIter i2 l2 0) (b1 : s.heap.IsList l1 xs) (b2 : s.heap.IsList l2 ys)
    (hQ : ∀ h' acc c ts, (∀ b u, b ≠ z → b ≠ TO → b ≠ i1 → b ≠ i2 → s.heap.get? b = some u → h'.get? b = some u) → h'.get? s.heap.objs.size = some { cls := .type "list", dict := none, data := .seq acc c, slots := #[] } → ts.length = min xs.size ys.size → Made xs ys s.heap.objs.size h' ts →
      acc.toList = ts.map Value.ref → Q (.ref s.heap.objs.size) { s with heap := h' }) :
    wpAny (model prog w) A (call (.type "list") [.ref z]) Q E s := by
  have lt : ∀ {c u}, s.heap.get? c = some u → c < s.heap.objs.size := fun e => Heap.lt_size e
  obtain ⟨ta, tb, hTO⟩ := to
  have j1 : i1 < s.heap.objs.size := let ⟨_, e, _⟩ := a1; lt e
  have j2 : i2 < s.heap.objs.size := let ⟨_, e, _⟩ := a2; lt e
  have o : OffS z TI TO i1 i2 l1 l2 s.heap.objs.size :=
    ⟨Nat.ne_of_gt (lt hz), Nat.ne_of_gt (lt ti), Nat.ne_of_gt (lt hTO), Nat.ne_of_gt j1, Nat.ne_of_gt j2, let ⟨_, e, _⟩ := b1; Nat.ne_of_gt (lt e), let ⟨_, e, _⟩ := b2; Nat.ne_of_gt (lt e)⟩
  refine callType_codes (Q₁ := fun obj s₁ => obj = .ref s.heap.objs.size ∧ s₁ = { s with heap := s.heap.push { cls := .type "list", data := .seq #[] } }) PySem.F.called_list (PySem.F.typeCall_list_1 _) PySem.F.entry_list_init
    (code_list_new _ ⟨rfl, rfl⟩) fun obj s₁ h₁ => ?_
  obtain ⟨rfl, rfl⟩ := h₁
  have hS : (s.heap.push { cls := .type "list", data := .seq #[] }).get? s.heap.objs.size = some { cls := .type "list", data := .seq #[] } := Heap.get?_push_size _ rfl
  have g0 : Zs z TI TO i1 i2 l1 l2 xs ys s.heap.objs.size 0 s.heap := ⟨ti, a1, a2, b1, b2, .inl ⟨hz, ta, tb, hTO⟩⟩
  refine ⟨⟨_, hS, rfl⟩, PySem.F.args_list_init_2 _ _, ?_⟩
  show wpAny _ _ (do let old ← Builtin.List.listItems (.ref s.heap.objs.size); Builtin.List.listUpdate (.ref s.heap.objs.size) (fun _ => #[]); letGo old.toList.reverse; Builtin.List.listExtendWith (.ref s.heap.objs.size) (.ref z) .none) _ _ _
  refine wpAny_bind ?_
  unfold Builtin.List.listItems
  refine wpAny_bind (wpAny_seqItems hS rfl (wpAny_pure ?_))
  show wpAny _ _ (updateSeq s.heap.objs.size (fun _ => #[]) >>= fun _ => letGo (#[] : Array Value).toList.reverse >>= fun _ => Builtin.List.listExtendWith (.ref s.heap.objs.size) (.ref z) .none) _ _ _
  refine wpAny_bind (wpAny_updateSeq hS rfl ?_)
  have hS₂ := Heap.get?_update_self (Obj.mapSeq (fun _ => (#[] : Array Value))) hS rfl
  have kp : ∀ b u, b ≠ s.heap.objs.size → s.heap.get? b = some u → ((s.heap.push { cls := .type "list", data := .seq #[] }).update s.heap.objs.size (Obj.mapSeq (fun _ => (#[] : Array Value)))).get? b = some u :=
    fun b u hb e => (Heap.get?_update_other _ _ (Ne.symm hb)).trans (Heap.get?_push_of_some _ e)
  refine wpAny_bind (wpAny_letGo ?_)
  refine extend (xs := xs) (ys := ys) (A := A.in1) hh D o ⟨lt hz, lt hTO, j1, j2⟩ hn .none (kp _ _ o.z.symm hz) (g0.stay o kp) hS₂ fun h' acc c ts hk hS' hl hG hacc => ?_
  exact ⟨rfl, hQ h' acc c ts (fun b u n1 n2 n3 n4 e => hk b u (Nat.ne_of_lt (lt e)) n1 n2 n3 n4 (kp b u (Nat.ne_of_lt (lt e)) e)) hS' hl hG hacc⟩
end
end DLZ
namespace DLZ
open PySem PySem.Spec PyProof.Rows L2
/-- the pairs tracked -/
def mk2 : Hp → List Addr → List (V × V) → Hp
  | H, t :: ts, p :: ps => mk2 (upd H t (.tup [p.1, p.2])) ts ps
  | H, _, _ => H
theorem mk2_off {b : Addr} : ∀ (ts : List Addr) (ps : List (V × V)) (H : Hp), b ∉ ts → mk2 H ts ps b = H b
  | [], _, _, _ => rfl
  | _ :: _, [], _, _ => rfl
  | t :: ts, p :: ps, H, h => by
    have n1 : b ≠ t := fun e => h (by rw [e]; exact List.mem_cons_self)
    have n2 : b ∉ ts := fun e => h (List.mem_cons_of_mem _ e)
    rw [mk2, mk2_off ts ps _ n2, upd_ne n1]
theorem mk2_at : ∀ (ts : List Addr) (ps : List (V × V)) (H : Hp) (j : Nat) (t : Addr) (p : V × V), ts.Nodup → ts[j]? = some t → ps[j]? = some p → mk2 H ts ps t = some (.tup [p.1, p.2])
  | [], _, _, _, _, _, _, h, _ => by cases h
  | _ :: _, [], _, _, _, _, _, _, h => by cases h
  | a :: ts, q :: ps, H, 0, t, p, nd, h1, h2 => by
    cases h1
    cases h2
    rw [mk2, mk2_off ts ps _ (List.nodup_cons.mp nd).1, upd_same]
  | a :: ts, q :: ps, H, j + 1, t, p, nd, h1, h2 => mk2_at ts ps _ j t p (List.nodup_cons.mp nd).2 h1 h2
theorem vals_ref : ∀ ts : List Addr, Vals (ts.map V.ref) (ts.map Value.ref)
  | [] => .nil
  | _ :: ts => .cons rfl (vals_ref ts)
theorem vals_at {xs : List V} {us : List Value} {i : Nat} {u : Value} (r : Vals xs us) (h : us[i]? = some u) : ∃ x, xs[i]? = some x ∧ RelV x u := by
  have hi : i < us.length := (List.getElem?_eq_some_iff.mp h).1
  have hx : xs[i]? = some (xs[i]'(by rw [r.length]; exact hi)) := List.getElem?_eq_getElem _
  obtain ⟨u', e, q⟩ := r.get hx
  rw [h] at e
  cases e
  exact ⟨_, hx, q⟩
section
variable {X : Cx}
theorem laid {pins : List (Addr × Obj)} {σ : L2.St} {H : Hp} {s : Shared} {h' : Heap} {p : Addr} {xs ys : List V} {us ws : List Value} {acc : Array Value} {c : Nat} {ts : List Addr} (I : Inv X pins σ H s) (hz : ts.length ≤ sizeLine) (rx : Vals xs us) (ry : Vals ys ws) (hp : s.heap.objs.size ≤ p)
    (hk : ∀ b u, s.heap.get? b = some u → h'.get? b = some u) (hS : h'.get? p = some { cls := .type "list", dict := none, data := .seq acc c, slots := #[] }) (hG : Made us.toArray ws.toArray p h' ts) (hacc : acc.toList = ts.map Value.ref) :
    H p = none ∧ (∀ t ∈ ts, H t = none) ∧ p ∉ ts ∧ ts.Nodup ∧ Inv X pins σ (upd (mk2 H ts (xs.zip ys)) p (.lst (ts.map V.ref))) { s with heap := h' } := by
  have pn : p ∉ ts := fun z => Nat.lt_irrefl _ (hG.hi _ z)
  have nd : ts.Nodup := List.Pairwise.imp (fun {a b} (h : a < b) => Nat.ne_of_lt h) hG.up
  have nw : ∀ t ∈ ts, H t = none := fun t ht => I.hok.fresh (Nat.le_trans hp (Nat.le_of_lt (hG.hi t ht)))
  have np : H p = none := I.hok.fresh hp
  have off : ∀ b, b ∉ ts → b ≠ p → upd (mk2 H ts (xs.zip ys)) p (.lst (ts.map V.ref)) b = H b := fun b h1 h2 => by rw [upd_ne h2, mk2_off ts _ _ h1]
  have kp : ∀ b u, H b = some u → upd (mk2 H ts (xs.zip ys)) p (.lst (ts.map V.ref)) b = some u := fun b u e => by
    rw [off b (fun z => by rw [nw b z] at e; cases e) (fun z => by rw [z, np] at e; cases e)]
    exact e
  have low : ∀ b u, s.heap.get? b = some u → b ∉ ts ∧ b ≠ p := fun b u e => by
    have hb : b < p := Nat.lt_of_lt_of_le (Heap.lt_size e) hp
    exact ⟨fun z => Nat.lt_asymm hb (hG.hi b z), Nat.ne_of_lt hb⟩
  refine ⟨np, nw, pn, nd, I.call' (ch := []) rfl ⟨fun b u q _ _ _ => hk b u q, fun b u q _ _ _ => ⟨u.slots, hk b u q⟩, fun b u q n _ => ?_, fun b u q _ => ⟨u, hk b u q⟩, fun b l q => kp b _ q, fun b u v q => kp b _ q, fun b l q => ⟨#[], by rw [kp b _ q]; simp⟩⟩ (fun b u q => ?_) I.bare fun b z => by simp at z⟩
  · obtain ⟨n1, n2⟩ := low b u q
    rw [off b n1 n2]
    exact n
  · by_cases hb2 : b = p
    · subst hb2
      rw [upd_same] at q
      cases q
      refine ⟨by rw [List.length_map]; exact hz, acc.toList, c, by rw [hacc]; exact vals_ref ts, ?_⟩
      rw [Array.toArray_toList]
      exact hS
    · by_cases hb : b ∈ ts
      · obtain ⟨j, hj⟩ := List.mem_iff_getElem?.mp hb
        obtain ⟨x', y', ex, ey, ep⟩ := hG.at_ j b hj
        obtain ⟨x, hx, r1⟩ := vals_at rx (by simpa using ex)
        obtain ⟨y, hy, r2⟩ := vals_at ry (by simpa using ey)
        have hzp : (xs.zip ys)[j]? = some (x, y) := by rw [List.getElem?_zip_eq_some]; exact ⟨hx, hy⟩
        rw [upd_ne hb2, mk2_at ts _ H j b (x, y) nd hj hzp] at q
        cases q
        exact ⟨by show 2 ≤ sizeLine; decide, [x', y'], .cons r1 (.cons r2 .nil), ⟨_, ep, rfl, _, rfl⟩⟩
      · rw [off b hb hb2] at q
        exact (I.hok b u q).stay (fun d v _ y => hk d v y) (fun d y => kp d _ y) fun d l y => kp d _ y
def tListZip (K : PySem.W.Frag) (ta : TA) : TE := fun σ H Q => ta σ H fun vs H1 => ∃ a b xs ys, vs = [.ref a, .ref b] ∧ SqL K H1 a xs ∧ SqL K H1 b ys ∧
  ∀ (p : Addr) (ts : List Addr), H1 p = none → (∀ t ∈ ts, H1 t = none) → p ∉ ts → ts.Nodup → ts.length = min xs.length ys.length → Q (.ref p) (upd (mk2 H1 ts (xs.zip ys)) p (.lst (ts.map V.ref)))
theorem pe_listZip {e e2 : Expr} {ta : TA} {p p2 pos pos2 : Pos} (hc : X.calm = true) (hg : Gl X "list") (hm : X.mg "list" = none) (hg2 : Gl X "zip") (hm2 : X.mg "zip" = none) (ha : PA X [e, e2] ta)
    (hs : starEach [e, e2] X.env = (false, eval e X.env) :: starEach [e2] X.env := by rfl) (hpl : (backTo pos2 (starEach [e2] X.env)).any (·.1) = false := by rfl)
    (hs2 : starEach [.Call (.Name "zip" p2) [e, e2] [] pos2] X.env = (false, eval (.Call (.Name "zip" p2) [e, e2] [] pos2) X.env) :: starEach [] X.env := by rfl) :
    PE X (.Call (.Name "list" p) [.Call (.Name "zip" p2) [e, e2] [] pos2] [] pos) (tListZip X.K ta) := by
  refine ⟨fun pins s σ H Q I h => ?_⟩
  refine Call_ (ld_blt I hg hm boot_list (PyProof.Rows.callWith_type1 (args_cons ?_ hs2) hs2))
  refine Call_ (ld_blt I hg2 hm2 PyProof.Rows.boot_zip (PyProof.Rows.callWith_type1 (thn (ha.run pos2 pins s σ H _ I h) fun us s1 ⟨vs, H1, I1, r1, q1⟩ => ?_) hs hpl))
  obtain ⟨a, b, xs, ys, ex, hqx, hqy, q⟩ := q1
  subst ex
  cases r1 with
  | cons r rr =>
    cases rr with
    | cons r' rr =>
      cases rr
      cases r
      cases r'
      obtain ⟨us, rv, p1, hz1⟩ := I1.list hqx
      obtain ⟨ws, rv2, p2, hz2⟩ := I1.list hqy
      refine call_zip_2 p1.isList p2.isList fun h' hz hTI hTO a1 a2 hsz hk => ?_
      refine args_nil ?_
      refine list_call (s := { s1 with heap := h' }) (I1.ok.hd hc) (PySem.W.ktu_apart s1.heap.objs.size a b p1.lt p2.lt) ?_ hz hTI ⟨_, _, hTO⟩ a1 a2 (p1.isList.at fun o e => hk _ o e) (p2.isList.at fun o e => hk _ o e) fun h2 acc c ts hk2 hS hl hG hacc => ?_
      · show us.length ≤ sizeLine
        rw [← rv.length]
        exact hz1
      · have far : ∀ c u, s1.heap.get? c = some u → h2.get? c = some u := fun c u e => by
          have hc' : c < s1.heap.objs.size := Heap.lt_size e
          exact hk2 c u (Nat.ne_of_lt (Nat.lt_of_lt_of_le hc' (Nat.le_add_right _ _))) (Nat.ne_of_lt (Nat.lt_of_lt_of_le hc' (Nat.le_add_right _ _))) (Nat.ne_of_lt hc') (Nat.ne_of_lt (Nat.lt_of_lt_of_le hc' (Nat.le_add_right _ _))) (hk c u e)
        have hl2 : ts.length = min xs.length ys.length := by rw [hl, rv.length, rv2.length]; rfl
        obtain ⟨n1, n2, n3, n4, J⟩ := laid I1 (by rw [hl2]; exact Nat.le_trans (Nat.min_le_left _ _) hz1) rv rv2 (p := h'.objs.size) (by rw [hsz]; exact Nat.le_add_right _ _) far hS hG hacc
        exact ⟨.ref _, _, J, rfl, q _ ts n1 n2 n3 n4 hl2⟩
end
end DLZ
end
section
namespace DL
open PySem PyProof.Rows PySem.Spec L2
section
variable {K : PySem.W.Frag} {mg : Str → Option Value} {ta : TA} {fa : DA}
theorem mk2_ok {S : Sto} : ∀ (ts : List Addr) (xs ys : List DV) (xv yv : List V) (W : Wd), Rep K mg W S → ts.Nodup → (∀ t ∈ ts, W.H t = none) → Dens K W xs xv → Dens K W ys yv → ts.length = min xs.length ys.length →
    ∃ W', W'.H = DLZ.mk2 W.H ts (xv.zip yv) ∧ Ext W W' ∧ Rep K mg W' S ∧ Dens K W' (List.zipWith (fun x y => DV.tup [x, y]) xs ys) (ts.map V.ref)
  | [], xs, ys, xv, yv, W, R, _, _, hx, hy, hl => by
    refine ⟨W, rfl, Ext.refl W, R, ?_⟩
    have : List.zipWith (fun x y => DV.tup [x, y]) xs ys = [] := List.length_eq_zero_iff.mp (by rw [List.length_zipWith, ← hl]; rfl)
    rw [this]
    rfl
  | t :: ts, [], ys, xv, yv, W, R, _, _, hx, hy, hl => by simp at hl
  | t :: ts, x :: xs, [], xv, yv, W, R, _, _, hx, hy, hl => by simp at hl
  | t :: ts, x :: xs, y :: ys, xv, yv, W, R, nd, hf, hx, hy, hl => by
    obtain ⟨v, xr, rfl, dx, hx⟩ := hx
    obtain ⟨u, yr, rfl, dy, hy⟩ := hy
    obtain ⟨W1, e1, x1, R1, d1⟩ := newT_ok R (hf t (List.mem_cons_self)) (show Dens K W [x, y] [v, u] from ⟨v, [u], rfl, dx, u, [], rfl, dy, rfl⟩)
    have nd' := List.nodup_cons.mp nd
    obtain ⟨W2, e2, x2, R2, d2⟩ := mk2_ok ts xs ys xr yr W1 R1 nd'.2 (fun b hb => by
      rw [e1, upd_ne (fun z => nd'.1 (by rw [← z]; exact hb))]
      exact hf b (List.mem_cons_of_mem _ hb)) (Dens.ext x1 _ _ hx) (Dens.ext x1 _ _ hy) (by simp at hl; omega)
    refine ⟨W2, by rw [e2, e1]; rfl, x1.trans x2, R2, ?_⟩
    exact ⟨_, _, rfl, Den.ext x2 _ _ d1, d2⟩
noncomputable def dLz (m : Bool) (f : DA) : DE := fun s S => bnd (f s S) fun ds S1 => match ds with
  | [x, y] => match rdL S1 x, rdL S1 y with
    | some xs, some ys => some (newL m (List.zipWith (fun x y => DV.tup [x, y]) xs ys) S1)
    | _, _ => none
  | _ => none
theorem re_lz {m : Bool} (h : RA K mg ta fa) : RE K mg (DLZ.tListZip K ta) (dLz m fa) := by
  intro W σ s S d S' Q R L e q
  obtain ⟨ds, S1, e1, e⟩ := bnd_inv e
  split at e
  · rename_i x y
    split at e
    · rename_i xs ys hx hy
      refine h W σ s S _ S1 _ R L e1 fun vs W1 x1 R1 d1 => ?_
      obtain ⟨v, u, rfl, dv, du⟩ := dens2 d1
      obtain ⟨a, xv, rfl, sx, dx⟩ := rdL_ok R1 dv hx
      obtain ⟨b, yv, rfl, sy, dy⟩ := rdL_ok R1 du hy
      refine ⟨a, b, xv, yv, rfl, sx, sy, fun p ts hp ht hn nd hl => ?_⟩
      obtain ⟨W2, e2, x2, R2, d2⟩ := mk2_ok ts xs ys xv yv W1 R1 nd ht dx dy (by rw [hl, dx.len, dy.len])
      obtain ⟨W3, e3, x3, R3, d3⟩ := newL_ok R2 (by rw [e2, DLZ.mk2_off _ _ _ hn]; exact hp) d2 (Option.some.inj e)
      rw [← e2, ← e3]
      exact q _ W3 (x1.trans (x2.trans x3)) R3 d3
    · cases e
  · cases e
end
end DL
end
section
namespace DL
open PySem PyProof.Rows PySem.Spec L2
/-! ### in a range -/
def rRg2 : List V → Hp → VK → Prop := fun vs H Q => ∃ i j, vs = [V.int i, V.int j] ∧ ∀ p, H p = none → Q (.ref p) (upd H p (.rng i j))
def rInRg (neg : Bool) : R2 := fun x y H Q => ∃ i a lo hi, x = V.int i ∧ y = V.ref a ∧ H a = some (.rng lo hi) ∧ Q (.bl (if neg then !decide (lo ≤ i ∧ i < hi) else decide (lo ≤ i ∧ i < hi))) H
section
variable {X : Cx}
theorem cr_rg2 : CallR X (.type "range") rRg2 := cr_range2
theorem op_notInRg : OpR X (compareOp .NotIn) (rInRg true) := by
  intro pins s σ H x y v u Q I rx ry h
  obtain ⟨i, a, lo, hi, rfl, rfl, ha, q⟩ := h
  obtain ⟨k, rfl⟩ := rx
  obtain rfl : u = Value.ref a := ry
  obtain ⟨t1, t2, t3, ho⟩ := I.hok a _ ha
  show wpAny _ _ (do return Value.bool (!(← contains (Value.ref a) (Value.int i k)))) _ _ s
  refine wpAny_bind (wpAny_contains_slot (T := "range") ⟨_, ho, rfl⟩ F.slot_range_contains (call_meets F.slot_range_contains ⟨_, ho, rfl⟩ F.entry_range_contains (F.args_range_contains_2 _ _) (q_contains a lo hi i t1 t2 t3 k)
    ⟨ho, wpAny_truthy_bool (wpAny_pure ⟨.bl _, H, I, rfl, ?_⟩)⟩))
  rw [place1]
  exact q
end
section
variable {K : PySem.W.Frag} {mg : Str → Option Value} {te : TE} {fe : DE} {ta : TA} {fa : DA}
@[simp] def dInRg (neg : Bool) (f : DE) (g : DA) : DE := fun s S => bnd (f s S) fun x S1 => bnd (g s S1) fun ds S2 => match x, ds with
  | .int i, [.int lo, .int hi] => some (.bl (if neg then !decide (lo ≤ i ∧ i < hi) else decide (lo ≤ i ∧ i < hi)), S2)
  | _, _ => none
theorem re_inRg {neg : Bool} (h : RE K mg te fe) (g : RA K mg ta fa) : RE K mg (tOp (rInRg neg) te (tCB rRg2 ta)) (dInRg neg fe fa) := by
  intro W σ s S d S' Q R L e q
  obtain ⟨x, S1, e1, e⟩ := bnd_inv e
  obtain ⟨ds, S2, e2, e⟩ := bnd_inv e
  split at e
  · rename_i i lo hi _
    cases e
    refine h W σ s S _ S1 _ R L e1 fun v W1 x1 R1 d1 => ?_
    refine g W1 σ s S1 _ _ _ R1 (L.ext x1) e2 fun vs W2 x2 R2 d2 => ?_
    obtain ⟨u, w, rfl, du, dw⟩ := dens2 d2
    cases (show u = V.int lo from du)
    cases (show w = V.int hi from dw)
    refine ⟨lo, hi, rfl, fun p hp => ?_⟩
    cases (show v = V.int i from d1)
    exact ⟨i, p, lo, hi, rfl, rfl, upd_same, q _ (W2.froz p (.rng lo hi)) ((x1.trans x2).trans (ext_froz hp)) (rep_froz R2 hp) rfl⟩
  · cases e
end
/-! ### defaults -/
section
variable {K : PySem.W.Frag} {mg : Str → Option Value}
abbrev FunB (K : PySem.W.Frag) (x qual : Str) (st : Stmt) (dvs : List V) (f : Addr) (fd : FuncData) : Prop := FunD K x qual (defArgs st) (defBody st) (defScope st) dvs [] f fd
theorem fn_dlD {P : Program} {w : World} {base : Heap} {x qual : Str} {st : Stmt} {dvs : List V} {f : Addr} {fd : FuncData} {N ps : List Str} {k n : Nat} {m : Option Bool} {body : DS} (F : FunB K x qual st dvs f fd) (S : FnScope N ps (defScope st)) (hps : ps.length = n)
    (hb : ∀ (cdv : Value) (A : Around) (outer : List Env) (s : Shared) (H : Hp) (E : XK), Room k (A.deeper (envOfC qual (defScope st) s.heap.objs.size f cdv)) →
      ∃ t, PSs (cxOf CX0 P w K mg base N qual (defScope st) f cdv A outer s H E).nox (defBody st) t ∧ RS K mg t body) :
    FnOk P w K mg base CX0 (k + 1) f fd ps (spF K mg n (fnF m N.length body)) := by
  refine FunD.ok F S (fun vs H Q E h => h.1.trans hps.symm) fun cdv A outer s H vs Q E hr h => ?_
  obtain ⟨t, ht, hR⟩ := hb cdv A outer s H E hr
  refine ⟨t, ht.nox, ?_⟩
  obtain ⟨_, W, S, ds, d, S', rfl, R, hd, hg, q⟩ := h
  unfold fnF at hg
  split at hg
  · rename_i s1 S1 e1
    refine hR W _ _ S _ _ R (slo_start hd) e1 fun σ1 W1 x1 R1 L1 => ?_
    obtain ⟨W2, h2, x2, R2, d2⟩ := exF_ok R x1 R1 (d := .non) (v := V.non) rfl hg
    rw [← h2]
    exact q _ W2 x2 R2 d2
  · rename_i d1 S1 e1
    refine hR W _ _ S _ _ R (slo_start hd) e1 fun v1 W1 x1 R1 d1 => ?_
    obtain ⟨W2, h2, x2, R2, d2⟩ := exF_ok R x1 R1 d1 hg
    rw [← h2]
    exact q _ W2 x2 R2 d2
  · cases hg
theorem funB_mk {x qual : Str} {st : Stmt} {dvs : List V} {f T : Addr} {oc : Value} {od an : Option Addr} {osl : Array (Option Value)} {kV doc pm cdv ct : Value} {o : Obj} {its : List Value} {n : Nat} (hd : dvs ≠ []) (l : K.lookup f = some ⟨oc, od, .func (PySem.W.fnOf x qual (defArgs st) (defBody st) (defScope st) (.ref T) kV doc pm an cdv ct), osl⟩)
    (c : PySem.W.codeIn K cdv qual = true) (k : PySem.W.keepIn K (.ref f) = true) (lT : K.lookup T = some o) (oT : o.data = .seq its.toArray n) (rT : Vals dvs its) : FunB K x qual st dvs f (PySem.W.fnOf x qual (defArgs st) (defBody st) (defScope st) (.ref T) kV doc pm an cdv ct) :=
  ⟨⟨oc, od, .ref T, kV, doc, pm, an, cdv, ct, osl, rfl, l, c, .inr ⟨hd, T, o, its, n, rfl, lT, oT, rT⟩, .inl rfl⟩, k⟩
end
end DL
end
section
/-! enumerate and sorted of tuples -/
namespace PySem
open Sem (wp)
open AutoSeq1 (wpAny_loadPart')
theorem dlt_new (a : Addr) (ws : Array Value) (m : Nat) (dd : Option Addr) (ss : Array (Option Value)) :
    Meets (Builtin.«enumerate.__new__» ⟨[.type "enumerate", .ref a], []⟩) (fun _ R s => s.heap.get? a = some { cls := .type "tuple", dict := dd, data := .seq ws m, slots := ss } ∧
      R (.ok (.ret (.ref (s.heap.push { cls := .type "tuple_iterator", data := .fields #[.ref a, .int 0 0] }).objs.size)))
        { s with heap := (s.heap.push { cls := .type "tuple_iterator", data := .fields #[.ref a, .int 0 0] }).push { cls := .type "enumerate", data := .fields #[.none, .bool false, .ref s.heap.objs.size, rawInt 0, .none, .none] } }) :=
  .of_wp fun prog w A R s h => by
    obtain ⟨h0, g0, d0, k0, o0⟩ := s; obtain ⟨ha, h⟩ := h
    have hsub := sub_enumerate
    have ht : Heap.IsTuple (Shared.heap ⟨h0, g0, d0, k0, o0⟩) a ws := ⟨_, ha, rfl, m, rfl⟩
    wp_walk using wpAny_loadPart' ha
    refine wpAny_stack_any fun st => wpAny_pure ?_
    split
    · rename_i c _ _ _ _ _
      cases (c == Value.type "enumerate")
      · wp_walk using wpAny_loadPart' ha, wpAny_pyIter_tuple ht
        exact ⟨_, rfl, h⟩
      · wp_walk using wpAny_loadPart' ha, wpAny_pyIter_tuple ht
        exact ⟨_, rfl, h⟩
    · wp_walk using wpAny_loadPart' ha, wpAny_pyIter_tuple ht
      exact ⟨_, rfl, h⟩
section
variable {prog : Program} {w : World} {A : Around} {E : Value → Shared → Prop} {s : Shared}
theorem dlt_call {a : Addr} {ws : Array Value} {Q : Value → Shared → Prop} (ht : s.heap.IsTuple a ws)
    (q : ∀ h', IsEnum h' (s.heap.objs.size + 1) s.heap.objs.size 0 .none → h'.IsTupleIter s.heap.objs.size a 0 → h'.objs.size = s.heap.objs.size + 2 →
      (∀ b u, s.heap.get? b = some u → h'.get? b = some u) → Q (.ref (s.heap.objs.size + 1)) { s with heap := h' }) :
    wpAny (model prog w) A (call (.type "enumerate") [.ref a]) Q E s := by
  obtain ⟨⟨c, dd, dt, ss⟩, ha, hc, m, hd⟩ := ht
  replace hc : c = .type "tuple" := hc
  replace hd : dt = .seq ws m := hd
  subst hc hd
  refine callType_new F.called_enumerate (by decide) (F.typeCall_enumerate_1 _) (F.newCall_enumerate_1 _) (fun z => F.args_object_init_2 z _) F.entry_enumerate_new
    (dlt_new a ws m dd ss) ⟨ha, ?_⟩
  have hz : (s.heap.push { cls := .type "tuple_iterator", data := .fields #[.ref a, .int 0 0] }).objs.size = s.heap.objs.size + 1 := Heap.size_push ..
  show _ ∧ _
  rw [hz]
  have he : IsEnum ((s.heap.push { cls := .type "tuple_iterator", data := .fields #[.ref a, .int 0 0] }).push
      { cls := .type "enumerate", data := .fields #[.none, .bool false, .ref s.heap.objs.size, rawInt 0, .none, .none] }) (s.heap.objs.size + 1) s.heap.objs.size 0 .none := by
    have := Heap.get?_push_size (s.heap.push { cls := .type "tuple_iterator", data := .fields #[.ref a, .int 0 0] })
      (o := { cls := .type "enumerate", data := .fields #[.none, .bool false, .ref s.heap.objs.size, rawInt 0, .none, .none] }) rfl
    rw [hz] at this; exact this
  exact ⟨⟨_, he, rfl⟩, q _ he ⟨_, Heap.get?_push_of_some _ (Heap.get?_push_size _ rfl), rfl, rfl⟩ (by rw [Heap.size_push, hz]) fun b u x => Heap.get?_push_of_some _ (Heap.get?_push_of_some _ x)⟩
theorem dlt_end {e it a : Addr} {i : Nat} {ws : Array Value} {old : Value} {Q : Option Value → Shared → Prop} (hh : A.handled = none)
    (he : IsEnum s.heap e it i old) (hi : s.heap.IsTupleIter it a i) (ht : s.heap.IsTuple a ws) (hx : ws[i]? = none)
    (q : ∀ h', Heap.ExtBut it s.heap h' → Q none { s with heap := h' }) : wpAny (model prog w) A (pyNext (.ref e)) Q E s := by
  have hT : s.TypeIs (.ref e) "enumerate" := ⟨_, he, rfl⟩
  unfold pyNext
  refine wpAny_bind (wpAny_attempt (wpAny_callSpecial?_slot (name := Str.ofString "__next__") hT F.slot_enumerate_next
    (wpAny_call_entry F.slot_enumerate_next hT F.entry_enumerate_next ?_ (F.args_enumerate_next_1 _))))
  show wpAny _ _ (field (.ref e) 2 >>= _) _ _ _
  refine wpAny_bind (wpAny_field he rfl (x := .ref it) rfl ?_)
  refine wpAny_bind (RZ.nextOf_tuple_end hh hi ht hx fun h' x k1 k2 => ?_)
  obtain ⟨u, hu, hc⟩ := k2
  exact wpAny_bind (wpAny_isInstance (T := "StopIteration") (b := true) ⟨u, hu, hc⟩ isSubtype_stop (wpAny_pure (q _ k1)))
end
end PySem
namespace DL
open PySem PyProof.Rows PySem.Spec L2
theorem turn_enumE {P : Program} {w : World} {K : PySem.W.Frag} {elts : List Expr} {kk : Nat} {tpos : Pos} (a e it : Addr) :
    Turn P w K (.Tuple elts kk tpos) (IteE K a) [e, it] e (fun i h => (∃ old, IsEnum h e it ((i : Nat) : Int) old) ∧ h.IsTupleIter it a i ∧ e ≠ it) where
  mem := by simp
  obj := fun i h st b hb => by
    obtain ⟨⟨old, he⟩, ⟨o, ho, hc, hd⟩, _⟩ := st
    have hb' : b = e ∨ b = it := by simpa using hb
    rcases hb' with z | z
    · rw [z]; exact ⟨_, he, fun v q => nomatch q⟩
    · rw [z]; exact ⟨o, ho, fun v q => by rw [hd] at q; cases q⟩
  keep := fun i h h' st k => by
    obtain ⟨⟨old, he⟩, hi, hne⟩ := st
    exact ⟨⟨old, k e (by simp) _ he⟩, hi.at fun o q => k it (by simp) o q, hne⟩
  item := by
    intro X hP hw hK hc i pins s σ H E I hf st hg
    exact absurd hg id
  done := by
    intro X hP hw hK hc i pins s σ H E I hf st hg
    subst hP hw hK
    obtain ⟨⟨old, he⟩, hi, hne⟩ := st
    obtain ⟨its, rv, p, hz⟩ := I.tuple hg
    obtain ⟨f0, f1, f2, f3, f4, f5⟩ := hf it (by simp)
    have hl := rv.length
    exact dlt_end (I.ok.hd hc) he hi p (by simp at hl ⊢; omega) fun h' eb => ⟨rfl, I.turned (t' := s.toks) (fun b o hb q => eb b o hb q) f0 f1 f3 f4 f5⟩
  self := fun A i s Q E st h => let ⟨⟨_, he⟩, _⟩ := st; wpAny_pyIter_enum he h
theorem pi_enumB {X : Cx} {e : Expr} {ta : TA} {p pos tpos : Pos} {elts : List Expr} {kk : Nat} (hg : Gl X "enumerate") (hm : X.mg "enumerate" = none) (ha : PA X [e] ta) (hs : starEach [e] X.env = [(false, eval e X.env)] := by rfl) :
    PI X (.Tuple elts kk tpos) (.Call (.Name "enumerate" p) [e] [] pos) (iEnumB X.K ta) := by
  refine ⟨fun pins s σ H R I h => ?_⟩
  refine Call_ (ld_blt I hg hm boot_enumerate (PyProof.Rows.callWith_type1 (thn (ha.run pos pins s σ H _ I h) fun us s1 ⟨vs, H1, I1, r1, q1⟩ => ?_) hs rfl))
  obtain ⟨a, ex, q⟩ := q1
  subst ex
  have far : ∀ b, b ∈ [s1.heap.objs.size + 1, s1.heap.objs.size] → s1.heap.objs.size ≤ b := fun b hb => by
    have hb' : b = s1.heap.objs.size + 1 ∨ b = s1.heap.objs.size := by simpa using hb
    rcases hb' with z | z
    · rw [z]; exact Nat.le_add_right _ _
    · rw [z]; exact Nat.le_refl _
  cases r1 with
  | cons r rr =>
    cases rr
    cases r
    rcases q with ⟨xs, hq, q⟩ | ⟨hq, q⟩
    · obtain ⟨its, rv, p', hz⟩ := I1.list hq
      refine call_enumerate_list p'.isList fun h' he hit hsz hk => wpAny_pyIter_enum he ?_
      have I2 : Inv X pins σ H1 { s1 with heap := h' } := I1.kept (t' := s1.toks) hk
      exact ⟨s1.heap.objs.size + 1, [s1.heap.objs.size + 1, s1.heap.objs.size], _, _, H1, rfl, I2, turn_enum a (s1.heap.objs.size + 1) s1.heap.objs.size, ⟨⟨.none, he⟩, hit, Nat.succ_ne_self _⟩, fun b hb => I1.fpOk (far b hb) (I1.hok.fresh (far b hb)), q⟩
    · obtain ⟨its, rv, p', hz⟩ := I1.tuple hq
      refine dlt_call p' fun h' he hit hsz hk => wpAny_pyIter_enum he ?_
      have I2 : Inv X pins σ H1 { s1 with heap := h' } := I1.kept (t' := s1.toks) hk
      exact ⟨s1.heap.objs.size + 1, [s1.heap.objs.size + 1, s1.heap.objs.size], _, _, H1, rfl, I2, turn_enumE a (s1.heap.objs.size + 1) s1.heap.objs.size, ⟨⟨.none, he⟩, hit, Nat.succ_ne_self _⟩, fun b hb => I1.fpOk (far b hb) (I1.hok.fresh (far b hb)), q⟩
end DL
end
section
namespace SrtO
open PySem PyProof.Rows Srt PySem.W
section
variable {prog : Program} {w : World} {A : Around} {E : Value → Shared → Prop} {s : Shared}
theorem gather_tup {t : Addr} {ws : List Value} {Q : List Value → Shared → Prop} (ht : s.heap.IsTuple t ws.toArray)
    (q : Q ws { s with heap := (s.heap.push (seqObj "list" #[] 0)).update s.heap.objs.size (Obj.mapSeq (· ++ ws.toArray)) }) (hz : ws.length ≤ sizeLine) : wpAny (model prog w) A (collect (.ref t)) Q E s := by
  obtain ⟨u, hu, hc, n, hd⟩ := id ht
  unfold collect
  refine wpAny_bind (wpAny_runValue (codeAny_builtin entry_proto_collect' ?_))
  show wpAny _ _ (do again (.builtin "list.__iadd__" ⟨[← newList [], .ref t], []⟩)) _ _ s
  refine wpAny_bind (wpAny_newList (wpAny_pure ⟨Code.quiet_builtin _ (by decide +kernel), codeAny_builtin entry_list_iadd' ?_⟩))
  show wpAny _ _ (Builtin.List.listExtendWith (.ref s.heap.objs.size) (.ref t) (.ref s.heap.objs.size)) _ _ { s with heap := s.heap.push (seqObj "list" #[] 0) }
  unfold Builtin.List.listExtendWith
  have hu' : (s.heap.push (seqObj "list" #[] 0)).get? t = some u := Heap.get?_push_of_some _ hu
  refine wpAny_bind (wpAny_typeOf (T := "tuple") ⟨u, hu', hc⟩ ?_)
  have tt : (Value.type "tuple" == Value.type "tuple") = true := by rfl
  rw [if_pos (by rw [tt]; simp)]
  refine wpAny_bind (listItems_at hu' hd ?_)
  refine wpAny_bind (listItems_at (xs := #[]) (n := 0) (Heap.get?_push_size _ rfl) rfl ?_)
  rw [if_neg (by simp)]
  refine wpAny_bind (listUpdate_at (xs := #[]) (n := 0) (Heap.get?_push_size _ rfl) rfl ?_ (Nat.zero_le _) (by show (#[] ++ ws.toArray).size ≤ sizeLine + 1; simp only [Array.size_append, List.size_toArray, List.length_nil]; omega))
  refine wpAny_pure ?_
  show wpAny (model prog w) A (do
      let y ← load s.heap.objs.size
      match y.data with
      | .seq ys _ => pure ys.toList
      | _ => unsupported "internal:collect") Q E { s with heap := (s.heap.push (seqObj "list" #[] 0)).update s.heap.objs.size (Obj.mapSeq (· ++ ws.toArray)) }
  refine wpAny_bind (wpAny_load (get?_update_seq (Heap.get?_push_size _ rfl) _) ?_)
  show wpAny _ _ (pure ((#[] : Array Value) ++ ws.toArray).toList) Q E _
  rw [show ((#[] : Array Value) ++ ws.toArray).toList = ws by simp]
  exact wpAny_pure q
theorem sorted_tup {t : Addr} {ws : List Value} {ltv : Value → Value → Bool} {Q : Value → Shared → Prop} (O : Swo ltv) (ht : s.heap.IsTuple t ws.toArray) (hz : ws.length ≤ sizeLine)
    (hS : 2 ≤ ws.length → ∀ (h₁ : Heap) (a : Addr), h₁.get? a = some (seqObj "list" ws.toArray 0) → (∀ b o, s.heap.get? b = some o → b ≠ a ∧ h₁.get? b = some o) → SortableO prog w A.in1.in1 { s with heap := h₁ } a ws ltv)
    (h : ∀ out : List Value, Srtd ltv out → Stb ltv out ws → Q (.ref (s.heap.objs.size + 1)) { s with heap := sortedAll s.heap ws out.toArray }) :
    wpAny (model prog w) A (call (.builtin "sorted") [.ref t]) Q E s := by
  refine Calls.call_function_entry kind_sorted plain_sorted entry_sorted (args_sorted1 _) ?_
  unfold Builtin.«sorted»
  refine wpAny_bind (m := checkCount "sorted" 1 1 _) (wpAny_pure ?_)
  refine wpAny_bind (gather_tup ht ?_ hz)
  refine wpAny_bind (wpAny_newList ?_ hz)
  have hsz : ((s.heap.push (seqObj "list" #[] 0)).update s.heap.objs.size (Obj.mapSeq (· ++ ws.toArray))).objs.size = s.heap.objs.size + 1 := by
    rw [Heap.size_update, size_push']
  have hoL : (((s.heap.push (seqObj "list" #[] 0)).update s.heap.objs.size (Obj.mapSeq (· ++ ws.toArray))).push (seqObj "list" ws.toArray 0)).get? (s.heap.objs.size + 1) = some (seqObj "list" ws.toArray 0) := by
    rw [← hsz]; exact Heap.get?_push_size _ rfl
  have keep : ∀ b o, s.heap.get? b = some o → b ≠ s.heap.objs.size + 1 ∧ (((s.heap.push (seqObj "list" #[] 0)).update s.heap.objs.size (Obj.mapSeq (· ++ ws.toArray))).push (seqObj "list" ws.toArray 0)).get? b = some o := fun b o q => by
    have lt : b < s.heap.objs.size := Heap.lt_size q
    refine ⟨Nat.ne_of_lt (Nat.lt_succ_of_lt lt), Heap.get?_push_of_some _ ?_⟩
    rw [Heap.get?_update_ne _ _ _ _ (Nat.ne_of_lt lt)]
    exact Heap.get?_push_of_some _ q
  show wpAny _ _ _ _ _ { s with heap := ((s.heap.push (seqObj "list" #[] 0)).update s.heap.objs.size (Obj.mapSeq (· ++ ws.toArray))).push (seqObj "list" ws.toArray 0) }
  rw [hsz]
  refine wpAny_bind (wpAny_holding (wpAny_call_entry slot_list_sort ⟨_, hoL, rfl⟩ entry_list_sort (list_sort_ord O hoL hz (fun h2 => hS h2 _ _ hoL keep) fun out hs hb => ⟨_, rfl, ?_⟩) (args_list_sort _)))
  exact wpAny_pure ⟨_, rfl, h out hs hb⟩
end
end SrtO
namespace DL
open PySem PyProof.Rows PySem.Spec L2
def rSortB (K : PySem.W.Frag) : List V → Hp → VK → Prop := fun vs H Q => ∃ (a : Addr) (ns : List Int), vs = [V.ref a] ∧ (SqL K H a (ns.map V.int) ∨ SqT K H a (ns.map V.int)) ∧
  ∀ (ms : List Int) (p : Addr), ms.Perm ns → ms.Pairwise (· ≤ ·) → H p = none → Q (.ref p) (upd H p (.lst (ms.map V.int)))
theorem cr_sortB {X : Cx} : CallR X (.builtin "sorted") (rSortB X.K) := by
  intro pins s σ H vs us Q I r h
  obtain ⟨a, ns, rfl, hs, q⟩ := h
  rcases hs with hs | hs
  · exact cr_sortedI pins s σ H _ us Q I r ⟨a, ns, rfl, hs, q⟩
  · obtain ⟨its, rv, hl, hz⟩ := I.tuple hs
    rw [Vals.ref1 r]
    have hi := rv.ints
    refine SrtO.sorted_tup SrtO.swo_int hl (by rw [← rv.length]; exact hz) (fun h2 h₁ a' _ _ => SrtO.ints_sortable hi h2) fun out h1 h2 => ?_
    obtain ⟨k1, k2, k3⟩ := SrtO.ints_out hi h1 h2
    obtain ⟨ep, he'⟩ := PyProof.Rows.sortedAll_at s.heap its out.toArray
    have hlen : ((out.map SrtO.iv).map V.int).length ≤ sizeLine := by
      rw [List.length_map, k2.length_eq]
      rw [List.length_map] at hz
      exact hz
    exact ⟨.ref _, upd H (s.heap.objs.size + 1) (.lst ((out.map SrtO.iv).map V.int)), I.laid (t' := s.toks) (fun _ _ => PyProof.Rows.sortedAll_old) (Nat.le_succ _) ⟨hlen, out, ep, vals_of_ints k1, he'⟩, rfl, q _ _ k2 k3 (I.hok.fresh (Nat.le_succ _))⟩
section
variable {K : PySem.W.Frag} {mg : Str → Option Value}
/-- sorted(x), whole numbers, a list or a tuple -/
def sortBD (m : Bool) : DC := fun xs S => match xs with
  | [x] => match (rdL S x).or (rdT x) with
    | some ds => match toIs ds with
      | some ns => some (newL m ((sortI ns).map DV.int) S)
      | none => none
    | none => none
  | _ => none
theorem rc_sortB {m : Bool} : RC K mg (rSortB K) (sortBD m) := by
  intro W S xs vs d S' Q R h e q
  unfold sortBD at e
  split at e
  · rename_i x
    split at e
    · rename_i ds hd
      split at e
      · rename_i ns hn
        obtain ⟨v, rfl, hv⟩ := dens1 h
        have : ∃ a us, v = .ref a ∧ (SqL K W.H a us ∨ SqT K W.H a us) ∧ Dens K W ds us := by
          cases hr : rdL S x with
          | some es =>
            rw [hr] at hd
            cases hd
            obtain ⟨a, us, rfl, h1, h2⟩ := rdL_ok R hv hr
            exact ⟨a, us, rfl, .inl h1, h2⟩
          | none =>
            rw [hr] at hd
            obtain ⟨a, us, rfl, h1, h2⟩ := rdT_ok hv hd
            exact ⟨a, us, rfl, .inr h1, h2⟩
        obtain ⟨a, us, rfl, h1, h2⟩ := this
        cases toIs_ok hn h2
        refine ⟨a, ns, rfl, h1, fun ms p hp hs hn => ?_⟩
        cases sortI_eq hp hs
        obtain ⟨W2, e2, x2, R2, d2⟩ := newL_ok R hn (dens_ints (K := K) (W := W) (sortI ns)) (Option.some.inj e)
        rw [← e2]
        exact q _ W2 x2 R2 d2
      · cases e
    · cases e
  · cases e
end
end DL
end
section
namespace FW
open PySem PyProof.Rows PySem.Spec L2 DL
/-! ### each def as a function of data -/
noncomputable def b_stretches_z : DS :=
    (dSeq (dAsg (dOp (addD false) (dOp (addD false) (dLst false (dCons (dC (.int 0)) dNil)) (dCB (sortBD false) (dCons (dVar 1) dNil))) (dLst false (dCons (dCB lenD (dCons (dVar 0) dNil)) dNil))) (dName 2))
    (dRet (dLz false (dCons (dVar 2) (dCons (dSlL false (dVar 2) (doS (dC (.int 1))) doN) dNil)))))
noncomputable def f_stretches_z : List DV → Sto → Option (DV × Sto) := fnF (some false) 3 b_stretches_z
noncomputable def b_share_z : DS :=
    (dSeq (dAsg (dCall 2 f_lowest_z [] (dCons (dVar 1) (dCons (dVar 2) dNil))) (dGTup 2 (dGCons (dName 1) (dGCons (dName 2) dGNil))))
    (dSeq (dAsg (dCall 2 f_lowest_z [] (dCons (dOp ixD (dVar 0) (dC (.int 0))) (dCons (dVar 2) dNil))) (dGTup 2 (dGCons (dName 3) (dGCons (dName 2) dGNil))))
    (dSeq (dAsg (dCall 2 f_lowest_z [] (dCons (dVar 1) (dCons (dOp ixD (dVar 0) (dC (.int 1))) dNil))) (dGTup 2 (dGCons (dName 1) (dGCons (dName 4) dGNil))))
    (dRet (dTup (dCons (dOp mulD (dVar 3) (dVar 1)) (dCons (dOp mulD (dVar 4) (dVar 2)) dNil)))))))
noncomputable def f_share_z : List DV → Sto → Option (DV × Sto) := fnF (some false) 5 b_share_z
noncomputable def b_pool_height_z : DS :=
    (dSeq (dAsg (dVar 0) (dGTup 2 (dGCons (dName 1) (dGCons (dName 2) dGNil))))
    (dRet (dCall 3 f_share_z [] (dCons (dVar 2) (dCons (dC (.int 1)) (dCons (dCB sumD (dCons (dVar 1) dNil)) dNil))))))
noncomputable def f_pool_height_z : List DV → Sto → Option (DV × Sto) := fnF (some false) 3 b_pool_height_z
noncomputable def b_pooled_z : DS :=
    (dSeq (dAsg (dLst true dNil) (dName 2))
    (dSeq (dFor (diZ (dCons (dVar 0) (dCons (dVar 1) dNil))) (dGTup 2 (dGCons (dName 3) (dGCons (dName 4) dGNil)))
    (dSeq (dAsg (dTup (dCons (dLst false (dCons (dVar 3) dNil)) (dCons (dVar 4) dNil))) (dName 5))
    (dSeq (dWhile (dAnd (dTru (dVar 2)) (dTest (dCall 2 f_above_z [] (dCons (dCall 1 f_pool_height_z [] (dCons (dOp ixD (dVar 2) (dUn negD (dC (.int 1)))) dNil)) (dCons (dCall 1 f_pool_height_z [] (dCons (dVar 5) dNil)) dNil)))))
    (dSeq (dAsg (dBM0 "list" popD (dVar 2)) (dGTup 2 (dGCons (dName 6) (dGCons (dName 7) dGNil))))
    (dAsg (dTup (dCons (dOp (addD false) (dVar 6) (dOp ixD (dVar 5) (dC (.int 0)))) (dCons (dCall 2 f_plus_z [] (dCons (dVar 7) (dCons (dOp ixD (dVar 5) (dC (.int 1))) dNil))) dNil))) (dName 5))))
    (dDrop (dBM "list" appendD (dVar 2) (dCons (dVar 5) dNil))))))
    (dRet (dVar 2))))
noncomputable def f_pooled_z : List DV → Sto → Option (DV × Sto) := fnF (some false) 8 b_pooled_z
noncomputable def b_check_bolted_z : DS :=
    (dFor (diEE (dCons (dVar 1) dNil)) (dGTup 2 (dGCons (dName 2) (dGCons (dName 3) dGNil)))
    (dIfS (dOr (dTest (dInRg true (dVar 3) (dCons (dC (.int 1)) (dCons (dCB lenD (dCons (dVar 0) dNil)) dNil)))) (dTest (dOp (inD false) (dVar 3) (dSlL false (dVar 1) doN (doS (dVar 2))))))
    dNever dNext))
noncomputable def f_check_bolted_z : List DV → Sto → Option (DV × Sto) := fnF (some false) 4 b_check_bolted_z
noncomputable def b_at_rest_k : DS :=
    (dSeq (dAsg (dLst true dNil) (dName 3))
    (dSeq (dFor (diL (dCall 2 f_stretches_z [] (dCons (dVar 0) (dCons (dVar 2) dNil)))) (dGTup 2 (dGCons (dName 4) (dGCons (dName 5) dGNil)))
    (dFor (diL (dCall 2 f_pooled_z [] (dCons (dSlL false (dVar 0) (doS (dVar 4)) (doS (dVar 5))) (dCons (dSlL false (dVar 1) (doS (dVar 4)) (doS (dVar 5))) dNil)))) (dGTup 2 (dGCons (dName 6) (dGCons (dName 7) dGNil)))
    (dSeq (dAsg (dCB sumD (dCons (dVar 6) dNil)) (dName 8))
    (dDrop (dBM "list" extendD (dVar 3) (dCons (dLc false (diL (dVar 6)) (dName 9) dYes (dCall 3 f_share_z [] (dCons (dVar 7) (dCons (dVar 9) (dCons (dVar 8) dNil)))) [9]) dNil))))))
    (dRet (dVar 3))))
noncomputable def b_at_rest_z : DS :=
    (dSeq (dAsg (dLst true dNil) (dName 3))
    (dSeq (dFor (diL (dCall 2 f_stretches_z [] (dCons (dVar 0) (dCons (dVar 2) dNil)))) (dGTup 2 (dGCons (dName 4) (dGCons (dName 5) dGNil)))
    (dFor (diL (dCall 2 f_pooled_z [] (dCons (dSlL false (dVar 0) (doS (dVar 4)) (doS (dVar 5))) (dCons (dSlL false (dVar 1) (doS (dVar 4)) (doS (dVar 5))) dNil)))) (dGTup 2 (dGCons (dName 6) (dGCons (dName 7) dGNil)))
    (dSeq (dAsg (dCB sumD (dCons (dVar 6) dNil)) (dName 8))
    (dDrop (dBM "list" extendD (dVar 3) (dCons (dLc false (diL (dVar 6)) (dName 9) dYes (dCall 3 f_share_z [] (dCons (dVar 7) (dCons (dVar 9) (dCons (dVar 8) dNil)))) [9]) dNil))))))
    (dRet (dVar 3))))
noncomputable def f_at_rest_z : List DV → Sto → Option (DV × Sto) := fnF (some false) 10 b_at_rest_z
noncomputable def b_settled_z : DS :=
    (dSeq (dDrop (dCall 1 f_check_floors_z [] (dCons (dVar 0) dNil)))
    (dSeq (dDrop (dCall 2 f_check_water_z [] (dCons (dVar 0) (dCons (dVar 1) dNil))))
    (dSeq (dDrop (dCall 2 f_check_bolted_z [] (dCons (dVar 0) (dCons (dVar 2) dNil))))
    (dRet (dCall 3 f_at_rest_z [] (dCons (dVar 0) (dCons (dVar 1) (dCons (dVar 2) dNil))))))))
noncomputable def f_settled_z : List DV → Sto → Option (DV × Sto) := fnF (some false) 3 b_settled_z
noncomputable def b_law_under_z : DS :=
    (dRet (dOp ltD (dOp mulD (dOp ixD (dVar 0) (dC (.int 0))) (dOp ixD (dVar 1) (dC (.int 1)))) (dOp mulD (dOp ixD (dVar 1) (dC (.int 0))) (dOp ixD (dVar 0) (dC (.int 1))))))
noncomputable def f_law_under_z : List DV → Sto → Option (DV × Sto) := fnF (some false) 2 b_law_under_z
noncomputable def b_law_chord_z : DS :=
    (dSeq (dIfS (dTest (dOp eqD (dVar 2) (dVar 4)))
    (dRet (dOp ixD (dVar 1) (dVar 3))) dNext)
    (dSeq (dAsg (dOp mulD (dOp mulD (dOp ixD (dOp ixD (dVar 1) (dVar 2)) (dC (.int 0))) (dOp ixD (dOp ixD (dVar 1) (dVar 4)) (dC (.int 1)))) (dOp subD (dOp ixD (dVar 0) (dVar 4)) (dOp ixD (dVar 0) (dVar 3)))) (dName 5))
    (dSeq (dAsg (dOp mulD (dOp mulD (dOp ixD (dOp ixD (dVar 1) (dVar 4)) (dC (.int 0))) (dOp ixD (dOp ixD (dVar 1) (dVar 2)) (dC (.int 1)))) (dOp subD (dOp ixD (dVar 0) (dVar 3)) (dOp ixD (dVar 0) (dVar 2)))) (dName 6))
    (dRet (dCall 2 f_law_low_z [] (dCons (dOp (addD false) (dVar 5) (dVar 6)) (dCons (dOp mulD (dOp mulD (dOp ixD (dOp ixD (dVar 1) (dVar 2)) (dC (.int 1))) (dOp ixD (dOp ixD (dVar 1) (dVar 4)) (dC (.int 1)))) (dOp subD (dOp ixD (dVar 0) (dVar 4)) (dOp ixD (dVar 0) (dVar 2)))) dNil)))))))
noncomputable def f_law_chord_z : List DV → Sto → Option (DV × Sto) := fnF (some false) 7 b_law_chord_z
noncomputable def b_law_ends_z : DS :=
    (dRet (dTup (dCons (dCB maxD (dCons (dOp (addD false) (dLst false (dCons (dC (.int 0)) dNil)) (dLc false (diL (dVar 1)) (dName 3) (dTest (dOp leD (dVar 3) (dVar 2))) (dVar 3) [3])) dNil)) (dCons (dCB minD (dCons (dOp (addD false) (dLst false (dCons (dVar 0) dNil)) (dLc false (diL (dVar 1)) (dName 3) (dTest (dOp geD (dVar 3) (dVar 2))) (dVar 3) [3])) dNil)) dNil))))
noncomputable def f_law_ends_z : List DV → Sto → Option (DV × Sto) := fnF (some false) 4 b_law_ends_z
end FW
end
section
namespace FW
/-! ### pools: the mathematics -/
abbrev Tk := Int × Rat
def Wi : List Tk → Rat
  | [] => 0
  | t :: l => (t.1 : Rat) + Wi l
def Am : List Tk → Rat
  | [] => 0
  | t :: l => t.2 + Am l
theorem Wi_app : ∀ a b : List Tk, Wi (a ++ b) = Wi a + Wi b
  | [], b => by simp [Wi, Rat.zero_add]
  | t :: a, b => by simp only [List.cons_append, Wi, Wi_app a b, Rat.add_assoc]
theorem Am_app : ∀ a b : List Tk, Am (a ++ b) = Am a + Am b
  | [], b => by simp [Am, Rat.zero_add]
  | t :: a, b => by simp only [List.cons_append, Am, Am_app a b, Rat.add_assoc]
def ht (l : List Tk) : Rat := Am l / Wi l
def Fl (l : List Tk) : Prop := ∀ t ∈ l, 1 ≤ t.1
theorem cast_one_le {n : Int} (h : 1 ≤ n) : (1 : Rat) ≤ (n : Rat) := by
  have : ((1 : Int) : Rat) ≤ (n : Rat) := by exact_mod_cast h
  simpa using this
theorem Wi_nonneg : ∀ {l : List Tk}, Fl l → 0 ≤ Wi l
  | [], _ => Rat.le_refl
  | t :: l, h => by
    have h1 := cast_one_le (h t (List.mem_cons_self))
    have h2 := Wi_nonneg (l := l) fun x hx => h x (List.mem_cons_of_mem _ hx)
    simp only [Wi]
    grind
theorem Wi_pos {l : List Tk} (h : Fl l) (h0 : l ≠ []) : 0 < Wi l := by
  cases l with
  | nil => exact absurd rfl h0
  | cons t l =>
    have h1 := cast_one_le (h t (List.mem_cons_self))
    have h2 := Wi_nonneg (l := l) fun x hx => h x (List.mem_cons_of_mem _ hx)
    simp only [Wi]
    grind
theorem ht_mul {l : List Tk} (h : Fl l) (h0 : l ≠ []) : ht l * Wi l = Am l := by
  have := Wi_pos h h0
  unfold ht
  grind
theorem mul_le_left {a b c : Rat} (h : a ≤ b) (hc : 0 ≤ c) : a * c ≤ b * c := Rat.mul_le_mul_of_nonneg_right h hc
/-- no part at the left has less than its share -/
structure Good (p : List Tk) : Prop where
  fl : Fl p
  ne : p ≠ []
  pre : ∀ u v, p = u ++ v → ht p * Wi u ≤ Am u
theorem good_one {t : Tk} (h : 1 ≤ t.1) : Good [t] where
  fl := fun x hx => by cases List.mem_singleton.mp hx; exact h
  ne := by simp
  pre := fun u v e => by
    cases u with
    | nil => simp [Wi, Am, Rat.mul_zero]
    | cons x u =>
      have e' : t = x ∧ u = [] ∧ v = [] := by simpa using e
      obtain ⟨rfl, rfl, rfl⟩ := e'
      have := ht_mul (l := [t]) (fun y hy => by cases List.mem_singleton.mp hy; exact h) (by simp)
      rw [this]
      exact Rat.le_refl
theorem Fl.app {a b : List Tk} (h : Fl a) (g : Fl b) : Fl (a ++ b) := fun x hx => by
  rcases List.mem_append.mp hx with hx | hx
  · exact h x hx
  · exact g x hx
/-- the height of both together lies between -/
theorem ht_between {t p : List Tk} (ht_ : Good t) (hp : Good p) (h : ht p ≤ ht t) : ht p ≤ ht (t ++ p) ∧ ht (t ++ p) ≤ ht t := by
  have w1 := Wi_pos ht_.fl ht_.ne
  have w2 := Wi_pos hp.fl hp.ne
  have e1 := ht_mul ht_.fl ht_.ne
  have e2 := ht_mul hp.fl hp.ne
  have e3 := ht_mul (ht_.fl.app hp.fl) (by simp [ht_.ne])
  rw [Wi_app, Am_app] at e3
  have m1 := mul_le_left h (Rat.le_of_lt w1)
  have m2 := mul_le_left h (Rat.le_of_lt w2)
  constructor
  · refine Rat.not_lt.mp fun z => ?_
    have k1 := Rat.mul_lt_mul_of_pos_right z (show 0 < Wi t + Wi p by grind)
    grind
  · refine Rat.not_lt.mp fun z => ?_
    have k1 := Rat.mul_lt_mul_of_pos_right z (show 0 < Wi t + Wi p by grind)
    grind
theorem alg1 {H h Wt Wc Wv At Ac Av : Rat} (q : h * Wc ≤ Ac) (e1 : h * (Wc + Wv) = Ac + Av) (e3 : H * (Wt + (Wc + Wv)) = At + (Ac + Av)) (m : h * Wv ≤ H * Wv) : H * (Wt + Wc) ≤ At + Ac := by
  grind
theorem good_app {t p : List Tk} (gt : Good t) (gp : Good p) (h : ht p ≤ ht t) : Good (t ++ p) where
  fl := gt.fl.app gp.fl
  ne := by simp [gt.ne]
  pre := fun u v e => by
    obtain ⟨b1, b2⟩ := ht_between gt gp h
    rcases List.append_eq_append_iff.mp e with ⟨c, rfl, hc⟩ | ⟨c, hc, rfl⟩
    · -- u = t ++ c
      have q := gp.pre c v hc
      have e1 := ht_mul gp.fl gp.ne
      have e3 := ht_mul (gt.fl.app gp.fl) (by simp [gt.ne])
      have hc' : Fl c := fun x hx => gp.fl x (by rw [hc]; exact List.mem_append_left _ hx)
      have hv' : Fl v := fun x hx => gp.fl x (by rw [hc]; exact List.mem_append_right _ hx)
      have wv := Wi_nonneg hv'
      have m := mul_le_left b1 wv
      have ea : Am p = Am c + Am v := by rw [hc, Am_app]
      have ew : Wi p = Wi c + Wi v := by rw [hc, Wi_app]
      rw [Wi_app, Am_app, ea, ew] at e3
      rw [ea, ew] at e1
      rw [Wi_app, Am_app]
      exact alg1 q e1 e3 m
    · have q := gt.pre u c hc
      have hu' : Fl u := fun x hx => gt.fl x (by rw [hc]; exact List.mem_append_left _ hx)
      have m := mul_le_left b2 (Wi_nonneg hu')
      grind
/-- one more pool on top: the stack has its top first -/
noncomputable def mg : List (List Tk) → List Tk → List (List Tk)
  | [], p => [p]
  | t :: st, p => if ht p < ht t then mg st (t ++ p) else p :: t :: st
structure Stk (st : List (List Tk)) : Prop where
  good : ∀ p ∈ st, Good p
  up : st.Pairwise fun p t => ht t ≤ ht p
theorem mg_ok : ∀ {st : List (List Tk)} {p : List Tk}, Stk st → Good p → Stk (mg st p) ∧ (mg st p).reverse.flatten = st.reverse.flatten ++ p ∧ mg st p ≠ []
  | [], p, _, hp => ⟨⟨fun q hq => by cases List.mem_singleton.mp hq; exact hp, List.pairwise_singleton _ _⟩, by simp [mg], by simp [mg]⟩
  | t :: st, p, hs, hp => by
    have gt := hs.good t (List.mem_cons_self)
    have hs' : Stk st := ⟨fun q hq => hs.good q (List.mem_cons_of_mem _ hq), (List.pairwise_cons.mp hs.up).2⟩
    unfold mg
    split
    · rename_i h
      obtain ⟨h1, h2, h3⟩ := mg_ok hs' (good_app gt hp (Rat.le_of_lt h))
      exact ⟨h1, by rw [h2]; simp, h3⟩
    · rename_i h
      have h := Rat.not_lt.mp h
      refine ⟨⟨fun q hq => ?_, List.pairwise_cons.mpr ⟨fun q hq => ?_, hs.up⟩⟩, by simp, by simp⟩
      · rcases List.mem_cons.mp hq with rfl | hq
        · exact hp
        · exact hs.good q hq
      · rcases List.mem_cons.mp hq with rfl | hq
        · exact h
        · exact Rat.le_trans ((List.pairwise_cons.mp hs.up).1 q hq) h
end FW
end
section
namespace FW
/-! ### heaps at rest, against straight lines -/
abbrev Sk := Tk × Rat
noncomputable def sl (p : List Tk) : List Sk := p.map fun t => (t, ht p)
noncomputable def fl (ps : List (List Tk)) : List Sk := ps.flatMap sl
def Zi : List Sk → Rat
  | [] => 0
  | x :: l => x.2 * (x.1.1 : Rat) + Zi l
theorem Zi_app : ∀ a b : List Sk, Zi (a ++ b) = Zi a + Zi b
  | [], b => by simp [Zi, Rat.zero_add]
  | t :: a, b => by simp only [List.cons_append, Zi, Zi_app a b, Rat.add_assoc]
def un (l : List Sk) : List Tk := l.map (·.1)
theorem un_sl (p : List Tk) : un (sl p) = p := by
  unfold un sl
  rw [List.map_map]
  exact List.map_id' p
theorem un_app (a b : List Sk) : un (a ++ b) = un a ++ un b := List.map_append
theorem un_fl : ∀ ps : List (List Tk), un (fl ps) = ps.flatten
  | [] => rfl
  | p :: ps => by
    show un (sl p ++ fl ps) = p ++ ps.flatten
    rw [un_app, un_sl, un_fl ps]
theorem Zi_const {h : Rat} : ∀ {w : List Sk}, (∀ x ∈ w, x.2 = h) → Zi w = h * Wi (un w)
  | [], _ => by simp [Zi, un, Wi, Rat.mul_zero]
  | x :: w, hx => by
    have h1 := hx x (List.mem_cons_self)
    have h2 := Zi_const (h := h) (w := w) fun y hy => hx y (List.mem_cons_of_mem _ hy)
    show x.2 * (x.1.1 : Rat) + Zi w = h * ((x.1.1 : Rat) + Wi (un w))
    rw [h1, h2, Rat.mul_add]
theorem Zi_le {s : Rat} : ∀ {w : List Sk}, Fl (un w) → (∀ x ∈ w, x.2 ≤ s) → Zi w ≤ s * Wi (un w)
  | [], _, _ => by simp [Zi, un, Wi, Rat.mul_zero]
  | x :: w, hf, hx => by
    have h1 := hx x (List.mem_cons_self)
    have f1 := cast_one_le (hf x.1 (List.mem_cons_self))
    have h2 := Zi_le (s := s) (w := w) (fun y hy => hf y (List.mem_cons_of_mem _ hy)) fun y hy => hx y (List.mem_cons_of_mem _ hy)
    have m := mul_le_left h1 (show (0 : Rat) ≤ (x.1.1 : Rat) by grind)
    show x.2 * (x.1.1 : Rat) + Zi w ≤ s * ((x.1.1 : Rat) + Wi (un w))
    grind
theorem Zi_ge {s : Rat} : ∀ {w : List Sk}, Fl (un w) → (∀ x ∈ w, s ≤ x.2) → s * Wi (un w) ≤ Zi w
  | [], _, _ => by simp [Zi, un, Wi, Rat.mul_zero]
  | x :: w, hf, hx => by
    have h1 := hx x (List.mem_cons_self)
    have f1 := cast_one_le (hf x.1 (List.mem_cons_self))
    have h2 := Zi_ge (s := s) (w := w) (fun y hy => hf y (List.mem_cons_of_mem _ hy)) fun y hy => hx y (List.mem_cons_of_mem _ hy)
    have m := mul_le_left h1 (show (0 : Rat) ≤ (x.1.1 : Rat) by grind)
    show s * ((x.1.1 : Rat) + Wi (un w)) ≤ x.2 * (x.1.1 : Rat) + Zi w
    grind
theorem top_of : ∀ u : List Sk, ∃ s : Rat, ∀ x ∈ u, x.2 ≤ s
  | [] => ⟨0, fun x hx => by cases hx⟩
  | y :: u => by
    obtain ⟨s, hs⟩ := top_of u
    by_cases h : y.2 ≤ s
    · exact ⟨s, fun x hx => by
        rcases List.mem_cons.mp hx with rfl | hx
        · exact h
        · exact hs x hx⟩
    · exact ⟨y.2, fun x hx => by
        rcases List.mem_cons.mp hx with rfl | hx
        · exact Rat.le_refl
        · exact Rat.le_trans (hs x hx) (by grind)⟩
theorem cut_of {u v : List Sk} (h : (u ++ v).Pairwise fun x y => x.2 ≤ y.2) : ∃ s : Rat, (∀ x ∈ u, x.2 ≤ s) ∧ ∀ x ∈ v, s ≤ x.2 := by
  obtain ⟨h1, h2, h3⟩ := List.pairwise_append.mp h
  cases v with
  | nil =>
    obtain ⟨s, hs⟩ := top_of u
    exact ⟨s, hs, fun x hx => by cases hx⟩
  | cons y v =>
    refine ⟨y.2, fun x hx => h3 x hx y (List.mem_cons_self), fun x hx => ?_⟩
    rcases List.mem_cons.mp hx with rfl | hx
    · exact Rat.le_refl
    · exact (List.pairwise_cons.mp h2).1 x hx
/-! the values at a place -/
noncomputable def Xa (l : List Tk) (k : Nat) : Rat := Wi (l.take k)
noncomputable def Ya (l : List Tk) (k : Nat) : Rat := Am (l.take k)
noncomputable def Za (F : List Sk) (k : Nat) : Rat := Zi (F.take k)
theorem take_split {α : Type} (l : List α) {i k : Nat} (h : i ≤ k) : l.take k = l.take i ++ (l.take k).drop i := by
  have := List.take_append_drop i (l.take k)
  rw [List.take_take, Nat.min_eq_left h] at this
  exact this.symm
theorem fl_take {F : List Sk} (h : Fl (un F)) (i k : Nat) : Fl (un ((F.take k).drop i)) := fun t ht => by
  obtain ⟨x, hx, rfl⟩ := List.mem_map.mp ht
  exact h _ (List.mem_map.mpr ⟨x, List.mem_of_mem_take (List.mem_of_mem_drop hx), rfl⟩)
theorem un_take (F : List Sk) (k : Nat) : un (F.take k) = (un F).take k := List.map_take
/-- the line at a place bounds all from below -/
theorem under_line {F : List Sk} (hf : Fl (un F)) (hs : F.Pairwise fun x y => x.2 ≤ y.2) (k : Nat) :
    ∃ s : Rat, (∀ i, i ≤ k → Za F k - Za F i ≤ s * (Xa (un F) k - Xa (un F) i)) ∧ ∀ j, k ≤ j → s * (Xa (un F) j - Xa (un F) k) ≤ Za F j - Za F k := by
  obtain ⟨s, h1, h2⟩ := cut_of (u := F.take k) (v := F.drop k) (by rw [List.take_append_drop]; exact hs)
  refine ⟨s, fun i hi => ?_, fun j hj => ?_⟩
  · have e := take_split F hi
    have m := Zi_le (s := s) (fl_take hf i k) fun x hx => h1 x (List.mem_of_mem_drop hx)
    have e1 : Za F k = Za F i + Zi ((F.take k).drop i) := by unfold Za; rw [← Zi_app, ← e]
    have e2 : Xa (un F) k = Xa (un F) i + Wi (un ((F.take k).drop i)) := by
      unfold Xa
      rw [← un_take, ← un_take, ← Wi_app, ← un_app, ← e]
    rw [e1, e2]
    grind
  · have e := take_split F hj
    have m := Zi_ge (s := s) (fl_take hf k j) fun x hx => h2 x (by
      rw [List.drop_take] at hx
      exact List.mem_of_mem_take hx)
    have e1 : Za F j = Za F k + Zi ((F.take j).drop k) := by unfold Za; rw [← Zi_app, ← e]
    have e2 : Xa (un F) j = Xa (un F) k + Wi (un ((F.take j).drop k)) := by
      unfold Xa
      rw [← un_take, ← un_take, ← Wi_app, ← un_app, ← e]
    rw [e1, e2]
    grind
end FW
end
section
namespace FW
section
variable {p : List Tk} {ps : List (List Tk)} {k : Nat}
theorem sl_len (p : List Tk) : (sl p).length = p.length := List.length_map _
theorem tk_lo {α : Type} {a b : List α} {k : Nat} (h : k ≤ a.length) : (a ++ b).take k = a.take k := List.take_append_of_le_length h
theorem tk_hi {α : Type} {a b : List α} (k : Nat) : (a ++ b).take (a.length + k) = a ++ b.take k := by
  rw [List.take_append, List.take_of_length_le (by omega), Nat.add_sub_cancel_left]
theorem Xa_lo {a b : List Tk} (h : k ≤ a.length) : Xa (a ++ b) k = Xa a k := by unfold Xa; rw [tk_lo h]
theorem Ya_lo {a b : List Tk} (h : k ≤ a.length) : Ya (a ++ b) k = Ya a k := by unfold Ya; rw [tk_lo h]
theorem Xa_hi {a b : List Tk} (k : Nat) : Xa (a ++ b) (a.length + k) = Wi a + Xa b k := by unfold Xa; rw [tk_hi, Wi_app]
theorem Ya_hi {a b : List Tk} (k : Nat) : Ya (a ++ b) (a.length + k) = Am a + Ya b k := by unfold Ya; rw [tk_hi, Am_app]
theorem Zi_sl {w : List Tk} {h : Rat} : Zi (w.map fun t => (t, h)) = h * Wi w := by
  rw [Zi_const (h := h) fun x hx => ?_]
  · unfold un
    rw [List.map_map]
    congr 1
    exact congrArg Wi (List.map_id' w)
  · obtain ⟨t, _, rfl⟩ := List.mem_map.mp hx
    rfl
theorem Za_lo (h : k ≤ p.length) : Za (fl (p :: ps)) k = ht p * Xa p k := by
  unfold Za
  show Zi ((sl p ++ fl ps).take k) = _
  rw [tk_lo (by rw [sl_len]; exact h)]
  unfold sl Xa
  rw [← List.map_take, Zi_sl]
theorem Za_hi (g : Good p) (k : Nat) : Za (fl (p :: ps)) (p.length + k) = Am p + Za (fl ps) k := by
  unfold Za
  show Zi ((sl p ++ fl ps).take (p.length + k)) = _
  have e : p.length = (sl p).length := (sl_len p).symm
  rw [e, tk_hi, Zi_app]
  congr 1
  unfold sl
  rw [Zi_sl, ht_mul g.fl g.ne]
theorem Za_under : ∀ {ps : List (List Tk)}, (∀ p ∈ ps, Good p) → ∀ k, Za (fl ps) k ≤ Ya ps.flatten k
  | [], _, k => by simp [Za, fl, Ya, Zi, Am]
  | p :: ps, h, k => by
    have g := h p (List.mem_cons_self)
    by_cases hk : k ≤ p.length
    · rw [Za_lo hk, List.flatten_cons, Ya_lo hk]
      exact g.pre _ _ (List.take_append_drop k p).symm
    · obtain ⟨m, rfl⟩ : ∃ m, k = p.length + m := ⟨k - p.length, by omega⟩
      rw [Za_hi g, List.flatten_cons, Ya_hi]
      have := Za_under (ps := ps) (fun q hq => h q (List.mem_cons_of_mem _ hq)) m
      grind
structure Flat (ps : List (List Tk)) (i k j : Nat) (h : Rat) : Prop where
  ik : i ≤ k
  kj : k ≤ j
  jn : j ≤ ps.flatten.length
  zi : Za (fl ps) i = Ya ps.flatten i
  zj : Za (fl ps) j = Ya ps.flatten j
  a : Za (fl ps) k = Za (fl ps) i + h * (Xa ps.flatten k - Xa ps.flatten i)
  b : Za (fl ps) j = Za (fl ps) k + h * (Xa ps.flatten j - Xa ps.flatten k)
theorem X0 (l : List Tk) : Xa l 0 = 0 := rfl
theorem Y0 (l : List Tk) : Ya l 0 = 0 := rfl
theorem Z0 (l : List Sk) : Za l 0 = 0 := rfl
theorem flat_of : ∀ {ps : List (List Tk)}, (∀ p ∈ ps, Good p) → ∀ k, k ≤ ps.flatten.length → ∃ i j h, Flat ps i k j h
  | [], _, k, hk => by
    have : k = 0 := by simpa using hk
    subst this
    exact ⟨0, 0, 0, Nat.le_refl _, Nat.le_refl _, Nat.le_refl _, rfl, rfl, by simp [Z0, Rat.zero_mul, Rat.add_zero], by simp [Z0, Rat.zero_mul, Rat.add_zero]⟩
  | p :: ps, h, k, hk => by
    have g := h p (List.mem_cons_self)
    have e := ht_mul g.fl g.ne
    by_cases hk2 : k ≤ p.length
    · have x1 : Xa p p.length = Wi p := by unfold Xa; rw [List.take_length]
      have y1 : Ya p p.length = Am p := by unfold Ya; rw [List.take_length]
      refine ⟨0, p.length, ht p, Nat.zero_le _, hk2, by simp, rfl, ?_, ?_, ?_⟩
      · rw [Za_lo (Nat.le_refl _), List.flatten_cons, Ya_lo (Nat.le_refl _), x1, y1, e]
      · rw [Za_lo hk2, List.flatten_cons, Xa_lo hk2, X0, Z0]
        grind
      · rw [Za_lo hk2, Za_lo (Nat.le_refl _), List.flatten_cons, Xa_lo hk2, Xa_lo (Nat.le_refl _)]
        grind
    · obtain ⟨m, rfl⟩ : ∃ m, k = p.length + m := ⟨k - p.length, by omega⟩
      obtain ⟨i, j, s, f⟩ := flat_of (ps := ps) (fun q hq => h q (List.mem_cons_of_mem _ hq)) m (by simp at hk ⊢; omega)
      have f1 := f.zi; have f2 := f.zj; have f3 := f.a; have f4 := f.b
      refine ⟨p.length + i, p.length + j, s, Nat.add_le_add_left f.ik _, Nat.add_le_add_left f.kj _, ?_, ?_, ?_, ?_, ?_⟩
      · rw [List.flatten_cons, List.length_append]; exact Nat.add_le_add_left f.jn _
      · rw [Za_hi g, List.flatten_cons, Ya_hi, f1]
      · rw [Za_hi g, List.flatten_cons, Ya_hi, f2]
      · rw [Za_hi g, Za_hi g, List.flatten_cons, Xa_hi, Xa_hi, f3]; grind
      · rw [Za_hi g, Za_hi g, List.flatten_cons, Xa_hi, Xa_hi, f4]; grind
theorem fl_up : ∀ {ps : List (List Tk)}, ps.Pairwise (fun p q => ht p ≤ ht q) → (fl ps).Pairwise fun x y => x.2 ≤ y.2
  | [], _ => List.Pairwise.nil
  | p :: ps, h => by
    obtain ⟨h1, h2⟩ := List.pairwise_cons.mp h
    refine List.pairwise_append.mpr ⟨?_, fl_up h2, fun x hx y hy => ?_⟩
    · unfold sl
      rw [List.pairwise_map]
      exact List.pairwise_of_forall fun _ _ => Rat.le_refl
    · obtain ⟨t, _, rfl⟩ := List.mem_map.mp hx
      obtain ⟨q, hq, hy⟩ := List.mem_flatMap.mp hy
      obtain ⟨u, _, rfl⟩ := List.mem_map.mp hy
      exact h1 q hq
end
/-- how high the line between two places stands -/
noncomputable def chord (l : List Tk) (i k j : Nat) : Rat := if i = j then Ya l k else (Ya l i * (Xa l j - Xa l k) + Ya l j * (Xa l k - Xa l i)) / (Xa l j - Xa l i)
theorem Xa_mono {l : List Tk} (h : Fl l) {i j : Nat} (hij : i ≤ j) : Xa l i ≤ Xa l j := by
  have e := take_split l hij
  have f : Fl ((l.take j).drop i) := fun t ht => h t (List.mem_of_mem_take (List.mem_of_mem_drop ht))
  have := Wi_nonneg f
  have e2 : Xa l j = Xa l i + Wi ((l.take j).drop i) := by unfold Xa; rw [← Wi_app, ← e]
  rw [e2]
  grind
theorem Xa_lt {l : List Tk} (h : Fl l) {i j : Nat} (hij : i < j) (hj : j ≤ l.length) : Xa l i < Xa l j := by
  have e := take_split l (Nat.le_of_lt hij)
  have f : Fl ((l.take j).drop i) := fun t ht => h t (List.mem_of_mem_take (List.mem_of_mem_drop ht))
  have := Wi_pos f (by
    intro z
    have := congrArg List.length z
    simp at this
    omega)
  have e2 : Xa l j = Xa l i + Wi ((l.take j).drop i) := by unfold Xa; rw [← Wi_app, ← e]
  rw [e2]
  grind
theorem le_div {a b c : Rat} (hc : 0 < c) (h : a * c ≤ b) : a ≤ b / c := by
  refine Rat.not_lt.mp fun z => ?_
  have k1 := Rat.mul_lt_mul_of_pos_right z hc
  have e : b / c * c = b := by grind
  grind
theorem alg2 {Zk Yi Yj Xi Xk Xj Zi' Zj s : Rat} (h1 : Zk - Zi' ≤ s * (Xk - Xi)) (h2 : s * (Xj - Xk) ≤ Zj - Zk) (y1 : Zi' ≤ Yi) (y2 : Zj ≤ Yj) (a : Xi ≤ Xk) (b : Xk ≤ Xj) : Zk * (Xj - Xi) ≤ Yi * (Xj - Xk) + Yj * (Xk - Xi) := by
  have m1 := mul_le_left (show Zk - s * (Xk - Xi) ≤ Yi by grind) (show 0 ≤ Xj - Xk by grind)
  have m2 := mul_le_left (show Zk + s * (Xj - Xk) ≤ Yj by grind) (show 0 ≤ Xk - Xi by grind)
  grind
/-- the heaps at rest are the lowest lines -/
theorem rest_lines {ps : List (List Tk)} (hg : ∀ p ∈ ps, Good p) (hu : ps.Pairwise fun p q => ht p ≤ ht q) {k : Nat} (hk : k ≤ ps.flatten.length) :
    (∀ i j, i ≤ k → k ≤ j → j ≤ ps.flatten.length → Za (fl ps) k ≤ chord ps.flatten i k j) ∧ ∃ i j, i ≤ k ∧ k ≤ j ∧ j ≤ ps.flatten.length ∧ chord ps.flatten i k j = Za (fl ps) k := by
  have hf : Fl ps.flatten := fun t ht => by
    obtain ⟨p, hp, ht⟩ := List.mem_flatten.mp ht
    exact (hg p hp).fl t ht
  have hF : un (fl ps) = ps.flatten := un_fl ps
  obtain ⟨s, l1, l2⟩ := under_line (F := fl ps) (by rw [hF]; exact hf) (fl_up hu) k
  rw [hF] at l1 l2
  have un := Za_under hg
  refine ⟨fun i j hi hj hn => ?_, ?_⟩
  · unfold chord
    split
    · exact un k
    · rename_i hne
      have hx := Xa_lt hf (show i < j by omega) hn
      exact le_div (by grind) (alg2 (l1 i hi) (l2 j hj) (un i) (un j) (Xa_mono hf hi) (Xa_mono hf hj))
  · obtain ⟨i, j, h, f⟩ := flat_of hg k hk
    refine ⟨i, j, f.ik, f.kj, f.jn, ?_⟩
    unfold chord
    split
    · rename_i e
      have : k = i := by have := f.ik; have := f.kj; omega
      rw [this]
      exact f.zi.symm
    · rename_i hne
      have hx := Xa_lt hf (show i < j by have := f.ik; have := f.kj; omega) f.jn
      have f1 := f.zi; have f2 := f.zj; have f3 := f.a; have f4 := f.b
      have hx' : Xa ps.flatten j - Xa ps.flatten i ≠ 0 := by grind
      rw [← f1, ← f2, f4]
      rw [f3]
      grind
end FW
end
section
namespace FW
open PySem PyProof.Rows PySem.Spec L2 DL
theorem mkRat_mul_div {q : Rat} {p w : Int} (hw : 0 < w) : mkRat (q.num * p) (q.den * w.toNat) = q * p / w := by
  have h1 : (q.den : Rat) ≠ 0 := by exact_mod_cast q.den_nz
  have h2 : ((w.toNat : Int)) = w := Int.toNat_of_nonneg (Int.le_of_lt hw)
  have h3 : (w : Rat) ≠ 0 := by
    intro z
    have : w = 0 := by exact_mod_cast z
    omega
  have hq : q * (q.den : Rat) = (q.num : Rat) := by
    have h4 := Rat.mkRat_self q
    rw [Rat.mkRat_eq_div] at h4
    grind
  rw [Rat.mkRat_eq_div]
  have e3 : (w.toNat : Rat) = (w : Rat) := by
    rw [← Rat.intCast_natCast, h2]
  have e : ((q.den * w.toNat : Nat) : Rat) = (q.den : Rat) * (w : Rat) := by
    rw [Rat.natCast_mul, e3]
  have e2 : ((q.num * p : Int) : Rat) = (q.num : Rat) * (p : Rat) := by simp
  rw [e, e2, ← hq]
  grind
theorem fr_mul (q r : Rat) : (mkRat q.num r.den).num * (mkRat r.num q.den).num = (q * r).num ∧ (mkRat r.num q.den).den * (mkRat q.num r.den).den = (q * r).den := by
  have h1 : ¬ r.den = 0 := r.den_nz
  have h2 : ¬ q.den = 0 := q.den_nz
  have e : q * r = Rat.mul q r := rfl
  rw [e]
  unfold Rat.mul
  simp only [Rat.num_mkRat, Rat.den_mkRat, if_neg h1, if_neg h2]
  have d1 : ((q.num.natAbs.gcd r.den : Nat) : Int) ∣ q.num := Int.ofNat_dvd_left.mpr (Nat.gcd_dvd_left _ _)
  have d2 : ((r.num.natAbs.gcd q.den : Nat) : Int) ∣ r.num := Int.ofNat_dvd_left.mpr (Nat.gcd_dvd_left _ _)
  rw [Nat.gcd_comm r.den, Nat.gcd_comm q.den]
  simp only [Int.divExact_eq_tdiv, Nat.divExact_eq_div, Int.tdiv_eq_ediv_of_dvd d1, Int.tdiv_eq_ediv_of_dvd d2]
  exact ⟨trivial, trivial⟩
theorem share_ok {q : Rat} {p w : Int} {n : Nat} {S : Sto} (h : Sz n q) (hn : n ≤ 5000) (hp : p.natAbs < 2 ^ 100) (hw : 0 < w) (hw2 : w < 2 ^ 100) : f_share_z [fr q, .int p, .int w] S = some (fr (q * p / w), S) := by
  obtain ⟨v, rfl⟩ : ∃ v : Nat, w = (v : Int) := ⟨w.toNat, by omega⟩
  have hv0 : 0 < v := by omega
  have hv1 : v < 2 ^ 100 := by omega
  have hv : v < 2 ^ 8000 := Nat.lt_of_lt_of_le hv1 (Nat.pow_le_pow_right (by decide) (by decide))
  have hd : q.den < 2 ^ 8000 := Nat.lt_of_lt_of_le h.2 (Nat.pow_le_pow_right (by decide) (by omega))
  have k1 := lowest_ok (a := p) (b := v) (S := S) hv0 hv
  have er : q * p / ((v : Nat) : Int) = q * mkRat p v := by
    rw [Rat.mkRat_eq_div]
    have h3 : (v : Rat) ≠ 0 := by
      intro z
      have : v = 0 := by exact_mod_cast z
      omega
    rw [Rat.intCast_natCast]
    grind
  rw [er]
  have z1 : Sz 100 (mkRat p v) := sz_mkRat hv0 hp hv1
  generalize hr : mkRat p v = r at k1 z1
  have k2 := lowest_ok (a := q.num) (b := r.den) (S := S) r.den_pos (Nat.lt_of_lt_of_le z1.2 (Nat.pow_le_pow_right (by decide) (by decide)))
  have k3 := lowest_ok (a := r.num) (b := q.den) (S := S) q.den_pos hd
  obtain ⟨e1, e2⟩ := fr_mul q r
  have z2 : Sz 5000 (mkRat q.num r.den) := sz_mkRat r.den_pos (Nat.lt_of_lt_of_le h.1 (Nat.pow_le_pow_right (by decide) hn)) (Nat.lt_of_lt_of_le z1.2 (Nat.pow_le_pow_right (by decide) (by decide)))
  have z3 : Sz 5000 (mkRat r.num q.den) := sz_mkRat q.den_pos (Nat.lt_of_lt_of_le z1.1 (Nat.pow_le_pow_right (by decide) (by decide))) (Nat.lt_of_lt_of_le h.2 (Nat.pow_le_pow_right (by decide) hn))
  generalize hx : mkRat q.num r.den = x at k2 e1 e2 z2
  generalize hy : mkRat r.num q.den = y at k3 e1 e2 z3
  have f1 := z2.fn (by decide); have f2 := z2.fd (by decide); have f3 := z3.fn (by decide); have f4 := z3.fd (by decide)
  simp [f_share_z, fnF, b_share_z, ixD, fr, startD] at k1 k2 k3 ⊢
  simp [k1, k2, k3, f1, f2, f3, f4, e1]
  rw [← e2]
  push_cast
  rfl
/-- a pool, as the program holds it -/
def pl (p : List Tk) : DV := .tup [dI (p.map (·.1)), fr (Am p)]
theorem sum_Wi : ∀ p : List Tk, (((p.map (·.1)).sum : Int) : Rat) = Wi p
  | [] => by simp [Wi]
  | t :: p => by
    simp only [List.map_cons, List.sum_cons, Wi, ← sum_Wi p]
    simp
theorem sum_small : ∀ {p : List Tk}, (∀ t ∈ p, 1 ≤ t.1 ∧ t.1 ≤ 1000) → p.length ≤ (p.map (·.1)).sum ∧ (p.map (·.1)).sum ≤ 1000 * p.length
  | [], _ => by simp
  | t :: p, h => by
    have h1 := h t (List.mem_cons_self)
    have h2 := sum_small (p := p) fun x hx => h x (List.mem_cons_of_mem _ hx)
    simp only [List.map_cons, List.sum_cons, List.length_cons]
    omega
theorem pool_height_ok {p : List Tk} {n : Nat} {S : Sto} (hf : ∀ t ∈ p, 1 ≤ t.1 ∧ t.1 ≤ 1000) (h0 : p ≠ []) (hl : p.length ≤ 1000) (h : Sz n (Am p)) (hn : n ≤ 5000) : f_pool_height_z [pl p] S = some (fr (ht p), S) := by
  obtain ⟨h1, h2⟩ := sum_small hf
  have h3 : 0 < p.length := List.length_pos_iff.mpr h0
  have key := share_ok (S := S) (p := 1) (w := (p.map (·.1)).sum) h hn (by decide) (by omega) (by omega)
  have e : Am p * ((1 : Int) : Rat) / (((p.map (·.1)).sum : Int) : Rat) = ht p := by
    rw [sum_Wi]
    unfold ht
    simp [Rat.mul_one]
  rw [e] at key
  have hs : sumD [dI (p.map (·.1))] S = some (.int (p.map (·.1)).sum, S) := by
    have := toIs_map (p.map (·.1))
    simp only [sumD, dI, rdL_lst, this]
  simp [f_pool_height_z, fnF, b_pool_height_z, pl, hs, key]
theorem sz_share {q : Rat} {p w : Int} {n : Nat} (h : Sz n q) (hp : p.natAbs < 2 ^ 100) (hw : 0 < w) (hw2 : w < 2 ^ 100) : Sz (n + 100) (q * p / w) := by
  rw [← mkRat_mul_div hw]
  refine sz_mkRat (Nat.mul_pos q.den_pos (by omega)) ?_ ?_
  · rw [Int.natAbs_mul, Nat.pow_add]
    exact Nat.mul_lt_mul'' h.1 hp
  · rw [Nat.pow_add]
    exact Nat.mul_lt_mul'' h.2 (by omega)
theorem sz_ht {p : List Tk} {n : Nat} (hf : ∀ t ∈ p, 1 ≤ t.1 ∧ t.1 ≤ 1000) (h0 : p ≠ []) (hl : p.length ≤ 1000) (h : Sz n (Am p)) : Sz (n + 100) (ht p) := by
  obtain ⟨h1, h2⟩ := sum_small hf
  have h3 : 0 < p.length := List.length_pos_iff.mpr h0
  have key := sz_share (p := 1) (w := (p.map (·.1)).sum) h (by decide) (by omega) (by omega)
  have e : Am p * ((1 : Int) : Rat) / (((p.map (·.1)).sum : Int) : Rat) = ht p := by
    rw [sum_Wi]
    unfold ht
    simp [Rat.mul_one]
  rw [e] at key
  exact key
theorem sz_Am {m : Nat} : ∀ {p : List Tk}, (∀ t ∈ p, Sz m t.2) → Sz (1 + p.length * (m + 1)) (Am p)
  | [], _ => sz_zero (by simp)
  | t :: p, h => by
    have h1 := (h t (List.mem_cons_self)).add (sz_Am (p := p) fun x hx => h x (List.mem_cons_of_mem _ hx))
    refine h1.mono ?_
    rw [List.length_cons, Nat.add_mul]
    omega
/-- a kind of amounts: each, and so many of them together, of bounded size -/
structure Zc where
  C : Rat → Prop
  L : Nat
  B : Nat
  one : ∀ q, C q → Sz B q
  sum : ∀ p : List Tk, (∀ t ∈ p, C t.2) → p.length ≤ L → Sz B (Am p)
def zS (m L : Nat) : Zc where
  C := Sz m
  L := L
  B := 1 + (L + 1) * (m + 1)
  one := fun q h => h.mono (by
    have := Nat.le_mul_of_pos_left (m + 1) (show 0 < L + 1 by omega)
    omega)
  sum := fun p h hl => (sz_Am h).mono (by
    have := Nat.mul_le_mul_right (m + 1) (show p.length ≤ L + 1 by omega)
    omega)
structure OkT (m : Zc) (t : Tk) : Prop where
  lo : 1 ≤ t.1
  hi : t.1 ≤ 1000
  sz : m.C t.2
def OkP (m : Zc) (p : List Tk) : Prop := p ≠ [] ∧ ∀ t ∈ p, OkT m t
theorem OkP.fl {m : Zc} {p : List Tk} (h : OkP m p) : ∀ t ∈ p, 1 ≤ t.1 ∧ t.1 ≤ 1000 := fun t ht => ⟨(h.2 t ht).lo, (h.2 t ht).hi⟩
theorem OkP.am {m : Zc} {L : Nat} {p : List Tk} (h : OkP m p) (hl : p.length ≤ L) (hL : L ≤ m.L := by first | assumption | omega) : Sz m.B (Am p) := m.sum p (fun t ht => (h.2 t ht).sz) (Nat.le_trans hl hL)
theorem OkP.app {m : Zc} {a b : List Tk} (h : OkP m a) (g : OkP m b) : OkP m (a ++ b) := ⟨by simp [h.1], fun t ht => by
  rcases List.mem_append.mp ht with ht | ht
  · exact h.2 t ht
  · exact g.2 t ht⟩
noncomputable def wC : DT := dAnd (dTru (dVar 2)) (dTest (dCall 2 f_above_z [] (dCons (dCall 1 f_pool_height_z [] (dCons (dOp ixD (dVar 2) (dUn negD (dC (.int 1)))) dNil)) (dCons (dCall 1 f_pool_height_z [] (dCons (dVar 5) dNil)) dNil))))
noncomputable def wB : DS := (dSeq (dAsg (dBM0 "list" popD (dVar 2)) (dGTup 2 (dGCons (dName 6) (dGCons (dName 7) dGNil))))
    (dAsg (dTup (dCons (dOp (addD false) (dVar 6) (dOp ixD (dVar 5) (dC (.int 0)))) (dCons (dCall 2 f_plus_z [] (dCons (dVar 7) (dCons (dOp ixD (dVar 5) (dC (.int 1))) dNil))) dNil))) (dName 5)))
theorem pool_while {S : Sto} {x0 x1 v3 v4 : Option DV} {m0 : Zc} {L : Nat} (hL : L ≤ 1000) (hL2 : L ≤ m0.L ∧ m0.B ≤ 3000) : ∀ (st : List (List Tk)) (p : List Tk) (v6 v7 : Option DV) (m : Nat), st.length < m → (∀ q ∈ st, OkP m0 q) → OkP m0 p → st.flatten.length + p.length ≤ L →
    ∃ p' st' v6' v7', mg st p = p' :: st' ∧ whileF wC wB m [x0, x1, some (.ptr S.length), v3, v4, some (pl p), v6, v7] (S ++ [.ml (st.reverse.map pl)]) =
      some (.nx [x0, x1, some (.ptr S.length), v3, v4, some (pl p'), v6', v7'] (S ++ [.ml (st'.reverse.map pl)]))
  | [], p, v6, v7, m, hm, _, hp, hl => by
    obtain ⟨m, rfl⟩ : ∃ k, m = k + 1 := ⟨m - 1, by simp at hm; omega⟩
    refine ⟨p, [], v6, v7, rfl, while_end (S1 := S ++ [.ml []]) ?_⟩
    simp [wC, truD]
  | t :: st, p, v6, v7, m, hm, hs, hp, hl => by
    obtain ⟨m, rfl⟩ : ∃ k, m = k + 1 := ⟨m - 1, by simp at hm; omega⟩
    have ht' := hs t (List.mem_cons_self)
    have lt : t.length ≤ L := by simp at hl; omega
    have lp : p.length ≤ L := by omega
    have at_ := ht'.am lt
    have ap := hp.am lp
    have e1 := fun S => pool_height_ok (S := S) ht'.fl ht'.1 (by omega) at_ (by omega)
    have e2 := fun S => pool_height_ok (S := S) hp.fl hp.1 (by omega) ap (by omega)
    have e3 := fun S => above_ok (S := S) (sz_ht ht'.fl ht'.1 (by omega) at_) (sz_ht hp.fl hp.1 (by omega) ap) (by omega) (by omega)
    obtain ⟨Z, hZ⟩ : ∃ Z, Z = st.reverse.map pl := ⟨_, rfl⟩
    have rv : (t :: st).reverse.map pl = Z ++ [pl t] := by simp [hZ]
    have ix : ∀ S : Sto, ixD (.ptr S.length) (.int (-1)) (S ++ [.ml (Z ++ [pl t])]) = some (pl t, S ++ [.ml (Z ++ [pl t])]) := fun S => by
      have : L2.atI (Z ++ [pl t]) (-1) = some (pl t) := L2.atI_last _ _
      simp only [ixD, rdL_top, Option.or, this]
    have tr : truD (S ++ [.ml (Z ++ [pl t])]) (.ptr S.length) = some true := by
      simp [truD]
    by_cases h : ht p < ht t
    · obtain ⟨p', st', v6', v7', e, ew⟩ := pool_while (S := S) (x0 := x0) (x1 := x1) (v3 := v3) (v4 := v4) hL hL2 st (t ++ p) (some (dI (t.map (·.1)))) (some (fr (Am t))) m (by simp at hm; omega) (fun q hq => hs q (List.mem_cons_of_mem _ hq)) (ht'.app hp) (by simp at hl ⊢; omega)
      refine ⟨p', st', v6', v7', by unfold mg; rw [if_pos h]; exact e, ?_⟩
      rw [← hZ] at ew
      rw [rv, while_step (S1 := S ++ [.ml (Z ++ [pl t])]) (s2 := [x0, x1, some (.ptr S.length), v3, v4, some (pl (t ++ p)), some (dI (t.map (·.1))), some (fr (Am t))]) (S2 := S ++ [.ml Z]) ?_ ?_]
      · exact ew
      · simp [wC, tr, ix, e1, e2, e3, h]
      · have pp : popD (.ptr S.length) [] (S ++ [.ml (Z ++ [pl t])]) = some (pl t, S ++ [.ml Z]) := by
          simp [popD]
        have pq := fun S => plus_ok (S := S) at_ ap (by omega)
        have i0 : ∀ S, ixD (pl p) (.int 0) S = some (dI (p.map (·.1)), S) := fun S => ixD_tup (by simp)
        have i1 : ∀ S, ixD (pl p) (.int 1) S = some (fr (Am p), S) := fun S => ixD_tup (by simp)
        have ad : ∀ S, addD false (dI (t.map (·.1))) (dI (p.map (·.1))) S = some (dI ((t ++ p).map (·.1)), S) := fun S => by
          rw [dI, dI, addD_lst, gate_ok (by simp; omega)]
          simp [dI]
        have ep : pl (t ++ p) = .tup [dI ((t ++ p).map (·.1)), fr (Am t + Am p)] := by unfold pl; rw [Am_app]
        rw [ep]
        simp only [wB]
        refine seq_nx (s1 := [x0, x1, some (.ptr S.length), v3, v4, some (pl p), some (dI (t.map (·.1))), some (fr (Am t))]) (S1 := S ++ [.ml Z]) ?_ ?_
        · simp [pp]
          simp [pl]
        · simp [i0, i1, ad, pq]
    · refine ⟨p, t :: st, v6, v7, by unfold mg; rw [if_neg h], ?_⟩
      rw [rv, while_end (S1 := S ++ [.ml (Z ++ [pl t])]) ?_]
      simp [wC, tr, ix, e1, e2, e3, h]
end FW
end
section
namespace FW
open PySem PyProof.Rows PySem.Spec L2 DL
theorem mg_okP {m0 : Zc} : ∀ {st : List (List Tk)} {p : List Tk}, (∀ q ∈ st, OkP m0 q) → OkP m0 p → (∀ q ∈ mg st p, OkP m0 q) ∧ (mg st p).flatten.length = st.flatten.length + p.length
  | [], p, _, hp => ⟨fun q hq => by cases List.mem_singleton.mp hq; exact hp, by simp [mg]⟩
  | t :: st, p, hs, hp => by
    unfold mg
    split
    · obtain ⟨h1, h2⟩ := mg_okP (st := st) (p := t ++ p) (fun q hq => hs q (List.mem_cons_of_mem _ hq)) ((hs t (List.mem_cons_self)).app hp)
      refine ⟨h1, ?_⟩
      rw [h2]
      simp
      omega
    · refine ⟨fun q hq => ?_, by simp; omega⟩
      rcases List.mem_cons.mp hq with rfl | hq
      · exact hp
      · exact hs q hq
noncomputable def stk (st : List (List Tk)) (l : List Tk) : List (List Tk) := l.foldl (fun st t => mg st [t]) st
noncomputable def pools (l : List Tk) : List (List Tk) := (stk [] l).reverse
noncomputable def pB : DS := (dSeq (dAsg (dTup (dCons (dLst false (dCons (dVar 3) dNil)) (dCons (dVar 4) dNil))) (dName 5))
    (dSeq (dWhile wC wB) (dDrop (dBM "list" appendD (dVar 2) (dCons (dVar 5) dNil)))))
theorem pool_for {S : Sto} {x0 x1 : Option DV} {m0 : Zc} {L : Nat} (hL : L ≤ 1000) (hL2 : L ≤ m0.L ∧ m0.B ≤ 3000) : ∀ (l : List Tk) (st : List (List Tk)) (v3 v4 v5 v6 v7 : Option DV), (∀ t ∈ l, OkT m0 t) → (∀ q ∈ st, OkP m0 q) → st.flatten.length + l.length ≤ L → st.length ≤ st.flatten.length →
    ∃ w3 w4 w5 w6 w7, forL (dGTup 2 (dGCons (dName 3) (dGCons (dName 4) dGNil))) pB (l.map fun t => DV.tup [.int t.1, fr t.2]) [x0, x1, some (.ptr S.length), v3, v4, v5, v6, v7] (S ++ [.ml (st.reverse.map pl)]) =
      some (.nx [x0, x1, some (.ptr S.length), w3, w4, w5, w6, w7] (S ++ [.ml ((stk st l).reverse.map pl)]))
  | [], st, v3, v4, v5, v6, v7, _, _, _, _ => ⟨v3, v4, v5, v6, v7, rfl⟩
  | t :: l, st, v3, v4, v5, v6, v7, ht, hs, hl, hn => by
    have t0 := ht t (List.mem_cons_self)
    have hp : OkP m0 [t] := ⟨by simp, fun x hx => by cases List.mem_singleton.mp hx; exact t0⟩
    rw [List.length_cons] at hl
    obtain ⟨p', st', v6', v7', e, ew⟩ := pool_while (S := S) (x0 := x0) (x1 := x1) (v3 := some (.int t.1)) (v4 := some (fr t.2)) hL hL2 st [t] v6 v7 FUEL (lt_fuel (k := 1000) (Nat.lt_of_le_of_lt (show st.length ≤ 1000 by omega) (Nat.lt_of_lt_of_le (show 1000 < 2 ^ 10 by decide) (Nat.pow_le_pow_right (by decide) (by decide)))) (by decide)) hs hp (by show _ + 1 ≤ L; omega)
    obtain ⟨k1, k2⟩ := mg_okP hs hp
    obtain ⟨w3, w4, w5, w6, w7, ef⟩ := pool_for (S := S) (x0 := x0) (x1 := x1) hL hL2 l (mg st [t]) (some (.int t.1)) (some (fr t.2)) (some (pl p')) v6' v7' (fun x hx => ht x (List.mem_cons_of_mem _ hx)) k1 (by rw [k2]; show st.flatten.length + 1 + l.length ≤ L; omega) (by
      have hne : ∀ q ∈ mg st [t], 1 ≤ q.length := fun q hq => List.length_pos_iff.mpr (k1 q hq).1
      have gen : ∀ z : List (List Tk), (∀ q ∈ z, 1 ≤ q.length) → z.length ≤ z.flatten.length := fun z => by
        induction z with
        | nil => intro _; exact Nat.le_refl _
        | cons a z ih =>
          intro h
          have h1 := h a (List.mem_cons_self)
          have h2 := ih fun q hq => h q (List.mem_cons_of_mem _ hq)
          simp only [List.length_cons, List.flatten_cons, List.length_append]
          omega
      exact gen _ hne)
    refine ⟨w3, w4, w5, w6, w7, ?_⟩
    have e1 : pl [t] = .tup [.lst [.int t.1], fr t.2] := by
      unfold pl
      simp [dI, Am, Rat.add_zero]
    have en : (mg st [t]).reverse.map pl = st'.reverse.map pl ++ [pl p'] := by rw [e]; simp
    have ln : st'.reverse.length < 100000 := by
      have : (mg st [t]).length ≤ (mg st [t]).flatten.length := by
        have hne : ∀ q ∈ mg st [t], 1 ≤ q.length := fun q hq => List.length_pos_iff.mpr (k1 q hq).1
        have gen : ∀ z : List (List Tk), (∀ q ∈ z, 1 ≤ q.length) → z.length ≤ z.flatten.length := fun z => by
          induction z with
          | nil => intro _; exact Nat.le_refl _
          | cons a z ih =>
            intro h
            have h1 := h a (List.mem_cons_self)
            have h2 := ih fun q hq => h q (List.mem_cons_of_mem _ hq)
            simp only [List.length_cons, List.flatten_cons, List.length_append]
            omega
        exact gen _ hne
      rw [k2, e, List.length_cons, List.length_singleton] at this
      rw [List.length_reverse]
      omega
    have body : pB [x0, x1, some (.ptr S.length), some (.int t.1), some (fr t.2), v5, v6, v7] (S ++ [.ml (st.reverse.map pl)]) = some (.nx [x0, x1, some (.ptr S.length), some (.int t.1), some (fr t.2), some (pl p'), v6', v7'] (S ++ [.ml ((mg st [t]).reverse.map pl)])) := by
      unfold pB
      refine seq_nx (asg_name (d := pl [t]) (S1 := S ++ [.ml (st.reverse.map pl)]) (by rw [e1]; simp)) ?_
      refine seq_nx (show dWhile wC wB _ _ = _ from ew) ?_
      rw [en]
      refine drop_of (d := .non) ?_
      obtain ⟨Z, hZ⟩ : ∃ Z, Z = st'.reverse.map pl := ⟨_, rfl⟩
      have lz : Z.length < 100000 := by rw [hZ, List.length_map]; exact ln
      rw [← hZ]
      have := appendD_top (S := S) (ds := Z) (d := pl p') lz
      simp [this]
    simp only [List.map_cons, forL, dGTup, dGCons, dGNil, dName, List.length_cons, List.length_nil, if_true, List.set_cons_succ, List.set_cons_zero, body, kLoop]
    exact ef
theorem pooled_ok {l : List Tk} {m0 : Zc} {S : Sto} (hok : ∀ t ∈ l, OkT m0 t) (hl : l.length ≤ 1000) (hL2 : l.length ≤ m0.L ∧ m0.B ≤ 3000) : f_pooled_z [dI (l.map (·.1)), dF (l.map (·.2))] S = some (.lst ((pools l).map pl), S) := by
  obtain ⟨w3, w4, w5, w6, w7, e⟩ := pool_for (S := S) (x0 := some (dI (l.map (·.1)))) (x1 := some (dF (l.map (·.2)))) hl hL2 l [] none none none none none hok (fun q hq => by cases hq) (by simp) (by simp)
  simp only [List.reverse_nil, List.map_nil] at e
  have zp : itemsOf (.zp (dI (l.map (·.1))) (dF (l.map (·.2)))) = some (l.map fun t => DV.tup [.int t.1, fr t.2]) := by
    unfold dI dF
    rw [items_zp]
    congr 1
    clear e hok hl hL2
    induction l with
    | nil => rfl
    | cons t l ih =>
      simp only [List.map_cons, List.zipWith_cons_cons, ih]
  have key : dFor (diZ (dCons (dVar 0) (dCons (dVar 1) dNil))) (dGTup 2 (dGCons (dName 3) (dGCons (dName 4) dGNil))) pB [some (dI (l.map (·.1))), some (dF (l.map (·.2))), some (.ptr S.length), none, none, none, none, none] (S ++ [.ml []]) = _ :=
    for_of (it := .zp (dI (l.map (·.1))) (dF (l.map (·.2)))) (S1 := S ++ [.ml []]) (by simp [diZ, dI, dF]) zp e
  refine fn_rt (d := .ptr S.length) (S1 := S ++ [.ml ((pools l).map pl)]) ?_ ?_
  · refine seq_nx (asg_name (d := .ptr S.length) (S1 := S ++ [.ml []]) (by simp)) ?_
    exact seq_nx key (ret_of rfl)
  · rw [exF_top]
    · rfl
    · exact clos_map (fun p => by
        unfold pl dI
        simp only [clo, clos, clos_int, clo_fr, Bool.and_self]) _
end FW
end
section
namespace FW
open PySem PyProof.Rows PySem.Spec L2 DL
theorem toVs_map : ∀ ns : List Int, toVs (ns.map DV.int) = some (ns.map V.int)
  | [] => rfl
  | n :: ns => by simp [toVs, toV, toVs_map ns]
theorem inV_map (f : Int) : ∀ ns : List Int, inV (.int f) (ns.map V.int) = decide (f ∈ ns)
  | [] => rfl
  | n :: ns => by
    have ih := inV_map f ns
    unfold inV at ih ⊢
    rw [List.map_cons, List.any_cons, ih]
    by_cases h : n = f
    · simp [h, eqV]
    · have h' : ¬ f = n := fun z => h z.symm
      simp [h, h', eqV]
theorem inD_ints {f : Int} {ns : List Int} {S : Sto} : inD false (.int f) (dI ns) S = some (.bl (decide (f ∈ ns)), S) := by
  have h := toVs_map ns
  have h2 := inV_map f ns
  simp [inD, dI, toV, h, h2]
theorem forF_same {tgt : DG} {body : DS} {it : DIt} {S : Sto} {xs : List DV} (hat : ∀ i, itemAt it S i = some xs[i]?) (I : Sl → Prop) (hx : ∀ x ∈ xs, ∀ s, I s → ∃ s1 s2, tgt x s S = some (s1, S) ∧ body s1 S = some (.nx s2 S) ∧ I s2) : ∀ (k i : Nat) (s : Sl), xs.length < k + i → i ≤ xs.length → I s → ∃ s', forF tgt body it k i s S = some (.nx s' S) ∧ I s'
  | 0, i, s, hk, hi, h => by omega
  | k + 1, i, s, hk, hi0, h => by
    have h1 := hat i
    by_cases hi : i < xs.length
    · rw [List.getElem?_eq_getElem hi] at h1
      obtain ⟨s1, s2, e1, e2, h2⟩ := hx xs[i] (List.getElem_mem hi) s h
      obtain ⟨s', e, h3⟩ := forF_same hat I hx k (i + 1) s2 (by omega) (by omega) h2
      exact ⟨s', by simp only [forF, h1, e1, e2, kLoop, e], h3⟩
    · rw [List.getElem?_eq_none (by omega)] at h1
      exact ⟨s, by simp only [forF, h1], h⟩
/-- bolted flaps, as a list in any order that can be read, or as the empty tuple that stands for none -/
def Bd (S : Sto) (bd : DV) (bs : List Int) : Prop := rdL S bd = some (bs.map DV.int) ∨ (bd = .tup [] ∧ bs = [])
theorem rdL_app {S X : Sto} {d : DV} {ds : List DV} (h : rdL S d = some ds) : rdL (S ++ X) d = some ds := by
  cases d with
  | ptr n =>
    unfold rdL at h ⊢
    simp only at h ⊢
    split at h
    · rename_i es q
      rw [List.getElem?_append_left (List.getElem?_eq_some_iff.mp q).1, q]
      exact h
    · cases h
  | _ => exact h
theorem Bd.app {S X : Sto} {bd : DV} {bs : List Int} (h : Bd S bd bs) : Bd (S ++ X) bd bs := h.imp rdL_app id
theorem en_of {S : Sto} {bd : DV} {ds : List DV} {fe : DE} {s : Sl} (h : rdL S bd = some ds) (e : fe s S = some (bd, S)) : diEE (dCons fe dNil) s S = some (.en bd, S) := by
  have h' : (rdL S bd).isSome = true := by rw [h]; rfl
  cases bd with
  | tup ds => cases h
  | _ => simp [diEE, e, h']
theorem check_bolted_ok {ns bs : List Int} {bd : DV} {S : Sto} (hb : Bd S bd bs) (h : ∀ b ∈ bs, 1 ≤ b ∧ b < ns.length) (hn : bs.Nodup) : f_check_bolted_z [dI ns, bd] S = some (.non, S) := by
  rcases hb with hb | ⟨rfl, rfl⟩
  · obtain ⟨s', e, _⟩ := forF_same (tgt := dGTup 2 (dGCons (dName 2) (dGCons (dName 3) dGNil))) (body := (dIfS (dOr (dTest (dInRg true (dVar 3) (dCons (dC (.int 1)) (dCons (dCB lenD (dCons (dVar 0) dNil)) dNil)))) (dTest (dOp (inD false) (dVar 3) (dSlL false (dVar 1) doN (doS (dVar 2))))))
      dNever dNext)) (it := .en bd) (S := S) (xs := (bs.map DV.int).mapIdx fun i x => DV.tup [.int (i : Nat), x]) (fun i => by
      simp only [DL.itemAt, hb, List.getElem?_mapIdx]
      cases (bs.map DV.int)[i]? <;> rfl) (fun s => ∃ a b, s = [some (dI ns), some bd, a, b]) (fun x hx s hs => by
      obtain ⟨a, b, rfl⟩ := hs
      rw [List.mem_mapIdx] at hx
      obtain ⟨i, hi, rfl⟩ := hx
      have hi' : i < bs.length := by simpa using hi
      have hr := h bs[i] (List.getElem_mem hi')
      refine ⟨[some (dI ns), some bd, some (.int (i : Nat)), some (.int bs[i])], [some (dI ns), some bd, some (.int (i : Nat)), some (.int bs[i])], by simp, ?_, _, _, rfl⟩
      have hc : cutL (bs.map DV.int) none (some (i : Int)) = (bs.take i).map DV.int := by
        rw [cut_take (by simp; omega), List.map_take]
      have hm : bs[i] ∉ bs.take i := fun z => by
        obtain ⟨j, hj, e⟩ := List.getElem_of_mem z
        have hj' : j < i := by simp at hj; omega
        rw [List.getElem_take] at e
        exact List.pairwise_iff_getElem.mp hn j i (by omega) hi' hj' e
      have hin := inD_ints (f := bs[i]) (ns := bs.take i) (S := S)
      unfold dI at hin
      have hlen : lenD [dI ns] S = some (.int (ns.length : Nat), S) := by simp [dI]
      simp [dSlL, hlen, hr.1, hr.2, hb]
      rw [hc, hin]
      simp [hm]) (itLen (.en bd) S + 1) 0 [some (dI ns), some bd, none, none] (by simp [itLen, hb]) (Nat.zero_le _) ⟨_, _, rfl⟩
    refine fn_nx (s := s') (S1 := S) ?_ exF_same
    show dFor _ _ _ [some (dI ns), some bd, none, none] S = _
    rw [dFor, en_of (fe := dVar 1) hb (by simp), bnd_some']
    exact e
  · refine fn_nx (s := startD 4 [dI ns, .tup []]) (S1 := S) ?_ exF_same
    exact for_of (it := .em (.tup [])) (S1 := S) rfl rfl rfl
/-! ### stretches -/
noncomputable def cuts (bs : List Int) (n : Nat) : List Int := 0 :: (sortI bs ++ [(n : Int)])
noncomputable def pairs (bs : List Int) (n : Nat) : List (Int × Int) := (cuts bs n).zip ((cuts bs n).drop 1)
theorem zip_tup : ∀ xs ys : List Int, List.zipWith (fun x y => DV.tup [x, y]) (xs.map DV.int) (ys.map DV.int) = (xs.zip ys).map fun p => DV.tup [.int p.1, .int p.2]
  | [], ys => by simp
  | x :: xs, [] => by simp
  | x :: xs, y :: ys => by simp [zip_tup xs ys]
theorem stretches_ok {ns bs : List Int} {bd : DV} {S : Sto} (hb : Bd S bd bs) (hl : bs.length ≤ 1000) : f_stretches_z [dI ns, bd] S = some (.lst ((pairs bs ns.length).map fun p => DV.tup [.int p.1, .int p.2]), S) := by
  have hs : sortBD false [bd] S = some (dI (sortI bs), S) := by
    rcases hb with hb | ⟨rfl, rfl⟩
    · have := toIs_map bs
      simp [sortBD, dI, this, hb]
    · rfl
  have hsl : (sortI bs).length = bs.length := by
    unfold sortI
    exact List.length_mergeSort bs
  have a1 : addD false (.lst [.int 0]) (dI (sortI bs)) S = some (dI (0 :: sortI bs), S) := by
    rw [dI, addD_lst, gate_ok (by simp [hsl]; omega)]
    simp [dI]
  have a2 : addD false (dI (0 :: sortI bs)) (.lst [.int (ns.length : Nat)]) S = some (dI (cuts bs ns.length), S) := by
    rw [dI, addD_lst, gate_ok (by simp [hsl]; omega)]
    simp [dI, cuts]
  have hlen : lenD [dI ns] S = some (.int (ns.length : Nat), S) := by simp [dI]
  have hc : cutL ((cuts bs ns.length).map DV.int) (some 1) none = ((cuts bs ns.length).drop 1).map DV.int := by
    unfold cutL
    have : HT.sIx ((cuts bs ns.length).map DV.int).length 0 (some 1) = 1 := by
      have := HT.sIx_nat ((cuts bs ns.length).map DV.int).length 0 1
      simp [cuts] at this ⊢
      omega
    rw [this, HT.sIx_none, List.map_drop]
    exact List.take_of_length_le (by simp)
  refine fn_rt (d := .lst ((pairs bs ns.length).map fun p => DV.tup [.int p.1, .int p.2])) (S1 := S) ?_ exF_same
  refine seq_nx (asg_name (d := dI (cuts bs ns.length)) (S1 := S) ?_) (ret_of ?_)
  · simp [hs, hlen, a1, a2]
  · simp [dLz, dSlL, dI, hc]
    exact zip_tup _ _
end FW
end
section
namespace FW
open PySem PyProof.Rows PySem.Spec L2 DL
def seg {α : Type} (l : List α) (p : Int × Int) : List α := (l.drop p.1.toNat).take (p.2.toNat - p.1.toNat)
theorem cut_seg {α : Type} {xs : List α} {a b : Nat} (hb : b ≤ xs.length) (ha : a ≤ b) : cutL xs (some (a : Int)) (some (b : Int)) = seg xs ((a : Int), (b : Int)) := by
  unfold cutL seg
  rw [HT.sIx_nat, HT.sIx_nat, Nat.min_eq_left hb, Nat.min_eq_left (Nat.le_trans ha hb)]
  simp
theorem seg_map {α β : Type} {f : α → β} {l : List α} {p : Int × Int} : seg (l.map f) p = (seg l p).map f := by
  unfold seg
  rw [List.map_take, List.map_drop]
/-- what a pool's tanks have at rest -/
noncomputable def lay (p : List Tk) : List Rat := p.map fun t => ht p * (t.1 : Rat)
theorem share_lay {p : List Tk} {t : Tk} {m0 : Zc} {L : Nat} {S : Sto} (hp : OkP m0 p) (hl : p.length ≤ L) (hL : L ≤ 1000) (hL2 : L ≤ m0.L ∧ m0.B ≤ 3000) (ht' : t ∈ p) : f_share_z [fr (Am p), .int t.1, .int (p.map (·.1)).sum] S = some (fr (ht p * (t.1 : Rat)), S) := by
  obtain ⟨h1, h2⟩ := sum_small hp.fl
  have h3 : 0 < p.length := List.length_pos_iff.mpr hp.1
  have hb := hp.fl t ht'
  have key := share_ok (S := S) (p := t.1) (w := (p.map (·.1)).sum) (hp.am hl) (by omega) (by omega) (by omega) (by omega)
  rw [sum_Wi] at key
  rw [key]
  unfold ht
  congr 2
  grind
noncomputable def poolB : DS := (dSeq (dAsg (dCB sumD (dCons (dVar 6) dNil)) (dName 8))
    (dDrop (dBM "list" extendD (dVar 3) (dCons (dLc false (diL (dVar 6)) (dName 9) dYes (dCall 3 f_share_z [] (dCons (dVar 7) (dCons (dVar 9) (dCons (dVar 8) dNil)))) [9]) dNil))))
theorem extendD_top {S : Sto} {ds es : List DV} (h : ds.length + es.length ≤ 100000) : extendD (.ptr S.length) [.lst es] (S ++ [.ml ds]) = some (.non, S ++ [.ml (ds ++ es)]) := by
  simp [extendD, gate_ok h]
theorem lay_for {S : Sto} {x0 x1 x2 v4 v5 : Option DV} {m0 : Zc} {L : Nat} (hL : L ≤ 1000) (hL2 : L ≤ m0.L ∧ m0.B ≤ 3000) : ∀ (ps : List (List Tk)) (acc : List Rat) (v6 v7 v8 v9 : Option DV), (∀ p ∈ ps, OkP m0 p) → acc.length + ps.flatten.length ≤ 50000 → ps.flatten.length ≤ L →
    ∃ w6 w7 w8 w9, forL (dGTup 2 (dGCons (dName 6) (dGCons (dName 7) dGNil))) poolB (ps.map pl) [x0, x1, x2, some (.ptr S.length), v4, v5, v6, v7, v8, v9] (S ++ [.ml (acc.map fr)]) =
      some (.nx [x0, x1, x2, some (.ptr S.length), v4, v5, w6, w7, w8, w9] (S ++ [.ml ((acc ++ ps.flatMap lay).map fr)]))
  | [], acc, v6, v7, v8, v9, _, _, _ => ⟨v6, v7, v8, v9, by simp [forL]⟩
  | p :: ps, acc, v6, v7, v8, v9, h, hn, hn2 => by
    have hp := h p (List.mem_cons_self)
    rw [List.flatten_cons, List.length_append] at hn hn2
    obtain ⟨w6, w7, w8, w9, e⟩ := lay_for (S := S) (x0 := x0) (x1 := x1) (x2 := x2) (v4 := v4) (v5 := v5) hL hL2 ps (acc ++ lay p) (some (dI (p.map (·.1)))) (some (fr (Am p))) (some (.int (p.map (·.1)).sum)) v9 (fun q hq => h q (List.mem_cons_of_mem _ hq)) (by simp only [List.length_append, lay, List.length_map]; omega) (by omega)
    refine ⟨w6, w7, w8, w9, ?_⟩
    have hs : ∀ S, sumD [dI (p.map (·.1))] S = some (.int (p.map (·.1)).sum, S) := fun S => by
      have := toIs_map (p.map (·.1))
      simp only [sumD, dI, rdL_lst, this]
    have lc : dLc false (diL (dVar 6)) (dName 9) dYes (dCall 3 f_share_z [] (dCons (dVar 7) (dCons (dVar 9) (dCons (dVar 8) dNil)))) [9] [x0, x1, x2, some (.ptr S.length), v4, v5, some (dI (p.map (·.1))), some (fr (Am p)), some (.int (p.map (·.1)).sum), v9] (S ++ [.ml (acc.map fr)]) = some (.lst ((lay p).map fr), S ++ [.ml (acc.map fr)]) := by
      refine (lc_of (it := .li (dI (p.map (·.1)))) (xs := (p.map (·.1)).map DV.int) (acc := (lay p).map fr) (S1 := S ++ [.ml (acc.map fr)]) (S2 := S ++ [.ml (acc.map fr)]) (by simp [diL, dI]) rfl ?_ (by simp only [List.length_map, lay]; omega)).trans rfl
      rw [lcL_map (g := fun x => match x with
        | .int i => fr (ht p * (i : Rat))
        | d => d) fun x hx => ?_]
      · simp [lay, Function.comp_def]
      · obtain ⟨i, hi, rfl⟩ := List.mem_map.mp hx
        obtain ⟨t, htm, rfl⟩ := List.mem_map.mp hi
        have := share_lay (S := S ++ [.ml (acc.map fr)]) hp (by omega) hL hL2 htm
        exact ⟨_, rfl, rfl, by simp [wipeD, this]⟩
    have ex := extendD_top (S := S) (ds := acc.map fr) (es := (lay p).map fr) (by simp only [List.length_map, lay]; omega)
    have body : poolB [x0, x1, x2, some (.ptr S.length), v4, v5, some (dI (p.map (·.1))), some (fr (Am p)), v8, v9] (S ++ [.ml (acc.map fr)]) = some (.nx [x0, x1, x2, some (.ptr S.length), v4, v5, some (dI (p.map (·.1))), some (fr (Am p)), some (.int (p.map (·.1)).sum), v9] (S ++ [.ml ((acc ++ lay p).map fr)])) := by
      unfold poolB
      refine seq_nx (asg_name (d := .int (p.map (·.1)).sum) (S1 := S ++ [.ml (acc.map fr)]) (by simp [hs])) ?_
      refine drop_of (d := .non) ?_
      rw [List.map_append]
      simp only [dBM, dCons, dVar, List.getElem?_cons_zero, List.getElem?_cons_succ, List.set_cons_succ, List.set_cons_zero, bnd_some', rdL_top, Option.isSome_some, and_self, if_true, lc, dNil, ex]
    simp only [List.map_cons, forL, pl, dGTup, dGCons, dGNil, dName, List.length_cons, List.length_nil, if_true, List.set_cons_succ, List.set_cons_zero, body, kLoop]
    rw [List.flatMap_cons, ← List.append_assoc]
    exact e
theorem stk_ok {m0 : Zc} : ∀ {l : List Tk} {st : List (List Tk)}, Stk st → (∀ q ∈ st, OkP m0 q) → (∀ t ∈ l, OkT m0 t) → Stk (stk st l) ∧ (∀ q ∈ stk st l, OkP m0 q) ∧ (stk st l).reverse.flatten = st.reverse.flatten ++ l
  | [], st, h1, h2, _ => ⟨h1, h2, by simp [stk]⟩
  | t :: l, st, h1, h2, ht' => by
    have t0 := ht' t (List.mem_cons_self)
    obtain ⟨k1, k2, _⟩ := mg_ok h1 (good_one t0.lo)
    obtain ⟨k3, _⟩ := mg_okP h2 (⟨by simp, fun x hx => by cases List.mem_singleton.mp hx; exact t0⟩ : OkP m0 [t])
    obtain ⟨e1, e2, e3⟩ := stk_ok (l := l) k1 k3 fun x hx => ht' x (List.mem_cons_of_mem _ hx)
    refine ⟨e1, e2, ?_⟩
    show (stk (mg st [t]) l).reverse.flatten = _
    rw [e3, k2]
    simp
theorem pools_ok {m0 : Zc} {l : List Tk} (h : ∀ t ∈ l, OkT m0 t) : (∀ q ∈ pools l, Good q ∧ OkP m0 q) ∧ (pools l).Pairwise (fun p q => ht p ≤ ht q) ∧ (pools l).flatten = l := by
  obtain ⟨h1, h2, h3⟩ := stk_ok (st := []) (l := l) ⟨(fun q hq => by cases hq), List.Pairwise.nil⟩ (fun q hq => by cases hq) h
  refine ⟨fun q hq => ?_, ?_, ?_⟩
  · have := List.mem_reverse.mp hq
    exact ⟨h1.good q this, h2 q this⟩
  · unfold pools
    rw [List.pairwise_reverse]
    exact h1.up
  · unfold pools
    rw [h3]
    simp
noncomputable def segs (l : List Tk) (prs : List (Int × Int)) : List Rat := prs.flatMap fun p => (pools (seg l p)).flatMap lay
structure PrOk (n : Nat) (p : Int × Int) : Prop where
  ex : ∃ a b : Nat, p = ((a : Int), (b : Int)) ∧ a ≤ b ∧ b ≤ n
theorem lay_len : ∀ ps : List (List Tk), (ps.flatMap lay).length = ps.flatten.length
  | [] => rfl
  | p :: ps => by
    rw [List.flatMap_cons, List.flatten_cons, List.length_append, List.length_append, lay_len ps]
    unfold lay
    rw [List.length_map]
theorem seg_len {α : Type} {l : List α} {p : Int × Int} : (seg l p).length ≤ l.length := by
  unfold seg
  simp
  omega
theorem seg_mem {α : Type} {l : List α} {p : Int × Int} {x : α} (h : x ∈ seg l p) : x ∈ l := List.mem_of_mem_drop (List.mem_of_mem_take h)
noncomputable def segB : DS := (dFor (diL (dCall 2 f_pooled_z [] (dCons (dSlL false (dVar 0) (doS (dVar 4)) (doS (dVar 5))) (dCons (dSlL false (dVar 1) (doS (dVar 4)) (doS (dVar 5))) dNil)))) (dGTup 2 (dGCons (dName 6) (dGCons (dName 7) dGNil))) poolB)
theorem seg_for {S : Sto} {bd : DV} {l : List Tk} {m0 : Zc} (hok : ∀ t ∈ l, OkT m0 t) (hL : l.length ≤ 1000) (hL2 : l.length ≤ m0.L ∧ m0.B ≤ 3000) : ∀ (prs : List (Int × Int)) (acc : List Rat) (v4 v5 v6 v7 v8 v9 : Option DV), (∀ p ∈ prs, PrOk l.length p) → acc.length + prs.length * l.length ≤ 40000 →
    ∃ w4 w5 w6 w7 w8 w9, forL (dGTup 2 (dGCons (dName 4) (dGCons (dName 5) dGNil))) segB (prs.map fun p => DV.tup [.int p.1, .int p.2]) [some (dI (l.map (·.1))), some (dF (l.map (·.2))), some bd, some (.ptr S.length), v4, v5, v6, v7, v8, v9] (S ++ [.ml (acc.map fr)]) =
      some (.nx [some (dI (l.map (·.1))), some (dF (l.map (·.2))), some bd, some (.ptr S.length), w4, w5, w6, w7, w8, w9] (S ++ [.ml ((acc ++ segs l prs).map fr)]))
  | [], acc, v4, v5, v6, v7, v8, v9, _, _ => ⟨v4, v5, v6, v7, v8, v9, by simp [forL, segs]⟩
  | p :: prs, acc, v4, v5, v6, v7, v8, v9, hp, hn => by
    obtain ⟨a, b, rfl, hab, hb⟩ := (hp p (List.mem_cons_self)).ex
    rw [List.length_cons, Nat.add_mul, Nat.one_mul] at hn
    have sl1 := seg_len (l := l) (p := ((a : Int), (b : Int)))
    have okS : ∀ t ∈ seg l ((a : Int), (b : Int)), OkT m0 t := fun t h => hok t (seg_mem h)
    obtain ⟨q1, q2, q3⟩ := pools_ok okS
    have lf : ((pools (seg l ((a : Int), (b : Int)))).flatMap lay).length = (seg l ((a : Int), (b : Int))).length := by rw [lay_len, q3]
    obtain ⟨u6, u7, u8, u9, e1⟩ := lay_for (S := S) (x0 := some (dI (l.map (·.1)))) (x1 := some (dF (l.map (·.2)))) (x2 := some bd) (v4 := some (.int (a : Int))) (v5 := some (.int (b : Int))) hL hL2 (pools (seg l ((a : Int), (b : Int)))) acc v6 v7 v8 v9 (fun q hq => (q1 q hq).2) (by rw [q3]; omega) (by rw [q3]; exact sl1)
    obtain ⟨w4, w5, w6, w7, w8, w9, e2⟩ := seg_for (S := S) (bd := bd) hok hL hL2 prs (acc ++ (pools (seg l ((a : Int), (b : Int)))).flatMap lay) (some (.int (a : Int))) (some (.int (b : Int))) u6 u7 u8 u9 (fun q hq => hp q (List.mem_cons_of_mem _ hq)) (by rw [List.length_append, lf]; omega)
    refine ⟨w4, w5, w6, w7, w8, w9, ?_⟩
    have c1 : cutL ((l.map (·.1)).map DV.int) (some (a : Int)) (some (b : Int)) = ((seg l ((a : Int), (b : Int))).map (·.1)).map DV.int := by
      rw [cut_seg (by simp; exact hb) hab, seg_map, seg_map]
    have c2 : cutL ((l.map (·.2)).map fr) (some (a : Int)) (some (b : Int)) = ((seg l ((a : Int), (b : Int))).map (·.2)).map fr := by
      rw [cut_seg (by simp; exact hb) hab, seg_map, seg_map]
    have po := pooled_ok (S := S ++ [.ml (acc.map fr)]) okS (by omega) (by omega)
    have it : (diL (dCall 2 f_pooled_z [] (dCons (dSlL false (dVar 0) (doS (dVar 4)) (doS (dVar 5))) (dCons (dSlL false (dVar 1) (doS (dVar 4)) (doS (dVar 5))) dNil)))) [some (dI (l.map (·.1))), some (dF (l.map (·.2))), some bd, some (.ptr S.length), some (.int (a : Int)), some (.int (b : Int)), v6, v7, v8, v9] (S ++ [.ml (acc.map fr)]) = some (.li (.lst ((pools (seg l ((a : Int), (b : Int)))).map pl)), S ++ [.ml (acc.map fr)]) := by
      unfold dI dF at po ⊢
      simp only [diL, dCall, dCons, dNil, dSlL, dVar, doS, List.getElem?_cons_zero, List.getElem?_cons_succ, bnd_some', rdL_lst, newL_f, c1, c2, List.append_nil, List.length_cons, List.length_nil, if_true, po]
      rfl
    have body : segB [some (dI (l.map (·.1))), some (dF (l.map (·.2))), some bd, some (.ptr S.length), some (.int (a : Int)), some (.int (b : Int)), v6, v7, v8, v9] (S ++ [.ml (acc.map fr)]) = _ := for_of it rfl e1
    simp only [List.map_cons, forL, dGTup, dGCons, dGNil, dName, List.length_cons, List.length_nil, if_true, List.set_cons_succ, List.set_cons_zero, body, kLoop]
    unfold segs at e2 ⊢
    rw [List.flatMap_cons, ← List.append_assoc]
    exact e2
theorem pairs_zip : ∀ {l : List Int}, l.Pairwise (· ≤ ·) → ∀ p ∈ l.zip (l.drop 1), p.1 ≤ p.2 ∧ p.1 ∈ l ∧ p.2 ∈ l
  | [], _, p, h => by simp at h
  | [x], _, p, h => by simp at h
  | x :: y :: l, hs, p, h => by
    obtain ⟨h1, h2⟩ := List.pairwise_cons.mp hs
    have h' : p ∈ (x, y) :: (y :: l).zip ((y :: l).drop 1) := h
    rcases List.mem_cons.mp h' with rfl | h'
    · exact ⟨h1 y (List.mem_cons_self), List.mem_cons_self, List.mem_cons_of_mem _ (List.mem_cons_self)⟩
    · obtain ⟨a, b, c⟩ := pairs_zip h2 p h'
      exact ⟨a, List.mem_cons_of_mem _ b, List.mem_cons_of_mem _ c⟩
theorem sortI_perm (ns : List Int) : (sortI ns).Perm ns := List.mergeSort_perm ns _
theorem sortI_up (ns : List Int) : (sortI ns).Pairwise (· ≤ ·) := by
  have := List.pairwise_mergeSort (le := fun (a b : Int) => decide (a ≤ b)) (fun a b c h1 h2 => by simp at *; omega) (fun a b => by simp; omega) ns
  exact this.imp fun h => by simpa using h
theorem cuts_ok {bs : List Int} {n : Nat} (h : ∀ b ∈ bs, 1 ≤ b ∧ b < (n : Int)) : (cuts bs n).Pairwise (· ≤ ·) ∧ ∀ x ∈ cuts bs n, 0 ≤ x ∧ x ≤ (n : Int) := by
  have hm : ∀ x ∈ sortI bs, 1 ≤ x ∧ x < (n : Int) := fun x hx => h x ((sortI_perm bs).mem_iff.mp hx)
  have hall : ∀ x ∈ cuts bs n, 0 ≤ x ∧ x ≤ (n : Int) := fun x hx => by
    rcases List.mem_cons.mp hx with rfl | hx
    · omega
    · rcases List.mem_append.mp hx with hx | hx
      · have := hm x hx
        omega
      · cases List.mem_singleton.mp hx
        omega
  refine ⟨List.pairwise_cons.mpr ⟨fun x hx => (hall x (List.mem_cons_of_mem _ hx)).1, List.pairwise_append.mpr ⟨sortI_up bs, List.pairwise_singleton _ _, fun x hx y hy => ?_⟩⟩, hall⟩
  cases List.mem_singleton.mp hy
  have := hm x hx
  omega
theorem pairs_ok {bs : List Int} {n : Nat} (h : ∀ b ∈ bs, 1 ≤ b ∧ b < (n : Int)) : (∀ p ∈ pairs bs n, PrOk n p) ∧ (pairs bs n).length ≤ bs.length + 1 := by
  obtain ⟨h1, h2⟩ := cuts_ok h
  refine ⟨fun p hp => ?_, ?_⟩
  · obtain ⟨a, b, c⟩ := pairs_zip h1 p hp
    have hb := h2 _ b
    have hc := h2 _ c
    obtain ⟨x, y⟩ := p
    exact ⟨x.toNat, y.toNat, by simp only [Int.toNat_of_nonneg hb.1, Int.toNat_of_nonneg hc.1], by simp at a hb hc; omega, by simp at a hb hc; omega⟩
  · unfold pairs
    rw [List.length_zip, List.length_drop]
    have : (cuts bs n).length = bs.length + 2 := by
      unfold cuts
      rw [List.length_cons, List.length_append, (sortI_perm bs).length_eq]
      rfl
    omega
/-- what settled tells -/
noncomputable def rest (l : List Tk) (bs : List Int) : List Rat := segs l (pairs bs l.length)
theorem at_rest_run {l : List Tk} {bs : List Int} {bd : DV} {m0 : Zc} {S : Sto} (hok : ∀ t ∈ l, OkT m0 t) (hL : l.length ≤ 100) (hL2 : l.length ≤ m0.L ∧ m0.B ≤ 3000) (hb : Bd S bd bs) (hbs : ∀ b ∈ bs, 1 ≤ b ∧ b < (l.length : Int)) (hbl : bs.length ≤ 100) :
    b_at_rest_k (startD 10 [dI (l.map (·.1)), dF (l.map (·.2)), bd]) S = some (.rt (.ptr S.length) (S ++ [.ml ((rest l bs).map fr)])) := by
  obtain ⟨p1, p2⟩ := pairs_ok hbs
  have st := stretches_ok (S := S ++ [.ml []]) (ns := l.map (·.1)) hb.app (by omega)
  rw [List.length_map] at st
  have hmul : (pairs bs l.length).length * l.length ≤ 101 * 100 := Nat.mul_le_mul (by omega) hL
  obtain ⟨w4, w5, w6, w7, w8, w9, e⟩ := seg_for (S := S) (bd := bd) hok (by omega) hL2 (pairs bs l.length) [] none none none none none none p1 (by simp; omega)
  have it : (diL (dCall 2 f_stretches_z [] (dCons (dVar 0) (dCons (dVar 2) dNil)))) [some (dI (l.map (·.1))), some (dF (l.map (·.2))), some bd, some (.ptr S.length), none, none, none, none, none, none] (S ++ [.ml []]) = some (.li (.lst ((pairs bs l.length).map fun p => DV.tup [.int p.1, .int p.2])), S ++ [.ml []]) := by
    simp [diL, st]
  have key : dFor (diL (dCall 2 f_stretches_z [] (dCons (dVar 0) (dCons (dVar 2) dNil)))) (dGTup 2 (dGCons (dName 4) (dGCons (dName 5) dGNil))) segB [some (dI (l.map (·.1))), some (dF (l.map (·.2))), some bd, some (.ptr S.length), none, none, none, none, none, none] (S ++ [.ml []]) = _ := for_of it rfl e
  refine seq_nx (asg_name (d := .ptr S.length) (S1 := S ++ [.ml []]) (by simp)) ?_
  exact seq_nx key (ret_of rfl)
theorem at_rest_okz {l : List Tk} {bs : List Int} {bd : DV} {m0 : Zc} {S : Sto} (hok : ∀ t ∈ l, OkT m0 t) (hL : l.length ≤ 100) (hL2 : l.length ≤ m0.L ∧ m0.B ≤ 3000) (hb : Bd S bd bs) (hbs : ∀ b ∈ bs, 1 ≤ b ∧ b < (l.length : Int)) (hbl : bs.length ≤ 100) :
    f_at_rest_z [dI (l.map (·.1)), dF (l.map (·.2)), bd] S = some (dF (rest l bs), S) := by
  refine fn_rt (at_rest_run hok hL hL2 hb hbs hbl) ?_
  rw [exF_top clos_fr]
  rfl
theorem settled_okz {l : List Tk} {bs : List Int} {bd : DV} {m0 : Zc} {S : Sto} (h0 : l ≠ []) (hok : ∀ t ∈ l, OkT m0 t ∧ 0 ≤ t.2) (hL : l.length ≤ 100) (hL2 : l.length ≤ m0.L ∧ m0.B ≤ 3000) (hb : Bd S bd bs) (hbs : ∀ b ∈ bs, 1 ≤ b ∧ b < (l.length : Int)) (hnd : bs.Nodup) (hbl : bs.length ≤ 100) :
    f_settled_z [dI (l.map (·.1)), dF (l.map (·.2)), bd] S = some (dF (rest l bs), S) := by
  have c1 := check_floors_ok (S := S) (ns := l.map (·.1)) (by simpa using h0) (fun n hn => by
    obtain ⟨t, ht', rfl⟩ := List.mem_map.mp hn
    exact (hok t ht').1.lo)
  have c2 := check_water_ok (S := S) (ns := l.map (·.1)) (qs := l.map (·.2)) (n := m0.B) (by simp) (fun q hq => by
    obtain ⟨t, ht', rfl⟩ := List.mem_map.mp hq
    exact ⟨(hok t ht').2, m0.one _ (hok t ht').1.sz⟩) (by omega)
  have c3 := check_bolted_ok (S := S) (ns := l.map (·.1)) hb (by simpa using hbs) hnd
  have c4 := at_rest_okz (S := S) (fun t ht' => (hok t ht').1) hL hL2 hb hbs hbl
  refine fn_rt (d := dF (rest l bs)) (S1 := S) ?_ ?_
  · refine seq_nx (drop_of (d := .non) (S1 := S) (by simp [c1])) ?_
    refine seq_nx (drop_of (d := .non) (S1 := S) (by simp [c2])) ?_
    refine seq_nx (drop_of (d := .non) (S1 := S) (by simp [c3])) ?_
    exact ret_of (by simp [c4])
  · simp
end FW
end
section
namespace FW
open PySem PyProof.Rows PySem.Spec L2 DL
/-- the line, of its ends' values -/
theorem line_mkRat {p q : Rat} {u v w : Int} (hw : 0 < w) : mkRat (p.num * q.den * u + q.num * p.den * v) (p.den * q.den * w.toNat) = (p * u + q * v) / w := by
  have h1 : (p.den : Rat) ≠ 0 := by exact_mod_cast p.den_nz
  have h2 : (q.den : Rat) ≠ 0 := by exact_mod_cast q.den_nz
  have h3 : (w : Rat) ≠ 0 := by
    intro z
    have : w = 0 := by exact_mod_cast z
    omega
  have h4 : (w.toNat : Rat) = (w : Rat) := by
    rw [← Rat.intCast_natCast, Int.toNat_of_nonneg (Int.le_of_lt hw)]
  have hp : p * (p.den : Rat) = (p.num : Rat) := by
    have h4 := Rat.mkRat_self p
    rw [Rat.mkRat_eq_div] at h4
    grind
  have hq : q * (q.den : Rat) = (q.num : Rat) := by
    have h4 := Rat.mkRat_self q
    rw [Rat.mkRat_eq_div] at h4
    grind
  rw [Rat.mkRat_eq_div, Rat.natCast_mul, Rat.natCast_mul, h4, Rat.intCast_add, Rat.intCast_mul, Rat.intCast_mul, Rat.intCast_mul, Rat.intCast_mul, Rat.intCast_natCast, Rat.intCast_natCast, ← hp, ← hq]
  grind
theorem law_chord_ok {xs : List Int} {hs : List Rat} {i k j : Nat} {xi xk xj : Int} {n : Nat} {S : Sto} (hi : xs[i]? = some xi) (hk : xs[k]? = some xk) (hj : xs[j]? = some xj) (yi yk yj : Rat) (gi : hs[i]? = some yi) (gk : hs[k]? = some yk) (gj : hs[j]? = some yj)
    (zi : Sz n yi) (zj : Sz n yj) (hn : n ≤ 3000) (x0 : 0 ≤ xi) (x1 : xi ≤ xk) (x2 : xk ≤ xj) (x3 : xj < 2 ^ 50) (hlt : i < j → xi < xj) (hij : i ≤ j) :
    f_law_chord_z [dI xs, dF hs, .int (i : Nat), .int (k : Nat), .int (j : Nat)] S = some (fr (if i = j then yk else (yi * ((xj : Rat) - xk) + yj * ((xk : Rat) - xi)) / ((xj : Rat) - xi)), S) := by
  have ix : ∀ (m : Nat) (x : Int), xs[m]? = some x → ∀ S, ixD (dI xs) (.int (m : Nat)) S = some (.int x, S) := fun m x hx S => ixD_lst (at_nat rfl (by rw [List.getElem?_map, hx]; rfl))
  have iy : ∀ (m : Nat) (x : Rat), hs[m]? = some x → ∀ S, ixD (dF hs) (.int (m : Nat)) S = some (fr x, S) := fun m x hx S => ixD_lst (at_nat rfl (by rw [List.getElem?_map, hx]; rfl))
  by_cases e : i = j
  · subst e
    simp [f_law_chord_z, fnF, b_law_chord_z, iy k yk gk]
  · rw [if_neg e]
    have hne : ¬ (i : Int) = (j : Int) := by omega
    have hx := hlt (by omega)
    have f1 := zi.fn (by omega); have f2 := zi.fd (by omega); have f3 := zj.fn (by omega); have f4 := zj.fd (by omega)
    have g1 : Fits (xj - xk) := fits_of (n := 50) (by omega) (by decide)
    have g2 : Fits (xk - xi) := fits_of (n := 50) (by omega) (by decide)
    have g3 : Fits (xj - xi) := fits_of (n := 50) (by omega) (by decide)
    have pm : ∀ (a : Int) (b : Nat), a.natAbs < 2 ^ n → b < 2 ^ n → (a * (b : Int)).natAbs < 2 ^ (n + n) := fun a b h1 h2 => by
      rw [Int.natAbs_mul, Int.natAbs_natCast, Nat.pow_add]
      exact Nat.mul_lt_mul'' h1 h2
    have b1 := pm yi.num yj.den zi.1 zj.2
    have b2 := pm yj.num yi.den zj.1 zi.2
    have b3 := pm (yi.den : Int) yj.den (by simpa using zi.2) zj.2
    have g4 : Fits (yi.num * (yj.den : Int)) := fits_of b1 (by omega)
    have g5 : Fits (yj.num * (yi.den : Int)) := fits_of b2 (by omega)
    have g6 : Fits ((yi.den : Int) * (yj.den : Int)) := fits_of b3 (by omega)
    have big : ∀ (a b : Int), a.natAbs < 2 ^ (n + n) → b.natAbs < 2 ^ 50 → (a * b).natAbs < 2 ^ (n + n + 50) := fun a b h1 h2 => by
      rw [Int.natAbs_mul, Nat.pow_add]
      exact Nat.mul_lt_mul'' h1 h2
    have c1 := big _ (xj - xk) b1 (by omega)
    have c2 := big _ (xk - xi) b2 (by omega)
    have hd : yi.den * yj.den * (xj - xi).toNat < 2 ^ 8000 := by
      have d1 := Nat.mul_lt_mul'' zi.2 zj.2
      rw [← Nat.pow_add] at d1
      have d2 := Nat.mul_lt_mul'' d1 (show (xj - xi).toNat < 2 ^ 50 by omega)
      rw [← Nat.pow_add] at d2
      exact Nat.lt_of_lt_of_le d2 (Nat.pow_le_pow_right (by decide) (by omega))
    have key := law_low_ok (S := S) (a := yi.num * yj.den * (xj - xk) + yj.num * yi.den * (xk - xi)) (b := yi.den * yj.den * (xj - xi).toNat) (n := n + n + 51) (Nat.mul_pos (Nat.mul_pos yi.den_pos yj.den_pos) (by omega)) hd (by
      have t := Int.natAbs_add_le (yi.num * yj.den * (xj - xk)) (yj.num * yi.den * (xk - xi))
      have e : 2 ^ (n + n + 51) = 2 ^ (n + n + 50) + 2 ^ (n + n + 50) := by rw [Nat.pow_succ]; omega
      omega) (by omega)
    rw [line_mkRat (by omega)] at key
    have eb : ((yi.den * yj.den * (xj - xi).toNat : Nat) : Int) = (yi.den : Int) * (yj.den : Int) * (xj - xi) := by
      rw [Int.natCast_mul, Int.natCast_mul, Int.toNat_of_nonneg (by omega)]
    rw [eb, Rat.intCast_sub, Rat.intCast_sub, Rat.intCast_sub] at key
    have i0 : ∀ (q : Rat) S, ixD (fr q) (.int 0) S = some (.int q.num, S) := fun q S => ixD_tup (by simp)
    have i1 : ∀ (q : Rat) S, ixD (fr q) (.int 1) S = some (.int (q.den : Int), S) := fun q S => ixD_tup (by simp)
    simp [f_law_chord_z, fnF, b_law_chord_z, hne, ix i xi hi, ix k xk hk, ix j xj hj, iy i yi gi, iy j yj gj, i0, i1, f1, f2, f3, f4, g1, g2, g3, g4, g5, g6, key]
end FW
end
section
namespace FW
open PySem PyProof.Rows PySem.Spec L2 DL
/-! ### heaps at rest of a whole row -/
def rsum : List Rat → Rat
  | [] => 0
  | q :: l => q + rsum l
theorem rsum_app : ∀ a b : List Rat, rsum (a ++ b) = rsum a + rsum b
  | [], b => by simp [rsum, Rat.zero_add]
  | t :: a, b => by simp only [List.cons_append, rsum, rsum_app a b, Rat.add_assoc]
theorem lay_fl : ∀ ps : List (List Tk), ps.flatMap lay = (fl ps).map fun x => x.2 * (x.1.1 : Rat)
  | [] => rfl
  | p :: ps => by
    rw [List.flatMap_cons, lay_fl ps]
    show _ = (sl p ++ fl ps).map _
    rw [List.map_append]
    congr 1
    unfold lay sl
    rw [List.map_map]
    rfl
theorem rsum_Zi : ∀ F : List Sk, rsum (F.map fun x => x.2 * (x.1.1 : Rat)) = Zi F
  | [] => rfl
  | x :: F => by simp only [List.map_cons, rsum, Zi, rsum_Zi F]
theorem rsum_lay (ps : List (List Tk)) (k : Nat) : rsum ((ps.flatMap lay).take k) = Za (fl ps) k := by
  rw [lay_fl, ← List.map_take, rsum_Zi]
  rfl
/-- the rest of stretch after stretch, from a cut on -/
noncomputable def ss (l : List Tk) : List Int → List Rat
  | c :: d :: cs => (pools (seg l (c, d))).flatMap lay ++ ss l (d :: cs)
  | _ => []
theorem ss_eq (l : List Tk) : ∀ L : List Int, segs l (L.zip (L.drop 1)) = ss l L
  | [] => rfl
  | [_] => rfl
  | c :: d :: cs => by
    show segs l ((c, d) :: (d :: cs).zip ((d :: cs).drop 1)) = _
    unfold segs
    rw [List.flatMap_cons]
    congr 1
    exact ss_eq l (d :: cs)
theorem rest_eq (l : List Tk) (bs : List Int) : rest l bs = ss l (cuts bs l.length) := ss_eq l _
theorem seg_Am {l : List Tk} {a b : Nat} (h : a ≤ b) (k : Nat) (hk : k ≤ b - a) : Ya l (a + k) = Ya l a + Ya (seg l ((a : Int), (b : Int))) k := by
  have e : l.take (a + k) = l.take a ++ (seg l ((a : Int), (b : Int))).take k := by
    unfold seg
    simp only [Int.toNat_natCast]
    rw [List.take_take, Nat.min_eq_left hk, List.take_add]
  unfold Ya
  rw [e, Am_app]
theorem seg_Wi {l : List Tk} {a b : Nat} (h : a ≤ b) (k : Nat) (hk : k ≤ b - a) : Xa l (a + k) = Xa l a + Xa (seg l ((a : Int), (b : Int))) k := by
  have e : l.take (a + k) = l.take a ++ (seg l ((a : Int), (b : Int))).take k := by
    unfold seg
    simp only [Int.toNat_natCast]
    rw [List.take_take, Nat.min_eq_left hk, List.take_add]
  unfold Xa
  rw [e, Wi_app]
theorem seg_length {l : List Tk} {a b : Nat} (hb : b ≤ l.length) (h : a ≤ b) : (seg l ((a : Int), (b : Int))).length = b - a := by
  unfold seg
  simp
  omega
/-- a pair of neighbours in a list of cuts -/
inductive Nb : List Int → Int → Int → Prop
  | here {c d : Int} {cs : List Int} : Nb (c :: d :: cs) c d
  | there {c d : Int} {cs : List Int} {a b : Int} : Nb (d :: cs) a b → Nb (c :: d :: cs) a b
theorem Nb.ge {L : List Int} {a b : Int} (h : Nb L a b) : ∀ {c : Int} {cs : List Int}, L = c :: cs → L.Pairwise (· ≤ ·) → c ≤ a ∧ a ≤ b := by
  induction h with
  | here =>
    intro c cs e hs
    cases e
    exact ⟨Int.le_refl _, (List.pairwise_cons.mp hs).1 _ (List.mem_cons_self)⟩
  | there h ih =>
    intro c cs e hs
    cases e
    obtain ⟨h1, h2⟩ := List.pairwise_cons.mp hs
    obtain ⟨k1, k2⟩ := ih rfl h2
    exact ⟨Int.le_trans (h1 _ (List.mem_cons_self)) k1, k2⟩
theorem Nb.mem {L : List Int} {a b : Int} (h : Nb L a b) : a ∈ L ∧ b ∈ L := by
  induction h with
  | here => exact ⟨List.mem_cons_self, List.mem_cons_of_mem _ List.mem_cons_self⟩
  | there h ih => exact ⟨List.mem_cons_of_mem _ ih.1, List.mem_cons_of_mem _ ih.2⟩
/-- what is left of a place, by its stretch -/
theorem ss_sum {l : List Tk} {m0 : Zc} (hok : ∀ t ∈ l, OkT m0 t) {L : List Int} {a b : Int} (h : Nb L a b) : ∀ {c : Nat} {cs : List Int}, L = (c : Int) :: cs → L.Pairwise (· ≤ ·) → (∀ x ∈ L, 0 ≤ x ∧ x ≤ (l.length : Int)) → ∀ k : Nat, a ≤ (k : Int) → (k : Int) ≤ b →
    rsum ((ss l L).take (k - c)) = Ya l a.toNat - Ya l c + Za (fl (pools (seg l (a, b)))) (k - a.toNat) := by
  induction h with
  | @here c d cs =>
    intro c' cs' e hs hin k ha hb
    cases e
    have hd := hin d (by simp)
    have hcd := (List.pairwise_cons.mp hs).1 d (by simp)
    obtain ⟨d', rfl⟩ : ∃ d' : Nat, d = (d' : Int) := ⟨d.toNat, by omega⟩
    have okS : ∀ t ∈ seg l ((c' : Int), (d' : Int)), OkT m0 t := fun t h => hok t (seg_mem h)
    obtain ⟨_, _, q3⟩ := pools_ok okS
    have ln : ((pools (seg l ((c' : Int), (d' : Int)))).flatMap lay).length = d' - c' := by
      rw [lay_len, q3, seg_length (by omega) (by omega)]
    unfold ss
    rw [tk_lo (by rw [ln]; omega), rsum_lay, Int.toNat_natCast]
    grind
  | @there c d cs a b h ih =>
    intro c' cs' e hs hin k ha hb
    cases e
    have hd := hin d (by simp)
    obtain ⟨h1, h2⟩ := List.pairwise_cons.mp hs
    have hcd := h1 d (by simp)
    obtain ⟨d', rfl⟩ : ∃ d' : Nat, d = (d' : Int) := ⟨d.toNat, by omega⟩
    have hda := (h.ge rfl h2).1
    have okS : ∀ t ∈ seg l ((c' : Int), (d' : Int)), OkT m0 t := fun t h => hok t (seg_mem h)
    obtain ⟨q1, _, q3⟩ := pools_ok okS
    have ls := seg_length (l := l) (a := c') (b := d') (by omega) (by omega)
    have ln : ((pools (seg l ((c' : Int), (d' : Int)))).flatMap lay).length = d' - c' := by
      rw [lay_len, q3, ls]
    have key := ih rfl h2 (fun x hx => hin x (List.mem_cons_of_mem _ hx)) k ha hb
    have ek : k - c' = ((pools (seg l ((c' : Int), (d' : Int)))).flatMap lay).length + (k - d') := by rw [ln]; omega
    unfold ss
    rw [ek, tk_hi, rsum_app, key]
    have full : rsum ((pools (seg l ((c' : Int), (d' : Int)))).flatMap lay) = Ya l d' - Ya l c' := by
      have e1 := rsum_lay (pools (seg l ((c' : Int), (d' : Int)))) (d' - c')
      rw [← ln, List.take_length] at e1
      rw [e1, ln]
      obtain ⟨i, j, s, f⟩ := flat_of (fun q hq => (q1 q hq).1) (d' - c') (by rw [q3, ls]; exact Nat.le_refl _)
      have fj : j = d' - c' := by
        have := f.kj; have := f.jn
        rw [q3, ls] at this
        omega
      have f2 := f.zj
      rw [fj, q3] at f2
      rw [f2]
      have := seg_Am (l := l) (a := c') (b := d') (by omega) (d' - c') (Nat.le_refl _)
      rw [show c' + (d' - c') = d' by omega] at this
      rw [this]
      grind
    rw [full]
    grind
end FW
end
section
namespace FW
open PySem PyProof.Rows PySem.Spec L2 DL
theorem nb_find : ∀ (m : List Int) (c n k : Int), c ≤ k → k ≤ n → (c :: (m ++ [n])).Pairwise (· ≤ ·) →
    ∃ a b, Nb (c :: (m ++ [n])) a b ∧ a ≤ k ∧ k ≤ b ∧ (∀ x ∈ c :: m, x ≤ k → x ≤ a) ∧ (∀ x ∈ m ++ [n], k ≤ x → ¬ x ≤ a → b ≤ x) ∧ a ∈ c :: m ∧ b ∈ m ++ [n]
  | [], c, n, k, h1, h2, hs => ⟨c, n, .here, h1, h2, fun x hx _ => by cases List.mem_singleton.mp hx; exact Int.le_refl _, fun x hx _ _ => by cases List.mem_singleton.mp hx; exact Int.le_refl _, List.mem_cons_self, by simp⟩
  | d :: m, c, n, k, h1, h2, hs => by
    obtain ⟨s1, s2⟩ := List.pairwise_cons.mp hs
    have s2' : (d :: (m ++ [n])).Pairwise (· ≤ ·) := s2
    obtain ⟨s3, s4⟩ := List.pairwise_cons.mp s2'
    by_cases hk : k < d
    · refine ⟨c, d, .here, h1, Int.le_of_lt hk, fun x hx hxk => ?_, fun x hx _ _ => ?_, List.mem_cons_self, List.mem_cons_self⟩
      · rcases List.mem_cons.mp hx with rfl | hx
        · exact Int.le_refl _
        · rcases List.mem_cons.mp hx with rfl | hx
          · omega
          · have := s3 x (List.mem_append_left _ hx)
            omega
      · rcases List.mem_cons.mp hx with rfl | hx
        · exact Int.le_refl _
        · exact s3 x hx
    · obtain ⟨a, b, e, k1, k2, k3, k4, k5, k6⟩ := nb_find m d n k (by omega) h2 s2'
      have da := k3 d (List.mem_cons_self) (by omega)
      have cd := s1 d (List.mem_cons_self)
      refine ⟨a, b, .there e, k1, k2, fun x hx hxk => ?_, fun x hx hkx hxa => ?_, List.mem_cons_of_mem _ k5, List.mem_cons_of_mem _ k6⟩
      · rcases List.mem_cons.mp hx with rfl | hx
        · omega
        · exact k3 x hx hxk
      · rcases List.mem_cons.mp hx with rfl | hx
        · omega
        · exact k4 x hx hkx hxa
theorem chord_seg {l : List Tk} (hf : Fl l) {a b i k j : Nat} (hab : a ≤ b) (hb : b ≤ l.length) (h1 : a ≤ i) (h2 : i ≤ k) (h3 : k ≤ j) (h4 : j ≤ b) : chord l i k j = Ya l a + chord (seg l ((a : Int), (b : Int))) (i - a) (k - a) (j - a) := by
  have y : ∀ m, a ≤ m → m ≤ b → Ya l m = Ya l a + Ya (seg l ((a : Int), (b : Int))) (m - a) := fun m h g => by
    have := seg_Am (l := l) hab (m - a) (by omega)
    rw [show a + (m - a) = m by omega] at this
    exact this
  have x : ∀ m, a ≤ m → m ≤ b → Xa l m = Xa l a + Xa (seg l ((a : Int), (b : Int))) (m - a) := fun m h g => by
    have := seg_Wi (l := l) hab (m - a) (by omega)
    rw [show a + (m - a) = m by omega] at this
    exact this
  unfold chord
  by_cases e : i = j
  · rw [if_pos e, if_pos (by omega), y k (by omega) (by omega)]
  · rw [if_neg e, if_neg (by omega)]
    have fs : Fl (seg l ((a : Int), (b : Int))) := fun t h => hf t (seg_mem h)
    have lt := Xa_lt fs (show i - a < j - a by omega) (by rw [seg_length hb hab]; omega)
    rw [x i h1 (by omega), x j (by omega) h4, x k (by omega) (by omega), y i h1 (by omega), y j (by omega) h4]
    have h0 : Xa (seg l ((a : Int), (b : Int))) (j - a) - Xa (seg l ((a : Int), (b : Int))) (i - a) ≠ 0 := by grind
    grind
/-- what is left of a place at rest: the lowest line over it within its stretch -/
structure Low (l : List Tk) (bs : List Int) (k a h : Nat) : Prop where
  ak : a ≤ k
  kh : k ≤ h
  hn : h ≤ l.length
  lo : ∀ i j, a ≤ i → i ≤ k → k ≤ j → j ≤ h → rsum ((rest l bs).take k) ≤ chord l i k j
  at_ : ∃ i j, a ≤ i ∧ i ≤ k ∧ k ≤ j ∧ j ≤ h ∧ chord l i k j = rsum ((rest l bs).take k)
theorem low_ok {l : List Tk} {bs : List Int} {m0 : Zc} (h0 : l ≠ []) (hok : ∀ t ∈ l, OkT m0 t) (hbs : ∀ b ∈ bs, 1 ≤ b ∧ b < (l.length : Int)) {k : Nat} (hk : k ≤ l.length) :
    ∃ a h : Nat, Low l bs k a h ∧ (a : Int) ∈ 0 :: bs ∧ (∀ x ∈ (0 : Int) :: bs, x ≤ k → x ≤ a) ∧ (h : Int) ∈ (l.length : Int) :: bs ∧ ∀ x ∈ (l.length : Int) :: bs, (k : Int) ≤ x → (h : Int) ≤ x := by
  have hn1 : 1 ≤ l.length := List.length_pos_iff.mpr h0
  have hf : Fl l := fun t ht => (hok t ht).lo
  obtain ⟨c1, c2⟩ := cuts_ok hbs
  have mem : ∀ x, x ∈ sortI bs ↔ x ∈ bs := fun x => (sortI_perm bs).mem_iff
  obtain ⟨a, b, e, k1, k2, k3, k4, k5, k6⟩ := nb_find (sortI bs) 0 (l.length : Int) k (by omega) (by omega) c1
  have ha := c2 a e.mem.1
  have hb := c2 b e.mem.2
  obtain ⟨a', rfl⟩ : ∃ a' : Nat, a = (a' : Int) := ⟨a.toNat, by omega⟩
  obtain ⟨b', rfl⟩ : ∃ b' : Nat, b = (b' : Int) := ⟨b.toNat, by omega⟩
  have sum := ss_sum hok e (c := 0) rfl c1 c2 k k1 k2
  rw [← show rest l bs = ss l (0 :: (sortI bs ++ [(l.length : Int)])) from rest_eq l bs, Nat.sub_zero, Int.toNat_natCast] at sum
  have sum' : rsum ((rest l bs).take k) = Ya l a' + Za (fl (pools (seg l ((a' : Int), (b' : Int))))) (k - a') := by
    rw [sum, Y0]
    grind
  have okS : ∀ t ∈ seg l ((a' : Int), (b' : Int)), OkT m0 t := fun t h => hok t (seg_mem h)
  obtain ⟨q1, q2, q3⟩ := pools_ok okS
  have ls := seg_length (l := l) (a := a') (b := b') (by omega) (by omega)
  obtain ⟨r1, r2⟩ := rest_lines (fun q hq => (q1 q hq).1) q2 (k := k - a') (by rw [q3, ls]; omega)
  rw [q3] at r1 r2
  rw [ls] at r1 r2
  have mem0 : (a' : Int) ∈ 0 :: bs := by
    rcases List.mem_cons.mp k5 with h | h
    · rw [h]; exact List.mem_cons_self
    · exact List.mem_cons_of_mem _ ((mem _).mp h)
  have max0 : ∀ x ∈ (0 : Int) :: bs, x ≤ k → x ≤ a' := fun x hx hxk => by
    refine k3 x ?_ hxk
    rcases List.mem_cons.mp hx with h | h
    · rw [h]; exact List.mem_cons_self
    · exact List.mem_cons_of_mem _ ((mem _).mpr h)
  by_cases hkb : (k : Int) ∈ bs
  · have ka : k = a' := by
      have := max0 k (List.mem_cons_of_mem _ hkb) (Int.le_refl _)
      omega
    have zk : rsum ((rest l bs).take k) = Ya l k := by
      rw [sum', ← ka, Nat.sub_self, Z0, Rat.add_zero]
    refine ⟨a', k, ⟨by omega, Nat.le_refl _, hk, fun i j h1 h2 h3 h4 => ?_, k, k, by omega, Nat.le_refl _, Nat.le_refl _, Nat.le_refl _, ?_⟩, mem0, max0, List.mem_cons_of_mem _ hkb, fun x hx hkx => hkx⟩
    · unfold chord
      rw [if_pos (by omega), zk]
      exact Rat.le_refl
    · unfold chord
      rw [if_pos rfl, zk]
  · have memb : (b' : Int) ∈ (l.length : Int) :: bs := by
      rcases List.mem_append.mp k6 with h | h
      · exact List.mem_cons_of_mem _ ((mem _).mp h)
      · rw [List.mem_singleton.mp h]; exact List.mem_cons_self
    refine ⟨a', b', ⟨by omega, by omega, by omega, fun i j h1 h2 h3 h4 => ?_, ?_⟩, mem0, max0, memb, fun x hx hkx => ?_⟩
    · rw [chord_seg hf (by omega) (by omega) h1 h2 h3 h4, sum']
      have := r1 (i - a') (j - a') (by omega) (by omega) (by omega)
      grind
    · obtain ⟨i, j, h1, h2, h3, h4⟩ := r2
      refine ⟨i + a', j + a', by omega, by omega, by omega, by omega, ?_⟩
      rw [chord_seg hf (a := a') (b := b') (by omega) (by omega) (by omega) (by omega) (by omega) (by omega), sum', Nat.add_sub_cancel, Nat.add_sub_cancel, h4]
    · refine k4 x ?_ hkx fun hxa => ?_
      · rcases List.mem_cons.mp hx with h | h
        · rw [h]; simp
        · exact List.mem_append_left _ ((mem _).mpr h)
      · have hxk : x = (k : Int) := by omega
        rcases List.mem_cons.mp hx with h | h
        · rcases List.mem_cons.mp mem0 with z | z
          · omega
          · have := hbs _ z
            omega
        · exact hkb (by rw [← hxk]; exact h)
end FW
end
section
namespace FW
open PySem PyProof.Rows PySem.Spec L2 DL
theorem sz_line {p q : Rat} {u v w : Int} {n : Nat} (h : Sz n p) (g : Sz n q) (hu : u.natAbs < 2 ^ 50) (hv : v.natAbs < 2 ^ 50) (hw : 0 < w) (hw2 : w < 2 ^ 50) : Sz (n + n + 51) ((p * u + q * v) / w) := by
  rw [← line_mkRat hw]
  have b1 : (p.num * q.den * u).natAbs < 2 ^ (n + n + 50) := by
    rw [Int.natAbs_mul, Int.natAbs_mul, Int.natAbs_natCast, Nat.pow_add, Nat.pow_add]
    exact Nat.mul_lt_mul'' (Nat.mul_lt_mul'' h.1 g.2) hu
  have b2 : (q.num * p.den * v).natAbs < 2 ^ (n + n + 50) := by
    rw [Int.natAbs_mul, Int.natAbs_mul, Int.natAbs_natCast, Nat.pow_add, Nat.pow_add]
    exact Nat.mul_lt_mul'' (Nat.mul_lt_mul'' g.1 h.2) hv
  have b3 : p.den * q.den * w.toNat < 2 ^ (n + n + 50) := by
    rw [Nat.pow_add, Nat.pow_add]
    exact Nat.mul_lt_mul'' (Nat.mul_lt_mul'' h.2 g.2) (by omega)
  have e : 2 ^ (n + n + 51) = 2 ^ (n + n + 50) + 2 ^ (n + n + 50) := by rw [Nat.pow_succ]; omega
  refine sz_mkRat (Nat.mul_pos (Nat.mul_pos p.den_pos q.den_pos) (by omega)) ?_ (by omega)
  have t := Int.natAbs_add_le (p.num * q.den * u) (q.num * p.den * v)
  omega
def XI (l : List Tk) (k : Nat) : Int := ((l.take k).map (·.1)).sum
theorem XI_Xa (l : List Tk) (k : Nat) : ((XI l k : Int) : Rat) = Xa l k := sum_Wi _
theorem hfI_get {l : List Tk} {k : Nat} (hk : k ≤ l.length) : (hfI 0 (l.map (·.1)))[k]? = some (XI l k) := by
  rw [← hfI_takes, List.getElem?_map, List.getElem?_range (by simp; omega)]
  simp [XI, List.map_take]
theorem hf_get : ∀ {l : List Tk} {k : Nat} (a : Rat), k ≤ l.length → (hf a (l.map (·.2)))[k]? = some (a + Ya l k)
  | [], k, a, hk => by
    have : k = 0 := by simpa using hk
    subst this
    simp [hf, Y0, Rat.add_zero]
  | t :: l, 0, a, _ => by simp [hf, Y0, Rat.add_zero]
  | t :: l, k + 1, a, hk => by
    have := hf_get (l := l) (k := k) (a + t.2) (by simpa using hk)
    simp only [List.map_cons, hf, List.getElem?_cons_succ, this]
    congr 1
    show _ = a + Am (t :: l.take k)
    rw [Am]
    unfold Ya
    grind
theorem XI_mono {l : List Tk} {m0 : Zc} (hok : ∀ t ∈ l, OkT m0 t) {i j : Nat} (h : i ≤ j) : XI l i ≤ XI l j ∧ (i < j → j ≤ l.length → XI l i < XI l j) := by
  have hf : Fl l := fun t ht => (hok t ht).lo
  have h1 := Xa_mono hf h
  rw [← XI_Xa, ← XI_Xa] at h1
  refine ⟨by exact_mod_cast h1, fun hlt hj => ?_⟩
  have h2 := Xa_lt hf hlt hj
  rw [← XI_Xa, ← XI_Xa] at h2
  exact_mod_cast h2
theorem XI_small {l : List Tk} {m0 : Zc} (hok : ∀ t ∈ l, OkT m0 t) (hl : l.length ≤ 1000) (k : Nat) : 0 ≤ XI l k ∧ XI l k ≤ 1000000 := by
  obtain ⟨h1, h2⟩ := sum_small (p := l.take k) fun t ht => ⟨(hok t (List.mem_of_mem_take ht)).lo, (hok t (List.mem_of_mem_take ht)).hi⟩
  have h3 : (l.take k).length ≤ 1000 := by
    rw [List.length_take]
    omega
  unfold XI
  omega
theorem sz_Ya {l : List Tk} {m0 : Zc} (hok : ∀ t ∈ l, OkT m0 t) (hl : l.length ≤ m0.L) (k : Nat) : Sz m0.B (Ya l k) :=
  m0.sum (l.take k) (fun t ht => (hok t (List.mem_of_mem_take ht)).sz) (by rw [List.length_take]; omega)
theorem hz_l {l : List Tk} {m0 : Zc} (hok : ∀ t ∈ l, OkT m0 t) (hl : l.length ≤ m0.L) : Hz m0.B (l.map (·.2)) := by
  refine ⟨fun q hq => ?_, fun x hx => ?_⟩
  · obtain ⟨t, ht', rfl⟩ := List.mem_map.mp hq
    exact m0.one _ (hok t ht').sz
  · obtain ⟨k, hk, rfl⟩ := List.getElem_of_mem hx
    have hl2 : (hf 0 (l.map (·.2))).length = l.length + 1 := by
      have : ∀ (qs : List Rat) (q : Rat), (hf q qs).length = qs.length + 1 := fun qs => by
        induction qs with
        | nil => intro q; rfl
        | cons a qs ih => intro q; simp [hf, ih]
      rw [this, List.length_map]
    have e := hf_get (l := l) (k := k) 0 (by omega)
    rw [List.getElem?_eq_getElem hk] at e
    rw [Option.some.inj e, Rat.zero_add]
    exact sz_Ya hok hl k
/-- the law's line over a place -/
theorem chord_told {l : List Tk} {m0 : Zc} {B : Nat} {S : Sto} (hok : ∀ t ∈ l, OkT m0 t) (hl : l.length ≤ 1000) (hB : l.length ≤ m0.L ∧ m0.B ≤ B) (hB2 : B ≤ 3000) {i k j : Nat} (h1 : i ≤ k) (h2 : k ≤ j) (h3 : j ≤ l.length) :
    f_law_chord_z [dI (hfI 0 (l.map (·.1))), dF (hf 0 (l.map (·.2))), .int (i : Nat), .int (k : Nat), .int (j : Nat)] S = some (fr (chord l i k j), S) ∧ Sz (B + B + 51) (chord l i k j) := by
  have y : ∀ m, m ≤ l.length → (hf 0 (l.map (·.2)))[m]? = some (Ya l m) := fun m hm => by
    rw [hf_get 0 hm, Rat.zero_add]
  have zy : ∀ m, Sz B (Ya l m) := fun m => (sz_Ya hok hB.1 m).mono hB.2
  have sm := fun m => XI_small hok hl m
  have mono : ∀ a b, a ≤ b → XI l a ≤ XI l b := fun a b h => (XI_mono hok h).1
  have key := law_chord_ok (S := S) (xs := hfI 0 (l.map (·.1))) (hs := hf 0 (l.map (·.2))) (i := i) (k := k) (j := j) (n := B) (hfI_get (by omega)) (hfI_get (by omega)) (hfI_get h3) (Ya l i) (Ya l k) (Ya l j) (y i (by omega)) (y k (by omega)) (y j h3) (zy i) (zy j) hB2 (sm i).1 (mono _ _ h1) (mono _ _ h2) (by have := (sm j).2; omega) (fun h => (XI_mono hok (by omega)).2 h h3) (by omega)
  rw [XI_Xa, XI_Xa, XI_Xa] at key
  refine ⟨key, ?_⟩
  unfold chord
  split
  · exact (zy k).mono (by omega)
  · rename_i hne
    have hlt := (XI_mono hok (show i ≤ j by omega)).2 (by omega) h3
    have s1 := sm i; have s2 := sm k; have s3 := sm j
    have m1 := mono _ _ h1; have m2 := mono _ _ h2
    have := sz_line (u := XI l j - XI l k) (v := XI l k - XI l i) (w := XI l j - XI l i) (zy i) (zy j) (by omega) (by omega) (by omega) (by omega)
    rw [Rat.intCast_sub, Rat.intCast_sub, Rat.intCast_sub, XI_Xa, XI_Xa, XI_Xa] at this
    exact this
noncomputable def inB : DS := (dSeq (dAsg (dCall 5 f_law_chord_z [] (dCons (dVar 3) (dCons (dVar 4) (dCons (dVar 10) (dCons (dVar 6) (dCons (dVar 11) dNil)))))) (dName 12))
    (dIfS (dTest (dCall 2 f_law_under_z [] (dCons (dVar 12) (dCons (dVar 9) dNil))))
    (dAsg (dVar 12) (dName 9)) dNext))
section
variable {l : List Tk} {m0 : Zc} {B : Nat} {S : Sto} {k : Nat} {Z : Rat} {x0 x1 x2 x5 x7 x8 : Option DV}
abbrev rs (l : List Tk) (k : Nat) (x0 x1 x2 x5 x7 x8 : Option DV) (q : Rat) (v10 v11 v12 : Option DV) : Sl := [x0, x1, x2, some (dI (hfI 0 (l.map (·.1)))), some (dF (hf 0 (l.map (·.2)))), x5, some (.int (k : Nat)), x7, x8, some (fr q), v10, v11, v12]
end
end FW
end
section
namespace FW
open PySem PyProof.Rows PySem.Spec L2 DL
noncomputable def outB : DS := (dFor (diR2 (dCons (dVar 6) (dCons (dOp (addD false) (dVar 8) (dC (.int 1))) dNil))) (dName 11) inB)
section
variable {l : List Tk} {m0 : Zc} {B : Nat} {S : Sto} {k a h : Nat} {Z : Rat} {x0 x1 x2 x5 : Option DV}
end
noncomputable def Zr (l : List Tk) (bs : List Int) (k : Nat) : Rat := rsum ((rest l bs).take k)
noncomputable def kB : DS := (dSeq (dAsg (dCall 3 f_law_ends_z [] (dCons (dCB lenD (dCons (dVar 0) dNil)) (dCons (dVar 2) (dCons (dVar 6) dNil)))) (dGTup 2 (dGCons (dName 7) (dGCons (dName 8) dGNil))))
    (dSeq (dAsg (dOp ixD (dVar 4) (dVar 6)) (dName 9))
    (dSeq (dFor (diR2 (dCons (dVar 7) (dCons (dOp (addD false) (dVar 6) (dC (.int 1))) dNil))) (dName 10)
    outB)
    (dDrop (dBM "list" appendD (dVar 5) (dCons (dVar 9) dNil))))))
theorem ss_len {l : List Tk} {m0 : Zc} (hok : ∀ t ∈ l, OkT m0 t) : ∀ (m : List Int) (c n : Nat), ((c : Int) :: (m ++ [(n : Int)])).Pairwise (· ≤ ·) → n ≤ l.length → (ss l ((c : Int) :: (m ++ [(n : Int)]))).length = n - c
  | [], c, n, hs, hn => by
    have hcn := (List.pairwise_cons.mp hs).1 (n : Int) (by simp)
    have okS : ∀ t ∈ seg l ((c : Int), (n : Int)), OkT m0 t := fun t h => hok t (seg_mem h)
    obtain ⟨_, _, q3⟩ := pools_ok okS
    show ((pools (seg l ((c : Int), (n : Int)))).flatMap lay ++ []).length = _
    rw [List.append_nil, lay_len, q3, seg_length hn (by omega)]
  | d :: m, c, n, hs, hn => by
    obtain ⟨h1, h2⟩ := List.pairwise_cons.mp hs
    have h2' : (d :: (m ++ [(n : Int)])).Pairwise (· ≤ ·) := h2
    have hcd := h1 d (by simp)
    have hdn := (List.pairwise_cons.mp h2').1 (n : Int) (by simp)
    obtain ⟨d', rfl⟩ : ∃ d' : Nat, d = (d' : Int) := ⟨d.toNat, by omega⟩
    have okS : ∀ t ∈ seg l ((c : Int), (d' : Int)), OkT m0 t := fun t h => hok t (seg_mem h)
    obtain ⟨_, _, q3⟩ := pools_ok okS
    have ih := ss_len hok m d' n h2' hn
    show ((pools (seg l ((c : Int), (d' : Int)))).flatMap lay ++ ss l ((d' : Int) :: (m ++ [(n : Int)]))).length = _
    rw [List.length_append, lay_len, q3, seg_length (by omega) (by omega), ih]
    omega
theorem rest_len {l : List Tk} {bs : List Int} {m0 : Zc} (hok : ∀ t ∈ l, OkT m0 t) (hbs : ∀ b ∈ bs, 1 ≤ b ∧ b < (l.length : Int)) : (rest l bs).length = l.length := by
  rw [rest_eq]
  have := ss_len hok (sortI bs) 0 l.length (cuts_ok hbs).1 (Nat.le_refl _)
  exact this
theorem rsum_step : ∀ {r : List Rat} {k : Nat} {q : Rat}, r[k]? = some q → rsum (r.take (k + 1)) - rsum (r.take k) = q
  | [], _, _, h => by cases h
  | x :: r, 0, q, h => by
    cases h
    simp [rsum]
    grind
  | x :: r, k + 1, q, h => by
    have := rsum_step (r := r) (k := k) (q := q) (by simpa using h)
    simp only [List.take_succ_cons, rsum]
    grind
theorem hf_length : ∀ (qs : List Rat) (q : Rat), (hf q qs).length = qs.length + 1
  | [], _ => rfl
  | p :: ps, q => by simp [hf, hf_length ps]
theorem exF_cut {S X : Sto} {d : DV} (h : clo S.length d = true) (hp : ∀ n, d ≠ .ptr n) : exF (some false) S d (S ++ X) = some (d, S) := by
  unfold exF exF1
  simp only
  split
  · rename_i hx
    have : X = [] := by simpa using hx
    subst this
    rw [List.append_nil]
  · rename_i hx
    rw [if_pos ⟨by simp at hx ⊢; exact List.length_pos_iff.mpr (fun z => hx (by simp [z])), fun n hn => .inl (by rw [List.getElem?_append_left hn])⟩]
    unfold exR
    split
    · exact absurd rfl (hp _)
    · rw [if_pos h, List.take_left]
end FW
end
section
namespace FW
open PySem PyProof.Rows PySem.Spec L2 DL
theorem hf_len : ∀ (qs : List Rat) (q : Rat), (hf q qs).length = qs.length + 1
  | [], _ => rfl
  | p :: ps, q => by simp [hf, hf_len ps]
theorem hfI_len : ∀ (qs : List Int) (q : Int), (hfI q qs).length = qs.length + 1
  | [], _ => rfl
  | p :: ps, q => by simp [hfI, hfI_len ps]
def pfr (q : Rat) : PyData := .tuple [.int q.num, .int (q.den : Int)]
theorem py_fr {r : Nat → Option PyData} (q : Rat) : py r (fr q) = some (pfr q) := rfl
theorem eqv_pfr (x y : Rat) : PyData.eqv (pfr x) (pfr y) = decide (x = y) := by
  have h : x = y ↔ x.num = y.num ∧ (x.den : Int) = (y.den : Int) := ⟨fun h => by rw [h]; exact ⟨rfl, rfl⟩, fun h => Rat.ext h.1 (by omega)⟩
  simp [pfr, PyData.eqv, PyData.eqvAll, h, Bool.beq_eq_decide_eq]
theorem sh_pfr (q : Rat) : ShN 1 (pfr q) := shN_tuple fun p hp => by
  rcases List.mem_cons.mp hp with rfl | hp
  · exact shN_int
  · cases List.mem_singleton.mp hp
    exact shN_int
theorem py_dI {S : Sto} (ws : List Int) : pyS S (dI ws) = some (.list (ws.map PyData.int)) := by
  unfold pyS dI
  simp only [py, pys_map (f := DV.int) (g := PyData.int) (fun _ => rfl), Option.map_some]
theorem py_dF {S : Sto} (ws : List Rat) : pyS S (dF ws) = some (.list (ws.map pfr)) := by
  unfold pyS dF
  simp only [py, pys_map (f := fr) (g := pfr) py_fr, Option.map_some]
theorem sh_dI (ws : List Int) : ShN 1 (.list (ws.map PyData.int)) := shN_list fun p hp => by
  obtain ⟨i, _, rfl⟩ := List.mem_map.mp hp
  exact shN_int
theorem sh_dF (ws : List Rat) : ShN 2 (.list (ws.map pfr)) := shN_list fun p hp => by
  obtain ⟨i, _, rfl⟩ := List.mem_map.mp hp
  exact sh_pfr i
theorem eqv_dI (x y : List Int) : PyData.eqv (.list (x.map PyData.int)) (.list (y.map PyData.int)) = decide (x = y) := by
  show PyData.eqvAll _ _ = _
  exact eqv_map (fun a b => by simp [PyData.eqv, Bool.beq_eq_decide_eq]) x y
theorem eqv_dF (x y : List Rat) : PyData.eqv (.list (x.map pfr)) (.list (y.map pfr)) = decide (x = y) := by
  show PyData.eqvAll _ _ = _
  exact eqv_map eqv_pfr x y
theorem kept_ok {S : Sto} {ws : List Int} {qs : List Rat} : neD (.tup [dI ws, dF qs]) (.tup [dI ws, dF qs]) S = some (.bl false, S) := by
  have h : pyS S (.tup [dI ws, dF qs]) = some (.tuple [.list (ws.map PyData.int), .list (qs.map pfr)]) := by
    have h1 := py_dI (S := S) ws
    have h2 := py_dF (S := S) qs
    unfold pyS at h1 h2 ⊢
    simp only [py, pys, h1, h2, Option.map_some]
  have hs : ShN 3 (.tuple [.list (ws.map PyData.int), .list (qs.map pfr)]) := shN_tuple fun p hp => by
    rcases List.mem_cons.mp hp with rfl | hp
    · exact ⟨(sh_dI ws).1, Nat.le_trans (sh_dI ws).2 (by decide)⟩
    · cases List.mem_singleton.mp hp
      exact sh_dF qs
  rw [neD_of h h hs hs (by decide)]
  have e : PyData.eqv (.tuple [.list (ws.map PyData.int), .list (qs.map pfr)]) (.tuple [.list (ws.map PyData.int), .list (qs.map pfr)]) = (PyData.eqv (.list (ws.map PyData.int)) (.list (ws.map PyData.int)) && (PyData.eqv (.list (qs.map pfr)) (.list (qs.map pfr)) && true)) := rfl
  rw [e, eqv_dI, eqv_dF]
  simp
section
variable {t : Tr} {G : Sto} {x y z : MO} {ds es : List DV}
end
theorem exF_bl {S : Sto} {b : Bool} : exF (some false) [] (.bl b) S = some (.bl b, []) := by
  unfold exF exF1
  simp only
  split
  · rename_i h
    have : S = [] := by simpa using h
    rw [this]
  · rename_i h
    have hp : 0 < S.length := by simp at h; exact List.length_pos_iff.mpr h
    rw [if_pos ⟨by simpa using hp, fun n hn => absurd hn (Nat.not_lt_zero _)⟩]
    rfl
end FW
end
section
namespace FW
open PySem PyProof.Rows PySem.Spec L2 DL
/-! ### at a flap that isn't bolted -/
theorem Za_step {F : List Sk} {m : Nat} {x : Sk} (h : F[m]? = some x) : Za F (m + 1) - Za F m = x.2 * (x.1.1 : Rat) := by
  have e : F.take (m + 1) = F.take m ++ [x] := by rw [List.take_succ, h]; rfl
  unfold Za
  rw [e, Zi_app]
  simp only [Zi]
  grind
/-- between pools just as much is left as ahead -/
theorem bound_of : ∀ {ps : List (List Tk)}, (∀ p ∈ ps, Good p) → ∀ (m : Nat) (x y : Sk), (fl ps)[m]? = some x → (fl ps)[m + 1]? = some y → x.2 ≠ y.2 → Za (fl ps) (m + 1) = Ya ps.flatten (m + 1)
  | [], _, m, x, y, h, _, _ => by cases h
  | p :: ps, hg, m, x, y, hx, hy, hne => by
    have g := hg p (List.mem_cons_self)
    have hx' : (sl p ++ fl ps)[m]? = some x := hx
    have hy' : (sl p ++ fl ps)[m + 1]? = some y := hy
    by_cases h1 : m + 1 < p.length
    · rw [List.getElem?_append_left (by rw [sl_len]; omega)] at hx' hy'
      unfold sl at hx' hy'
      rw [List.getElem?_map] at hx' hy'
      rw [List.getElem?_eq_getElem (by omega)] at hx' hy'
      cases hx'
      cases hy'
      exact absurd rfl hne
    · by_cases h2 : m + 1 = p.length
      · rw [h2, Za_lo (Nat.le_refl _), List.flatten_cons, Ya_lo (Nat.le_refl _)]
        unfold Xa Ya
        rw [List.take_length, ht_mul g.fl g.ne]
      · obtain ⟨n, rfl⟩ : ∃ n, m = p.length + n := ⟨m - p.length, by omega⟩
        rw [List.getElem?_append_right (by rw [sl_len]; omega), sl_len] at hx' hy'
        rw [Nat.add_sub_cancel_left] at hx'
        rw [show p.length + n + 1 - p.length = n + 1 by omega] at hy'
        have := bound_of (ps := ps) (fun q hq => hg q (List.mem_cons_of_mem _ hq)) n x y hx' hy' hne
        rw [show p.length + n + 1 = p.length + (n + 1) by omega, Za_hi g, List.flatten_cons, Ya_hi, this]
structure Flap (l : List Tk) (bs : List Int) (k : Nat) (s u : Rat) : Prop where
  le : s ≤ u
  left : Zr l bs k - Zr l bs (k - 1) = s * (Xa l k - Xa l (k - 1))
  right : Zr l bs (k + 1) - Zr l bs k = u * (Xa l (k + 1) - Xa l k)
  same : s < u → Zr l bs k = Ya l k
theorem flap_ok {l : List Tk} {bs : List Int} {m0 : Zc} (hok : ∀ t ∈ l, OkT m0 t) (hbs : ∀ b ∈ bs, 1 ≤ b ∧ b < (l.length : Int)) {k : Nat} (hk0 : 0 < k) (hkn : k < l.length) (hkb : (k : Int) ∉ bs) : ∃ s u, Flap l bs k s u := by
  obtain ⟨c1, c2⟩ := cuts_ok hbs
  have mem : ∀ x, x ∈ sortI bs ↔ x ∈ bs := fun x => (sortI_perm bs).mem_iff
  obtain ⟨a, b, e, k1, k2, _, _, k5, k6⟩ := nb_find (sortI bs) 0 (l.length : Int) k (by omega) (by omega) c1
  have ha := c2 a e.mem.1
  have hb := c2 b e.mem.2
  obtain ⟨a', rfl⟩ : ∃ a' : Nat, a = (a' : Int) := ⟨a.toNat, by omega⟩
  obtain ⟨b', rfl⟩ : ∃ b' : Nat, b = (b' : Int) := ⟨b.toNat, by omega⟩
  have hak : a' < k := by
    have : a' ≠ k := fun z => by
      rcases List.mem_cons.mp k5 with h | h
      · omega
      · exact hkb (by rw [← z]; exact (mem _).mp h)
    omega
  have hkb' : k < b' := by
    have : b' ≠ k := fun z => by
      rcases List.mem_append.mp k6 with h | h
      · exact hkb (by rw [← z]; exact (mem _).mp h)
      · have := List.mem_singleton.mp h
        omega
    omega
  have zr : ∀ m : Nat, a' ≤ m → m ≤ b' → Zr l bs m = Ya l a' + Za (fl (pools (seg l ((a' : Int), (b' : Int))))) (m - a') := fun m h1 h2 => by
    have sum := ss_sum hok e (c := 0) rfl c1 c2 m (by omega) (by omega)
    rw [← show rest l bs = ss l (0 :: (sortI bs ++ [(l.length : Int)])) from rest_eq l bs, Nat.sub_zero, Int.toNat_natCast, Y0] at sum
    unfold Zr
    rw [sum]
    grind
  have okS : ∀ t ∈ seg l ((a' : Int), (b' : Int)), OkT m0 t := fun t h => hok t (seg_mem h)
  obtain ⟨q1, q2, q3⟩ := pools_ok okS
  have ls := seg_length (l := l) (a := a') (b := b') (by omega) (by omega)
  obtain ⟨F, hF⟩ : ∃ F, F = fl (pools (seg l ((a' : Int), (b' : Int)))) := ⟨_, rfl⟩
  have uF : un F = seg l ((a' : Int), (b' : Int)) := by rw [hF, un_fl, q3]
  have lF : F.length = b' - a' := by
    have := congrArg List.length uF
    unfold un at this
    rw [List.length_map, ls] at this
    exact this
  rw [← hF] at zr
  have hx : F[k - 1 - a']? = some (F[k - 1 - a']'(by omega)) := List.getElem?_eq_getElem _
  have hy : F[k - a']? = some (F[k - a']'(by omega)) := List.getElem?_eq_getElem _
  obtain ⟨x, hxe⟩ : ∃ x, x = F[k - 1 - a']'(by omega) := ⟨_, rfl⟩
  obtain ⟨y, hye⟩ : ∃ y, y = F[k - a']'(by omega) := ⟨_, rfl⟩
  rw [← hxe] at hx
  rw [← hye] at hy
  have up : x.2 ≤ y.2 := by
    rw [hxe, hye]
    have := fl_up q2
    rw [← hF] at this
    exact List.pairwise_iff_getElem.mp this _ _ _ _ (by omega)
  have wi : ∀ (m : Nat) (z : Sk), a' ≤ m → m < b' → F[m - a']? = some z → Xa l (m + 1) - Xa l m = (z.1.1 : Rat) := fun m z h1 h2 hz => by
    have s1 := seg_Wi (l := l) (a := a') (b := b') (by omega) (m - a') (by omega)
    have s2 := seg_Wi (l := l) (a := a') (b := b') (by omega) (m + 1 - a') (by omega)
    rw [show a' + (m - a') = m by omega] at s1
    rw [show a' + (m + 1 - a') = m + 1 by omega] at s2
    have hg : (seg l ((a' : Int), (b' : Int)))[m - a']? = some z.1 := by
      rw [← uF]
      unfold un
      rw [List.getElem?_map, hz]
      rfl
    have e2 : (seg l ((a' : Int), (b' : Int))).take (m + 1 - a') = (seg l ((a' : Int), (b' : Int))).take (m - a') ++ [z.1] := by
      rw [show m + 1 - a' = m - a' + 1 by omega, List.take_succ, hg]
      rfl
    rw [s1, s2]
    unfold Xa
    rw [e2, Wi_app]
    simp only [Wi]
    grind
  have zx := Za_step hx
  have zy := Za_step hy
  rw [show k - 1 - a' + 1 = k - a' by omega] at zx
  refine ⟨x.2, y.2, up, ?_, ?_, fun hlt => ?_⟩
  · rw [zr k (by omega) (by omega), zr (k - 1) (by omega) (by omega), show k - 1 - a' = k - 1 - a' from rfl]
    have := wi (k - 1) x (by omega) (by omega) hx
    rw [show k - 1 + 1 = k by omega] at this
    rw [this]
    grind
  · rw [zr k (by omega) (by omega), zr (k + 1) (by omega) (by omega), show k + 1 - a' = k - a' + 1 by omega, wi k y (by omega) (by omega) hy]
    grind
  · have bd := bound_of (fun q hq => (q1 q hq).1) (k - 1 - a') x y (by rw [← hF]; exact hx) (by rw [← hF, show k - 1 - a' + 1 = k - a' by omega]; exact hy) (fun z => by rw [z] at hlt; exact absurd hlt (by grind))
    rw [q3, ← hF, show k - 1 - a' + 1 = k - a' by omega] at bd
    have sy := seg_Am (l := l) (a := a') (b := b') (by omega) (k - a') (by omega)
    rw [show a' + (k - a') = k by omega] at sy
    rw [zr k (by omega) (by omega), sy, bd]
end FW
end
section
namespace FW
open PySem PyProof.Rows PySem.Spec L2 DL
theorem ht_nonneg {p : List Tk} (hf : Fl p) (h0 : p ≠ []) (h : ∀ t ∈ p, 0 ≤ t.2) : 0 ≤ ht p := by
  have : 0 ≤ Am p := by
    have gen : ∀ z : List Tk, (∀ t ∈ z, 0 ≤ t.2) → 0 ≤ Am z := fun z => by
      induction z with
      | nil => intro _; exact Rat.le_refl
      | cons t z ih =>
        intro hz
        have h1 := hz t (List.mem_cons_self)
        have h2 := ih fun x hx => hz x (List.mem_cons_of_mem _ hx)
        simp only [Am]
        grind
    exact gen p h
  have hw := Wi_pos hf h0
  exact le_div hw (by rw [Rat.zero_mul]; exact this)
theorem rest_mem {l : List Tk} {bs : List Int} {m0 : Zc} (hok : ∀ t ∈ l, OkT m0 t ∧ 0 ≤ t.2) (hL : l.length ≤ 1000) (hL2 : l.length ≤ m0.L ∧ m0.B ≤ 3000) {q : Rat} (hq : q ∈ rest l bs) : 0 ≤ q ∧ Sz (m0.B + 100) q := by
  unfold rest segs at hq
  obtain ⟨pr, _, hq⟩ := List.mem_flatMap.mp hq
  obtain ⟨p, hp, hq⟩ := List.mem_flatMap.mp hq
  obtain ⟨t, ht', rfl⟩ := List.mem_map.mp hq
  have okS : ∀ t ∈ seg l pr, OkT m0 t := fun t h => (hok t (seg_mem h)).1
  obtain ⟨q1, _, q3⟩ := pools_ok okS
  have hsub : ∀ x ∈ p, x ∈ seg l pr := fun x hx => by
    rw [← q3]
    exact List.mem_flatten.mpr ⟨p, hp, hx⟩
  have op := (q1 p hp).2
  have pl' : p.length ≤ l.length := by
    have h1 : p.length ≤ (pools (seg l pr)).flatten.length := (List.sublist_flatten_of_mem hp).length_le
    rw [q3] at h1
    exact Nat.le_trans h1 seg_len
  have hn := ht_nonneg (q1 p hp).1.fl op.1 fun x hx => (hok x (seg_mem (hsub x hx))).2
  have tf := op.fl t ht'
  refine ⟨Rat.mul_nonneg hn (by have := cast_one_le tf.1; grind), ?_⟩
  obtain ⟨h1, h2⟩ := sum_small op.fl
  have h3 : 0 < p.length := List.length_pos_iff.mpr op.1
  have key := sz_share (p := t.1) (w := (p.map (·.1)).sum) (op.am pl') (by omega) (by omega) (by omega)
  have e : Am p * (t.1 : Rat) / (((p.map (·.1)).sum : Int) : Rat) = ht p * (t.1 : Rat) := by
    rw [sum_Wi]
    unfold ht
    grind
  rw [e] at key
  exact key
end FW
end
section
namespace FW
open PySem PyProof.Rows PySem.Spec L2 DL
theorem hf_rsum : ∀ {r : List Rat} {k : Nat} (a : Rat), k ≤ r.length → (hf a r)[k]? = some (a + rsum (r.take k))
  | [], k, a, hk => by
    have : k = 0 := by simpa using hk
    subst this
    simp [hf, rsum, Rat.add_zero]
  | t :: l, 0, a, _ => by simp [hf, rsum, Rat.add_zero]
  | t :: l, k + 1, a, hk => by
    have := hf_rsum (r := l) (k := k) (a + t) (by simpa using hk)
    simp only [List.take_succ_cons, hf, List.getElem?_cons_succ, this, rsum]
    congr 1
    grind
theorem chord_end {l : List Tk} (hf : Fl l) {i k : Nat} (hi : i ≤ k) (hk : k ≤ l.length) : chord l i k k = Ya l k := by
  unfold chord
  split
  · rfl
  · have hx := Xa_lt hf (show i < k by omega) hk
    have : Xa l k - Xa l i ≠ 0 := by grind
    grind
theorem zr_le {l : List Tk} {bs : List Int} {m0 : Zc} (h0 : l ≠ []) (hok : ∀ t ∈ l, OkT m0 t) (hbs : ∀ b ∈ bs, 1 ≤ b ∧ b < (l.length : Int)) {k : Nat} (hk : k ≤ l.length) : Zr l bs k ≤ Ya l k ∧ (k = 0 ∨ k = l.length ∨ (k : Int) ∈ bs → Zr l bs k = Ya l k) := by
  have hf : Fl l := fun t ht => (hok t ht).lo
  obtain ⟨a, h, lo, ma, mx, mh, mn⟩ := low_ok h0 hok hbs hk
  have e : chord l k k k = Ya l k := chord_end hf (Nat.le_refl _) hk
  refine ⟨by rw [← e]; exact lo.lo k k lo.ak (Nat.le_refl _) (Nat.le_refl _) lo.kh, fun hs => ?_⟩
  rcases hs with rfl | hs
  · rfl
  · have hh : h = k := by
      have h1 := lo.kh
      have h2 : (h : Int) ≤ k := by
        rcases hs with rfl | hs
        · exact mn _ List.mem_cons_self (Int.le_refl _)
        · exact mn _ (List.mem_cons_of_mem _ hs) (Int.le_refl _)
      omega
    obtain ⟨i, j, h1, h2, h3, h4, hc⟩ := lo.at_
    have hj : j = k := by omega
    rw [hj, chord_end hf h2 hk] at hc
    exact hc.symm
end FW
end
section
namespace FW
open PySem PyProof.Rows PySem.Spec L2 DL
/-! ### what is left at rest is the greatest of its shape -/
/-- shaped between the bolted places -/
def Shp (l : List Tk) (bs : List Int) (W : Nat → Rat) : Prop := ∀ k, 0 < k → k < l.length → (k : Int) ∉ bs → (W k - W (k - 1)) * (Xa l (k + 1) - Xa l k) ≤ (W (k + 1) - W k) * (Xa l k - Xa l (k - 1))
structure Rst (l : List Tk) (bs : List Int) (Z : Nat → Rat) : Prop where
  le : ∀ k, k ≤ l.length → Z k ≤ Ya l k
  ends : ∀ k, k ≤ l.length → (k = 0 ∨ k = l.length ∨ (k : Int) ∈ bs) → Z k = Ya l k
  flap : ∀ k, 0 < k → k < l.length → (k : Int) ∉ bs → ∃ s u, s ≤ u ∧ Z k - Z (k - 1) = s * (Xa l k - Xa l (k - 1)) ∧ Z (k + 1) - Z k = u * (Xa l (k + 1) - Xa l k) ∧ (s < u → Z k = Ya l k)
theorem mul_le2 {s u a b : Rat} (h : s ≤ u) (ha : 0 ≤ a) (hb : 0 ≤ b) : s * a * b ≤ u * b * a := by
  have h1 := mul_le_left h ha
  have h2 := mul_le_left h1 hb
  have e : u * b * a = u * a * b := by grind
  rw [e]
  exact h2
theorem Rst.shp {l : List Tk} {bs : List Int} {Z : Nat → Rat} (R : Rst l bs Z) (hf : Fl l) : Shp l bs Z := by
  intro k h0 h1 h2
  obtain ⟨s, u, h, e1, e2, _⟩ := R.flap k h0 h1 h2
  rw [e1, e2]
  have a1 := Xa_mono hf (show k - 1 ≤ k by omega)
  have a2 := Xa_mono hf (show k ≤ k + 1 by omega)
  exact mul_le2 h (by grind) (by grind)
/-- the place farthest left where most of the difference is -/
theorem most_left (D : Nat → Rat) : ∀ n : Nat, ∃ k, k ≤ n ∧ (∀ j, j ≤ n → D j ≤ D k) ∧ ∀ j, j < k → D j < D k
  | 0 => ⟨0, Nat.le_refl _, fun j hj => by rw [show j = 0 by omega]; exact Rat.le_refl, fun j hj => by omega⟩
  | n + 1 => by
    obtain ⟨k, h1, h2, h3⟩ := most_left D n
    by_cases h : D (n + 1) ≤ D k
    · refine ⟨k, by omega, fun j hj => ?_, h3⟩
      by_cases e : j = n + 1
      · rw [e]; exact h
      · exact h2 j (by omega)
    · have h' := Rat.not_le.mp h
      refine ⟨n + 1, Nat.le_refl _, fun j hj => ?_, fun j hj => ?_⟩
      · by_cases e : j = n + 1
        · rw [e]; exact Rat.le_refl
        · have := h2 j (by omega)
          grind
      · have := h2 j (by omega)
        grind
theorem slopes {a b p q s : Rat} (ha : 0 < a) (hb : 0 < b) (h : p * b ≤ q * a) (hp : s * a < p) : s * b < q := by
  refine Rat.not_le.mp fun z => ?_
  have h1 := mul_le_left z (Rat.le_of_lt ha)
  have h2 := Rat.mul_lt_mul_of_pos_right hp hb
  grind
/-- nothing of that shape that is not above is above what is left -/
theorem Rst.most {l : List Tk} {bs : List Int} {Z W : Nat → Rat} (R : Rst l bs Z) (hf : Fl l) (hW : ∀ k, k ≤ l.length → W k ≤ Ya l k) (hs : Shp l bs W) : ∀ k, k ≤ l.length → W k ≤ Z k := by
  intro k hk
  obtain ⟨m, h1, h2, h3⟩ := most_left (fun k => W k - Z k) l.length
  have hkm := h2 k hk
  refine Rat.not_lt.mp fun hlt => ?_
  have pos : 0 < W m - Z m := by grind
  have wm := hW m h1
  have ne : Z m ≠ Ya l m := fun e => by grind
  have m0 : 0 < m := by
    refine Nat.pos_of_ne_zero fun e => ne (R.ends m h1 (.inl e))
  have mn : m < l.length := by
    refine Nat.lt_of_le_of_ne h1 fun e => ne (R.ends m h1 (.inr (.inl e)))
  have mb : (m : Int) ∉ bs := fun e => ne (R.ends m h1 (.inr (.inr e)))
  obtain ⟨s, u, su, e1, e2, e3⟩ := R.flap m m0 mn mb
  have hsu : s = u := by
    refine Classical.byContradiction fun z => ne (e3 ?_)
    exact Rat.lt_of_le_of_ne su z
  have c := hs m m0 mn mb
  have d1 := h3 (m - 1) (by omega)
  have d2 := h2 (m + 1) (by omega)
  have x1 := Xa_lt hf (show m - 1 < m by omega) h1
  have x2 := Xa_lt hf (show m < m + 1 by omega) (by omega)
  have := slopes (a := Xa l m - Xa l (m - 1)) (b := Xa l (m + 1) - Xa l m) (s := s) (by grind) (by grind) c (by grind)
  subst hsu
  grind
theorem Rst.uniq {l : List Tk} {bs : List Int} {Z W : Nat → Rat} (R : Rst l bs Z) (R' : Rst l bs W) (hf : Fl l) {k : Nat} (hk : k ≤ l.length) : W k = Z k :=
  Rat.le_antisymm (R.most hf R'.le (R'.shp hf) k hk) (R'.most hf R.le (R.shp hf) k hk)
theorem zr_rst {l : List Tk} {bs : List Int} {m0 : Zc} (h0 : l ≠ []) (hok : ∀ t ∈ l, OkT m0 t) (hbs : ∀ b ∈ bs, 1 ≤ b ∧ b < (l.length : Int)) : Rst l bs (Zr l bs) where
  le := fun k hk => (zr_le h0 hok hbs hk).1
  ends := fun k hk h => (zr_le h0 hok hbs hk).2 h
  flap := fun k h1 h2 h3 => by
    obtain ⟨s, u, F⟩ := flap_ok hok hbs h1 h2 h3
    exact ⟨s, u, F.le, F.left, F.right, F.same⟩
/-- lists from what is left -/
theorem rest_of {l : List Tk} {bs : List Int} {m0 : Zc} (h0 : l ≠ []) (hok : ∀ t ∈ l, OkT m0 t) (hbs : ∀ b ∈ bs, 1 ≤ b ∧ b < (l.length : Int)) {r : List Rat} (hl : r.length = l.length) (h : ∀ k, k ≤ l.length → rsum (r.take k) = Zr l bs k) : rest l bs = r := by
  have e := rest_len (l := l) (bs := bs) hok hbs
  refine List.ext_getElem (by omega) fun k h1 h2 => ?_
  have a := rsum_step (r := rest l bs) (k := k) (List.getElem?_eq_getElem h1)
  have b := rsum_step (r := r) (k := k) (List.getElem?_eq_getElem h2)
  rw [h (k + 1) (by omega), h k (by omega)] at b
  rw [← a, ← b]
  rfl
theorem Xa_fst {l l' : List Tk} (h : l.map (·.1) = l'.map (·.1)) (k : Nat) : Xa l k = Xa l' k := by
  unfold Xa
  rw [← sum_Wi, ← sum_Wi, List.map_take, List.map_take, h]
theorem Ya_rsum : ∀ (l : List Tk) (k : Nat), Ya l k = rsum ((l.map (·.2)).take k)
  | [], k => by simp [Ya, Am, rsum]
  | t :: l, 0 => rfl
  | t :: l, k + 1 => by
    have := Ya_rsum l k
    unfold Ya at this ⊢
    simp [Am, rsum, this]
theorem len_fst {l l' : List Tk} (h : l.map (·.1) = l'.map (·.1)) : l.length = l'.length := by
  have := congrArg List.length h
  simpa using this
theorem Shp.fst {l l' : List Tk} {bs : List Int} {W : Nat → Rat} (h : l.map (·.1) = l'.map (·.1)) (g : Shp l bs W) : Shp l' bs W := by
  intro k h0 h1 h2
  have := g k h0 (by rw [len_fst h]; exact h1) h2
  rw [Xa_fst h, Xa_fst h, Xa_fst h] at this
  exact this
theorem Shp.sub {l : List Tk} {bs bs' : List Int} {W : Nat → Rat} (h : ∀ b ∈ bs, b ∈ bs') (g : Shp l bs W) : Shp l bs' W := fun k h0 h1 h2 => g k h0 h1 fun z => h2 (h _ z)
theorem Shp.add {l : List Tk} {bs : List Int} {W V : Nat → Rat} (g : Shp l bs W) (f : Shp l bs V) : Shp l bs fun k => W k + V k := by
  intro k h0 h1 h2
  have a := g k h0 h1 h2
  have b := f k h0 h1 h2
  grind
theorem Shp.mul {l : List Tk} {bs : List Int} {W : Nat → Rat} {c : Rat} (hc : 0 ≤ c) (g : Shp l bs W) : Shp l bs fun k => W k * c := by
  intro k h0 h1 h2
  have a := mul_le_left (g k h0 h1 h2) hc
  grind
theorem Rst.mul {l l' : List Tk} {bs : List Int} {Z : Nat → Rat} {c : Rat} (hc : 0 ≤ c) (h : l.map (·.1) = l'.map (·.1)) (hy : ∀ k, Ya l' k = Ya l k * c) (R : Rst l bs Z) : Rst l' bs fun k => Z k * c where
  le := fun k hk => by rw [hy]; exact mul_le_left (R.le k (by rw [len_fst h]; exact hk)) hc
  ends := fun k hk z => by rw [hy, R.ends k (by rw [len_fst h]; exact hk) (by rw [len_fst h]; exact z)]
  flap := fun k h0 h1 h2 => by
    obtain ⟨s, u, su, e1, e2, e3⟩ := R.flap k h0 (by rw [len_fst h]; exact h1) h2
    refine ⟨s * c, u * c, mul_le_left su hc, ?_, ?_, fun z => ?_⟩
    · rw [← Xa_fst h, ← Xa_fst h]; grind
    · rw [← Xa_fst h, ← Xa_fst h]; grind
    · rw [hy, e3 (by
        refine Rat.not_le.mp fun y => ?_
        have := mul_le_left y hc
        grind)]
section
variable {l l' l2 : List Tk} {bs bs' : List Int} {m0 m1 m2 : Zc}
end
end FW
end
section
namespace FW
open PySem PyProof.Rows PySem.Spec L2 DL
theorem sz_Zr {l : List Tk} {bs : List Int} {m0 : Zc} {B : Nat} (h0 : l ≠ []) (hok : ∀ t ∈ l, OkT m0 t) (hl : l.length ≤ 1000) (hB : l.length ≤ m0.L ∧ m0.B ≤ B) (hB2 : B ≤ 3000) (hbs : ∀ b ∈ bs, 1 ≤ b ∧ b < (l.length : Int)) {k : Nat} (hk : k ≤ l.length) : Sz (B + B + 51) (Zr l bs k) := by
  obtain ⟨a, h, lo, _⟩ := low_ok h0 hok hbs hk
  obtain ⟨i, j, h1, h2, h3, h4, e⟩ := lo.at_
  have e' : Zr l bs k = chord l i k j := e.symm
  rw [e']
  exact (chord_told (S := []) hok hl hB hB2 h2 h3 (Nat.le_trans h4 lo.hn)).2
theorem hf_rest {l : List Tk} {bs : List Int} {m0 : Zc} (hok : ∀ t ∈ l, OkT m0 t) (hbs : ∀ b ∈ bs, 1 ≤ b ∧ b < (l.length : Int)) {k : Nat} (hk : k ≤ l.length) : (hf 0 (rest l bs))[k]? = some (Zr l bs k) := by
  rw [hf_rsum 0 (by rw [rest_len hok hbs]; exact hk), Rat.zero_add]
  rfl
theorem mem_hf {qs : List Rat} {x : Rat} (h : x ∈ hf 0 qs) : ∃ k, k ≤ qs.length ∧ x = rsum (qs.take k) := by
  obtain ⟨k, hk, rfl⟩ := List.getElem_of_mem h
  rw [hf_length] at hk
  have e := hf_rsum (r := qs) (k := k) 0 (by omega)
  refine ⟨k, by omega, ?_⟩
  rw [List.getElem?_eq_getElem (by rw [hf_length]; exact hk), Rat.zero_add] at e
  exact Option.some.inj e
structure Row (z : Zc) (ws : List Int) (qs : List Rat) : Prop where
  ne : ws ≠ []
  fl : ∀ w ∈ ws, 1 ≤ w ∧ w ≤ 1000
  len : qs.length = ws.length
  c : ∀ q ∈ qs, z.C q
  n : ws.length ≤ 100
  zl : ws.length ≤ z.L
  zb : z.B ≤ 3000
def Bo (n : Nat) (bs : List Int) : Prop := (∀ b ∈ bs, 1 ≤ b ∧ b < (n : Int)) ∧ bs.Nodup ∧ bs.length ≤ 100
section
variable {z : Zc} {ws : List Int} {qs : List Rat} {bs : List Int} {S : Sto}
theorem Row.l1 (h : Row z ws qs) : (ws.zip qs).map (·.1) = ws := List.map_fst_zip (by have := h.len; omega)
theorem Row.l2 (h : Row z ws qs) : (ws.zip qs).map (·.2) = qs := List.map_snd_zip (by have := h.len; omega)
theorem Row.ll (h : Row z ws qs) : (ws.zip qs).length = ws.length := by rw [List.length_zip, h.len, Nat.min_self]
theorem Row.zne (h : Row z ws qs) : ws.zip qs ≠ [] := fun e => by
  have := h.ll
  rw [e] at this
  exact h.ne (List.length_eq_zero_iff.mp this.symm)
theorem Row.ok (h : Row z ws qs) : ∀ t ∈ ws.zip qs, OkT z t := fun t ht => by
  have m1 : t.1 ∈ ws := by
    have := List.mem_map_of_mem (f := (·.1)) ht
    rw [h.l1] at this
    exact this
  have m2 : t.2 ∈ qs := by
    have := List.mem_map_of_mem (f := (·.2)) ht
    rw [h.l2] at this
    exact this
  exact ⟨(h.fl _ m1).1, (h.fl _ m1).2, h.c _ m2⟩
theorem Row.bb (h : Row z ws qs) (hb : Bo ws.length bs) : ∀ b ∈ bs, 1 ≤ b ∧ b < ((ws.zip qs).length : Int) := by
  rw [h.ll]
  exact hb.1
theorem Row.rlen (h : Row z ws qs) (hb : Bo ws.length bs) : (rest (ws.zip qs) bs).length = ws.length := by
  rw [rest_len h.ok (h.bb hb), h.ll]
theorem Row.rpos (h : Row z ws qs) (h0 : ∀ q ∈ qs, 0 ≤ q) {q : Rat} (hq : q ∈ rest (ws.zip qs) bs) : 0 ≤ q ∧ Sz (z.B + 100) q :=
  rest_mem (m0 := z) (fun t ht => ⟨h.ok t ht, by
    refine h0 _ ?_
    have := List.mem_map_of_mem (f := (·.2)) ht
    rw [h.l2] at this
    exact this⟩) (by rw [h.ll]; have := h.n; omega) (by rw [h.ll]; exact ⟨h.zl, h.zb⟩) hq
theorem Row.hz (h : Row z ws qs) (h0 : ∀ q ∈ qs, 0 ≤ q) (hb : Bo ws.length bs) : Hz (z.B + z.B + 100) (rest (ws.zip qs) bs) := by
  refine ⟨fun q hq => (h.rpos h0 hq).2.mono (by omega), fun x hx => ?_⟩
  obtain ⟨k, hk, rfl⟩ := mem_hf hx
  have e : rsum ((rest (ws.zip qs) bs).take k) = Zr (ws.zip qs) bs k := rfl
  rw [e]
  rw [h.rlen hb] at hk
  refine (sz_Zr h.zne h.ok (by rw [h.ll]; have := h.n; omega) (by rw [h.ll]; exact ⟨h.zl, Nat.le_refl _⟩) h.zb (h.bb hb) (by rw [h.ll]; exact hk)).mono (by omega)
theorem Row.get (h : Row z ws qs) (hb : Bo ws.length bs) {k : Nat} (hk : k ≤ ws.length) : (hf 0 (rest (ws.zip qs) bs))[k]? = some (Zr (ws.zip qs) bs k) :=
  hf_rest h.ok (h.bb hb) (by rw [h.ll]; exact hk)
theorem Row.ya (h : Row z ws qs) (k : Nat) : Ya (ws.zip qs) k = rsum (qs.take k) := by rw [Ya_rsum, h.l2]
theorem rsum_nonneg : ∀ {r : List Rat}, (∀ q ∈ r, 0 ≤ q) → 0 ≤ rsum r
  | [], _ => Rat.le_refl
  | q :: r, h => by
    have h1 := h q (List.mem_cons_self)
    have h2 := rsum_nonneg fun x hx => h x (List.mem_cons_of_mem _ hx)
    simp only [rsum]
    grind
theorem rsum_zip : ∀ (a b : List Rat) (k : Nat), a.length = b.length → rsum ((List.zipWith (· + ·) a b).take k) = rsum (a.take k) + rsum (b.take k)
  | [], [], k, _ => by simp [rsum, Rat.add_zero]
  | x :: a, y :: b, 0, _ => by simp [rsum, Rat.add_zero]
  | x :: a, y :: b, k + 1, h => by
    have := rsum_zip a b k (by simpa using h)
    simp only [List.zipWith_cons_cons, List.take_succ_cons, rsum, this]
    grind
  | [], _ :: _, _, h => by cases h
  | _ :: _, [], _, h => by cases h
end
/-! ### a comparison, place by place -/
theorem eq_dI {S : Sto} (a b : List Int) : eqD (dI a) (dI b) S = some (.bl (decide (a = b)), S) := by
  rw [eqD_of (n := 1) (py_dI a) (py_dI b) (sh_dI a) (sh_dI b) (by decide), eqv_dI]
theorem ne_dI {S : Sto} (a b : List Int) : neD (dI a) (dI b) S = some (.bl (!decide (a = b)), S) := by
  rw [neD_of (n := 1) (py_dI a) (py_dI b) (sh_dI a) (sh_dI b) (by decide), eqv_dI]
theorem mul_mkRat {q : Rat} {p : Int} : mkRat (q.num * p) q.den = q * p := by
  have := mkRat_mul_div (q := q) (p := p) (w := 1) (by decide)
  simp at this
  rw [this]
  grind
end FW
end
section
namespace FW
open PySem PyProof.Rows PySem.Spec L2 DL
theorem cut_drop {α : Type} {xs : List α} {i : Nat} : cutL xs (some (i : Int)) none = xs.drop i := by
  unfold cutL
  have h := HT.sIx_nat xs.length 0 i
  rw [h, HT.sIx_none]
  by_cases hi : i ≤ xs.length
  · rw [Nat.min_eq_left hi, List.take_of_length_le (by simp)]
  · rw [Nat.min_eq_right (by omega), List.drop_eq_nil_of_le (Nat.le_refl _), List.drop_eq_nil_of_le (by omega)]
    simp
theorem slD_take {m : Bool} {α : Type} {f : α → DV} {xs : List α} {i : Nat} {fe fh : DE} {s : Sl} {S : Sto} (h1 : fe s S = some (.lst (xs.map f), S)) (h2 : fh s S = some (.int (i : Nat), S)) (hi : i ≤ xs.length) : dSlL m fe doN (doS fh) s S = some (newL m ((xs.take i).map f) S) := by
  have := cut_take (xs := xs.map f) (i := i) (by simpa using hi)
  simp only [dSlL, h1, h2, bnd_some', doN, doS, rdL_lst, this, List.map_take]
theorem slD_drop {m : Bool} {α : Type} {f : α → DV} {xs : List α} {i : Nat} {fe fh : DE} {s : Sl} {S : Sto} (h1 : fe s S = some (.lst (xs.map f), S)) (h2 : fh s S = some (.int (i : Nat), S)) : dSlL m fe (doS fh) doN s S = some (newL m ((xs.drop i).map f) S) := by
  have := cut_drop (xs := xs.map f) (i := i)
  simp only [dSlL, h1, h2, bnd_some', doN, doS, rdL_lst, this, List.map_drop]
theorem Sz.times {q : Rat} {B : Nat} {m : Int} (h : Sz B q) (hm : m.natAbs < 2 ^ 50) : Sz (B + 50) (q * m) := by
  rw [← mul_mkRat]
  exact sz_mkRat q.den_pos (by rw [Int.natAbs_mul, Nat.pow_add]; exact Nat.mul_lt_mul'' h.1 hm) (Nat.lt_of_lt_of_le h.2 (Nat.pow_le_pow_right (by decide) (by omega)))
theorem put_mem {a b : List Rat} {q : Rat} (h : q ∈ List.zipWith (· + ·) a b) : ∃ x y, x ∈ a ∧ y ∈ b ∧ q = x + y := by
  obtain ⟨k, hk, rfl⟩ := List.getElem_of_mem h
  rw [List.length_zipWith] at hk
  exact ⟨a[k], b[k], List.getElem_mem (by omega), List.getElem_mem (by omega), by simp⟩
end FW
end
section
namespace FW
open PySem PyProof.Rows PySem.Spec L2 DL
/-! ### a tank parted -/
noncomputable def partZ (Z : Nat → Rat) (i : Nat) (e : Rat) (k : Nat) : Rat := if k ≤ i then Z k else if k = i + 1 then Z i + (Z (i + 1) - Z i) * e else Z (k - 1)
section
variable {Z : Nat → Rat} {i : Nat} {e : Rat}
theorem part_lo {k : Nat} (h : k ≤ i) : partZ Z i e k = Z k := by unfold partZ; rw [if_pos h]
theorem part_at : partZ Z i e (i + 1) = Z i + (Z (i + 1) - Z i) * e := by unfold partZ; rw [if_neg (by omega), if_pos rfl]
theorem part_hi {k : Nat} (h : i + 1 ≤ k) : partZ Z i e (k + 1) = Z k := by unfold partZ; rw [if_neg (by omega), if_neg (by omega)]; rfl
end
structure Parted (l l' : List Tk) (bs bs' : List Int) (i : Nat) (w c d : Rat) : Prop where
  hi : i < l.length
  hl : l'.length = l.length + 1
  hw : Xa l (i + 1) = Xa l i + w
  c0 : 0 < c
  cw : c < w
  x1 : ∀ k, k ≤ i → Xa l' k = Xa l k
  x2 : Xa l' (i + 1) = Xa l i + c
  x3 : ∀ k, i + 1 ≤ k → Xa l' (k + 1) = Xa l k
  y0 : Ya l (i + 1) = Ya l i + d * w
  y1 : ∀ k, k ≤ i → Ya l' k = Ya l k
  y2 : Ya l' (i + 1) = Ya l i + d * c
  y3 : ∀ k, i + 1 ≤ k → Ya l' (k + 1) = Ya l k
  b1 : ∀ k : Nat, k ≤ i → ((k : Int) ∈ bs' ↔ (k : Int) ∈ bs)
  b2 : ((i + 1 : Nat) : Int) ∉ bs'
  b3 : ∀ k : Nat, i + 1 ≤ k → (((k + 1 : Nat) : Int) ∈ bs' ↔ (k : Int) ∈ bs)
theorem mix_le {a b c d e w : Rat} (h1 : a ≤ c) (h2 : b ≤ c + d * w) (he : 0 ≤ e) (he1 : e ≤ 1) : a + (b - a) * e ≤ c + d * (w * e) := by
  have m1 := mul_le_left h1 (show 0 ≤ 1 - e by grind)
  have m2 := mul_le_left h2 he
  grind
theorem Rst.part {l l' : List Tk} {bs bs' : List Int} {Z : Nat → Rat} {i : Nat} {w c d : Rat} (R : Rst l bs Z) (P : Parted l l' bs bs' i w c d) : Rst l' bs' (partZ Z i (c / w)) := by
  have w0 : (0 : Rat) < w := by
    have := P.c0
    have := P.cw
    grind
  have ew : c / w * w = c := by grind
  have we : w * (c / w) = c := by grind
  have e0 : 0 ≤ c / w := le_div w0 (by have := P.c0; grind)
  have e1 : c / w ≤ 1 := by
    refine Rat.not_lt.mp fun z => ?_
    have := Rat.mul_lt_mul_of_pos_right z w0
    have := P.cw
    grind
  refine ⟨fun k hk => ?_, fun k hk h => ?_, fun k h0 h1 h2 => ?_⟩
  · rw [P.hl] at hk
    by_cases h : k ≤ i
    · rw [part_lo h, P.y1 k h]
      exact R.le k (by have := P.hi; omega)
    · by_cases h' : k = i + 1
      · subst h'
        rw [part_at, P.y2]
        have a := R.le i (by have := P.hi; omega)
        have b := R.le (i + 1) (by have := P.hi; omega)
        rw [P.y0] at b
        have := mix_le a b e0 e1
        rw [we] at this
        exact this
      · obtain ⟨j, rfl⟩ : ∃ j, k = j + 1 := ⟨k - 1, by omega⟩
        rw [part_hi (by omega), P.y3 j (by omega)]
        exact R.le j (by omega)
  · rw [P.hl] at hk h
    by_cases h' : k ≤ i
    · rw [part_lo h', P.y1 k h']
      refine R.ends k (by have := P.hi; omega) ?_
      rcases h with h | h | h
      · exact .inl h
      · have := P.hi; omega
      · exact .inr (.inr ((P.b1 k h').mp h))
    · by_cases h2 : k = i + 1
      · subst h2
        rcases h with h | h | h
        · omega
        · have := P.hi; omega
        · exact absurd h P.b2
      · obtain ⟨j, rfl⟩ : ∃ j, k = j + 1 := ⟨k - 1, by omega⟩
        rw [part_hi (by omega), P.y3 j (by omega)]
        refine R.ends j (by omega) ?_
        rcases h with h | h | h
        · omega
        · exact .inr (.inl (by omega))
        · exact .inr (.inr ((P.b3 j (by omega)).mp h))
  · rw [P.hl] at h1
    by_cases hk : k < i
    · obtain ⟨s, u, su, g1, g2, g3⟩ := R.flap k h0 (by have := P.hi; omega) fun z => h2 ((P.b1 k (by omega)).mpr z)
      refine ⟨s, u, su, ?_, ?_, fun z => ?_⟩
      · rw [part_lo (by omega), part_lo (by omega), P.x1 k (by omega), P.x1 (k - 1) (by omega)]
        exact g1
      · rw [part_lo (show k + 1 ≤ i by omega), part_lo (by omega), P.x1 (k + 1) (by omega), P.x1 k (by omega)]
        exact g2
      · rw [part_lo (by omega), P.y1 k (by omega)]
        exact g3 z
    · by_cases hk1 : k = i
      · subst hk1
        obtain ⟨s, u, su, g1, g2, g3⟩ := R.flap k h0 P.hi fun z => h2 ((P.b1 k (by omega)).mpr z)
        refine ⟨s, u, su, ?_, ?_, fun z => ?_⟩
        · rw [part_lo (by omega), part_lo (by omega), P.x1 k (by omega), P.x1 (k - 1) (by omega)]
          exact g1
        · rw [part_at, part_lo (Nat.le_refl _), P.x2, P.x1 k (Nat.le_refl _), g2, P.hw]
          grind
        · rw [part_lo (Nat.le_refl _), P.y1 k (Nat.le_refl _)]
          exact g3 z
      · by_cases hk2 : k = i + 1
        · subst hk2
          refine ⟨(Z (i + 1) - Z i) / w, (Z (i + 1) - Z i) / w, Rat.le_refl, ?_, ?_, fun z => absurd z (Rat.not_lt.mpr Rat.le_refl)⟩
          · rw [show i + 1 - 1 = i by omega, part_at, part_lo (Nat.le_refl _), P.x2, P.x1 i (Nat.le_refl _)]
            grind
          · rw [part_hi (Nat.le_refl _), part_at, P.x3 _ (Nat.le_refl _), P.x2, P.hw]
            grind
        · obtain ⟨j, rfl⟩ : ∃ j, k = j + 1 := ⟨k - 1, by omega⟩
          have hj : i + 1 ≤ j := by omega
          obtain ⟨s, u, su, g1, g2, g3⟩ := R.flap j (by omega) (by omega) fun z => h2 ((P.b3 j hj).mpr z)
          refine ⟨s, u, su, ?_, ?_, fun z => ?_⟩
          · rw [part_hi hj, show j + 1 - 1 = j by omega, P.x3 j hj]
            by_cases hj1 : j = i + 1
            · subst hj1
              rw [part_at, P.x2]
              rw [show i + 1 - 1 = i by omega] at g1
              rw [P.hw] at g1 ⊢
              have : Z (i + 1) = Z i + s * w := by grind
              rw [this]
              grind
            · obtain ⟨m, rfl⟩ : ∃ m, j = m + 1 := ⟨j - 1, by omega⟩
              rw [part_hi (by omega), P.x3 m (by omega)]
              rw [show m + 1 - 1 = m by omega] at g1
              exact g1
          · rw [part_hi hj, part_hi (by omega), P.x3 j hj, P.x3 (j + 1) (by omega)]
            exact g2
          · rw [part_hi hj, P.y3 j hj]
            exact g3 z
/-! ### each stretch by itself -/
end FW
end
section
namespace FW
open PySem PyProof.Rows PySem.Spec L2 DL
/-! ### amounts by one bottom -/
def Dv (D M : Nat) (q : Rat) : Prop := ∃ x : Int, q * (D : Rat) = (x : Rat) ∧ x.natAbs ≤ M * D
theorem Dv.mk_ {D M : Nat} {q : Rat} (hD : 0 < D) (h : Dv D M q) : ∃ x : Int, q = mkRat x D ∧ x.natAbs ≤ M * D := by
  obtain ⟨x, e, b⟩ := h
  refine ⟨x, ?_, b⟩
  have hd : (D : Rat) ≠ 0 := by
    intro z
    have : D = 0 := by exact_mod_cast z
    omega
  rw [Rat.mkRat_eq_div, ← e]
  grind
theorem Dv.sz {D M B : Nat} {q : Rat} (hD : 0 < D) (h : Dv D M q) (h1 : D < 2 ^ B) (h2 : M * D < 2 ^ B) : Sz B q := by
  obtain ⟨x, rfl, b⟩ := h.mk_ hD
  exact sz_mkRat hD (by omega) h1
theorem Dv.add {D M N : Nat} {p q : Rat} (h : Dv D M p) (g : Dv D N q) : Dv D (M + N) (p + q) := by
  obtain ⟨x, e, b⟩ := h
  obtain ⟨y, f, c⟩ := g
  refine ⟨x + y, ?_, ?_⟩
  · rw [Rat.intCast_add, ← e, ← f]
    grind
  · have := Int.natAbs_add_le x y
    rw [Nat.add_mul]
    omega
theorem Dv.zero {D M : Nat} : Dv D M 0 := ⟨0, by grind, by simp⟩
theorem Dv.le {D M N : Nat} {q : Rat} (h : Dv D M q) (hm : M ≤ N) : Dv D N q := by
  obtain ⟨x, e, b⟩ := h
  exact ⟨x, e, Nat.le_trans b (Nat.mul_le_mul_right _ hm)⟩
theorem Dv.up {D M : Nat} {q : Rat} (h : Dv D M q) (E : Nat) : Dv (D * E) M q := by
  obtain ⟨x, e, b⟩ := h
  refine ⟨x * E, ?_, ?_⟩
  · rw [Rat.natCast_mul, Rat.intCast_mul, ← e, Rat.intCast_natCast]
    grind
  · rw [Int.natAbs_mul, Int.natAbs_natCast, ← Nat.mul_assoc]
    exact Nat.mul_le_mul_right _ b
theorem Dv.int {M : Nat} {x : Int} (h : x.natAbs ≤ M) : Dv 1 M (x : Rat) := ⟨x, by simp, by simpa using h⟩
/-- nought or more, and so much at most -/
theorem Dv.most {D M N : Nat} {q : Rat} (h : Dv D M q) (h0 : 0 ≤ q) (h1 : q ≤ (N : Rat)) : Dv D N q := by
  obtain ⟨x, e, b⟩ := h
  have hD : (0 : Rat) ≤ (D : Rat) := by exact_mod_cast Nat.zero_le D
  have x0 : (0 : Rat) ≤ (x : Rat) := by
    rw [← e]
    exact Rat.mul_nonneg h0 hD
  have x1 : (x : Rat) ≤ ((N * D : Nat) : Rat) := by
    rw [← e, Rat.natCast_mul]
    exact mul_le_left h1 hD
  have y0 : (0 : Int) ≤ x := by exact_mod_cast x0
  have y1 : x ≤ ((N * D : Nat) : Int) := by
    rw [← Rat.intCast_natCast] at x1
    exact_mod_cast x1
  exact ⟨x, e, by omega⟩
theorem dv_Am {D M : Nat} : ∀ (p : List Tk), (∀ t ∈ p, Dv D M t.2) → Dv D (p.length * M) (Am p)
  | [], _ => Dv.zero
  | t :: p, h => by
    have := (h t (List.mem_cons_self)).add (dv_Am p fun x hx => h x (List.mem_cons_of_mem _ hx))
    rw [List.length_cons, Nat.add_mul, Nat.one_mul, Nat.add_comm]
    exact this
def zD (D M L B : Nat) (hD : 0 < D) (h1 : D < 2 ^ B) (h2 : (L + 1) * M * D < 2 ^ B) : Zc where
  C := Dv D M
  L := L
  B := B
  one := fun q h => h.sz hD h1 (Nat.lt_of_le_of_lt (by
    rw [Nat.mul_assoc]
    exact Nat.le_mul_of_pos_left _ (by omega)) h2)
  sum := fun p h hl => ((dv_Am p h).le (Nat.mul_le_mul_right _ (show p.length ≤ L + 1 by omega))).sz hD h1 h2
/-- a number that all floors up to seventy-two in all divide -/
def LAM : Nat := 5624043567677125526551547131200
theorem lam_dvd : ∀ w : Nat, w < 73 → 0 < w → LAM % w = 0 := by decide +kernel
theorem lam_lt : LAM < 2 ^ 103 := by decide +kernel
theorem lam_pos : 0 < LAM := by decide +kernel
/-- what is told at rest -/
theorem dv_lay {D M : Nat} {p : List Tk} (hf : ∀ t ∈ p, 1 ≤ t.1) (h : ∀ t ∈ p, Dv D M t.2) (hw : (p.map (·.1)).sum ≤ 72) {q : Rat} (hq : q ∈ lay p) : Dv (D * LAM) (p.length * M) q := by
  unfold lay at hq
  obtain ⟨t, ht', rfl⟩ := List.mem_map.mp hq
  obtain ⟨x, e, b⟩ := dv_Am p h
  obtain ⟨W, hW⟩ : ∃ W : Int, W = (p.map (·.1)).sum := ⟨_, rfl⟩
  have sumge : ∀ (p : List Tk), (∀ t ∈ p, 1 ≤ t.1) → ∀ t ∈ p, t.1 ≤ (p.map (·.1)).sum ∧ 0 ≤ (p.map (·.1)).sum := by
    intro p
    induction p with
    | nil => intro _ t ht; cases ht
    | cons a p ih =>
      intro hf t ht
      have ha := hf a (List.mem_cons_self)
      have p0 : 0 ≤ (p.map (·.1)).sum := by
        cases p with
        | nil => simp
        | cons c p => exact (ih (fun x hx => hf x (List.mem_cons_of_mem _ hx)) c (List.mem_cons_self)).2
      rw [List.map_cons, List.sum_cons]
      rcases List.mem_cons.mp ht with rfl | ht
      · omega
      · have := ih (fun x hx => hf x (List.mem_cons_of_mem _ hx)) t ht
        omega
  have hs := sumge p hf t ht'
  have h1 := hf t ht'
  rw [← hW] at hs hw
  obtain ⟨w, rfl⟩ : ∃ w : Nat, W = (w : Int) := ⟨W.toNat, by omega⟩
  obtain ⟨v, hv⟩ : ∃ v : Nat, t.1 = (v : Int) := ⟨t.1.toNat, by omega⟩
  rw [hv] at hs h1 ⊢
  have hw0 : 0 < w := by omega
  have hdvd := lam_dvd w (by omega) hw0
  obtain ⟨E, hE⟩ : ∃ E, LAM = w * E := ⟨LAM / w, by have := Nat.div_add_mod LAM w; omega⟩
  have eW : Wi p = (w : Rat) := by
    rw [← sum_Wi, ← hW, Rat.intCast_natCast]
  have wne : (w : Rat) ≠ 0 := by
    intro z
    have : w = 0 := by exact_mod_cast z
    omega
  refine ⟨x * (E * v : Nat), ?_, ?_⟩
  · unfold ht
    rw [eW, hE, Rat.intCast_mul, ← e]
    simp only [Rat.natCast_mul, Rat.intCast_natCast]
    grind
  · rw [Int.natAbs_mul, Int.natAbs_natCast, hE]
    have h3 : E * v ≤ w * E := by
      rw [Nat.mul_comm w E]
      exact Nat.mul_le_mul_left _ (by omega)
    have := Nat.mul_le_mul b h3
    rw [← Nat.mul_assoc (p.length * M)]
    exact this
theorem sum_sub {p l : List Tk} (h : p.Sublist l) : (∀ t ∈ l, 1 ≤ t.1) → (p.map (·.1)).sum ≤ (l.map (·.1)).sum := by
  induction h with
  | slnil => intro _; simp
  | cons a h ih =>
    intro hf
    have := hf a (List.mem_cons_self)
    have := ih fun x hx => hf x (List.mem_cons_of_mem _ hx)
    rw [List.map_cons, List.sum_cons]
    omega
  | cons_cons a h ih =>
    intro hf
    have := ih fun x hx => hf x (List.mem_cons_of_mem _ hx)
    rw [List.map_cons, List.sum_cons, List.map_cons, List.sum_cons]
    omega
theorem seg_sub {α : Type} (l : List α) (p : Int × Int) : (seg l p).Sublist l := (List.take_sublist _ _).trans (List.drop_sublist _ _)
theorem rest_dv {D M : Nat} {l : List Tk} {bs : List Int} {m0 : Zc} (hok : ∀ t ∈ l, OkT m0 t) (hd : ∀ t ∈ l, Dv D M t.2) (hw : (l.map (·.1)).sum ≤ 72) {q : Rat} (hq : q ∈ rest l bs) : Dv (D * LAM) (l.length * M) q := by
  unfold rest segs at hq
  obtain ⟨pr, _, hq⟩ := List.mem_flatMap.mp hq
  obtain ⟨p, hp, hq⟩ := List.mem_flatMap.mp hq
  have okS : ∀ t ∈ seg l pr, OkT m0 t := fun t h => hok t (seg_mem h)
  obtain ⟨_, _, q3⟩ := pools_ok okS
  have sub : p.Sublist l := by
    have := List.sublist_flatten_of_mem hp
    rw [q3] at this
    exact this.trans (seg_sub l pr)
  have fl : ∀ t ∈ l, 1 ≤ t.1 := fun t ht => (hok t ht).lo
  have := dv_lay (D := D) (M := M) (fun t ht => fl t (sub.subset ht)) (fun t ht => hd t (sub.subset ht)) (Int.le_trans (sum_sub sub fl) hw) hq
  exact this.le (Nat.mul_le_mul_right _ sub.length_le)
/-- all that is left at rest is what was there -/
theorem rest_sum {l : List Tk} {bs : List Int} {m0 : Zc} (h0 : l ≠ []) (hok : ∀ t ∈ l, OkT m0 t) (hbs : ∀ b ∈ bs, 1 ≤ b ∧ b < (l.length : Int)) : rsum (rest l bs) = rsum (l.map (·.2)) := by
  have e := (zr_rst h0 hok hbs).ends l.length (Nat.le_refl _) (.inr (.inl rfl))
  have e1 : Zr l bs l.length = rsum (rest l bs) := by
    unfold Zr
    rw [List.take_of_length_le (by rw [rest_len hok hbs]; exact Nat.le_refl _)]
  have e2 : Ya l l.length = rsum (l.map (·.2)) := by
    rw [Ya_rsum, List.take_of_length_le (by simp)]
  rw [← e1, e, e2]
theorem le_rsum : ∀ {r : List Rat}, (∀ q ∈ r, 0 ≤ q) → ∀ q ∈ r, q ≤ rsum r
  | [], _, q, h => by cases h
  | a :: r, h0, q, h => by
    have ha := h0 a (List.mem_cons_self)
    have hr := rsum_nonneg fun x hx => h0 x (List.mem_cons_of_mem _ hx)
    simp only [rsum]
    rcases List.mem_cons.mp h with rfl | h
    · grind
    · have := le_rsum (fun x hx => h0 x (List.mem_cons_of_mem _ hx)) q h
      grind
end FW
end
section
/-! own classes: instances in the store -/
namespace DL
open PySem L2
def insOf (S : Sto) : DV → Option (Nat × Str × List (Str × DV))
  | .ptr n => match S[n]? with
    | some (.ins c fs) => some (n, c, fs)
    | _ => none
  | _ => none
def putD (f : Str) (v : DV) : List (Str × DV) → List (Str × DV)
  | [] => [(f, v)]
  | (g, x) :: r => if g = f then (g, v) :: r else (g, x) :: putD f v r
section
variable {K : PySem.W.Frag} {mg : Str → Option Value} {W W' : Wd} {S : Sto}
theorem insOf_ok {x : DV} {v : V} {n : Nat} {c : Str} {C : Addr} {fs : List (Str × DV)} (R : Rep K mg W S) (hc : mg c = some (.ref C)) (h : Den K W x v) (e : insOf S x = some (n, c, fs)) :
    ∃ a dx vfs, v = .ref a ∧ x = .ptr n ∧ S[n]? = some (.ins c fs) ∧ W.α[n]? = some a ∧ a ∈ W.α ∧ W.H a = some (.ins C dx vfs) ∧ FsR K W fs vfs := by
  cases x with
  | ptr m =>
    unfold insOf at e
    simp only at e
    split at e
    · rename_i c' fs' q
      cases e
      obtain ⟨a, rfl, ha, hm, C', dx, vfs, h0, h1, h2⟩ := ptr_ok R h q
      rw [hc] at h0
      cases h0
      exact ⟨a, dx, vfs, rfl, rfl, q, ha, hm, h1, h2⟩
    · cases e
  | _ => cases e
theorem FsR.look {f : Str} : ∀ {fs : List (Str × DV)} {vs : List (Str × V)}, FsR K W fs vs → (∀ d, fs.lookup f = some d → ∃ v, vs.lookup f = some v ∧ Den K W d v) ∧ (fs.lookup f = none → vs.lookup f = none)
  | [], _, h => by
    cases (show _ = [] from h)
    exact ⟨fun d e => (by cases e), fun _ => rfl⟩
  | p :: fs, _, h => by
    obtain ⟨v, r, rfl, h1, h2⟩ := h
    obtain ⟨i1, i2⟩ := FsR.look (f := f) h2
    obtain ⟨g, x⟩ := p
    simp only [List.lookup]
    cases e : f == g with
    | true => exact ⟨fun d q => ⟨v, rfl, by cases q; exact h1⟩, fun q => by cases q⟩
    | false => exact ⟨i1, i2⟩
theorem FsR.put {f : Str} {d : DV} {v : V} (hd : Den K W d v) : ∀ {fs : List (Str × DV)} {vs : List (Str × V)}, FsR K W fs vs → FsR K W (putD f d fs) (putF f v vs)
  | [], _, h => by
    cases (show _ = [] from h)
    exact ⟨v, [], rfl, hd, rfl⟩
  | (g, x) :: fs, _, h => by
    obtain ⟨u, r, rfl, h1, h2⟩ := h
    unfold putD putF
    by_cases e : g = f
    · rw [if_pos e, if_pos e]
      exact ⟨v, r, rfl, hd, h2⟩
    · rw [if_neg e, if_neg e]
      exact ⟨u, _, rfl, h1, FsR.put hd h2⟩
theorem FsR.len : ∀ {fs : List (Str × DV)} {vs : List (Str × V)}, FsR K W fs vs → vs.length = fs.length
  | [], _, h => by
    cases (show _ = [] from h)
    rfl
  | p :: fs, _, h => by
    obtain ⟨u, r, rfl, _, h2⟩ := h
    simp [FsR.len h2]
variable {ta tv : TE} {fe fv : DE} {taa : TA} {faa : DA} {c f m : Str} {C : Addr}
/-- o.f -/
def dFld (c f : Str) (fe : DE) : DE := fun s S => bnd (fe s S) fun x S1 => match insOf S1 x with
  | some (_, c', fs) => if c' = c then (match fs.lookup f with
    | some d => some (d, S1)
    | none => none) else none
  | none => none
theorem re_fld (hc : mg c = some (.ref C)) (cl : Cls K C) (na : NoAttr K C f) (h : RE K mg ta fe) : RE K mg (tFld K ta f) (dFld c f fe) := by
  intro W σ s S d S' Q R L e0 q
  obtain ⟨x, S1, e1, e⟩ := bnd_inv e0
  clear e0
  refine h W σ s S x S1 _ R L e1 fun v W1 x1 R1 d1 => ?_
  split at e
  · rename_i n c' fs ei
    split at e
    · rename_i hcc
      subst hcc
      split at e
      · rename_i d' el
        cases e
        obtain ⟨a, dx, vfs, rfl, _, _, _, _, h1, h2⟩ := insOf_ok R1 hc d1 ei
        obtain ⟨v, l1, l2⟩ := (FsR.look (f := f) h2).1 _ el
        exact ⟨a, C, dx, vfs, v, rfl, h1, cl, na, l1, q v W1 x1 R1 l2⟩
      · cases e
    · cases e
  · cases e
/-- o.f = e -/
def dFldS (c f : Str) (fe fv : DE) : DS := fun s S => bnd (fv s S) fun y S1 => bnd (fe s S1) fun x S2 => match insOf S2 x with
  | some (n, c', fs) => if c' = c ∧ fs.length < 1000 then some (.nx s (S2.set n (.ins c' (putD f y fs)))) else none
  | none => none
theorem rs_fld (hc : mg c = some (.ref C)) (cl : Cls K C) (na : NoAttr K C f) (h : RE K mg ta fe) (hv : RE K mg tv fv) : RS K mg (sFld K ta tv f) (dFldS c f fe fv) := by
  intro W σ s S r D R L e0 P
  obtain ⟨y, S1, e1, e01⟩ := bnd_inv e0
  obtain ⟨x, S2, e2, e⟩ := bnd_inv e01
  clear e0 e01
  refine hv W σ s S y S1 _ R L e1 fun v W1 x1 R1 d1 => ?_
  refine h W1 σ s S1 x S2 _ R1 (L.ext x1) e2 fun u W2 x2 R2 d2 => ?_
  split at e
  · rename_i n c' fs ei
    split at e
    · rename_i hcc
      obtain ⟨rfl, hl⟩ := hcc
      cases e
      obtain ⟨a, dx, vfs, rfl, _, hS, ha, hm, h1, h2⟩ := insOf_ok R2 hc d2 ei
      have xp := ext_put (o := HO.ins C dx (putF f v vfs)) R2 hm
      refine ⟨a, C, dx, vfs, rfl, h1, cl, na, by rw [h2.len]; exact hl, ?_⟩
      exact P σ (W2.put a (.ins C dx (putF f v vfs))) ((x1.trans x2).trans xp) (rep_put R2 ha ⟨C, dx, _, hc, upd_same, FsR.put ((d1.ext x2).ext xp) (FsR.ext0 xp.toEx0 h2)⟩) (L.ext ((x1.trans x2).trans xp))
    · cases e
  · cases e
/-- an instance is made -/
def mkD (c : Str) (g : List DV → Sto → Option (DV × Sto)) (xs : List DV) (S : Sto) : Option (DV × Sto) := match g (.ptr S.length :: xs) (S ++ [.ins c []]) with
  | some (.non, S2) => some (.ptr S.length, S2)
  | _ => none
theorem mk_world {x dx : Addr} (hc : mg c = some (.ref C)) (R : Rep K mg W S) (hx : W.H x = none) (hd : W.H dx = none) (ne : dx ≠ x) :
    ∃ W', W'.H = upd (upd W.H dx (.own x)) x (.ins C dx []) ∧ Ext W W' ∧ Rep K mg W' (S ++ [.ins c []]) ∧ Den K W' (.ptr S.length) (.ref x) := by
  have nP : ¬ W.P dx := fun z => R.al dx z hd
  have nA : dx ∉ W.α := fun z => R.there z hd
  have e0 := ext_loose (o := HO.own x) (Ext.refl W) hd nP nA
  have R0 := rep_loose (o := HO.own x) R nP nA (plain_none hd)
  have hx' : (W.loose dx (.own x)).H x = none := by
    show upd W.H dx (.own x) x = none
    rw [upd_ne ne.symm]
    exact hx
  refine ⟨(W.loose dx (.own x)).more x (.ins C dx []), rfl, e0.trans (ext_more hx'), rep_more R0 hx' ⟨C, dx, [], hc, upd_same, rfl⟩, x, ?_, rfl⟩
  show (W.α ++ [x])[S.length]? = some x
  rw [← R.len, List.getElem?_concat_length]
def dMake (c : Str) (n : Nat) (g : List DV → Sto → Option (DV × Sto)) (dd : List DV) (f : DA) : DE := fun s S => bnd (f s S) fun xs S1 => if (xs ++ dd).length + 1 = n then mkD c g (xs ++ dd) S1 else none
theorem re_make {n : Nat} {g : List DV → Sto → Option (DV × Sto)} {dd : List DV} {dvs : List V} {E : XK} (hc : mg c = some (.ref C)) (hd : ∀ W, Dens K W dd dvs) (h : RA K mg taa faa) : RE K mg (tMake C (spF K mg n g) dvs E taa) (dMake c n g dd faa) := by
  intro W σ s S d S' Q R L e0 q
  obtain ⟨xs, S1, e1, e⟩ := bnd_inv e0
  clear e0
  split at e
  · rename_i hl
    refine h W σ s S xs S1 _ R L e1 fun vs W1 x1 R1 d1 x dx hx hdx ne => ?_
    have da := d1.app (hd W1)
    obtain ⟨W2, h2, x2, R2, d2⟩ := mk_world hc R1 hx hdx ne
    unfold mkD at e
    split at e
    · rename_i S2 eg
      cases e
      refine ⟨by simp [← hl, da.len], W2, _, .ptr S1.length :: (xs ++ dd), .non, _, h2, R2, ⟨_, _, rfl, d2, Dens.ext x2 _ _ da⟩, eg, fun v W3 x3 R3 d3 => ⟨d3, ?_⟩⟩
      exact q _ W3 ((x1.trans x2).trans x3) R3 (d2.ext x3)
    · cases e
  · cases e
/-- o.m(..) -/
def dMeth (c m : Str) (n : Nat) (g : List DV → Sto → Option (DV × Sto)) (dd : List DV) (fe : DE) (f : DA) : DE := fun s S => bnd (fe s S) fun x S1 => match insOf S1 x with
  | some (_, c', fs) => if c' = c ∧ fs.lookup m = none then bnd (f s S1) fun xs S2 => if (x :: (xs ++ dd)).length = n then g (x :: (xs ++ dd)) S2 else none else none
  | none => none
theorem re_meth {n : Nat} {g : List DV → Sto → Option (DV × Sto)} {dd : List DV} {dvs : List V} {E : XK} (hc : mg c = some (.ref C)) (hd : ∀ W, Dens K W dd dvs) (ho : RE K mg ta fe) (h : RA K mg taa faa) : RE K mg (tMeth C m (spF K mg n g) dvs E ta taa) (dMeth c m n g dd fe faa) := by
  intro W σ s S d S' Q R L e0 q
  obtain ⟨x, S1, e1, e⟩ := bnd_inv e0
  clear e0
  refine ho W σ s S x S1 _ R L e1 fun v W1 x1 R1 d1 => ?_
  split at e
  · rename_i n' c' fs ei
    split at e
    · rename_i hcc
      obtain ⟨rfl, hm⟩ := hcc
      obtain ⟨xs, S2, e2, e'⟩ := bnd_inv e
      clear e
      split at e'
      · rename_i hl
        obtain ⟨a, dx, vfs, rfl, _, _, _, _, h1, h2⟩ := insOf_ok R1 hc d1 ei
        refine ⟨a, dx, vfs, rfl, h1, (FsR.look (f := m) h2).2 hm, ?_⟩
        refine h W1 σ s S1 xs S2 _ R1 (L.ext x1) e2 fun vs W2 x2 R2 d2 => ?_
        have da : Dens K W2 (x :: (xs ++ dd)) (.ref a :: (vs ++ dvs)) := ⟨_, _, rfl, d1.ext x2, d2.app (hd W2)⟩
        exact ⟨by rw [da.len]; exact hl, W2, S2, _, d, S', rfl, R2, da, e', fun v W' x' R' d' => q v W' ((x1.trans x2).trans x') R' d'⟩
      · cases e'
    · cases e
  · cases e
theorem re_meth0 {n : Nat} {g : List DV → Sto → Option (DV × Sto)} {E : XK} (hc : mg c = some (.ref C)) (ho : RE K mg ta fe) (h : RA K mg taa faa) : RE K mg (tMeth C m (spF K mg n g) [] E ta taa) (dMeth c m n g [] fe faa) := re_meth hc (fun _ => rfl) ho h
end
end DL
end
section
namespace DL
open PySem PyProof.Rows PySem.Spec L2
section
variable {K : PySem.W.Frag} {mg : Str → Option Value} {W W' : Wd} {S : Sto}
/-- a list so many times -/
noncomputable def repD (m : Bool) : D2 := fun x y S => match trL S x, y with
  | some ds, .int k => gate (0 ≤ k ∧ k ≤ 100000 ∧ ds.length * k.toNat ≤ 100000) (some (newL m (List.replicate k.toNat ds).flatten S))
  | _, _ => none
theorem dens_rep {ds : List DV} {vs : List V} (h : Dens K W ds vs) : ∀ n : Nat, Dens K W (List.replicate n ds).flatten (List.replicate n vs).flatten
  | 0 => by
    show _ = []
    rfl
  | n + 1 => by
    rw [List.replicate_succ, List.replicate_succ, List.flatten_cons, List.flatten_cons]
    exact h.app (dens_rep h n)
theorem ro_rep {m : Bool} : RO K mg rRep (repD m) := by
  intro W S x y v u d S' Q R hx hy e q
  unfold repD at e
  split at e
  · rename_i ds k e1
    obtain ⟨hk, e⟩ := gate_inv e
    obtain ⟨a, vs, rfl, h1, h2⟩ := trL_ok R hx e1
    cases (show u = V.int k from hy)
    refine ⟨a, k, vs, rfl, rfl, h1, by omega, by omega, by rw [h2.len]; exact lim_le hk.2.2, fun p hp => ?_⟩
    obtain ⟨W2, e2, x2, R2, d2⟩ := newL_ok R hp (dens_rep h2 k.toNat) (Option.some.inj e)
    rw [← e2]
    exact q _ W2 x2 R2 d2
  · cases e
/-! ### in range(n) -/
def rRg1 : List V → Hp → VK → Prop := fun vs H Q => ∃ j, vs = [V.int j] ∧ ∀ p, H p = none → Q (.ref p) (upd H p (.rng 0 j))
theorem cr_rg1 {X : Cx} : CallR X (.type "range") rRg1 := by
  intro pins s σ H vs us Q I r h
  obtain ⟨j, rfl, q⟩ := h
  cases r with
  | cons rj rn =>
    cases rn
    obtain ⟨u, rfl⟩ := rj
    refine call_range_1 ⟨.ref s.heap.objs.size, upd H s.heap.objs.size (.rng 0 j), I.laid (t' := s.toks + 1 + 1) (fun b o e => Heap.get?_push_of_some _ e) (Nat.le_refl _) ?_, rfl, q _ (I.hok.fresh (Nat.le_refl _))⟩
    exact ⟨s.toks, u, s.toks + 1, Heap.get?_push_size _ rfl⟩
variable {te : TE} {fe : DE} {ta : TA} {fa : DA}
@[simp] def dInRg1 (neg : Bool) (f : DE) (g : DA) : DE := fun s S => bnd (f s S) fun x S1 => bnd (g s S1) fun ds S2 => match x, ds with
  | .int i, [.int hi] => some (.bl (if neg then !decide (0 ≤ i ∧ i < hi) else decide (0 ≤ i ∧ i < hi)), S2)
  | _, _ => none
theorem re_inRg1 {neg : Bool} (h : RE K mg te fe) (g : RA K mg ta fa) : RE K mg (tOp (rInRg neg) te (tCB rRg1 ta)) (dInRg1 neg fe fa) := by
  intro W σ s S d S' Q R L e q
  obtain ⟨x, S1, e1, e⟩ := bnd_inv e
  obtain ⟨ds, S2, e2, e⟩ := bnd_inv e
  split at e
  · rename_i i hi _
    cases e
    refine h W σ s S _ S1 _ R L e1 fun v W1 x1 R1 d1 => ?_
    refine g W1 σ s S1 _ _ _ R1 (L.ext x1) e2 fun vs W2 x2 R2 d2 => ?_
    obtain ⟨u, r, rfl, du, dr⟩ := d2
    cases (show u = V.int hi from du)
    cases (show r = [] from dr)
    refine ⟨hi, rfl, fun p hp => ?_⟩
    cases (show v = V.int i from d1)
    exact ⟨i, p, 0, hi, rfl, rfl, upd_same, q _ (W2.froz p (.rng 0 hi)) ((x1.trans x2).trans (ext_froz hp)) (rep_froz R2 hp) rfl⟩
  · cases e
end
end DL
end
section
namespace FW
open PySem PyProof.Rows PySem.Spec L2 DL
/-! ### each def as a function of data -/
noncomputable def b_History_water_z : DS :=
    (dSeq (dIfS (dTest (dIsN false (dVar 1)))
    (dRet (dCB (listD false) (dCons (dOp ixD (dFld "History" "_waters" (dVar 0)) (dUn negD (dC (.int 1)))) dNil))) dNext)
    (dSeq (dIfS (dTest (dInRg1 true (dVar 1) (dCons (dCB lenD (dCons (dFld "History" "_waters" (dVar 0)) dNil)) dNil)))
    dNever dNext)
    (dRet (dCB (listD false) (dCons (dOp ixD (dFld "History" "_waters" (dVar 0)) (dVar 1)) dNil)))))
noncomputable def f_History_water_z : List DV → Sto → Option (DV × Sto) := fnF (some false) 2 b_History_water_z
noncomputable def b_History_step_z : DS :=
    (dSeq (dDrop (dCall 2 f_check_bolted_z [] (dCons (dFld "History" "_floors" (dVar 0)) (dCons (dVar 1) dNil))))
    (dSeq (dDrop (dCall 2 f_check_water_z [] (dCons (dFld "History" "_floors" (dVar 0)) (dCons (dVar 2) dNil))))
    (dSeq (dAsg (dLc false (diZ (dCons (dOp ixD (dFld "History" "_waters" (dVar 0)) (dUn negD (dC (.int 1)))) (dCons (dVar 2) dNil))) (dGTup 2 (dGCons (dName 4) (dGCons (dName 5) dGNil))) dYes (dCall 2 f_plus_z [] (dCons (dVar 4) (dCons (dVar 5) dNil))) [4, 5]) (dName 3))
    (dSeq (dDrop (dBM "list" appendD (dFld "History" "_waters" (dVar 0)) (dCons (dCall 3 f_settled_z [] (dCons (dFld "History" "_floors" (dVar 0)) (dCons (dVar 3) (dCons (dVar 1) dNil)))) dNil)))
    (dDrop (dBM "list" appendD (dFld "History" "_steps" (dVar 0)) (dCons (dTup (dCons (dCB (sortBD false) (dCons (dVar 1) dNil)) (dCons (dCB (listD false) (dCons (dVar 2) dNil)) dNil))) dNil)))))))
noncomputable def f_History_step_z : List DV → Sto → Option (DV × Sto) := fnF (some false) 6 b_History_step_z
noncomputable def b_History_init_r : DS :=
    (dSeq (dDrop (dCall 1 f_check_floors_z [] (dCons (dVar 1) dNil)))
    (dSeq (dAsg (dIf (dTest (dIsN false (dVar 2))) (dOp (repD false) (dLst false (dCons (dC (.tup [(.int 0), (.int 1)])) dNil)) (dCB lenD (dCons (dVar 1) dNil))) (dCB (listD false) (dCons (dVar 2) dNil))) (dName 3))
    (dSeq (dDrop (dCall 2 f_check_water_z [] (dCons (dVar 1) (dCons (dVar 3) dNil))))
    (dSeq (dFldS "History" "_floors" (dVar 0) (dCB (listD false) (dCons (dVar 1) dNil)))
    (dSeq (dFldS "History" "_steps" (dVar 0) (dLst true dNil))
    (dFldS "History" "_waters" (dVar 0) (dLst true (dCons (dVar 3) dNil))))))))
noncomputable def f_History_init_r : List DV → Sto → Option (DV × Sto) := fnF none 4 b_History_init_r
end FW
end
section
namespace FB
open PySem PyProof.Rows PySem.Spec L2 DL FW
/-! ### each def as a function of data -/
noncomputable def b_law_take_z : DS :=
    (dSeq (dWhile (dAnd (dTest (dOp neD (dOp ixD (dVar 0) (dC (.int 0))) (dLst false dNil))) (dTest (dOp ltD (dOp ixD (dOp ixD (dVar 0) (dC (.int 0))) (dUn negD (dC (.int 1)))) (dC (.int 2)))))
    (dDrop (dBM0 "list" popD (dOp ixD (dVar 0) (dC (.int 0))))))
    (dSeq (dIfS (dTest (dOp neD (dOp ixD (dVar 0) (dC (.int 0))) (dLst false dNil)))
    (dSeq (dAsg (dOp modD (dOp ixD (dOp ixD (dVar 0) (dC (.int 0))) (dUn negD (dC (.int 1)))) (dVar 1)) (dName 2))
    (dSeq (dAsg (dOp fdivD (dOp ixD (dOp ixD (dVar 0) (dC (.int 0))) (dUn negD (dC (.int 1)))) (dVar 1)) (dSub (dOp ixD (dVar 0) (dC (.int 0))) (dUn negD (dC (.int 1)))))
    (dRet (dVar 2)))) dNext)
    (dSeq (dAsg (dOp (addD false) (dOp ixD (dVar 0) (dC (.int 2))) (dC (.int 1))) (dSub (dVar 0) (dC (.int 2))))
    (dSeq (dAsg (dOp ixD (dVar 0) (dC (.int 2))) (dName 3))
    (dSeq (dAsg (dOp (addD false) (dOp mulD (dOp (addD false) (dOp ixD (dVar 0) (dC (.int 1))) (dC (.int 40503))) (dOp powD (dOp (addD false) (dVar 3) (dC (.int 5))) (dC (.int 3)))) (dOp mulD (dC (.int 69621)) (dVar 3))) (dName 4))
    (dRet (dOp modD (dOp fdivD (dOp modD (dOp powD (dOp modD (dVar 4) (dC (.int 2305843009213693951))) (dC (.int 3))) (dC (.int 1000000007))) (dC (.int 64))) (dVar 1))))))))
noncomputable def f_law_take_z : List DV → Sto → Option (DV × Sto) := fnF (some false) 5 b_law_take_z
noncomputable def b_law_low_z : DS :=
    (dSeq (dPar 2 3 (dCons (dCB absD (dCons (dVar 0) dNil)) (dCons (dVar 1) dNil)))
    (dSeq (dWhile (dTest (dOp neD (dVar 3) (dC (.int 0))))
    (dPar 2 3 (dCons (dVar 3) (dCons (dOp modD (dVar 2) (dVar 3)) dNil))))
    (dRet (dTup (dCons (dOp fdivD (dVar 0) (dVar 2)) (dCons (dOp fdivD (dVar 1) (dVar 2)) dNil))))))
noncomputable def f_law_low_z : List DV → Sto → Option (DV × Sto) := fnF (some false) 4 b_law_low_z
noncomputable def b_law_amount_z : DS :=
    (dSeq (dAsg (dLst false (dCons (dC (.int 0)) (dCons (dCall 2 f_law_take_z [] (dCons (dVar 0) (dCons (dC (.int 10)) dNil))) (dCons (dCall 2 f_law_take_z [] (dCons (dVar 0) (dCons (dC (.int 100)) dNil))) (dCons (dOp (addD false) (dOp mulD (dCall 2 f_law_take_z [] (dCons (dVar 0) (dCons (dOp powD (dC (.int 10)) (dC (.int 6))) dNil))) (dOp powD (dC (.int 10)) (dC (.int 6)))) (dCall 2 f_law_take_z [] (dCons (dVar 0) (dCons (dOp powD (dC (.int 10)) (dC (.int 6))) dNil)))) dNil))))) (dName 1))
    (dSeq (dAsg (dCall 2 f_law_take_z [] (dCons (dVar 0) (dCons (dC (.int 4)) dNil))) (dName 2))
    (dRet (dCall 2 f_law_low_z [] (dCons (dOp ixD (dVar 1) (dVar 2)) (dCons (dOp ixD (dLst false (dCons (dC (.int 1)) (dCons (dC (.int 1)) (dCons (dOp (addD false) (dC (.int 1)) (dCall 2 f_law_take_z [] (dCons (dVar 0) (dCons (dC (.int 12)) dNil)))) (dCons (dOp (addD false) (dC (.int 1)) (dCall 2 f_law_take_z [] (dCons (dVar 0) (dCons (dC (.int 60)) dNil)))) dNil))))) (dVar 2)) dNil))))))
noncomputable def f_law_amount_z : List DV → Sto → Option (DV × Sto) := fnF (some false) 3 b_law_amount_z
noncomputable def b_law_tanks_z : DS :=
    (dSeq (dAsg (dTup (dCons (dOp (addD false) (dC (.int 1)) (dCall 2 f_law_take_z [] (dCons (dVar 0) (dCons (dVar 1) dNil)))) (dCons (dCall 2 f_law_take_z [] (dCons (dVar 0) (dCons (dC (.int 3)) dNil))) dNil))) (dGTup 2 (dGCons (dName 2) (dGCons (dName 3) dGNil))))
    (dRet (dLc false (diR1 (dCons (dVar 2) dNil)) (dName 4) dYes (dOp (addD false) (dC (.int 1)) (dCall 2 f_law_take_z [] (dCons (dVar 0) (dCons (dOp ixD (dLst false (dCons (dC (.int 1)) (dCons (dC (.int 3)) (dCons (dC (.int 9)) dNil)))) (dVar 3)) dNil)))) [4])))
noncomputable def f_law_tanks_z : List DV → Sto → Option (DV × Sto) := fnF (some false) 5 b_law_tanks_z
noncomputable def b_law_deck_r : DS :=
    (dSeq (dAsg (dLst true dNil) (dName 1))
    (dSeq (dAsg (dC (.int 11)) (dName 2))
    (dSeq (dFor (diL (dVar 0)) (dName 3)
    (dSeq (dAsg (dOp modD (dOp (addD false) (dOp mulD (dVar 2) (dC (.int 1000003))) (dVar 3)) (dC (.int 2305843009213693951))) (dName 2))
    (dIfS (dTest (dOp geD (dCB absD (dCons (dVar 3) dNil)) (dOp powD (dC (.int 10)) (dC (.int 18)))))
    (dDrop (dBM "list" insertD (dVar 1) (dCons (dC (.int 0)) (dCons (dOp subD (dCB absD (dCons (dVar 3) dNil)) (dOp powD (dC (.int 10)) (dC (.int 18)))) dNil)))) dNext)))
    (dRet (dLst true (dCons (dVar 1) (dCons (dVar 2) (dCons (dC (.int 0)) dNil))))))))
noncomputable def f_law_deck_r : List DV → Sto → Option (DV × Sto) := fnF none 4 b_law_deck_r
end FB
end
section
namespace FW
open PySem PyProof.Rows PySem.Spec L2 DL
/-! ### a History in the store -/
def stD (p : List Int × List Rat) : DV := .tup [dI p.1, dF p.2]
def hfl (n : Nat) (ws : List Int) : List (Str × DV) := [("_floors", dI ws), ("_steps", .ptr (n + 1)), ("_waters", .ptr (n + 2))]
def hobj (n : Nat) (ws : List Int) (wss : List (List Rat)) (sts : List (List Int × List Rat)) : Sto := [.ins "History" (hfl n ws), .ml (sts.map stD), .ml (wss.map dF)]
structure HAt (S : Sto) (n : Nat) (ws : List Int) (wss : List (List Rat)) (sts : List (List Int × List Rat)) : Prop where
  o : S[n]? = some (.ins "History" (hfl n ws))
  s : S[n + 1]? = some (.ml (sts.map stD))
  w : S[n + 2]? = some (.ml (wss.map dF))
theorem lk_f {n : Nat} {ws : List Int} : (hfl n ws).lookup ("_floors" : Str) = some (dI ws) := rfl
theorem lk_s {n : Nat} {ws : List Int} : (hfl n ws).lookup ("_steps" : Str) = some (.ptr (n + 1)) := by
  unfold hfl
  rw [List.lookup, show (("_steps" : Str) == ("_floors" : Str)) = false by decide +kernel]
  rfl
theorem lk_w {n : Nat} {ws : List Int} : (hfl n ws).lookup ("_waters" : Str) = some (.ptr (n + 2)) := by
  unfold hfl
  rw [List.lookup, show (("_waters" : Str) == ("_floors" : Str)) = false by decide +kernel, List.lookup, show (("_waters" : Str) == ("_steps" : Str)) = false by decide +kernel]
  rfl
theorem lk_no {n : Nat} {ws : List Int} {m : Str} (h1 : (m == "_floors") = false) (h2 : (m == "_steps") = false) (h3 : (m == "_waters") = false) : (hfl n ws).lookup m = none := by
  unfold hfl
  rw [List.lookup, h1, List.lookup, h2, List.lookup, h3]
  rfl
theorem lk_step {n : Nat} {ws : List Int} : (hfl n ws).lookup ("step" : Str) = none := lk_no (by decide +kernel) (by decide +kernel) (by decide +kernel)
theorem lk_water {n : Nat} {ws : List Int} : (hfl n ws).lookup ("water" : Str) = none := lk_no (by decide +kernel) (by decide +kernel) (by decide +kernel)
section
variable {S : Sto} {n : Nat} {ws : List Int} {wss : List (List Rat)} {sts : List (List Int × List Rat)} {fe : DE} {s : Sl}
theorem HAt.ins (h : HAt S n ws wss sts) : insOf S (.ptr n) = some (n, ("History" : Str), hfl n ws) := by
  simp only [insOf, h.o]
theorem HAt.fF (h : HAt S n ws wss sts) (e : fe s S = some (.ptr n, S)) : dFld "History" "_floors" fe s S = some (dI ws, S) := by
  unfold dFld
  rw [e, bnd_some', h.ins]
  simp only [if_true, lk_f]
theorem HAt.fS (h : HAt S n ws wss sts) (e : fe s S = some (.ptr n, S)) : dFld "History" "_steps" fe s S = some (.ptr (n + 1), S) := by
  unfold dFld
  rw [e, bnd_some', h.ins]
  simp only [if_true, lk_s]
theorem HAt.fW (h : HAt S n ws wss sts) (e : fe s S = some (.ptr n, S)) : dFld "History" "_waters" fe s S = some (.ptr (n + 2), S) := by
  unfold dFld
  rw [e, bnd_some', h.ins]
  simp only [if_true, lk_w]
theorem HAt.rdW (h : HAt S n ws wss sts) : rdL S (.ptr (n + 2)) = some (wss.map dF) := by
  unfold rdL
  simp only [h.w]
theorem HAt.rdS (h : HAt S n ws wss sts) : rdL S (.ptr (n + 1)) = some (sts.map stD) := by
  unfold rdL
  simp only [h.s]
/-- the water now -/
theorem ix_last {S : Sto} {d : DV} {xs : List (List Rat)} {w : List Rat} (h : rdL S d = some ((xs ++ [w]).map dF)) : ixD d (.int (-1)) S = some (dF w, S) := by
  have : L2.atI ((xs ++ [w]).map dF) (-1) = some (dF w) := by
    rw [List.map_append]
    exact L2.atI_last _ _
  simp only [ixD, h, Option.or, this]
variable {w : List Rat} {xs : List (List Rat)}
theorem HAt.now (h : HAt S n ws (xs ++ [w]) sts) (e : fe s S = some (.ptr n, S)) : dOp ixD (dFld "History" "_waters" fe) (dUn negD (dC (.int 1))) s S = some (dF w, S) := by
  rw [dOp, h.fW e, bnd_some']
  simp only [dUn, dC, bnd_some', negD_int]
  exact ix_last h.rdW
theorem list_ok {S : Sto} {m : Bool} {d : DV} {ds : List DV} (h : rdL S d = some ds) : listD m [d] S = some (newL m ds S) := by
  unfold listD
  simp [h]
theorem water_now (h : HAt S n ws (xs ++ [w]) sts) : f_History_water_z [.ptr n, .non] S = some (dF w, S) := by
  refine fn_rt (d := dF w) (S1 := S) ?_ (by simp)
  refine seq_rt (if_t (S1 := S) (by simp) (ret_of ?_))
  have e := h.now (fe := dVar 0) (s := [some (.ptr n), some .non]) (by simp)
  show dCB _ (dCons _ dNil) [some (.ptr n), some .non] S = _
  rw [dCB, dCons, e]
  simp only [bnd_some', dNil]
  exact list_ok rfl
end
end FW
end
section
namespace FW
open PySem PyProof.Rows PySem.Spec L2 DL
/-! ### waters behind so many steps -/
def TOT (j : Nat) : Nat := (j + 1) * 2 ^ 45
noncomputable def DN (j : Nat) : Nat := LAM ^ (j + 1)
theorem dn_pos (j : Nat) : 0 < DN j := Nat.pow_pos lam_pos
theorem dn_succ (j : Nat) : DN (j + 1) = DN j * LAM := by
  unfold DN
  rw [Nat.pow_succ]
theorem dn_le {j : Nat} (h : j ≤ 11) : DN j ≤ 2 ^ 1236 := by
  have h1 : LAM ^ (j + 1) ≤ (2 ^ 103) ^ (j + 1) := Nat.pow_le_pow_left (Nat.le_of_lt lam_lt) _
  rw [← Nat.pow_mul] at h1
  exact Nat.le_trans h1 (Nat.pow_le_pow_right (by decide) (by omega))
theorem zj_1 {j : Nat} (h : j ≤ 11) : DN j < 2 ^ 1400 := Nat.lt_of_le_of_lt (dn_le h) (Nat.pow_lt_pow_right (by decide) (by decide))
theorem zj_2 {j : Nat} (h : j ≤ 11) : (9 + 1) * TOT (j + 1) * DN j < 2 ^ 1400 := by
  have h1 : (9 + 1) * TOT (j + 1) ≤ 2 ^ 53 := by
    unfold TOT
    have : (j + 1 + 1) * 2 ^ 45 ≤ 13 * 2 ^ 45 := Nat.mul_le_mul_right _ (by omega)
    have e : (2 : Nat) ^ 53 = 256 * 2 ^ 45 := by decide
    omega
  have h2 := Nat.mul_le_mul h1 (dn_le h)
  rw [← Nat.pow_add] at h2
  exact Nat.lt_of_le_of_lt h2 (Nat.pow_lt_pow_right (by decide) (by decide))
/-- the kind of amounts behind j steps, with some rain upon them -/
noncomputable def zj (j : Nat) : Zc := if h : j ≤ 11 then zD (DN j) (TOT (j + 1)) 9 1400 (dn_pos j) (zj_1 h) (zj_2 h) else zS 1 9
theorem zj_eq {j : Nat} (h : j ≤ 11) : zj j = zD (DN j) (TOT (j + 1)) 9 1400 (dn_pos j) (zj_1 h) (zj_2 h) := dif_pos h
theorem zj_C {j : Nat} (h : j ≤ 11) (q : Rat) : (zj j).C q = Dv (DN j) (TOT (j + 1)) q := by rw [zj_eq h]; rfl
theorem zj_L {j : Nat} (h : j ≤ 11) : (zj j).L = 9 := by rw [zj_eq h]; rfl
theorem zj_B {j : Nat} (h : j ≤ 11) : (zj j).B = 1400 := by rw [zj_eq h]; rfl
structure Flo (ws : List Int) : Prop where
  ne : ws ≠ []
  fl : ∀ w ∈ ws, 1 ≤ w ∧ w ≤ 9
  n : ws.length ≤ 8
theorem Flo.sum {ws : List Int} (h : Flo ws) : ws.sum ≤ 72 := by
  have : ∀ ws : List Int, (∀ w ∈ ws, 1 ≤ w ∧ w ≤ 9) → ws.sum ≤ 9 * ws.length := by
    intro ws
    induction ws with
    | nil => intro _; simp
    | cons w ws ih =>
      intro h
      have h1 := ih fun x hx => h x (List.mem_cons_of_mem _ hx)
      have h2 := (h w (List.mem_cons_self)).2
      rw [List.sum_cons, List.length_cons]
      push_cast
      omega
  have := this ws h.fl
  have := h.n
  omega
structure Wt (j : Nat) (ws : List Int) (w : List Rat) : Prop where
  len : w.length = ws.length
  pos : ∀ q ∈ w, 0 ≤ q
  dv : ∀ q ∈ w, Dv (DN j) (TOT j) q
  tot : rsum w ≤ (TOT j : Rat)
theorem rsum_put {a b : List Rat} (h : a.length = b.length) : rsum (List.zipWith (· + ·) a b) = rsum a + rsum b := by
  have := rsum_zip a b a.length h
  rw [List.take_of_length_le (by rw [List.length_zipWith]; omega), List.take_of_length_le (Nat.le_refl _), List.take_of_length_le (by omega)] at this
  exact this
theorem tot_le {i j : Nat} (h : i ≤ j) : TOT i ≤ TOT j := Nat.mul_le_mul_right _ (by omega)
theorem dv_up {i j M : Nat} {q : Rat} (h : Dv (DN i) M q) (hij : i ≤ j) : Dv (DN j) M q := by
  obtain ⟨e, rfl⟩ : ∃ e, j = i + e := ⟨j - i, by omega⟩
  have e1 : DN (i + e) = DN i * LAM ^ e := by
    unfold DN
    rw [← Nat.pow_add]
    congr 1
    omega
  rw [e1]
  exact h.up _
theorem Wt.row {j : Nat} {ws : List Int} {w : List Rat} (h : Wt j ws w) (f : Flo ws) (hj : j ≤ 11) : Row (zj j) ws w :=
  ⟨f.ne, fun x hx => by have := f.fl x hx; omega, h.len, fun q hq => by rw [zj_C hj]; exact (h.dv q hq).le (tot_le (by omega)), by have := f.n; omega, by rw [zj_L hj]; have := f.n; omega, by rw [zj_B hj]; decide⟩
/-- with rain upon it -/
theorem Wt.put {j : Nat} {ws : List Int} {w r : List Rat} (h : Wt j ws w) (g : Wt 0 ws r) (f : Flo ws) (hj : j ≤ 11) :
    Row (zj j) ws (List.zipWith (· + ·) w r) ∧ (∀ q ∈ List.zipWith (· + ·) w r, 0 ≤ q ∧ Dv (DN j) (TOT (j + 1)) q) ∧ rsum (List.zipWith (· + ·) w r) ≤ (TOT (j + 1) : Rat) := by
  have m : ∀ q ∈ List.zipWith (· + ·) w r, 0 ≤ q ∧ Dv (DN j) (TOT (j + 1)) q := fun q hq => by
    obtain ⟨x, y, hx, hy, rfl⟩ := put_mem hq
    refine ⟨Rat.add_nonneg (h.pos x hx) (g.pos y hy), ?_⟩
    have := (h.dv x hx).add (dv_up (g.dv y hy) (Nat.zero_le j))
    refine this.le ?_
    unfold TOT
    omega
  refine ⟨⟨f.ne, fun x hx => by have := f.fl x hx; omega, by simp [h.len, g.len], fun q hq => by rw [zj_C hj]; exact (m q hq).2, by have := f.n; omega, by rw [zj_L hj]; have := f.n; omega, by rw [zj_B hj]; decide⟩, m, ?_⟩
  rw [rsum_put (by rw [h.len, g.len])]
  have e : (TOT (j + 1) : Rat) = (TOT j : Rat) + (TOT 0 : Rat) := by
    have e0 : TOT (j + 1) = TOT j + TOT 0 := by
      unfold TOT
      omega
    rw [e0, Rat.natCast_add]
  rw [e]
  have a := h.tot
  have b := g.tot
  grind
theorem Wt.step {j : Nat} {ws bs : List Int} {w r : List Rat} (h : Wt j ws w) (g : Wt 0 ws r) (f : Flo ws) (hj : j ≤ 11) (hb : Bo ws.length bs) : Wt (j + 1) ws (rest (ws.zip (List.zipWith (· + ·) w r)) bs) := by
  obtain ⟨R, m, t⟩ := h.put g f hj
  have rs := rest_sum R.zne R.ok (R.bb hb)
  rw [R.l2] at rs
  have pos : ∀ q ∈ rest (ws.zip (List.zipWith (· + ·) w r)) bs, 0 ≤ q := fun q hq => (R.rpos (fun q hq => (m q hq).1) hq).1
  refine ⟨R.rlen hb, pos, fun q hq => ?_, by rw [rs]; exact t⟩
  have d := rest_dv (D := DN j) (M := TOT (j + 1)) R.ok (fun x hx => by
    refine (m _ ?_).2
    have := List.mem_map_of_mem (f := (·.2)) hx
    rw [R.l2] at this
    exact this) (by rw [R.l1]; exact f.sum) hq
  rw [← dn_succ] at d
  refine d.most (pos q hq) ?_
  refine Rat.le_trans (le_rsum pos q hq) ?_
  rw [rs]
  exact t
def hset (S : Sto) (n : Nat) (wss : List (List Rat)) (sts : List (List Int × List Rat)) : Sto := (S.set (n + 2) (.ml (wss.map dF))).set (n + 1) (.ml (sts.map stD))
section
variable {S : Sto} {n j : Nat} {ws bs : List Int} {sts : List (List Int × List Rat)} {w r : List Rat} {xs : List (List Rat)} {bd : DV}
theorem HAt.hset {wss : List (List Rat)} (h : HAt S n ws wss sts) (wss' : List (List Rat)) (sts' : List (List Int × List Rat)) : HAt (hset S n wss' sts') n ws wss' sts' := by
  have l1 := (List.getElem?_eq_some_iff.mp h.w).1
  refine ⟨?_, ?_, ?_⟩
  · unfold FW.hset
    rw [List.getElem?_set_ne (by omega), List.getElem?_set_ne (by omega)]
    exact h.o
  · unfold FW.hset
    rw [List.getElem?_set_self (by rw [List.length_set]; omega)]
  · unfold FW.hset
    rw [List.getElem?_set_ne (by omega), List.getElem?_set_self l1]
theorem hset_ne {wss : List (List Rat)} {m : Nat} (h1 : m ≠ n + 1) (h2 : m ≠ n + 2) : (hset S n wss sts)[m]? = S[m]? := by
  unfold FW.hset
  rw [List.getElem?_set_ne (by omega), List.getElem?_set_ne (by omega)]
theorem hset_len {wss : List (List Rat)} : (hset S n wss sts).length = S.length := by
  unfold FW.hset
  rw [List.length_set, List.length_set]
theorem append_at {S : Sto} {n : Nat} {ds : List DV} {d : DV} (h : S[n]? = some (.ml ds)) (hl : ds.length < 100000) : appendD (.ptr n) [d] S = some (.non, S.set n (.ml (ds ++ [d]))) := by
  have : ptrL S (.ptr n) = some (n, ds) := by
    unfold ptrL
    simp only [h]
  simp [appendD, this, hl]
end
end FW
end
section
namespace FW
open PySem PyProof.Rows PySem.Spec L2 DL
theorem fldS_at {c f : Str} {fe fv : DE} {s : Sl} {S S1 : Sto} {y : DV} {n : Nat} {fs : List (Str × DV)} (hv : fv s S = some (y, S1)) (he : fe s S1 = some (.ptr n, S1)) (hS : S1[n]? = some (.ins c fs)) (hl : fs.length < 1000) :
    dFldS c f fe fv s S = some (.nx s (S1.set n (.ins c (putD f y fs)))) := by
  unfold dFldS
  rw [hv, bnd_some', he, bnd_some']
  simp only [insOf, hS]
  rw [if_pos ⟨trivial, hl⟩]
theorem put_f {d : DV} : putD "_floors" d [] = ([("_floors", d)] : List (Str × DV)) := rfl
theorem put_s {d e : DV} : putD "_steps" d [("_floors", e)] = ([("_floors", e), ("_steps", d)] : List (Str × DV)) := by
  unfold putD
  rw [if_neg (show ¬ (("_floors" : Str) = "_steps") by decide +kernel)]
  rfl
theorem put_w {d e g : DV} : putD "_waters" d [("_floors", e), ("_steps", g)] = ([("_floors", e), ("_steps", g), ("_waters", d)] : List (Str × DV)) := by
  unfold putD
  rw [if_neg (show ¬ (("_floors" : Str) = "_waters") by decide +kernel)]
  unfold putD
  rw [if_neg (show ¬ (("_steps" : Str) = "_waters") by decide +kernel)]
  rfl
theorem hobj_at {S X : Sto} {ws : List Int} {wss : List (List Rat)} {sts : List (List Int × List Rat)} : HAt (S ++ (hobj S.length ws wss sts ++ X)) S.length ws wss sts := by
  refine ⟨?_, ?_, ?_⟩
  · rw [List.getElem?_append_right (by omega)]
    simp [hobj]
  · rw [List.getElem?_append_right (by omega)]
    simp [hobj]
  · rw [List.getElem?_append_right (by omega)]
    simp [hobj]
end FW
end
section
namespace FB
open PySem PyProof.Rows PySem.Spec L2 DL FW
/-! ### fractions -/
theorem low_loop {d0 d1 : DV} {S : Sto} : ∀ (m x y : Nat), y < m → whileF (dTest (dOp neD (dVar 3) (dC (.int 0)))) (dPar 2 3 (dCons (dVar 3) (dCons (dOp modD (dVar 2) (dVar 3)) dNil))) m [some d0, some d1, some (.int (x : Int)), some (.int (y : Int))] S =
    some (.nx [some d0, some d1, some (.int ((x.gcd y : Nat) : Int)), some (.int 0)] S)
  | 0, x, y, h => by omega
  | m + 1, x, y, h => by
    by_cases hy : y = 0
    · subst hy
      rw [while_end (S1 := S) (by simp)]
      simp
    · have hy0 : 0 < y := by omega
      have hyi : ¬ ((y : Int) = 0) := by omega
      rw [while_step (S1 := S) (s2 := [some d0, some d1, some (.int (y : Int)), some (.int ((x % y : Nat) : Int))]) (S2 := S) (by simp [hyi, hy]) (by simp [hy0]), low_loop m y (x % y) (by have := Nat.mod_lt x hy0; omega)]
      rw [Nat.gcd_comm x y, Nat.gcd_rec y x, Nat.gcd_comm y (x % y)]
theorem law_low_ok {a : Int} {b : Nat} {S : Sto} (hb : 0 < b) (h : b < 2 ^ 8000) : f_law_low_z [.int a, .int (b : Int)] S = some (fr (mkRat a b), S) := by
  have g : FitsD ((a.natAbs.gcd b : Nat) : Int) := gcd_fitsD hb h
  have e : (if a < 0 then -a else a) = ((a.natAbs : Nat) : Int) := by split <;> omega
  rw [← mkRat_fr hb]
  simp only [f_law_low_z, fnF, b_law_low_z, startD, dSeq, dPar, dCB, dCons, dNil, dVar, dOp, dC, bnd_some', absD_int, List.map, List.length, List.replicate, List.cons_append, List.nil_append, List.getElem?_cons_zero, List.getElem?_cons_succ, List.set, kNx, e]
  simp only [dWhile, low_loop _ _ _ (lt_fuel (k := 8000) h (by decide)), kNx]
  simp [g]
/-! ### the deck -/
structure Dk where
  gs : List Int
  f : Int
  n : Int
def Dk.st (t : Dk) (G : Sto) : Sto := .ml (t.gs.map DV.int) :: .ml [.ptr 0, .int t.f, .int t.n] :: G
structure Dk.ok (N : Int) (t : Dk) : Prop where
  f0 : 0 ≤ t.f
  f1 : t.f < 2 ^ 61
  n0 : 0 ≤ t.n
  n1 : t.n ≤ N
  l : t.gs.length ≤ 63
theorem Dk.ok.mono {N M : Int} {t : Dk} (h : t.ok N) (hm : N ≤ M) : t.ok M := ⟨h.f0, h.f1, h.n0, Int.le_trans h.n1 hm, h.l⟩
section
variable {t t' : Dk} {G : Sto} {i : Int} {ds : List DV} {d : DV}
@[simp] theorem dk_rd1 : rdL (t.st G) (.ptr 1) = some [.ptr 0, .int t.f, .int t.n] := rfl
@[simp] theorem dk_rd0 : rdL (t.st G) (.ptr 0) = some (t.gs.map DV.int) := rfl
@[simp] theorem dk_ptr0 : ptrL (t.st G) (.ptr 0) = some (0, t.gs.map DV.int) := rfl
@[simp] theorem dk_ix0 : ixD (.ptr 1) (.int 0) (t.st G) = some (.ptr 0, t.st G) := by simp [ixD]
@[simp] theorem dk_ix1 : ixD (.ptr 1) (.int 1) (t.st G) = some (.int t.f, t.st G) := by simp [ixD]
@[simp] theorem dk_ix2 : ixD (.ptr 1) (.int 2) (t.st G) = some (.int t.n, t.st G) := by simp [ixD]
@[simp] theorem dk_set2 : setL (.ptr 1) (.int 2) (.int i) (t.st G) = some (({ t with n := i } : Dk).st G) := rfl
theorem dk_py0 : pyS (t.st G) (.ptr 0) = some (.list (t.gs.map PyData.int)) := by
  show (pys _ (t.gs.map DV.int)).map PyData.list = _
  rw [pys_map (g := PyData.int) fun _ => rfl]
  rfl
theorem dk_ne : neD (.ptr 0) (.lst []) (t.st G) = some (.bl (!t.gs.isEmpty), t.st G) := neD_ints dk_py0
theorem dk_last {gs : List Int} {g : Int} (h : t.gs = gs ++ [g]) : ixD (.ptr 0) (.int (-1)) (t.st G) = some (.int g, t.st G) := by
  have : L2.atI (t.gs.map DV.int) (-1) = some (.int g) := by
    rw [h, List.map_append]
    exact L2.atI_last _ _
  simp only [ixD, dk_rd0, Option.or, this]
theorem dk_pop {gs : List Int} {g : Int} (h : t.gs = gs ++ [g]) : popD (.ptr 0) [] (t.st G) = some (.int g, ({ t with gs := gs } : Dk).st G) := by
  unfold popD
  simp only [dk_ptr0]
  rw [h]
  simp [Dk.st]
theorem dk_setl {gs : List Int} {g : Int} (h : t.gs = gs ++ [g]) (hl : t.gs.length ≤ 63) : setL (.ptr 0) (.int (-1)) (.int i) (t.st G) = some (({ t with gs := gs ++ [i] } : Dk).st G) := by
  have e : L2.ixN ((gs ++ [g]).map DV.int).length (-1) = some gs.length := by
    unfold L2.ixN
    simp
    omega
  unfold setL
  simp only [Dk.st, List.getElem?_cons_zero, h, e]
  simp
end
theorem snoc_of {gs : List Int} (h : gs ≠ []) : ∃ xs g, gs = xs ++ [g] := ⟨gs.dropLast, gs.getLast h, (List.dropLast_concat_getLast h).symm⟩
theorem take_loop {d : DV} {x y z : Option DV} {G : Sto} : ∀ (m : Nat) (t : Dk), t.gs.length < m → t.gs.length ≤ 63 →
    ∃ gs, whileF (dAnd (dTest (dOp neD (dOp ixD (dVar 0) (dC (.int 0))) (dLst false dNil))) (dTest (dOp ltD (dOp ixD (dOp ixD (dVar 0) (dC (.int 0))) (dUn negD (dC (.int 1)))) (dC (.int 2)))))
      (dDrop (dBM0 "list" popD (dOp ixD (dVar 0) (dC (.int 0))))) m [some (.ptr 1), some d, x, y, z] (t.st G) = some (.nx [some (.ptr 1), some d, x, y, z] (({ t with gs := gs } : Dk).st G)) ∧ gs.length ≤ 63 ∧ (gs = [] ∨ ∃ xs g, gs = xs ++ [g] ∧ 2 ≤ g)
  | 0, t, h, _ => by omega
  | m + 1, t, h, hl => by
    by_cases h0 : t.gs = []
    · refine ⟨[], ?_, by simp, .inl rfl⟩
      rw [while_end (S1 := t.st G) (by simp [dk_ne, h0])]
      obtain ⟨gs, f, n⟩ := t
      cases h0
      rfl
    · obtain ⟨xs, g, hg⟩ := snoc_of h0
      have hlx : t.gs.length = xs.length + 1 := by rw [hg]; simp
      have he : t.gs.isEmpty = false := by rw [hg]; simp
      by_cases h2 : g < 2
      · obtain ⟨gs, e, e1, e2⟩ := take_loop (d := d) (x := x) (y := y) (z := z) (G := G) m { t with gs := xs } (by show xs.length < m; omega) (by show xs.length ≤ 63; omega)
        refine ⟨gs, ?_, e1, e2⟩
        rw [while_step (S1 := t.st G) (s2 := [some (.ptr 1), some d, x, y, z]) (S2 := ({ t with gs := xs } : Dk).st G) (by simp [dk_ne, he, dk_last hg, h2]) (by simp [dk_pop hg])]
        exact e
      · refine ⟨t.gs, ?_, hl, .inr ⟨xs, g, hg, by omega⟩⟩
        rw [while_end (S1 := t.st G) (by simp [dk_ne, he, dk_last hg, h2])]
theorem take_ok {t : Dk} {G : Sto} {m N : Int} (h : t.ok N) (hN : N < 2 ^ 60) (hm : 0 < m) (hm2 : m < 2 ^ 200) :
    ∃ (r : Int) (t' : Dk), f_law_take_z [.ptr 1, .int m] (t.st G) = some (.int r, t'.st G) ∧ 0 ≤ r ∧ r < m ∧ t'.ok (N + 1) := by
  obtain ⟨gs, e, e1, e2⟩ := take_loop (d := .int m) (x := none) (y := none) (z := none) (G := G) FUEL t (lt_fuel (k := 6) (by have := h.l; omega) (by decide)) h.l
  have hf0 := h.f0; have hf1 := h.f1; have hn0 := h.n0; have hn1 := h.n1
  have fm : FitsD m := fitsD_small hm (by omega)
  obtain ⟨u, hu⟩ : ∃ u : Dk, u = { t with gs := gs } := ⟨_, rfl⟩
  have ug : u.gs = gs := by rw [hu]
  have uf : u.f = t.f := by rw [hu]
  have un : u.n = t.n := by rw [hu]
  rw [← hu] at e
  rcases e2 with e2 | ⟨xs, g, e2, g2⟩
  · have he : u.gs.isEmpty = true := by rw [ug, e2]; rfl
    have hn3 : 0 ≤ t.n + 1 + 5 ∧ t.n + 1 + 5 < 2 ^ 62 := by omega
    have p3 : ∀ S, powD (.int (t.n + 1 + 5)) (.int 3) S = some (.int ((t.n + 1 + 5) ^ 3), S) := fun S => powD_int (by decide) (by decide) (by omega)
    have c3 : 0 ≤ (t.n + 1 + 5) ^ 3 ∧ (t.n + 1 + 5) ^ 3 < 2 ^ 186 := by
      refine ⟨Int.pow_nonneg hn3.1, ?_⟩
      have h1 : (t.n + 1 + 5).toNat ^ 3 < (2 ^ 62) ^ 3 := Nat.pow_lt_pow_left (by omega) (by decide)
      have h2 : (t.n + 1 + 5) ^ 3 = (((t.n + 1 + 5).toNat ^ 3 : Nat) : Int) := by
        rw [Int.natCast_pow, Int.toNat_of_nonneg hn3.1]
      rw [h2]
      omega
    have f1 : Fits (t.f + 40503) := fits_lt (by omega) (by omega)
    have f2 : Fits ((t.n + 1 + 5) ^ 3) := fits_lt c3.1 (by omega)
    have f3 : Fits 69621 := fits_lt (by decide) (by decide)
    have f4 : Fits (t.n + 1) := fits_lt (by omega) (by omega)
    obtain ⟨x, hx⟩ : ∃ x : Int, x = ((t.f + 40503) * (t.n + 1 + 5) ^ 3 + 69621 * (t.n + 1)) % 2305843009213693951 := ⟨_, rfl⟩
    have x0 : 0 ≤ x ∧ x < 2305843009213693951 := by
      rw [hx]
      exact ⟨Int.emod_nonneg _ (by decide), Int.emod_lt_of_pos _ (by decide)⟩
    have p5 : ∀ S, powD (.int x) (.int 3) S = some (.int (x ^ 3), S) := fun S => powD_int (by decide) (by decide) (by omega)
    have f64 : FitsD 64 := fitsD_small (by decide) (by decide)
    have ne := dk_ne (t := u) (G := G)
    rw [he] at ne
    refine ⟨x ^ 3 % 1000000007 / 64 % m, { u with n := t.n + 1 }, ?_, Int.emod_nonneg _ (by omega), Int.emod_lt_of_pos _ hm, ⟨by show 0 ≤ u.f; omega, by show u.f < _; omega, by show 0 ≤ t.n + 1; omega, by show t.n + 1 ≤ N + 1; omega, by show u.gs.length ≤ 63; rw [ug]; exact e1⟩⟩
    simp only [f_law_take_z, fnF, b_law_take_z, dSeq, dWhile, startD, List.map, List.length, List.replicate, List.cons_append, List.nil_append, e, kNx]
    simp [ne, p3, f1, f2, f3, f4, uf, un]
    rw [← hx]
    simp [p5, hm, f64]
    exact exF_len rfl
  · have he : u.gs.isEmpty = false := by rw [ug, e2]; simp
    have hg : u.gs = xs ++ [g] := by rw [ug, e2]
    have ne := dk_ne (t := u) (G := G)
    rw [he] at ne
    have l1 := dk_last (G := G) hg
    have l2 := dk_setl (G := G) (i := g / m) hg (by rw [ug]; exact e1)
    refine ⟨g % m, { u with gs := xs ++ [g / m] }, ?_, Int.emod_nonneg _ (by omega), Int.emod_lt_of_pos _ hm, ⟨by show 0 ≤ u.f; omega, by show u.f < _; omega, by show 0 ≤ u.n; omega, by show u.n ≤ N + 1; omega, by show (xs ++ [g / m]).length ≤ 63; rw [e2] at e1; simpa using e1⟩⟩
    simp only [f_law_take_z, fnF, b_law_take_z, dSeq, dWhile, startD, List.map, List.length, List.replicate, List.cons_append, List.nil_append, e, kNx]
    simp [ne, l1, l2, hm, fm]
    exact exF_len rfl
end FB
end
section
namespace FB
open PySem PyProof.Rows PySem.Spec L2 DL FW
theorem law_deck_ok {ns : List Int} (hl : ns.length ≤ 63) : ∃ t : Dk, f_law_deck_r [.rls (ns.map DV.int)] [] = some (.ptr 1, t.st []) ∧ t.ok 0 := by
  have f3 : Fits 1000003 := fits_lt (by decide) (by decide)
  obtain ⟨s', S', e, fold, gs, z, rfl, rfl, h1, h2, h3⟩ := forL_inv (tgt := dName 3) (body := (dSeq (dAsg (dOp modD (dOp (addD false) (dOp mulD (dVar 2) (dC (.int 1000003))) (dVar 3)) (dC (.int 2305843009213693951))) (dName 2))
    (dIfS (dTest (dOp geD (dCB absD (dCons (dVar 3) dNil)) (dOp powD (dC (.int 10)) (dC (.int 18)))))
    (dDrop (dBM "list" insertD (dVar 1) (dCons (dC (.int 0)) (dCons (dOp subD (dCB absD (dCons (dVar 3) dNil)) (dOp powD (dC (.int 10)) (dC (.int 18)))) dNil)))) dNext)))
    (xs := ns.map DV.int) (s := [some (.rls (ns.map DV.int)), some (.ptr 0), some (.int 11), none]) (S := [.ml []]) (k := 0)
    (fun k s S => ∃ fold gs z, s = [some (.rls (ns.map DV.int)), some (.ptr 0), some (.int fold), z] ∧ S = [.ml (gs.map DV.int)] ∧ 0 ≤ fold ∧ fold < 2 ^ 61 ∧ gs.length ≤ k)
    ⟨11, [], none, rfl, rfl, by decide, by decide, Nat.le_refl _⟩ (by
      rintro i x s S hx ⟨fold, gs, z, rfl, rfl, h1, h2, h3⟩
      obtain ⟨n, hn, rfl⟩ := map_at hx
      have hi : i < ns.length := (List.getElem?_eq_some_iff.mp hn).1
      have ff : Fits fold := fits_lt h1 (by omega)
      have hgl : gs.length < 100000 := by omega
      by_cases hc : 1000000000000000000 ≤ (if n < 0 then -n else n)
      · refine ⟨_, _, [some (.rls (ns.map DV.int)), some (.ptr 0), some (.int ((fold * 1000003 + n) % 2305843009213693951)), some (.int n)], [.ml ((((if n < 0 then -n else n) - 1000000000000000000) :: gs).map DV.int)], rfl, .inl ?_, _, _, _, rfl, rfl, Int.emod_nonneg _ (by decide), by have := Int.emod_lt_of_pos (fold * 1000003 + n) (show (0 : Int) < 2305843009213693951 by decide); omega, by simp; omega⟩
        simp [ff, f3, hc, rdL, insertD, ptrL, hgl]
      · refine ⟨_, _, [some (.rls (ns.map DV.int)), some (.ptr 0), some (.int ((fold * 1000003 + n) % 2305843009213693951)), some (.int n)], [.ml (gs.map DV.int)], rfl, .inl ?_, _, _, _, rfl, rfl, Int.emod_nonneg _ (by decide), by have := Int.emod_lt_of_pos (fold * 1000003 + n) (show (0 : Int) < 2305843009213693951 by decide); omega, by omega⟩
        simp [ff, f3, hc])
  refine ⟨Dk.mk gs fold 0, ?_, ⟨h1, h2, Int.le_refl _, Int.le_refl _, by simp at h3 ⊢; omega⟩⟩
  simp [f_law_deck_r, fnF, b_law_deck_r, dFor_eq, diL] at e ⊢
  rw [e]
  simp
  rfl
section
variable {t t' : Dk} {G : Sto} {d : DV} {ds : List DV} {mo : MO}
@[simp] theorem dk_len : (t.st G).length = G.length + 2 := rfl
@[simp] theorem dk_app {X : Sto} : t.st G ++ X = t.st (G ++ X) := rfl
theorem dk_append (h : ds.length < 100000) : appendD (.ptr (G.length + 2)) [d] (t.st (G ++ [.ml ds])) = some (.non, t.st (G ++ [.ml (ds ++ [d])])) := appendD_top (S := t.st G) h
@[simp] theorem dk_rd : rdL (t.st (G ++ [.ml ds])) (.ptr (G.length + 2)) = some ds := rdL_top (S := t.st G)
end
theorem law_tanks_ok {t : Dk} {G : Sto} {m N : Int} (h : t.ok N) (hN : N < 2 ^ 50) (hm : 0 < m) (hm2 : m ≤ 1000) :
    ∃ (ws : List Int) (t' : Dk), f_law_tanks_z [.ptr 1, .int m] (t.st G) = some (dI ws, t'.st G) ∧ ws ≠ [] ∧ (ws.length : Int) ≤ m ∧ (∀ w ∈ ws, 1 ≤ w ∧ w ≤ 9) ∧ t'.ok (N + 2 + m) := by
  obtain ⟨r2, t1, e1, a2, b2, k1⟩ := take_ok (G := G) (m := m) h (by omega) hm (by omega)
  obtain ⟨r1, t2, e2, a1, b1, k2⟩ := take_ok (G := G) (m := 3) k1 (by omega) (by decide) (by decide)
  obtain ⟨d, hd, hd2⟩ := pick3 (a := .int 1) (b := .int 3) (c := .int 9) a1 b1
  obtain ⟨wd, rfl, w0, w1⟩ : ∃ wd : Int, d = .int wd ∧ 1 ≤ wd ∧ wd ≤ 9 := by
    rcases hd2 with rfl | rfl | rfl
    · exact ⟨1, rfl, by decide, by decide⟩
    · exact ⟨3, rfl, by decide, by decide⟩
    · exact ⟨9, rfl, by decide, by decide⟩
  have xd : ∀ S, ixD (.lst [.int 1, .int 3, .int 9]) (.int r1) S = some (.int wd, S) := fun S => ixD_lst hd
  obtain ⟨acc, S', e3, ws, t3, rfl, rfl, hlen, hw, k3⟩ := lcL_inv (tgt := dName 4) (tt := dYes) (te := (dOp (addD false) (dC (.int 1)) (dCall 2 f_law_take_z [] (dCons (dVar 0) (dCons (dOp ixD (dLst false (dCons (dC (.int 1)) (dCons (dC (.int 3)) (dCons (dC (.int 9)) dNil)))) (dVar 3)) dNil))))) (vs := [4])
    (s := [some (.ptr 1), some (.int m), some (.int (1 + r2)), some (.int r1), none]) (fun k acc S => ∃ (ws : List Int) (t' : Dk), acc = ws.map DV.int ∧ S = t'.st G ∧ ws.length = k ∧ (∀ w ∈ ws, 1 ≤ w ∧ w ≤ 9) ∧ t'.ok (N + 1 + 1 + k))
    (xs := (List.range (1 + r2).toNat).map fun i => DV.int (0 + (i : Nat))) (acc := []) (S := t2.st G) (k := 0) ⟨[], t2, rfl, rfl, rfl, fun w hw => (by cases hw), by simpa using k2⟩ (by
      rintro i x acc S hx ⟨ws, t', rfl, rfl, hlen, hw, hk⟩
      obtain ⟨n, hn, rfl⟩ := map_at hx
      have hi : i < (1 + r2).toNat := by simpa using (List.getElem?_eq_some_iff.mp hn).1
      obtain ⟨r, t'', e, a, b, k⟩ := take_ok (G := G) (m := wd) hk (by omega) (by omega) (by omega)
      refine ⟨_, _, true, _, rfl, rfl, ?_⟩
      rw [if_pos rfl]
      refine ⟨.int (1 + r), t''.st G, by simp [xd, e], ws ++ [1 + r], t'', by simp, rfl, by simp [hlen], fun w h => ?_, k.mono (by omega)⟩
      rcases List.mem_append.mp h with h | h
      · exact hw w h
      · cases List.mem_singleton.mp h
        omega)
  have hlen' : ws.length = (1 + r2).toNat := by simpa using hlen
  refine ⟨ws, t3, ?_, ?_, by omega, hw, k3.mono (by simp; omega)⟩
  · have hr : RgS (1 + r2) := rgS_of (by omega) (by omega)
    refine fn_rt (d := dI ws) (S1 := t3.st G) ?_ (exF_len rfl)
    refine seq_nx (s1 := [some (.ptr 1), some (.int m), some (.int (1 + r2)), some (.int r1), none]) (S1 := t2.st G) (by simp [e1, e2]) ?_
    exact ret_of (lc_of (it := .rg 0 (1 + r2).toNat) (S1 := t2.st G) (by simp [hr]) rfl e3 (by simp; omega))
  · intro z
    rw [z] at hlen'
    simp at hlen'
    omega
/-! ### amounts -/
theorem dv_mk {x : Int} {b M : Nat} (hb : 0 < b) (hb2 : b < 73) (hx : x.natAbs ≤ M) : Dv (DN 0) M (mkRat x b) := by
  have e0 : DN 0 = LAM := by
    unfold DN
    simp
  rw [e0]
  have hd := lam_dvd b hb2 hb
  obtain ⟨E, hE⟩ : ∃ E, LAM = b * E := ⟨LAM / b, by have := Nat.div_add_mod LAM b; omega⟩
  have bne : (b : Rat) ≠ 0 := by
    intro z
    have : b = 0 := by exact_mod_cast z
    omega
  refine ⟨x * (E : Nat), ?_, ?_⟩
  · rw [Rat.mkRat_eq_div, hE, Rat.natCast_mul, Rat.intCast_mul, Rat.intCast_natCast]
    grind
  · rw [Int.natAbs_mul, Int.natAbs_natCast, hE]
    refine Nat.mul_le_mul hx ?_
    exact Nat.le_mul_of_pos_left _ hb
theorem mkRat_le {x : Int} {b : Nat} (hb : 0 < b) (h0 : 0 ≤ x) : mkRat x b ≤ (x : Rat) := by
  rw [Rat.mkRat_eq_div]
  have b1 : (1 : Rat) ≤ (b : Rat) := by exact_mod_cast hb
  have x0 : (0 : Rat) ≤ (x : Rat) := by exact_mod_cast h0
  refine Rat.not_lt.mp fun z => ?_
  have k := Rat.mul_lt_mul_of_pos_right z (show (0 : Rat) < (b : Rat) by grind)
  have m := mul_le_left b1 x0
  have e : (x : Rat) / (b : Rat) * (b : Rat) = (x : Rat) := by grind
  grind
def AMO : Nat := 1000000000000
structure Amt (q : Rat) : Prop where
  pos : 0 ≤ q
  le : q ≤ (AMO : Rat)
  dv : Dv (DN 0) AMO q
theorem amt_mk {x : Int} {b : Nat} (hb : 0 < b) (hb2 : b < 73) (h0 : 0 ≤ x) (h1 : x ≤ 1000000000000) : Amt (mkRat x b) := by
  refine ⟨nonneg_mkRat h0, Rat.le_trans (mkRat_le hb h0) ?_, dv_mk hb hb2 (by unfold AMO; omega)⟩
  rw [← Rat.intCast_natCast]
  exact Rat.intCast_le_intCast.mpr (by unfold AMO; omega)
@[simp] theorem pow10_6' {S : Sto} : powD (.int 10) (.int 6) S = some (.int 1000000, S) := powD_int (by decide) (by decide) (by decide)
theorem law_amount_ok {t : Dk} {G : Sto} {N : Int} (h : t.ok N) (hN : N < 2 ^ 50) :
    ∃ (q : Rat) (t' : Dk), f_law_amount_z [.ptr 1] (t.st G) = some (fr q, t'.st G) ∧ Amt q ∧ t'.ok (N + 7) := by
  obtain ⟨r1, t1, e1, a1, b1, k1⟩ := take_ok (G := G) (m := 10) h (by omega) (by decide) (by decide)
  obtain ⟨r2, t2, e2, a2, b2, k2⟩ := take_ok (G := G) (m := 100) k1 (by omega) (by decide) (by decide)
  obtain ⟨r3, t3, e3, a3, b3, k3⟩ := take_ok (G := G) (m := 1000000) k2 (by omega) (by decide) (by decide)
  obtain ⟨r4, t4, e4, a4, b4, k4⟩ := take_ok (G := G) (m := 1000000) k3 (by omega) (by decide) (by decide)
  obtain ⟨r5, t5, e5, a5, b5, k5⟩ := take_ok (G := G) (m := 4) k4 (by omega) (by decide) (by decide)
  obtain ⟨r6, t6, e6, a6, b6, k6⟩ := take_ok (G := G) (m := 12) k5 (by omega) (by decide) (by decide)
  obtain ⟨r7, t7, e7, a7, b7, k7⟩ := take_ok (G := G) (m := 60) k6 (by omega) (by decide) (by decide)
  obtain ⟨d, hd, hd2⟩ := pick4 (a := .int 0) (b := .int r1) (c := .int r2) (e := .int (r3 * 1000000 + r4)) a5 b5
  obtain ⟨x, rfl, x0, x1⟩ : ∃ x : Int, d = .int x ∧ 0 ≤ x ∧ x ≤ 1000000000000 := by
    rcases hd2 with rfl | rfl | rfl | rfl
    · exact ⟨_, rfl, by omega, by omega⟩
    · exact ⟨_, rfl, by omega, by omega⟩
    · exact ⟨_, rfl, by omega, by omega⟩
    · exact ⟨_, rfl, by omega, by omega⟩
  obtain ⟨d', hd', hd2'⟩ := pick4 (a := .int 1) (b := .int 1) (c := .int (1 + r6)) (e := .int (1 + r7)) a5 b5
  obtain ⟨y, rfl, y0, y1⟩ : ∃ y : Int, d' = .int y ∧ 1 ≤ y ∧ y ≤ 60 := by
    rcases hd2' with rfl | rfl | rfl | rfl
    · exact ⟨_, rfl, by omega, by omega⟩
    · exact ⟨_, rfl, by omega, by omega⟩
    · exact ⟨_, rfl, by omega, by omega⟩
    · exact ⟨_, rfl, by omega, by omega⟩
  obtain ⟨b, rfl⟩ : ∃ b : Nat, y = (b : Int) := ⟨y.toNat, by omega⟩
  have f3 : Fits r3 := fits_lt a3 (by omega)
  have f6 : Fits 1000000 := fits_lt (by decide) (by decide)
  have xd : ∀ S, ixD (.lst [.int 0, .int r1, .int r2, .int (r3 * 1000000 + r4)]) (.int r5) S = some (.int x, S) := fun S => ixD_lst hd
  have xd' : ∀ S, ixD (.lst [.int 1, .int 1, .int (1 + r6), .int (1 + r7)]) (.int r5) S = some (.int b, S) := fun S => ixD_lst hd'
  have key := law_low_ok (a := x) (b := b) (S := t7.st G) (by omega) (Nat.lt_of_lt_of_le (show b < 2 ^ 6 by omega) (Nat.pow_le_pow_right (by decide) (by decide)))
  refine ⟨mkRat x b, t7, ?_, amt_mk (by omega) (by omega) x0 x1, k7.mono (by omega)⟩
  refine fn_rt (d := fr (mkRat x b)) (S1 := t7.st G) ?_ (exF_len rfl)
  refine seq_nx (asg_name (d := .lst [.int 0, .int r1, .int r2, .int (r3 * 1000000 + r4)]) (S1 := t4.st G) (by simp [e1, e2, e3, e4, f3, f6])) ?_
  refine seq_nx (asg_name (d := .int r5) (S1 := t5.st G) (by simp [e5])) ?_
  exact ret_of (by simp [xd, xd', e6, e7, key])
end FB
end
section
namespace FW
open PySem PyProof.Rows PySem.Spec L2 DL
/-! ### a row and a row behind it, a bolted flap between -/
noncomputable def joinZ (a : List Tk) (Z1 Z2 : Nat → Rat) (k : Nat) : Rat := if k ≤ a.length then Z1 k else Am a + Z2 (k - a.length)
theorem Ya_all (a : List Tk) : Ya a a.length = Am a := by
  unfold Ya
  rw [List.take_length]
structure Cut (a b : List Tk) (bs bs1 bs2 : List Int) : Prop where
  c : (a.length : Int) ∈ bs
  l : ∀ k : Nat, 0 < k → k < a.length → ((k : Int) ∈ bs ↔ (k : Int) ∈ bs1)
  r : ∀ k : Nat, 0 < k → k < b.length → (((a.length + k : Nat) : Int) ∈ bs ↔ (k : Int) ∈ bs2)
theorem Rst.join {a b : List Tk} {bs bs1 bs2 : List Int} {Z1 Z2 : Nat → Rat} (R1 : Rst a bs1 Z1) (R2 : Rst b bs2 Z2) (C : Cut a b bs bs1 bs2) : Rst (a ++ b) bs (joinZ a Z1 Z2) := by
  have lo : ∀ k, k ≤ a.length → joinZ a Z1 Z2 k = Z1 k := fun k hk => by unfold joinZ; rw [if_pos hk]
  have z0 : Z2 0 = 0 := by rw [R2.ends 0 (Nat.zero_le _) (.inl rfl), Y0]
  have z1 : Z1 a.length = Am a := by rw [R1.ends a.length (Nat.le_refl _) (.inr (.inl rfl)), Ya_all]
  have hi : ∀ k, joinZ a Z1 Z2 (a.length + k) = Am a + Z2 k := fun k => by
    by_cases hk : k = 0
    · subst hk
      rw [Nat.add_zero, lo _ (Nat.le_refl _), z1, z0, Rat.add_zero]
    · unfold joinZ
      rw [if_neg (by omega), Nat.add_sub_cancel_left]
  refine ⟨fun k hk => ?_, fun k hk h => ?_, fun k h0 h1 h2 => ?_⟩
  · rw [List.length_append] at hk
    by_cases h : k ≤ a.length
    · rw [lo k h, Ya_lo h]
      exact R1.le k h
    · obtain ⟨j, rfl⟩ : ∃ j, k = a.length + j := ⟨k - a.length, by omega⟩
      rw [hi, Ya_hi]
      have := R2.le j (by omega)
      grind
  · rw [List.length_append] at hk h
    by_cases h' : k ≤ a.length
    · rw [lo k h', Ya_lo h']
      refine R1.ends k h' ?_
      rcases h with h | h | h
      · exact .inl h
      · exact .inr (.inl (by omega))
      · by_cases e : k = a.length
        · exact .inr (.inl e)
        · by_cases e0 : k = 0
          · exact .inl e0
          · exact .inr (.inr ((C.l k (by omega) (by omega)).mp h))
    · obtain ⟨j, rfl⟩ : ∃ j, k = a.length + j := ⟨k - a.length, by omega⟩
      rw [hi, Ya_hi, R2.ends j (by omega) ?_]
      rcases h with h | h | h
      · omega
      · exact .inr (.inl (by omega))
      · by_cases e : j = b.length
        · exact .inr (.inl e)
        · exact .inr (.inr ((C.r j (by omega) (by omega)).mp h))
  · rw [List.length_append] at h1
    by_cases hk : k < a.length
    · obtain ⟨s, u, su, g1, g2, g3⟩ := R1.flap k h0 hk fun z => h2 ((C.l k h0 hk).mpr z)
      refine ⟨s, u, su, ?_, ?_, fun z => ?_⟩
      · rw [lo _ (by omega), lo _ (by omega), Xa_lo (by omega), Xa_lo (by omega)]
        exact g1
      · rw [lo _ (show k + 1 ≤ a.length by omega), lo _ (by omega), Xa_lo (show k + 1 ≤ a.length by omega), Xa_lo (by omega)]
        exact g2
      · rw [lo _ (by omega), Ya_lo (by omega)]
        exact g3 z
    · have hne : k ≠ a.length := fun e => h2 (by rw [e]; exact C.c)
      obtain ⟨j, rfl⟩ : ∃ j, k = a.length + j := ⟨k - a.length, by omega⟩
      have hj : 0 < j := by omega
      obtain ⟨s, u, su, g1, g2, g3⟩ := R2.flap j hj (by omega) fun z => h2 ((C.r j hj (by omega)).mpr z)
      refine ⟨s, u, su, ?_, ?_, fun z => ?_⟩
      · rw [show a.length + j - 1 = a.length + (j - 1) by omega, hi, hi, Xa_hi, Xa_hi]
        grind
      · rw [show a.length + j + 1 = a.length + (j + 1) by omega, hi, hi, Xa_hi, Xa_hi]
        grind
      · rw [hi, Ya_hi, g3 z]
end FW
end
section
namespace FW
open PySem PyProof.Rows PySem.Spec L2 DL
section
variable {S S1 X : Sto} {n m : Nat} {ws ws' : List Int} {wss wss' : List (List Rat)} {sts sts' : List (List Int × List Rat)} {s : Sl}
theorem HAt.app (h : HAt S n ws wss sts) (X : Sto) : HAt (S ++ X) n ws wss sts := by
  have l1 := (List.getElem?_eq_some_iff.mp h.w).1
  exact ⟨by rw [List.getElem?_append_left (by omega)]; exact h.o, by rw [List.getElem?_append_left (by omega)]; exact h.s, by rw [List.getElem?_append_left l1]; exact h.w⟩
theorem HAt.same (h : HAt S n ws wss sts) (e : ∀ k, n ≤ k → k ≤ n + 2 → S1[k]? = S[k]?) : HAt S1 n ws wss sts :=
  ⟨(e n (by omega) (by omega)).trans h.o, (e (n + 1) (by omega) (by omega)).trans h.s, (e (n + 2) (by omega) (by omega)).trans h.w⟩
theorem HAt.other (h : HAt S n ws wss sts) (hne : n + 3 ≤ m ∨ m + 3 ≤ n) : HAt (FW.hset S m wss' sts') n ws wss sts :=
  h.same fun k h1 h2 => hset_ne (by omega) (by omega)
theorem HAt.lt (h : HAt S n ws wss sts) : n + 2 < S.length := (List.getElem?_eq_some_iff.mp h.w).1
theorem HAt.meth {mm : Str} {nn : Nat} {g : List DV → Sto → Option (DV × Sto)} {dd xs : List DV} {fe : DE} {fa : DA} (h : HAt S n ws wss sts) (e : fe s S = some (.ptr n, S)) (hm : (hfl n ws).lookup mm = none) (ha : fa s S = some (xs, S1)) (hl : (DV.ptr n :: (xs ++ dd)).length = nn) :
    dMeth "History" mm nn g dd fe fa s S = g (.ptr n :: (xs ++ dd)) S1 := by
  unfold dMeth
  rw [e, bnd_some', h.ins]
  simp only
  rw [if_pos ⟨trivial, hm⟩, ha, bnd_some', if_pos hl]
end
theorem Wt.sz {j : Nat} {ws : List Int} {w : List Rat} (h : Wt j ws w) (f : Flo ws) (hj : j ≤ 11) (k : Nat) : Sz 1400 (rsum (w.take k)) := by
  have R := h.row f hj
  have hz := hz_l R.ok (by rw [R.ll]; exact R.zl)
  rw [R.l2, zj_B hj] at hz
  by_cases hk : k ≤ w.length
  · refine hz.2 _ ?_
    have e := hf_rsum (r := w) (k := k) 0 hk
    rw [Rat.zero_add] at e
    exact List.mem_of_getElem? e
  · rw [List.take_of_length_le (by omega)]
    refine hz.2 _ ?_
    have e := hf_rsum (r := w) (k := w.length) 0 (Nat.le_refl _)
    rw [Rat.zero_add, List.take_of_length_le (Nat.le_refl _)] at e
    exact List.mem_of_getElem? e
/-- a part of a row -/
theorem Flo.take {ws : List Int} (f : Flo ws) {c : Nat} (h : 0 < c) : Flo (ws.take c) := by
  have hp := List.length_pos_iff.mpr f.ne
  exact ⟨fun e => by have := congrArg List.length e; rw [List.length_take, List.length_nil] at this; omega, fun w hw => f.fl w (List.mem_of_mem_take hw), by rw [List.length_take]; have := f.n; omega⟩
theorem Flo.drop {ws : List Int} (f : Flo ws) {c : Nat} (h : c < ws.length) : Flo (ws.drop c) :=
  ⟨fun e => by have := congrArg List.length e; rw [List.length_drop, List.length_nil] at this; omega, fun w hw => f.fl w (List.mem_of_mem_drop hw), by rw [List.length_drop]; have := f.n; omega⟩
end FW
end
section
namespace FB
open PySem PyProof.Rows PySem.Spec L2 DL FW
/-! ### each def as a function of data -/
theorem _root_.FW.Wt.hz {j : Nat} {ws : List Int} {w : List Rat} (h : Wt j ws w) (f : Flo ws) (hj : j ≤ 11) : Hz 1400 w := by
  have R := h.row f hj
  have hz := hz_l R.ok (by rw [R.ll]; exact R.zl)
  rw [R.l2, zj_B hj] at hz
  exact hz
theorem _root_.FW.Wt.up {i j : Nat} {ws : List Int} {w : List Rat} (h : Wt i ws w) (hij : i ≤ j) : Wt j ws w :=
  ⟨h.len, h.pos, fun q hq => (dv_up (h.dv q hq) hij).le (tot_le hij), Rat.le_trans h.tot (by exact_mod_cast tot_le hij)⟩
end FB
end
section
/-! == and != of two objects of an own class, by its own __eq__ -/
namespace HQ
open PySem PySem.Spec PyProof.Rows
section
variable {M : Model} {prog : Program} {w : World} {A : Around} {E : Value → Shared → Prop} {s : Shared} {K : PySem.W.Frag} {x C f : Addr} {y : Value} {ox : Obj} {od : Option Obj}
end
end HQ
namespace L2
open PySem PySem.Spec PyProof.Rows
section
variable {X : Cx} {CX : CXT} {C f : Addr} {fd : FuncData} {ps : List Str} {sp : Sp} {E : XK} {n : Nat}
end
end L2
namespace DL
open PySem PyProof.Rows PySem.Spec L2
section
variable {K : PySem.W.Frag} {mg : Str → Option Value} {C : Addr} {c : Str} {g : List DV → Sto → Option (DV × Sto)}
/-- a class whose != is object's -/
structure NeObj (K : PySem.W.Frag) (C : Addr) : Prop where
  ne : PySem.W.findIn K (.ref C) "__ne__" = some (some (.builtin "object.__ne__"))
  ob : PySem.W.mroIn K C (.type "object") = some true
/-- isinstance of an own class, of one of its objects -/
def dIsC (c : Str) (f : DE) : DE := fun s S => bnd (f s S) fun x S1 => match insOf S1 x with
  | some (_, c1, _) => if c1 = c then some (.bl true, S1) else none
  | none => none
end
end DL
end
section
namespace FW
open PySem PyProof.Rows PySem.Spec L2 DL
/-! ### histories: undone, their steps told, equal -/
section
variable {α : Type} {tgt : DG} {tt : DT} {te : DE} {vs : List Nat} {s : Sl} {S : Sto} {it : DIt} {l : List α} {f g : α → DV}
theorem lcF_fixH (h : ∀ i, DL.itemAt it S i = some (l.map f)[i]?) (hs : ∀ a ∈ l, ∃ s1, tgt (f a) (wipeD s vs) S = some (s1, S) ∧ tt s1 S = some (true, S) ∧ te s1 S = some (g a, S)) :
    ∀ (k i : Nat) (acc : List DV), l.length < k + i → i ≤ l.length → lcF tgt tt te it vs k i acc s S = some (acc ++ (l.drop i).map g, S)
  | 0, i, acc, h1, h2 => by omega
  | k + 1, i, acc, h1, h2 => by
    unfold lcF
    rw [h i]
    by_cases hi : i < l.length
    · have e1 : (l.map f)[i]? = some (f l[i]) := by rw [List.getElem?_map, List.getElem?_eq_getElem hi]; rfl
      obtain ⟨s1, a1, a2, a3⟩ := hs l[i] (List.getElem_mem hi)
      rw [e1]
      simp only [a1, a2, a3, bnd_some', if_true]
      rw [lcF_fixH h hs k (i + 1) _ (by omega) hi, List.drop_eq_getElem_cons hi, List.map_cons, List.append_assoc]
      rfl
    · have e1 : (l.map f)[i]? = none := by rw [List.getElem?_eq_none_iff, List.length_map]; omega
      rw [e1]
      have : l.drop i = [] := List.drop_eq_nil_iff.mpr (by omega)
      simp [this]
end
theorem ne_self {x y : DV} {p : PyData} {n : Nat} {S : Sto} (h : pyS S x = some p) (g : pyS S y = some p) (hs : ShN n p) (hn : n ≤ 64) : neD x y S = some (.bl false, S) := by
  rw [neD_of h g hs hs hn, PySem.SeqAt.eqv_refl p hs.1]
  rfl
section
variable {S : Sto} {n m : Nat} {ws : List Int} {wss wss' : List (List Rat)} {sts sts' : List (List Int × List Rat)} {w : List Rat} {p : List Int × List Rat}
end
end FW
end
section
namespace FW
open PySem PyProof.Rows PySem.Spec L2 DL
/-! ### Histories made of, and stepped by, lists that may change -/
theorem rdL_set {S : Sto} {k : Nat} {mo : MO} {d : DV} {ds : List DV} (h : rdL S d = some ds) (hn : d ≠ .ptr k) : rdL (S.set k mo) d = some ds := by
  cases d with
  | ptr m =>
    have hm : m ≠ k := fun e => hn (by rw [e])
    unfold rdL at h ⊢
    simp only at h ⊢
    rw [List.getElem?_set_ne (by omega)]
    exact h
  | _ => exact h
theorem lenD_rd {S : Sto} {d : DV} {ds : List DV} (h : rdL S d = some ds) : lenD [d] S = some (.int (ds.length : Nat), S) := by
  unfold lenD
  simp [h]
theorem enum_at {S : Sto} {d : DV} {ds : List DV} (h : rdL S d = some ds) (i : Nat) : DL.itemAt (.en d) S i = some (ds.mapIdx fun i x => DV.tup [.int (i : Nat), x])[i]? := by
  simp only [DL.itemAt, h, List.getElem?_mapIdx]
  cases ds[i]? <;> rfl
theorem enD_of {S : Sto} {bd : DV} {ds : List DV} {fe : DE} {s : Sl} (h : rdL S bd = some ds) (e : fe s S = some (bd, S)) : diE (dCons fe dNil) s S = some (.en bd, S) := by
  unfold diE
  simp only [dCons, e, bnd_some', dNil]
  exact if_pos (by rw [h]; rfl)
theorem check_floors_P {fd : DV} {ns : List Int} {S : Sto} (hf : rdL S fd = some (ns.map DV.int)) (h0 : ns ≠ []) (h : ∀ n ∈ ns, 1 ≤ n) : f_check_floors_z [fd] S = some (.non, S) := by
  have hl : ¬ (((ns.map DV.int).length : Nat) : Int) = 0 := by
    cases ns with
    | nil => exact absurd rfl h0
    | cons n r => simp; omega
  have hln := lenD_rd hf
  obtain ⟨s', e, _⟩ := forF_same (tgt := dGTup 2 (dGCons (dName 1) (dGCons (dName 2) dGNil))) (body := dIfS (dTest (dOp ltD (dVar 2) (dC (.int 1)))) dNever dNext) (it := .en fd) (S := S) (xs := (ns.map DV.int).mapIdx fun i x => DV.tup [.int (i : Nat), x]) (enum_at hf) (fun s => s.length = 3) (fun x hx s hs => by
    rw [List.mem_mapIdx] at hx
    obtain ⟨i, hi, rfl⟩ := hx
    match s, hs with
    | [a, b, c], _ =>
      have hi' : i < ns.length := by simpa using hi
      have := h ns[i] (List.getElem_mem hi')
      refine ⟨[a, some (.int (i : Nat)), some (.int ns[i])], [a, some (.int (i : Nat)), some (.int ns[i])], by simp, ?_, rfl⟩
      have hn : ¬ ns[i] < 1 := by omega
      simp [hn]) (itLen (.en fd) S + 1) 0 [some fd, none, none] (by simp [itLen, hf]) (Nat.zero_le _) rfl
  refine fn_nx (s := s') (S1 := S) ?_ exF_same
  show b_check_floors_z [some fd, none, none] S = _
  refine seq_nx (if_f (S1 := S) ?_ rfl) ?_
  · have hq : eqD (.int (((ns.map DV.int).length : Nat) : Int)) (.int 0) S = some (.bl false, S) := by
      rw [eqD_int, decide_eq_false hl]
    simp only [dTest, dOp, dCB, dCons, dNil, dVar, List.getElem?_cons_zero, bnd_some', hln, dC, hq]
  · rw [dFor, enD_of (fe := dVar 0) hf rfl, bnd_some']
    exact e
theorem check_water_P {fd d : DV} {ns : List Int} {qs : List Rat} {S : Sto} {n : Nat} (hf : rdL S fd = some (ns.map DV.int)) (hd : rdL S d = some (qs.map fr)) (hl : qs.length = ns.length) (h : ∀ q ∈ qs, 0 ≤ q ∧ Sz n q) (hn : n ≤ 7000) : f_check_water_z [fd, d] S = some (.non, S) := by
  obtain ⟨s', e, _⟩ := forF_same (tgt := dGTup 2 (dGCons (dName 2) (dGCons (dName 3) dGNil))) (body := dIfS (dTest (dCall 2 f_above_z [] (dCons (dC (.tup [(.int 0), (.int 1)])) (dCons (dVar 3) dNil)))) dNever dNext) (it := .en d) (S := S) (xs := (qs.map fr).mapIdx fun i x => DV.tup [.int (i : Nat), x]) (enum_at hd) (fun s => s.length = 4) (fun x hx s hs => by
    rw [List.mem_mapIdx] at hx
    obtain ⟨i, hi, rfl⟩ := hx
    match s, hs with
    | [a, b, c, d], _ =>
      have hi' : i < qs.length := by simpa using hi
      have hq := h qs[i] (List.getElem_mem hi')
      have h0 : Sz n (0 : Rat) := ⟨Nat.two_pow_pos n, Nat.lt_of_le_of_lt (show (0 : Rat).den ≤ qs[i].den from qs[i].den_pos) hq.2.2⟩
      have key := above_ok (S := S) h0 hq.2 hn hn
      have hlt : ¬ qs[i] < 0 := by
        have := hq.1
        grind
      refine ⟨[a, b, some (.int (i : Nat)), some (fr qs[i])], [a, b, some (.int (i : Nat)), some (fr qs[i])], by simp, ?_, rfl⟩
      have e0 : DV.tup [.int 0, .int 1] = fr 0 := rfl
      simp [e0, key, hlt]) (itLen (.en d) S + 1) 0 [some fd, some d, none, none] (by simp [itLen, hd]) (Nat.zero_le _) rfl
  have l1 := lenD_rd hf
  have l2 := lenD_rd hd
  have hne : neD (.int (((qs.map fr).length : Nat) : Int)) (.int (((ns.map DV.int).length : Nat) : Int)) S = some (.bl false, S) := by
    rw [neD_int, List.length_map, List.length_map, hl]
    simp
  refine fn_nx (s := s') (S1 := S) ?_ exF_same
  show b_check_water_z [some fd, some d, none, none] S = _
  refine seq_nx (if_f (S1 := S) ?_ rfl) ?_
  · simp only [dTest, dOp, dCB, dCons, dNil, dVar, List.getElem?_cons_zero, List.getElem?_cons_succ, bnd_some', l1, l2, hne]
  · rw [dFor, enD_of (fe := dVar 1) hd rfl, bnd_some']
    exact e
theorem lc_zp {tgt : DG} {te : DE} {vs : List Nat} {s : Sl} {S : Sto} {fi : DI} {w r : List Rat} {d : DV} {g : Rat → Rat → DV} (h : fi s S = some (.zp (dF w) d, S)) (hd : rdL S d = some (r.map fr)) (hs : ∀ x y, x ∈ w → y ∈ r → ∃ s1, tgt (.tup [fr x, fr y]) (wipeD s vs) S = some (s1, S) ∧ te s1 S = some (g x y, S)) (hn : w.length ≤ 100000) :
    dLc false fi tgt dYes te vs s S = some (.lst (List.zipWith g w r), S) := by
  unfold dLc
  rw [h]
  simp only [bnd_some']
  have hat : ∀ i, DL.itemAt (.zp (dF w) d) S i = some ((w.zip r).map fun p => DV.tup [fr p.1, fr p.2])[i]? := fun i => by
    simp only [DL.itemAt, hd, dF, rdL_lst, List.getElem?_map, List.zip, List.getElem?_zipWith]
    cases w[i]? <;> cases r[i]? <;> rfl
  rw [lcF_fixH (f := fun p : Rat × Rat => DV.tup [fr p.1, fr p.2]) (g := fun p => g p.1 p.2) (l := w.zip r) hat (fun p hp => by
    obtain ⟨h1, h2⟩ := List.of_mem_zip hp
    obtain ⟨s1, e1, e2⟩ := hs p.1 p.2 h1 h2
    exact ⟨s1, e1, rfl, e2⟩) _ _ _ (by simp only [itLen, hd, dF, rdL_lst, List.length_zip, List.length_map]; omega) (Nat.zero_le _)]
  simp only [bnd_some', List.nil_append, List.drop_zero]
  rw [gate_ok (by rw [List.length_map, List.length_zip]; omega), newL_f, List.zip, List.map_zipWith]
section
variable {S : Sto} {n j : Nat} {ws bs : List Int} {sts : List (List Int × List Rat)} {w r : List Rat} {xs : List (List Rat)} {bd : DV}
theorem step_okP {rd : DV} (hrd : rdL S rd = some (r.map fr)) (hrn : rd ≠ .ptr (n + 1) ∧ rd ≠ .ptr (n + 2)) (h : HAt S n ws (xs ++ [w]) sts) (f : Flo ws) (W : Wt j ws w) (R0 : Wt 0 ws r) (hj : j ≤ 11) (hb : Bo ws.length bs) (hbd : Bd S bd bs) (hbt : ∀ X : Sto, (X[n + 1]? = S[n + 1]? ∨ bd ≠ .ptr (n + 1)) → X.length = S.length → (∀ m, m ≠ n + 2 → m ≠ n + 1 → X[m]? = S[m]?) → Bd X bd bs) (hl1 : xs.length ≤ 1000) (hl2 : sts.length ≤ 1000) :
    f_History_step_z [.ptr n, bd, rd] S = some (.non, hset S n (xs ++ [w] ++ [rest (ws.zip (List.zipWith (· + ·) w r)) bs]) (sts ++ [(sortI bs, r)])) := by
  obtain ⟨RP, mP, _⟩ := W.put R0 f hj
  have RW := W.row f hj
  have fl : ∀ x ∈ ws, 1 ≤ x := fun x hx => (f.fl x hx).1
  have c1 := check_bolted_ok (S := S) (ns := ws) hbd (fun b hb' => hb.1 b hb') hb.2.1
  have c2 := check_water_P (S := S) (fd := dI ws) (d := rd) (ns := ws) (qs := r) (n := 1400) rfl hrd R0.len (fun q hq => ⟨R0.pos q hq, (R0.dv q hq).sz (dn_pos 0) (zj_1 (by omega)) (by
    have := zj_2 (j := 0) (by omega)
    have e : TOT 0 * DN 0 ≤ (9 + 1) * TOT (0 + 1) * DN 0 := Nat.mul_le_mul_right _ (by unfold TOT; omega)
    omega)⟩) (by decide)
  have sz1 : ∀ q ∈ w, Sz 1400 q := fun q hq => by
    have := (zj j).one q (RW.c q hq)
    rw [zj_B hj] at this
    exact this
  have sz2 : ∀ q ∈ r, Sz 1400 q := fun q hq => by
    have := (zj 0).one q ((R0.row f (by omega)).c q hq)
    rw [zj_B (by omega)] at this
    exact this
  obtain ⟨fallen, hfal⟩ : ∃ x : List Rat, x = List.zipWith (· + ·) w r := ⟨_, rfl⟩
  rw [← hfal] at RP mP ⊢
  have e0 : ∀ s : Sl, s[0]? = some (some (.ptr n)) → dFld "History" "_floors" (dVar 0) s S = some (dI ws, S) := fun s hs => h.fF (by simp [hs])
  have e1 : ∀ s : Sl, s[0]? = some (some (.ptr n)) → dOp ixD (dFld "History" "_waters" (dVar 0)) (dUn negD (dC (.int 1))) s S = some (dF w, S) := fun s hs => h.now (by simp [hs])
  have e2 : ∀ s : Sl, s[0]? = some (some (.ptr n)) → dFld "History" "_waters" (dVar 0) s S = some (.ptr (n + 2), S) := fun s hs => h.fW (by simp [hs])
  have st : f_settled_z [dI ws, dF fallen, bd] S = some (dF (rest (ws.zip fallen) bs), S) := by
    have := settled_okz (S := S) (bs := bs) (bd := bd) (m0 := zj j) RP.zne (fun t ht => ⟨RP.ok t ht, by
      refine (mP _ ?_).1
      have := List.mem_map_of_mem (f := (·.2)) ht
      rw [RP.l2] at this
      exact this⟩) (by rw [RP.ll]; exact RP.n) (by rw [RP.ll]; exact ⟨RP.zl, RP.zb⟩) hbd (RP.bb hb) hb.2.1 hb.2.2
    rw [RP.l1, RP.l2] at this
    exact this
  obtain ⟨S1, hS1⟩ : ∃ S1 : Sto, S1 = S.set (n + 2) (.ml ((xs ++ [w] ++ [rest (ws.zip fallen) bs]).map dF)) := ⟨_, rfl⟩
  have lS := (List.getElem?_eq_some_iff.mp h.w).1
  have a1 : appendD (.ptr (n + 2)) [dF (rest (ws.zip fallen) bs)] S = some (.non, S1) := by
    rw [append_at h.w (by simp; omega), hS1]
    simp
  have hS1s : S1[n + 1]? = some (.ml (sts.map stD)) := by
    rw [hS1, List.getElem?_set_ne (by omega)]
    exact h.s
  have hS1o : S1[n]? = some (.ins "History" (hfl n ws)) := by
    rw [hS1, List.getElem?_set_ne (by omega)]
    exact h.o
  have hS1w : S1[n + 2]? = some (.ml ((xs ++ [w] ++ [rest (ws.zip fallen) bs]).map dF)) := by
    rw [hS1, List.getElem?_set_self lS]
  have h1 : HAt S1 n ws (xs ++ [w] ++ [rest (ws.zip fallen) bs]) sts := ⟨hS1o, hS1s, hS1w⟩
  have hbd1 : Bd S1 bd bs := hbt S1 (.inl (by rw [hS1s, h.s])) (by rw [hS1, List.length_set]) fun m h1 h2 => by rw [hS1, List.getElem?_set_ne (by omega)]
  have so : sortBD false [bd] S1 = some (dI (sortI bs), S1) := by
    rcases hbd1 with hb' | ⟨rfl, rfl⟩
    · have := toIs_map bs
      simp [sortBD, dI, this, hb']
    · rfl
  have li : listD false [rd] S1 = some (dF r, S1) := by
    have hrd1 : rdL S1 rd = some (r.map fr) := by rw [hS1]; exact rdL_set hrd hrn.2
    exact list_ok hrd1
  have e3 : ∀ s : Sl, s[0]? = some (some (.ptr n)) → dFld "History" "_steps" (dVar 0) s S1 = some (.ptr (n + 1), S1) := fun s hs => h1.fS (by simp [hs])
  have a2 : appendD (.ptr (n + 1)) [.tup [dI (sortI bs), dF r]] S1 = some (.non, FW.hset S n (xs ++ [w] ++ [rest (ws.zip fallen) bs]) (sts ++ [(sortI bs, r)])) := by
    rw [append_at hS1s (by simp; omega)]
    unfold FW.hset
    rw [hS1]
    simp [stD]
  have lcE : dLc false (diZ (dCons (dOp ixD (dFld "History" "_waters" (dVar 0)) (dUn negD (dC (.int 1)))) (dCons (dVar 2) dNil))) (dGTup 2 (dGCons (dName 4) (dGCons (dName 5) dGNil))) dYes (dCall 2 f_plus_z [] (dCons (dVar 4) (dCons (dVar 5) dNil))) [4, 5] [some (.ptr n), some bd, some rd, none, none, none] S = some (dF fallen, S) := by
    have en := e1 [some (.ptr n), some bd, some rd, none, none, none] rfl
    rw [lc_zp (w := w) (r := r) (d := rd) (g := fun x y => fr (x + y)) (by
      revert en
      generalize dOp ixD (dFld "History" "_waters" (dVar 0)) (dUn negD (dC (.int 1))) = F
      intro en
      simp only [diZ, dCons, dNil, en, dVar, List.getElem?_cons_succ, List.getElem?_cons_zero, bnd_some']
      exact if_pos ⟨rfl, by rw [hrd]; rfl⟩) hrd (fun x y hx hy => by
      have := plus_ok (S := S) (sz1 x hx) (sz2 y hy) (by decide)
      exact ⟨[some (.ptr n), some bd, some rd, none, some (fr x), some (fr y)], by simp [wipeD], by simp [this]⟩) (by have := W.len; have := f.n; omega)]
    rw [hfal, dF, List.map_zipWith]
  refine fn_nx (s := [some (.ptr n), some bd, some rd, some (dF fallen), none, none]) (S1 := FW.hset S n (xs ++ [w] ++ [rest (ws.zip fallen) bs]) (sts ++ [(sortI bs, r)])) ?_ (exF_len hset_len)
  have hs0 : ∀ x y z : Option DV, ([some (.ptr n), some bd, some rd, x, y, z] : Sl)[0]? = some (some (.ptr n)) := fun _ _ _ => rfl
  have n1 := e0 [some (.ptr n), some bd, some rd, none, none, none] rfl
  have n2 := e0 [some (.ptr n), some bd, some rd, some (dF fallen), none, none] rfl
  have n3 := e2 [some (.ptr n), some bd, some rd, some (dF fallen), none, none] rfl
  have n4 := e3 [some (.ptr n), some bd, some rd, some (dF fallen), none, none] rfl
  refine seq_nx (drop_of (d := .non) (S1 := S) ?_) ?_
  · revert n1
    generalize dFld "History" "_floors" (dVar 0) = F
    intro n1
    simp [n1, c1]
  refine seq_nx (drop_of (d := .non) (S1 := S) ?_) ?_
  · revert n1
    generalize dFld "History" "_floors" (dVar 0) = F
    intro n1
    simp [n1, c2]
  refine seq_nx (asg_name lcE) ?_
  refine seq_nx (drop_of (d := .non) (S1 := S1) ?_) ?_
  · have rd : (rdL S (.ptr (n + 2))).isSome = true := by rw [h.rdW]; rfl
    revert n2 n3
    generalize dFld "History" "_floors" (dVar 0) = F
    generalize dFld "History" "_waters" (dVar 0) = F2
    intro n2 n3
    simp [n2, n3, rd, st, a1]
  refine drop_of (d := .non) ?_
  · have rd : (rdL S1 (.ptr (n + 1))).isSome = true := by rw [h1.rdS]; rfl
    revert n4
    generalize dFld "History" "_steps" (dVar 0) = F
    intro n4
    simp [n4, rd, so, li, a2]end
end FW
end
section
namespace FW
open PySem PyProof.Rows PySem.Spec L2 DL
/-- the water at first, as it is handed in -/
def Fst (S : Sto) (ws : List Int) (wd : DV) (r : List Rat) : Prop := rdL S wd = some (r.map fr) ∨ (wd = .non ∧ r = ws.map fun _ => (0 : Rat))
theorem init_P {j : Nat} {S : Sto} {ws : List Int} {r : List Rat} {fd wd : DV} (f : Flo ws) (R0 : Wt j ws r) (hj : j ≤ 11) (hf : rdL S fd = some (ws.map DV.int)) (hw : Fst S ws wd r) :
    mkD "History" f_History_init_r [fd, wd] S = some (.ptr S.length, S ++ hobj S.length ws [r] []) := by
  have fl : ∀ x ∈ ws, 1 ≤ x := fun x hx => (f.fl x hx).1
  obtain ⟨S0, hS0⟩ : ∃ S0 : Sto, S0 = S ++ [.ins "History" []] := ⟨_, rfl⟩
  have hf0 : rdL S0 fd = some (ws.map DV.int) := by rw [hS0]; exact rdL_app hf
  have c1 := check_floors_P hf0 f.ne fl
  have sz2 : ∀ q ∈ r, Sz 1400 q := fun q hq => by
    have := (zj j).one q ((R0.row f hj).c q hq)
    rw [zj_B hj] at this
    exact this
  have c2 := check_water_P (S := S0) (fd := fd) (d := dF r) (ns := ws) (qs := r) (n := 1400) hf0 rfl R0.len (fun q hq => ⟨R0.pos q hq, sz2 q hq⟩) (by decide)
  have l0 : S0[S.length]? = some (.ins "History" []) := by
    rw [hS0]
    exact List.getElem?_concat_length
  have lw : listD false [fd] S0 = some (dI ws, S0) := list_ok hf0
  have lnw := lenD_rd hf0
  rw [List.length_map] at lnw
  have rp : repD false (.lst [.tup [.int 0, .int 1]]) (.int (ws.length : Nat)) S0 = some (.lst (List.replicate ws.length (DV.tup [.int 0, .int 1])), S0) := by
    have ht : trL S0 (.lst [DV.tup [.int 0, .int 1]]) = some [DV.tup [.int 0, .int 1]] := rfl
    simp only [repD, ht]
    rw [gate_ok (by have := f.n; simp; omega), newL_f, Int.toNat_natCast, List.flatten_replicate_singleton]
  have fst : (dIf (dTest (dIsN false (dVar 2))) (dOp (repD false) (dLst false (dCons (dC (.tup [(.int 0), (.int 1)])) dNil)) (dCB lenD (dCons (dVar 1) dNil))) (dCB (listD false) (dCons (dVar 2) dNil))) [some (.ptr S.length), some fd, some wd, none] S0 = some (dF r, S0) := by
    rcases hw with hw | ⟨rfl, hr⟩
    · have hw0 : rdL S0 wd = some (r.map fr) := by rw [hS0]; exact rdL_app hw
      have lf : listD false [wd] S0 = some (dF r, S0) := list_ok hw0
      cases wd with
      | non => cases hw
      | _ => simp [lf]
    · have er : dF r = .lst (List.replicate ws.length (DV.tup [.int 0, .int 1])) := by
        rw [hr]
        unfold dF
        rw [List.map_map]
        exact congrArg DV.lst (List.map_const' ..)
      rw [er]
      simp [lnw, rp]
  have run : b_History_init_r (startD 4 [.ptr S.length, fd, wd]) S0 = some (.nx [some (.ptr S.length), some fd, some wd, some (dF r)] (S ++ hobj S.length ws [r] [])) := by
    show b_History_init_r [some (.ptr S.length), some fd, some wd, none] S0 = _
    refine seq_nx (drop_of (d := .non) (S1 := S0) (by simp [c1])) ?_
    refine seq_nx (asg_name (d := dF r) (S1 := S0) fst) ?_
    refine seq_nx (drop_of (d := .non) (S1 := S0) (by simp [c2])) ?_
    refine seq_nx (fldS_at (y := dI ws) (S1 := S0) (n := S.length) (fs := []) (by simp [lw]) (by simp) l0 (by decide)) ?_
    rw [put_f]
    obtain ⟨S1, hS1⟩ : ∃ S1 : Sto, S1 = S ++ [.ins "History" [("_floors", dI ws)]] := ⟨_, rfl⟩
    have e1 : S0.set S.length (.ins "History" [("_floors", dI ws)]) = S1 := by
      rw [hS0, hS1]
      exact top_set
    rw [e1]
    refine seq_nx (fldS_at (y := .ptr (S.length + 1)) (S1 := S1 ++ [.ml []]) (n := S.length) (fs := [("_floors", dI ws)]) (by simp [hS1]) (by simp) (by rw [hS1]; simp) (by show 1 < 1000; decide)) ?_
    rw [put_s]
    obtain ⟨S2, hS2⟩ : ∃ S2 : Sto, S2 = S ++ [.ins "History" [("_floors", dI ws), ("_steps", .ptr (S.length + 1))], .ml []] := ⟨_, rfl⟩
    have e2 : (S1 ++ [MO.ml []]).set S.length (.ins "History" [("_floors", dI ws), ("_steps", .ptr (S.length + 1))]) = S2 := by
      rw [hS1, hS2, List.append_assoc, List.set_append_right _ _ (Nat.le_refl _)]
      simp
    rw [e2]
    refine (fldS_at (y := .ptr (S.length + 2)) (S1 := S2 ++ [.ml [dF r]]) (n := S.length) (fs := [("_floors", dI ws), ("_steps", .ptr (S.length + 1))]) (by simp [hS2]) (by simp) (by rw [hS2]; simp) (by show 2 < 1000; decide)).trans ?_
    rw [put_w]
    have e3 : (S2 ++ [MO.ml [dF r]]).set S.length (.ins "History" [("_floors", dI ws), ("_steps", .ptr (S.length + 1)), ("_waters", .ptr (S.length + 2))]) = S ++ hobj S.length ws [r] [] := by
      rw [hS2, List.append_assoc, List.set_append_right _ _ (Nat.le_refl _)]
      simp [hobj, hfl]
    rw [e3]
    simp
  unfold mkD
  rw [← hS0]
  have := fn_nx (m := none) (n := 4) run (exF_raw (S := S0) (d := DV.non))
  unfold f_History_init_r
  rw [this]
/-! ### what a History tells, as lists that may change -/
section
variable {S : Sto} {n : Nat} {ws : List Int} {wss xs : List (List Rat)} {sts : List (List Int × List Rat)} {w : List Rat}
end
end FW
end
section
namespace FW.P
open PySem PyProof.Rows PySem.Spec L2 DL FW
/-! ### loops over what stays as it is -/
section
variable {tgt : DG} {body : DS} {it : DIt} {xs : List DV}
end
theorem rdL_app {S X : Sto} {d : DV} {xs : List DV} (h : rdL S d = some xs) : rdL (S ++ X) d = some xs := by
  unfold rdL at h ⊢
  split at h
  · exact h
  · exact h
  · rename_i n
    split at h
    · rename_i ds q
      have hl : n < S.length := (List.getElem?_eq_some_iff.mp q).1
      rw [List.getElem?_append_left hl, q]
      exact h
    · cases h
  · cases h
/-! ### all over one bottom -/
end FW.P
end
section
namespace FW.P
open PySem PyProof.Rows PySem.Spec L2 DL FW
abbrev Lot := List (Nat × Rat)
def lotD (lot : Lot) : DV := .lst (lot.map fun p => DV.tup [.int (p.1 : Nat), fr p.2])
structure LotOk (C n : Nat) (lot : Lot) : Prop where
  den : ∀ p ∈ lot, p.2.den ∣ C
  num : ∀ p ∈ lot, p.2.num.natAbs < 2 ^ 8000
  pl : ∀ p ∈ lot, p.1 < n
  len : lot.length ≤ 100
end FW.P
end
section
namespace FW.P
open PySem PyProof.Rows PySem.Spec L2 DL FW
/-- the lot's places -/
def plI (lot : Lot) : List Int := lot.map fun p => (p.1 : Int)
end FW.P
end
section
namespace FW.P
open PySem PyProof.Rows PySem.Spec L2 DL FW
/-- the place's distance, by the floors -/
def Xp (ws : List Int) (k : Nat) : Int := (hfI 0 ws).getD k 0
theorem Xp_get {ws : List Int} {k : Nat} (h : k ≤ ws.length) : (hfI 0 ws)[k]? = some (Xp ws k) := by
  unfold Xp
  rw [List.getD_eq_getElem?_getD, List.getElem?_eq_getElem (by rw [hfI_len]; omega)]
  rfl
theorem hfI_sum : ∀ (ws : List Int) (a : Int) (k : Nat), k ≤ ws.length → (hfI a ws)[k]? = some (a + (ws.take k).sum)
  | [], a, k, h => by
    have : k = 0 := by simpa using h
    subst this
    simp [hfI]
  | w :: ws, a, 0, _ => by simp [hfI]
  | w :: ws, a, k + 1, h => by
    have := hfI_sum ws (a + w) k (by simpa using h)
    simp only [hfI, List.getElem?_cons_succ, this, List.take_succ_cons, List.sum_cons]
    congr 1
    omega
theorem Xp_eq {ws : List Int} {k : Nat} (h : k ≤ ws.length) : Xp ws k = (ws.take k).sum := by
  have := hfI_sum ws 0 k h
  rw [Xp_get h] at this
  simpa using this
theorem Xp_small {ws : List Int} (f : Flo ws) {k : Nat} (h : k ≤ ws.length) : 0 ≤ Xp ws k ∧ Xp ws k ≤ 72 := by
  rw [Xp_eq h]
  have fl : ∀ l : List Int, (∀ w ∈ l, 0 ≤ w) → 0 ≤ l.sum := fun l => by
    induction l with
    | nil => intro _; simp
    | cons a r ih =>
      intro q
      have := ih fun w hw => q w (List.mem_cons_of_mem _ hw)
      have := q a List.mem_cons_self
      rw [List.sum_cons]
      omega
  have h1 := fl (ws.take k) fun w hw => by have := (f.fl w (List.mem_of_mem_take hw)).1; omega
  have h2 := fl (ws.drop k) fun w hw => by have := (f.fl w (List.mem_of_mem_drop hw)).1; omega
  have h3 : (ws.take k).sum + (ws.drop k).sum = ws.sum := by rw [← List.sum_append, List.take_append_drop]
  have := f.sum
  omega
/-- a fair lot -/
structure Fair (C : Nat) (ws : List Int) (lot : Lot) (k : Nat) (a b : Int) : Prop where
  ok : LotOk C (ws.length + 1) lot
  lo : ∀ p ∈ plI lot, a ≤ p ∧ p ≤ b
  up : (plI lot).Pairwise (· < ·)
  pos : ∀ p ∈ lot, 0 < p.2
  one : rsum (lot.map (·.2)) = 1
  mean : rsum (lot.map fun p => p.2 * (Xp ws p.1 : Rat)) = (Xp ws k : Rat)
end FW.P
end
section
namespace FW.P
open PySem PyProof.Rows PySem.Spec L2 DL FW
/-- the first and the last place to which one may go -/
noncomputable def reachP (n : Nat) (bs : List Int) (k : Int) : Int × Int := ((pairs bs n).find? fun p => decide (p.1 < k ∧ k < p.2)).getD (k, k)
/-- a table stands at t -/
structure TabAt (S : Sto) (t : DV) (T : List (List Lot)) : Prop where
  ds : ∃ ds, rdL S t = some ds ∧ ds.length = T.length ∧ ∀ (i : Nat) (d : DV) (row : List Lot), ds[i]? = some d → T[i]? = some row → rdL S d = some (row.map lotD)
theorem TabAt.app {S : Sto} {t : DV} {T : List (List Lot)} (h : TabAt S t T) (X : Sto) : TabAt (S ++ X) t T := by
  obtain ⟨ds, h1, h2, h3⟩ := h.ds
  exact ⟨ds, rdL_app h1, h2, fun i d row a b => rdL_app (h3 i d row a b)⟩
/-- its lots are fair -/
structure TabOk (ws : List Int) (sts : List (List Int × List Rat)) (T : List (List Lot)) (C : Nat → Nat) : Prop where
  len : T.length = sts.length
  row : ∀ row ∈ T, row.length = ws.length + 1
  c0 : ∀ i, 0 < C i
  c1 : ∀ i, C i < 2 ^ 7000
  fair : ∀ (i : Nat) (st : List Int × List Rat) (row : List Lot) (k : Nat) (lot : Lot), sts[i]? = some st → T[i]? = some row → row[k]? = some lot → Fair (C i) ws lot k (reachP ws.length st.1 (k : Nat)).1 (reachP ws.length st.1 (k : Nat)).2
section
variable {S : Sto} {n : Nat} {ws : List Int} {wss : List (List Rat)} {sts : List (List Int × List Rat)} {T : List (List Lot)} {C : Nat → Nat} {t : DV}
end
end FW.P
end
section
namespace FW.P
open PySem PyProof.Rows PySem.Spec L2 DL FW
/-! ### bottoms that divide -/
theorem hf_get0 {w : List Rat} {k : Nat} (h : k ≤ w.length) : (hf 0 w).getD k 0 = rsum (w.take k) := by
  rw [List.getD_eq_getElem?_getD, hf_rsum 0 h, Rat.zero_add]
  rfl
/-! ### what is paid -/
theorem natAbs_of_rat {t : Int} {b U : Nat} {P : Rat} (h : (t : Rat) = P * (b : Rat)) (h0 : 0 ≤ P) (h1 : P ≤ (U : Rat)) : t.natAbs ≤ U * b := by
  have hb : (0 : Rat) ≤ (b : Rat) := by exact_mod_cast Nat.zero_le b
  have a : (0 : Rat) ≤ (t : Rat) := by rw [h]; exact Rat.mul_nonneg h0 hb
  have c : (t : Rat) ≤ ((U * b : Nat) : Rat) := by
    rw [h, Rat.natCast_mul]
    exact Rat.mul_le_mul_of_nonneg_right h1 hb
  have a' : 0 ≤ t := by exact_mod_cast a
  have c' : t ≤ ((U * b : Nat) : Int) := by
    have : ((t : Int) : Rat) ≤ (((U * b : Nat) : Int) : Rat) := by
      rw [Rat.intCast_natCast]
      exact c
    exact Rat.intCast_le_intCast.mp this
  omega
end FW.P
end
section
/-! dicts with texts as keys, in the store -/
namespace DL
open PySem PyProof.Rows L2
def dctOf (S : Sto) : DV → Option (Nat × List (Str × DV))
  | .ptr n => match S[n]? with
    | some (.dct fs) => some (n, fs)
    | _ => none
  | _ => none
def putKD (fs : List (Str × DV)) (f : Str) (d : DV) : List (Str × DV) :=
  if (fs.any fun p => decide (p.1 = f)) = true then fs.map (fun p => if p.1 = f then (p.1, d) else p) else fs ++ [(f, d)]
def getKD (fs : List (Str × DV)) (f : Str) : Option DV := (fs.find? fun p => decide (p.1 = f)).map (·.2)
section
variable {K : PySem.W.Frag} {mg : Str → Option Value} {W W' : Wd} {S : Sto}
theorem DkR.look {f : Str} {d : DV} : ∀ {fs : List (Str × DV)} {vs : List (Key × V)}, DkR K W fs vs → getKD fs f = some d → ∃ v, valV vs (Sum.inr f) = some v ∧ Den K W d v
  | [], _, h, e => by cases e
  | p :: fs, _, h, e => by
    obtain ⟨v, r, rfl, h1, h2⟩ := h
    unfold getKD at e
    rw [List.find?_cons] at e
    by_cases q : p.1 = f
    · simp only [q, decide_true, Option.map_some, Option.some.injEq] at e
      subst e
      exact ⟨v, by rw [valV_pos (by show (Sum.inr p.1 : Key) = _; rw [q])], h1⟩
    · simp only [q, decide_false] at e
      obtain ⟨u, e1, e2⟩ := DkR.look (f := f) (d := d) h2 e
      exact ⟨u, by rw [valV_neg (by intro z; exact q (Sum.inr.inj z)), e1], e2⟩
theorem DkR.len : ∀ {fs : List (Str × DV)} {vs : List (Key × V)}, DkR K W fs vs → vs.length = fs.length
  | [], _, h => by
    cases (show _ = [] from h)
    rfl
  | p :: fs, _, h => by
    obtain ⟨u, r, rfl, _, h2⟩ := h
    simp [DkR.len h2]
theorem DkR.has {f : Str} : ∀ {fs : List (Str × DV)} {vs : List (Key × V)}, DkR K W fs vs → (vs.any fun kv => decide (kv.1 = (Sum.inr f : Key))) = (fs.any fun p => decide (p.1 = f))
  | [], _, h => by
    cases (show _ = [] from h)
    rfl
  | p :: fs, _, h => by
    obtain ⟨v, r, rfl, h1, h2⟩ := h
    simp only [List.any_cons, DkR.has h2, Sum.inr.injEq]
theorem DkR.mapped {f : Str} {d : DV} {v : V} (hd : Den K W d v) : ∀ {fs : List (Str × DV)} {vs : List (Key × V)}, DkR K W fs vs → DkR K W (fs.map fun p => if p.1 = f then (p.1, d) else p) (vs.map fun kv => if kv.1 = (Sum.inr f : Key) then (kv.1, v) else kv)
  | [], _, h => by
    cases (show _ = [] from h)
    exact rfl
  | p :: fs, _, h => by
    obtain ⟨u, r, rfl, h1, h2⟩ := h
    by_cases q : p.1 = f
    · refine ⟨v, _, ?_, ?_, DkR.mapped hd h2⟩
      · simp [q]
      · simp [q, hd]
    · refine ⟨u, _, ?_, ?_, DkR.mapped hd h2⟩
      · simp [q]
      · simp [q, h1]
theorem DkR.snoc {f : Str} {d : DV} {v : V} (hd : Den K W d v) : ∀ {fs : List (Str × DV)} {vs : List (Key × V)}, DkR K W fs vs → DkR K W (fs ++ [(f, d)]) (vs ++ [((Sum.inr f : Key), v)])
  | [], _, h => by
    cases (show _ = [] from h)
    exact ⟨v, [], rfl, hd, rfl⟩
  | p :: fs, _, h => by
    obtain ⟨u, r, rfl, h1, h2⟩ := h
    exact ⟨u, _, rfl, h1, DkR.snoc hd h2⟩
theorem DkR.put {f : Str} {d : DV} {v : V} (hd : Den K W d v) {fs : List (Str × DV)} {vs : List (Key × V)} (h : DkR K W fs vs) : DkR K W (putKD fs f d) (putK vs (Sum.inr f : Key) v) := by
  unfold putKD putK
  rw [h.has (f := f)]
  split
  · exact DkR.mapped hd h
  · exact DkR.snoc hd h
variable {td ty tv : TE} {fd fy fv : DE}
/-- d[y] -/
def dDGet (fd fy : DE) : DE := fun s S => bnd (fd s S) fun x S1 => bnd (fy s S1) fun y S2 => match dctOf S2 x, y with
  | some (_, fs), .str f => (match getKD fs f with
    | some d => some (d, S2)
    | none => none)
  | _, _ => none
/-- d[y] = v -/
def dDPut (fd fy fv : DE) : DS := fun s S => bnd (fv s S) fun v S1 => bnd (fd s S1) fun x S2 => bnd (fy s S2) fun y S3 => match dctOf S3 x, y with
  | some (n, fs), .str f => if fs.length < 1000 then some (.nx s (S3.set n (.dct (putKD fs f v)))) else none
  | _, _ => none
/-- d[y] op= v -/
def dDAug (fd fy fv : DE) (g : DV → DV → Sto → Option (DV × Sto)) : DS := fun s S => bnd (fd s S) fun x S1 => bnd (fy s S1) fun y S2 => match dctOf S2 x, y with
  | some (_, fs), .str f => (match getKD fs f with
    | some d => bnd (fv s S2) fun v S3 => bnd (g d v S3) fun z S4 => (match dctOf S4 x with
      | some (n, fs) => if fs.length < 1000 then some (.nx s (S4.set n (.dct (putKD fs f z)))) else none
      | none => none)
    | none => none)
  | _, _ => none
/-- += on numbers -/
def ipAddD (x y : DV) (S : Sto) : Option (DV × Sto) := match x, y with
  | .int i, .int j => some (.int (i + j), S)
  | _, _ => none
end
end DL
end
section
namespace FK
open PySem PyProof.Rows PySem.Spec L2 DL FW
/-! ### each def as a function of data -/
noncomputable def b_law_low_z : DS :=
    (dSeq (dPar 2 3 (dCons (dCB absD (dCons (dVar 0) dNil)) (dCons (dVar 1) dNil)))
    (dSeq (dWhile (dTest (dOp gtD (dVar 2) (dC (.int 0))))
    (dPar 2 3 (dCons (dOp modD (dVar 3) (dVar 2)) (dCons (dVar 2) dNil))))
    (dRet (dTup (dCons (dOp fdivD (dVar 0) (dVar 3)) (dCons (dOp fdivD (dVar 1) (dVar 3)) dNil))))))
noncomputable def f_law_low_z : List DV → Sto → Option (DV × Sto) := fnF (some false) 4 b_law_low_z
noncomputable def b_law_draw_z : DS :=
    (dSeq (dIfS (dAnd (dTest (dOp ltD (dDGet (dVar 0) (dC (.str "left"))) (dVar 1))) (dTest (dOp gtD (dCB lenD (dCons (dDGet (dVar 0) (dC (.str "great"))) dNil)) (dC (.int 0)))))
    (dDPut (dVar 0) (dC (.str "left")) (dBM "list" popAtD (dDGet (dVar 0) (dC (.str "great"))) (dCons (dC (.int 0)) dNil))) dNext)
    (dSeq (dIfS (dTest (dOp geD (dDGet (dVar 0) (dC (.str "left"))) (dVar 1)))
    (dSeq (dAsg (dOp modD (dDGet (dVar 0) (dC (.str "left"))) (dVar 1)) (dName 2))
    (dSeq (dDPut (dVar 0) (dC (.str "left")) (dOp fdivD (dDGet (dVar 0) (dC (.str "left"))) (dVar 1)))
    (dRet (dVar 2)))) dNext)
    (dSeq (dDAug (dVar 0) (dC (.str "turn")) (dC (.int 1)) ipAddD)
    (dSeq (dAsg (dDGet (dVar 0) (dC (.str "turn"))) (dName 3))
    (dSeq (dAsg (dOp (addD false) (dOp mulD (dOp (addD false) (dDGet (dVar 0) (dC (.str "fold"))) (dOp mulD (dC (.int 17)) (dVar 3))) (dOp powD (dOp (addD false) (dVar 3) (dC (.int 29))) (dC (.int 2)))) (dOp mulD (dC (.int 7919)) (dVar 3))) (dName 4))
    (dRet (dOp modD (dOp fdivD (dOp modD (dOp powD (dOp modD (dVar 4) (dC (.int 2305843009213693951))) (dC (.int 3))) (dOp (addD false) (dOp powD (dC (.int 10)) (dC (.int 18))) (dC (.int 9)))) (dC (.int 64))) (dVar 1))))))))
noncomputable def f_law_draw_z : List DV → Sto → Option (DV × Sto) := fnF (some false) 5 b_law_draw_z
noncomputable def b_law_amount_z : DS :=
    (dSeq (dAsg (dCall 2 f_law_draw_z [] (dCons (dVar 0) (dCons (dC (.int 6)) dNil))) (dName 2))
    (dSeq (dIfS (dTest (dOp ltD (dVar 2) (dC (.int 2))))
    (dRet (dTup (dCons (dC (.int 0)) (dCons (dC (.int 1)) dNil)))) dNext)
    (dSeq (dIfS (dTest (dOp ltD (dVar 2) (dC (.int 5))))
    (dRet (dCall 2 f_law_low_z [] (dCons (dOp mulD (dVar 1) (dCall 2 f_law_draw_z [] (dCons (dVar 0) (dCons (dC (.int 4)) dNil)))) (dCons (dOp (addD false) (dC (.int 1)) (dCall 2 f_law_draw_z [] (dCons (dVar 0) (dCons (dC (.int 2)) dNil)))) dNil)))) dNext)
    (dRet (dCall 2 f_law_low_z [] (dCons (dCall 2 f_law_draw_z [] (dCons (dVar 0) (dCons (dOp ixD (dTup (dCons (dC (.int 40)) (dCons (dOp powD (dC (.int 10)) (dC (.int 9))) dNil))) (dOp fdivD (dCall 2 f_law_draw_z [] (dCons (dVar 0) (dCons (dC (.int 4)) dNil))) (dC (.int 3)))) dNil))) (dCons (dOp (addD false) (dC (.int 1)) (dCall 2 f_law_draw_z [] (dCons (dVar 0) (dCons (dC (.int 6)) dNil)))) dNil)))))))
noncomputable def f_law_amount_z : List DV → Sto → Option (DV × Sto) := fnF (some false) 3 b_law_amount_z
end FK
end
section
namespace FK
open PySem PyProof.Rows PySem.Spec L2 DL FW
/-! ### fractions -/
theorem low_loop {d0 d1 : DV} {S : Sto} : ∀ (m x y : Nat), x < m → whileF (dTest (dOp gtD (dVar 2) (dC (.int 0)))) (dPar 2 3 (dCons (dOp modD (dVar 3) (dVar 2)) (dCons (dVar 2) dNil))) m [some d0, some d1, some (.int (x : Int)), some (.int (y : Int))] S =
    some (.nx [some d0, some d1, some (.int 0), some (.int ((x.gcd y : Nat) : Int))] S)
  | 0, x, y, h => by omega
  | m + 1, x, y, h => by
    by_cases hx : x = 0
    · subst hx
      rw [while_end (S1 := S) (by simp)]
      simp
    · have hx0 : 0 < x := by omega
      have hxi : (0 : Int) < (x : Int) := by omega
      rw [while_step (S1 := S) (s2 := [some d0, some d1, some (.int ((y % x : Nat) : Int)), some (.int (x : Int))]) (S2 := S) (by simp [hxi, hx0]) (by simp [hx0]), low_loop m (y % x) x (by have := Nat.mod_lt y hx0; omega)]
      rw [Nat.gcd_rec x y]
theorem law_low_ok {a : Int} {b : Nat} {S : Sto} (hb : 0 < b) (h : b < 2 ^ 8000) (ha : a.natAbs < 2 ^ 8000) : f_law_low_z [.int a, .int (b : Int)] S = some (fr (mkRat a b), S) := by
  have g : FitsD ((a.natAbs.gcd b : Nat) : Int) := gcd_fitsD hb h
  have e : (if a < 0 then -a else a) = ((a.natAbs : Nat) : Int) := by split <;> omega
  rw [← mkRat_fr hb]
  simp only [f_law_low_z, fnF, b_law_low_z, startD, dSeq, dPar, dCB, dCons, dNil, dVar, dOp, dC, bnd_some', absD_int, List.map, List.length, List.replicate, List.cons_append, List.nil_append, List.getElem?_cons_zero, List.getElem?_cons_succ, List.set, kNx, e]
  simp only [dWhile, low_loop _ _ _ (lt_fuel (k := 8000) ha (by decide)), kNx]
  simp [g]
end FK
end
section
namespace FK
open PySem PyProof.Rows PySem.Spec L2 DL FW
/-! ### the bag -/
structure Bk where
  gs : List Int
  l : Int
  n : Int
  f : Int
def Bk.kv (t : Bk) : List (Str × DV) := [("great", .ptr 0), ("left", .int t.l), ("turn", .int t.n), ("fold", .int t.f)]
def Bk.st (t : Bk) (G : Sto) : Sto := .ml (t.gs.map DV.int) :: .dct t.kv :: G
structure Bk.ok (N : Int) (t : Bk) : Prop where
  f0 : 0 ≤ t.f
  f1 : t.f < 2 ^ 61
  n0 : 0 ≤ t.n
  n1 : t.n ≤ N
  l : t.gs.length ≤ 63
theorem Bk.ok.mono {N M : Int} {t : Bk} (h : t.ok N) (hm : N ≤ M) : t.ok M := ⟨h.f0, h.f1, h.n0, Int.le_trans h.n1 hm, h.l⟩
theorem s_gl : ¬ (("great" : Str) = "left") := by decide +kernel
theorem s_gt : ¬ (("great" : Str) = "turn") := by decide +kernel
theorem s_gf : ¬ (("great" : Str) = "fold") := by decide +kernel
theorem s_lt : ¬ (("left" : Str) = "turn") := by decide +kernel
theorem s_lf : ¬ (("left" : Str) = "fold") := by decide +kernel
theorem s_tl : ¬ (("turn" : Str) = "left") := by decide +kernel
theorem s_tf : ¬ (("turn" : Str) = "fold") := by decide +kernel
theorem s_fl : ¬ (("fold" : Str) = "left") := by decide +kernel
theorem s_ft : ¬ (("fold" : Str) = "turn") := by decide +kernel
section
variable {t t' : Bk} {G : Sto} {i : Int} {ds : List DV} {d : DV} {s : Sl} {fe : DE}
theorem k_g : getKD t.kv "great" = some (.ptr 0) := by simp [getKD, Bk.kv]
theorem k_l : getKD t.kv "left" = some (.int t.l) := by simp [getKD, Bk.kv, s_gl]
theorem k_t : getKD t.kv "turn" = some (.int t.n) := by simp [getKD, Bk.kv, s_gt, s_lt]
theorem k_f : getKD t.kv "fold" = some (.int t.f) := by simp [getKD, Bk.kv, s_gf, s_lf, s_tf]
theorem p_l : putKD t.kv "left" (.int i) = ({ t with l := i } : Bk).kv := by simp [putKD, Bk.kv, s_gl, s_tl, s_fl]
theorem p_t : putKD t.kv "turn" (.int i) = ({ t with n := i } : Bk).kv := by simp [putKD, Bk.kv, s_gt, s_lt, s_ft]
theorem bk_dct : dctOf (t.st G) (.ptr 1) = some (1, t.kv) := rfl
@[simp] theorem bk_rd0 : rdL (t.st G) (.ptr 0) = some (t.gs.map DV.int) := rfl
@[simp] theorem bk_ptr0 : ptrL (t.st G) (.ptr 0) = some (0, t.gs.map DV.int) := rfl
@[simp] theorem bk_len : (t.st G).length = G.length + 2 := rfl
@[simp] theorem bk_app {X : Sto} : t.st G ++ X = t.st (G ++ X) := rfl
@[simp] theorem d_g (h : s[0]? = some (some (.ptr 1))) : dDGet (dVar 0) (dC (.str "great")) s (t.st G) = some (.ptr 0, t.st G) := by
  simp only [dDGet, dVar, dC, h, bnd_some', bk_dct, k_g]
theorem d_l (h : s[0]? = some (some (.ptr 1))) : dDGet (dVar 0) (dC (.str "left")) s (t.st G) = some (.int t.l, t.st G) := by
  simp only [dDGet, dVar, dC, h, bnd_some', bk_dct, k_l]
theorem d_t (h : s[0]? = some (some (.ptr 1))) : dDGet (dVar 0) (dC (.str "turn")) s (t.st G) = some (.int t.n, t.st G) := by
  simp only [dDGet, dVar, dC, h, bnd_some', bk_dct, k_t]
theorem d_f (h : s[0]? = some (some (.ptr 1))) : dDGet (dVar 0) (dC (.str "fold")) s (t.st G) = some (.int t.f, t.st G) := by
  simp only [dDGet, dVar, dC, h, bnd_some', bk_dct, k_f]
theorem kv_len : t.kv.length = 4 := rfl
theorem d_pl {fv : DE} (hv : fv s (t'.st G) = some (.int i, t.st G)) (h : s[0]? = some (some (.ptr 1))) : dDPut (dVar 0) (dC (.str "left")) fv s (t'.st G) = some (.nx s (({ t with l := i } : Bk).st G)) := by
  simp only [dDPut, dVar, dC, h, hv, bnd_some', bk_dct, kv_len, p_l]
  rfl
theorem d_pt (h : s[0]? = some (some (.ptr 1))) : dDAug (dVar 0) (dC (.str "turn")) (dC (.int 1)) ipAddD s (t.st G) = some (.nx s (({ t with n := t.n + 1 } : Bk).st G)) := by
  simp only [dDAug, dVar, dC, h, bnd_some', bk_dct, k_t, ipAddD, kv_len, p_t]
  rfl
theorem bk_pop {g : Int} {gs : List Int} (h : t.gs = g :: gs) (hl : t.gs.length ≤ 63) : popAtD (.ptr 0) [.int 0] (t.st G) = some (.int g, ({ t with gs := gs } : Bk).st G) := by
  have e : L2.ixN (t.gs.map DV.int).length 0 = some 0 := by
    unfold L2.ixN
    rw [h]
    simp
  unfold popAtD
  simp only [bk_ptr0, e]
  have e2 : (t.gs.map DV.int)[0]? = some (.int g) := by rw [h]; rfl
  simp only [e2]
  rw [gate_ok (by rw [List.length_map]; omega), h]
  rfl
end
theorem draw_ok {t : Bk} {G : Sto} {m N : Int} (h : t.ok N) (hN : N < 2 ^ 60) (hm : 0 < m) (hm2 : m < 2 ^ 150) :
    ∃ (r : Int) (t' : Bk), f_law_draw_z [.ptr 1, .int m] (t.st G) = some (.int r, t'.st G) ∧ 0 ≤ r ∧ r < m ∧ t'.ok (N + 1) := by
  have hf0 := h.f0; have hf1 := h.f1; have hn0 := h.n0; have hn1 := h.n1
  have fm : FitsD m := fitsD_small hm (by omega)
  have one : ∃ u : Bk, (dIfS (dAnd (dTest (dOp ltD (dDGet (dVar 0) (dC (.str "left"))) (dVar 1))) (dTest (dOp gtD (dCB lenD (dCons (dDGet (dVar 0) (dC (.str "great"))) dNil)) (dC (.int 0)))))
    (dDPut (dVar 0) (dC (.str "left")) (dBM "list" popAtD (dDGet (dVar 0) (dC (.str "great"))) (dCons (dC (.int 0)) dNil))) dNext) [some (.ptr 1), some (.int m), none, none, none] (t.st G) = some (.nx [some (.ptr 1), some (.int m), none, none, none] (u.st G)) ∧ u.ok N ∧ u.f = t.f ∧ u.n = t.n := by
    have hs : ([some (.ptr 1), some (.int m), none, none, none] : Sl)[0]? = some (some (.ptr 1)) := rfl
    have g1 := d_l (t := t) (G := G) hs
    have g2 := d_g (t := t) (G := G) hs
    have ln : lenD [.ptr 0] (t.st G) = some (.int (t.gs.length : Nat), t.st G) := by simp [lenD]
    by_cases hc : t.l < m ∧ 0 < t.gs.length
    · obtain ⟨g, gs, hg⟩ : ∃ g gs, t.gs = g :: gs := List.exists_cons_of_length_pos hc.2
      refine ⟨{ ({ t with gs := gs } : Bk) with l := g }, if_t (S1 := t.st G) ?_ (d_pl (t := { t with gs := gs }) ?_ hs), ⟨h.f0, h.f1, h.n0, h.n1, ?_⟩, rfl, rfl⟩
      · have : (0 : Int) < (t.gs.length : Int) := by omega
        revert g1 g2
        generalize dDGet (dVar 0) (dC (.str "left")) = F1
        generalize dDGet (dVar 0) (dC (.str "great")) = F2
        intro g1 g2
        simp [g1, g2, ln, hc.1, hc.2]
      · have p := bk_pop (G := G) hg h.l
        revert g2
        generalize dDGet (dVar 0) (dC (.str "great")) = F2
        intro g2
        simp [dBM, g2, p]
      · have := h.l
        rw [hg] at this
        show gs.length ≤ 63
        simp at this
        omega
    · refine ⟨t, if_f (S1 := t.st G) ?_ rfl, h, rfl, rfl⟩
      revert g1 g2
      generalize dDGet (dVar 0) (dC (.str "left")) = F1
      generalize dDGet (dVar 0) (dC (.str "great")) = F2
      intro g1 g2
      by_cases h1 : t.l < m
      · have : ¬ 0 < t.gs.length := fun z => hc ⟨h1, z⟩
        have : t.gs = [] := List.length_eq_zero_iff.mp (by omega)
        simp [g1, g2, ln, h1, this]
      · simp [g1, h1]
  obtain ⟨u, e1, ku, uf, un⟩ := one
  have hs : ([some (.ptr 1), some (.int m), none, none, none] : Sl)[0]? = some (some (.ptr 1)) := rfl
  have g1 := d_l (t := u) (G := G) hs
  by_cases hc : m ≤ u.l
  · have hs2 : ([some (.ptr 1), some (.int m), some (.int (u.l % m)), none, none] : Sl)[0]? = some (some (.ptr 1)) := rfl
    have g2 := d_l (t := u) (G := G) hs2
    refine ⟨u.l % m, { u with l := u.l / m }, ?_, Int.emod_nonneg _ (by omega), Int.emod_lt_of_pos _ hm, ⟨ku.f0, ku.f1, ku.n0, by have := ku.n1; show u.n ≤ N + 1; omega, ku.l⟩⟩
    refine fn_rt (d := .int (u.l % m)) (S1 := ({ u with l := u.l / m } : Bk).st G) ?_ (exF_len rfl)
    refine seq_nx e1 ?_
    refine seq_rt (if_t (S1 := u.st G) ?_ ?_)
    · revert g1
      generalize dDGet (dVar 0) (dC (.str "left")) = F1
      intro g1
      simp [g1, hc]
    · refine seq_nx (asg_name (d := .int (u.l % m)) (S1 := u.st G) ?_) ?_
      · revert g1
        generalize dDGet (dVar 0) (dC (.str "left")) = F1
        intro g1
        simp [g1, fm, hm]
      · refine seq_nx (d_pl (t := u) (i := u.l / m) ?_ hs2) (ret_of rfl)
        revert g2
        generalize dDGet (dVar 0) (dC (.str "left")) = F1
        intro g2
        simp [g2, fm, hm]
  · obtain ⟨v, hv⟩ : ∃ v : Bk, v = { u with n := u.n + 1 } := ⟨_, rfl⟩
    have vn : v.n = t.n + 1 := by rw [hv]; show u.n + 1 = _; rw [un]
    have vf : v.f = t.f := by rw [hv]; exact uf
    obtain ⟨x, hx⟩ : ∃ x : Int, x = (t.f + 17 * (t.n + 1)) * (t.n + 1 + 29) ^ 2 + 7919 * (t.n + 1) := ⟨_, rfl⟩
    obtain ⟨y, hy⟩ : ∃ y : Int, y = x % 2305843009213693951 := ⟨_, rfl⟩
    have y0 : 0 ≤ y ∧ y < 2305843009213693951 := by
      rw [hy]
      exact ⟨Int.emod_nonneg _ (by decide), Int.emod_lt_of_pos _ (by decide)⟩
    have p2 : ∀ S, powD (.int (t.n + 1 + 29)) (.int 2) S = some (.int ((t.n + 1 + 29) ^ 2), S) := fun S => powD_int (by decide) (by decide) (by omega)
    have p3 : ∀ S, powD (.int y) (.int 3) S = some (.int (y ^ 3), S) := fun S => powD_int (by decide) (by decide) (by omega)
    have c2 : 0 ≤ (t.n + 1 + 29) ^ 2 ∧ (t.n + 1 + 29) ^ 2 < 2 ^ 124 := by
      have hn3 : 0 ≤ t.n + 1 + 29 ∧ t.n + 1 + 29 < 2 ^ 62 := by omega
      refine ⟨Int.pow_nonneg hn3.1, ?_⟩
      have h1 : (t.n + 1 + 29).toNat ^ 2 < (2 ^ 62) ^ 2 := Nat.pow_lt_pow_left (by omega) (by decide)
      have h2 : (t.n + 1 + 29) ^ 2 = (((t.n + 1 + 29).toNat ^ 2 : Nat) : Int) := by
        rw [Int.natCast_pow, Int.toNat_of_nonneg hn3.1]
      rw [h2]
      omega
    have f1 : Fits (t.f + 17 * (t.n + 1)) := fits_lt (by omega) (by omega)
    have f2 : Fits ((t.n + 1 + 29) ^ 2) := fits_lt c2.1 (by omega)
    have f3 : Fits 7919 := fits_lt (by decide) (by decide)
    have f4 : Fits (t.n + 1) := fits_lt (by omega) (by omega)
    have f5 : Fits 17 := fits_lt (by decide) (by decide)
    have f64 : FitsD 64 := fitsD_small (by decide) (by decide)
    have fmo : FitsD (1000000000000000000 + 9) := fitsD_small (by decide) (by decide)
    refine ⟨y ^ 3 % (1000000000000000000 + 9) / 64 % m, v, ?_, Int.emod_nonneg _ (by omega), Int.emod_lt_of_pos _ hm, ⟨by rw [vf]; exact h.f0, by rw [vf]; exact h.f1, by omega, by omega, by rw [hv]; exact ku.l⟩⟩
    refine fn_rt (d := .int (y ^ 3 % (1000000000000000000 + 9) / 64 % m)) (S1 := v.st G) ?_ (exF_len rfl)
    refine seq_nx e1 ?_
    refine seq_nx (if_f (S1 := u.st G) ?_ rfl) ?_
    · revert g1
      generalize dDGet (dVar 0) (dC (.str "left")) = F1
      intro g1
      simp [g1, hc]
    · refine seq_nx (d_pt hs) ?_
      rw [← hv]
      refine seq_nx (asg_name (d := .int (t.n + 1)) (S1 := v.st G) (by rw [d_t (t := v) (G := G) hs, vn])) ?_
      have g3 := d_f (t := v) (G := G) (s := [some (.ptr 1), some (.int m), none, some (.int (t.n + 1)), none]) rfl
      rw [vf] at g3
      refine seq_nx (asg_name (d := .int x) (S1 := v.st G) ?_) ?_
      · simp only [List.set_cons_succ, List.set_cons_zero]
        revert g3
        generalize dDGet (dVar 0) (dC (.str "fold")) = F1
        intro g3
        simp [g3, p2, f1, f2, f3, f4, f5]
        exact hx.symm
      · refine ret_of ?_
        simp [← hy, p3, hm, f64, fm, fmo]
end FK
end
section
namespace FK
open PySem PyProof.Rows PySem.Spec L2 DL FW
/-! ### amounts -/
theorem dv_mk {x : Int} {b M : Nat} (hb : 0 < b) (hb2 : b < 73) (hx : x.natAbs ≤ M) : Dv (DN 0) M (mkRat x b) := by
  have e0 : DN 0 = LAM := by
    unfold DN
    simp
  rw [e0]
  have hd := lam_dvd b hb2 hb
  obtain ⟨E, hE⟩ : ∃ E, LAM = b * E := ⟨LAM / b, by have := Nat.div_add_mod LAM b; omega⟩
  have bne : (b : Rat) ≠ 0 := by
    intro z
    have : b = 0 := by exact_mod_cast z
    omega
  refine ⟨x * (E : Nat), ?_, ?_⟩
  · rw [Rat.mkRat_eq_div, hE, Rat.natCast_mul, Rat.intCast_mul, Rat.intCast_natCast]
    grind
  · rw [Int.natAbs_mul, Int.natAbs_natCast, hE]
    refine Nat.mul_le_mul hx ?_
    exact Nat.le_mul_of_pos_left _ hb
theorem mkRat_le {x : Int} {b : Nat} (hb : 0 < b) (h0 : 0 ≤ x) : mkRat x b ≤ (x : Rat) := by
  rw [Rat.mkRat_eq_div]
  have b1 : (1 : Rat) ≤ (b : Rat) := by exact_mod_cast hb
  have x0 : (0 : Rat) ≤ (x : Rat) := by exact_mod_cast h0
  refine Rat.not_lt.mp fun z => ?_
  have k := Rat.mul_lt_mul_of_pos_right z (show (0 : Rat) < (b : Rat) by grind)
  have m := mul_le_left b1 x0
  have e : (x : Rat) / (b : Rat) * (b : Rat) = (x : Rat) := by grind
  grind
structure Am (M : Nat) (q : Rat) : Prop where
  pos : 0 ≤ q
  le : q ≤ (M : Rat)
  dv : Dv (DN 0) M q
theorem am_mk {x : Int} {b M : Nat} (hb : 0 < b) (hb2 : b < 73) (h0 : 0 ≤ x) (h1 : x ≤ (M : Nat)) : Am M (mkRat x b) := by
  refine ⟨nonneg_mkRat h0, Rat.le_trans (mkRat_le hb h0) ?_, dv_mk hb hb2 (by omega)⟩
  rw [← Rat.intCast_natCast]
  exact Rat.intCast_le_intCast.mpr h1
theorem am_zero {M : Nat} : Am M 0 := by
  have := am_mk (x := 0) (b := 1) (M := M) (by decide) (by decide) (by decide) (by omega)
  simpa using this
theorem Am.add {M N : Nat} {p q : Rat} (h : Am M p) (g : Am N q) : Am (M + N) (p + q) := by
  refine ⟨Rat.add_nonneg h.pos g.pos, ?_, h.dv.add g.dv⟩
  rw [Rat.natCast_add]
  have a := h.le
  have b := g.le
  grind
theorem Am.mul {M c : Nat} {p : Rat} (h : Am M p) : Am (M * c) (p * (c : Rat)) := by
  have c0 : (0 : Rat) ≤ (c : Rat) := Rat.natCast_nonneg
  refine ⟨Rat.mul_nonneg h.pos c0, ?_, ?_⟩
  · rw [Rat.natCast_mul]
    exact Rat.mul_le_mul_of_nonneg_right h.le c0
  · obtain ⟨x, e, b⟩ := h.dv
    refine ⟨x * (c : Int), ?_, ?_⟩
    · rw [Rat.intCast_mul, Rat.intCast_natCast, ← e]
      grind
    · rw [Int.natAbs_mul, Int.natAbs_natCast]
      have := Nat.mul_le_mul_right c b
      calc x.natAbs * c ≤ M * DN 0 * c := this
        _ = M * c * DN 0 := by rw [Nat.mul_assoc, Nat.mul_comm (DN 0), Nat.mul_assoc]
theorem Am.up {M N : Nat} {p : Rat} (h : Am M p) (hm : M ≤ N) : Am N p := ⟨h.pos, Rat.le_trans h.le (Rat.natCast_le_natCast.mpr hm), h.dv.le hm⟩
def BIL : Nat := 1000000000
/-- a row of amounts -/
def Rw (M : Nat) (ws : List Int) (w : List Rat) : Prop := w.length = ws.length ∧ ∀ q ∈ w, Am M q
theorem Rw.wt {M : Nat} {ws : List Int} {w : List Rat} (h : Rw M ws w) (f : Flo ws) (hM : M ≤ 1000000000000) : Wt 0 ws w := by
  refine ⟨h.1, fun q hq => (h.2 q hq).pos, fun q hq => (h.2 q hq).dv.le (Nat.le_trans hM (by decide)), ?_⟩
  have key : ∀ w : List Rat, (∀ q ∈ w, Am M q) → rsum w ≤ ((w.length * M : Nat) : Rat) := by
    intro w
    induction w with
    | nil => intro _; simp [rsum, Rat.le_refl]
    | cons q w ih =>
      intro h
      have h1 := ih fun x hx => h x (List.mem_cons_of_mem _ hx)
      have h2 := (h q (List.mem_cons_self)).le
      rw [List.length_cons, Nat.add_mul, Nat.one_mul, Rat.natCast_add]
      simp only [rsum]
      grind
  refine Rat.le_trans (key w h.2) ?_
  have : w.length * M ≤ TOT 0 := by
    have := f.n
    have h2 : w.length * M ≤ 8 * 1000000000000 := Nat.mul_le_mul (by have := h.1; omega) hM
    exact Nat.le_trans h2 (by decide)
  exact_mod_cast this
theorem Rw.put {M N : Nat} {ws : List Int} {w r : List Rat} (h : Rw M ws w) (g : Rw N ws r) : Rw (M + N) ws (List.zipWith (· + ·) w r) :=
  ⟨by simp [h.1, g.1], fun q hq => by obtain ⟨x, y, hx, hy, rfl⟩ := put_mem hq; exact (h.2 x hx).add (g.2 y hy)⟩
theorem Rw.mul {M c : Nat} {ws : List Int} {w : List Rat} (h : Rw M ws w) : Rw (M * c) ws (w.map (· * (c : Rat))) :=
  ⟨by simp [h.1], fun q hq => by obtain ⟨x, hx, rfl⟩ := List.mem_map.mp hq; exact (h.2 x hx).mul⟩
theorem Rw.up {M N : Nat} {ws : List Int} {w : List Rat} (h : Rw M ws w) (hm : M ≤ N) : Rw N ws w := ⟨h.1, fun q hq => (h.2 q hq).up hm⟩
theorem low_small {a b : Int} {M : Nat} {S : Sto} (ha : 0 ≤ a) (ha2 : a ≤ (M : Nat)) (hM : M ≤ 1000000000000) (hb : 1 ≤ b) (hb2 : b ≤ 70) : ∃ q, f_law_low_z [.int a, .int b] S = some (fr q, S) ∧ Am M q := by
  obtain ⟨c, rfl⟩ : ∃ c : Nat, b = (c : Int) := ⟨b.toNat, by omega⟩
  have h8 : (2 : Nat) ^ 50 ≤ 2 ^ 8000 := Nat.pow_le_pow_right (by decide) (by decide)
  exact ⟨mkRat a c, law_low_ok (by omega) (Nat.lt_of_lt_of_le (by omega) h8) (Nat.lt_of_lt_of_le (by omega) h8), am_mk (by omega) (by omega) ha ha2⟩
theorem law_amount_ok {t : Bk} {G : Sto} {w N : Int} (h : t.ok N) (hN : N < 2 ^ 50) (hw : 1 ≤ w ∧ w ≤ 9) :
    ∃ (q : Rat) (t' : Bk), f_law_amount_z [.ptr 1, .int w] (t.st G) = some (fr q, t'.st G) ∧ Am BIL q ∧ t'.ok (N + 4) := by
  obtain ⟨s, t1, e1, a1, b1, k1⟩ := draw_ok (G := G) (m := 6) h (by omega) (by decide) (by decide)
  by_cases h2 : s < 2
  · refine ⟨0, t1, ?_, am_zero, k1.mono (by omega)⟩
    refine fn_rt (d := fr 0) (S1 := t1.st G) ?_ (exF_len rfl)
    refine seq_nx (asg_name (d := .int s) (S1 := t1.st G) (by simp [e1])) ?_
    refine seq_rt (if_t (S1 := t1.st G) (by simp [h2]) (ret_of ?_))
    show _ = some (DV.tup [.int 0, .int 1], _)
    simp
  · by_cases h5 : s < 5
    · obtain ⟨r2, t2, e2, a2, b2, k2⟩ := draw_ok (G := G) (m := 4) k1 (by omega) (by decide) (by decide)
      obtain ⟨r3, t3, e3, a3, b3, k3⟩ := draw_ok (G := G) (m := 2) k2 (by omega) (by decide) (by decide)
      have fw : Fits w := fits_lt (by omega) (by omega)
      have fr2 : Fits r2 := fits_lt (by omega) (by omega)
      have hm0 : 0 ≤ w * r2 := Int.mul_nonneg (by omega) a2
      have hm1 := Int.mul_le_mul hw.2 (show r2 ≤ 3 by omega) a2 (by decide)
      obtain ⟨q, eq, aq⟩ := low_small (a := w * r2) (b := 1 + r3) (M := BIL) (S := t3.st G) hm0 (by unfold BIL; omega) (by decide) (by omega) (by omega)
      refine ⟨q, t3, ?_, aq, k3.mono (by omega)⟩
      refine fn_rt (d := fr q) (S1 := t3.st G) ?_ (exF_len rfl)
      refine seq_nx (asg_name (d := .int s) (S1 := t1.st G) (by simp [e1])) ?_
      refine seq_nx (if_f (S1 := t1.st G) (by simp [h2]) rfl) ?_
      refine seq_rt (if_t (S1 := t1.st G) (by simp [h5]) (ret_of ?_))
      simp [e2, e3, fw, fr2, eq]
    · obtain ⟨r2, t2, e2, a2, b2, k2⟩ := draw_ok (G := G) (m := 4) k1 (by omega) (by decide) (by decide)
      have f3 : FitsD 3 := fitsD_small (by decide) (by decide)
      have p9 : ∀ S, powD (.int 10) (.int 9) S = some (.int 1000000000, S) := fun S => powD_int (by decide) (by decide) (by decide)
      obtain ⟨m, hm, m0, m1⟩ : ∃ m : Int, (∀ S, ixD (.tup [.int 40, .int 1000000000]) (.int (r2 / 3)) S = some (.int m, S)) ∧ 0 < m ∧ m ≤ 1000000000 := by
        by_cases h3 : r2 = 3
        · refine ⟨1000000000, fun S => ixD_tup (at_nat (n := 1) (by omega) rfl), by decide, by decide⟩
        · refine ⟨40, fun S => ixD_tup (at_nat (n := 0) (by omega) rfl), by decide, by decide⟩
      obtain ⟨r3, t3, e3, a3, b3, k3⟩ := draw_ok (G := G) (m := m) k2 (by omega) m0 (by omega)
      obtain ⟨r4, t4, e4, a4, b4, k4⟩ := draw_ok (G := G) (m := 6) k3 (by omega) (by decide) (by decide)
      obtain ⟨q, eq, aq⟩ := low_small (a := r3) (b := 1 + r4) (M := BIL) (S := t4.st G) a3 (by unfold BIL; omega) (by decide) (by omega) (by omega)
      refine ⟨q, t4, ?_, aq, k4.mono (by omega)⟩
      refine fn_rt (d := fr q) (S1 := t4.st G) ?_ (exF_len rfl)
      refine seq_nx (asg_name (d := .int s) (S1 := t1.st G) (by simp [e1])) ?_
      refine seq_nx (if_f (S1 := t1.st G) (by simp [h2]) rfl) ?_
      refine seq_nx (if_f (S1 := t1.st G) (by simp [h5]) rfl) (ret_of ?_)
      simp [e2, p9, f3, hm, e3, e4, eq]
end FK
end
section
namespace FK
open PySem PyProof.Rows PySem.Spec L2 DL FW
/-- steps that may be taken -/
def Sts (M : Nat) (ws : List Int) (l : List (List Int × List Rat)) : Prop := ∀ p ∈ l, Bo ws.length p.1 ∧ Rw M ws p.2
/-! ### a History of steps -/
noncomputable def stp (ws : List Int) (w : List Rat) (p : List Int × List Rat) : List Rat := rest (ws.zip (List.zipWith (· + ·) w p.2)) p.1
noncomputable def run (ws : List Int) (w : List Rat) (l : List (List Int × List Rat)) : List Rat := l.foldl (stp ws) w
theorem run_snoc {ws : List Int} {w : List Rat} {l : List (List Int × List Rat)} {p : List Int × List Rat} : run ws w (l ++ [p]) = stp ws (run ws w l) p := by
  simp [run, List.foldl_append]
theorem Wt.stp {j M : Nat} {ws : List Int} {w : List Rat} {p : List Int × List Rat} (h : Wt j ws w) (f : Flo ws) (hb : Bo ws.length p.1) (hr : Rw M ws p.2) (hM : M ≤ 1000000000000) (hj : j ≤ 11) : Wt (j + 1) ws (stp ws w p) :=
  FW.Wt.step h (hr.wt f hM) f hj hb
theorem run_wt {M : Nat} {ws : List Int} (f : Flo ws) (hM : M ≤ 1000000000000) : ∀ {l : List (List Int × List Rat)} {j : Nat} {w : List Rat}, Wt j ws w → Sts M ws l → j + l.length ≤ 11 → Wt (j + l.length) ws (run ws w l)
  | [], j, w, h, _, _ => h
  | p :: l, j, w, h, hs, hl => by
    have h1 := Wt.stp h f (hs p List.mem_cons_self).1 (hs p List.mem_cons_self).2 hM (by simp at hl; omega)
    have h2 := run_wt f hM (l := l) (j := j + 1) h1 (fun q hq => hs q (List.mem_cons_of_mem _ hq)) (by simp at hl; omega)
    rw [List.length_cons, show j + (l.length + 1) = j + 1 + l.length by omega]
    exact h2
theorem hobj_at0 {S : Sto} {ws : List Int} {wss : List (List Rat)} {sts : List (List Int × List Rat)} : HAt (S ++ hobj S.length ws wss sts) S.length ws wss sts := by
  have := hobj_at (S := S) (X := []) (ws := ws) (wss := wss) (sts := sts)
  rw [List.append_nil] at this
  exact this
end FK
end
section
namespace FK
open PySem PyProof.Rows PySem.Spec L2 DL FW
/-! ### what is left, told -/
def lf (w : List Rat) (m : Nat) : List Rat := (List.range (m + 1)).map fun k => rsum (w.take k)
end FK
end
section
namespace FK
open PySem PyProof.Rows PySem.Spec L2 DL FW
theorem Rw.sz {M : Nat} {ws : List Int} {r : List Rat} (h : Rw M ws r) (f : Flo ws) (hM : M ≤ 1000000000000) : ∀ q ∈ r, Sz 1400 q := fun q hq => by
  have := (zj 0).one q (((h.wt f hM).row f (by omega)).c q hq)
  rw [zj_B (by omega)] at this
  exact this
/-! ### Histories behind the bag -/
def At (G : Sto) (n : Nat) (ws : List Int) (v : List Rat) : Prop := 2 ≤ n ∧ ∃ wss sts, ∀ t : Bk, HAt (t.st G) n ws (wss ++ [v]) sts
theorem At.app {G X : Sto} {n : Nat} {ws : List Int} {v : List Rat} (h : At G n ws v) : At (G ++ X) n ws v := by
  obtain ⟨h2, wss, sts, H⟩ := h
  refine ⟨h2, wss, sts, fun t => ?_⟩
  have := (H t).app X
  rwa [bk_app] at this
end FK
end
section
namespace FK
open PySem PyProof.Rows PySem.Spec L2 DL FW
theorem Wt.hz' {j : Nat} {ws : List Int} {w : List Rat} (h : Wt j ws w) (f : Flo ws) (hj : j ≤ 11) : Hz 1400 w := by
  have R := h.row f hj
  have hz := hz_l R.ok (by rw [R.ll]; exact R.zl)
  rw [R.l2, zj_B hj] at hz
  exact hz
end FK
end
section
namespace FW.P
open PySem PyProof.Rows PySem.Spec L2 DL FW
/-- prices as whole numbers over a bottom -/
structure Pri (P : List Rat) (tops : List Int) (b n U : Nat) : Prop where
  lt : tops.length = n
  lp : P.length = n
  b0 : 0 < b
  eq : ∀ k, k < n → ((tops.getD k 0 : Int) : Rat) = P.getD k 0 * (b : Rat)
  lo : ∀ k, k < n → 0 ≤ P.getD k 0 ∧ P.getD k 0 ≤ (U : Rat)
theorem Pri.abs {P : List Rat} {tops : List Int} {b n U : Nat} (h : Pri P tops b n U) : ∀ x ∈ tops, x.natAbs ≤ U * b := fun x hx => by
  obtain ⟨k, hk, rfl⟩ := List.getElem_of_mem hx
  have hk' : k < n := by rw [← h.lt]; exact hk
  have e : tops.getD k 0 = tops[k] := by rw [List.getD_eq_getElem?_getD, List.getElem?_eq_getElem hk]; rfl
  rw [← e]
  exact natAbs_of_rat (h.eq k hk') (h.lo k hk').1 (h.lo k hk').2
theorem pow2_le {a b : Nat} (h : a ≤ b) : 2 ^ a ≤ 2 ^ b := Nat.pow_le_pow_right (by decide) h
end FW.P
end
section
namespace FW.P
open PySem PyProof.Rows PySem.Spec L2 DL FW
section
variable {tgt : DG} {it : DIt} {α : Type} {l : List α} {φ : α → DV}
end
theorem getD_lt {α : Type} {l : List α} {i : Nat} {d : α} (h : i < l.length) : l.getD i d = l[i] := by
  rw [List.getD_eq_getElem?_getD, List.getElem?_eq_getElem h]
  rfl
/-! ### rows told, still places -/
section
variable {S : Sto} {n : Nat} {ws : List Int} {wss : List (List Rat)} {sts : List (List Int × List Rat)}
/-- the places past which nothing came -/
def stl (a b : List Rat) : List Nat := (List.range a.length).filter fun k => decide (a.getD k 0 = b.getD k 0)
noncomputable def fal (w r : List Rat) : List Rat := List.zipWith (· + ·) (hf 0 w) (hf 0 r)
/-- all still places, step by step -/
noncomputable def stls (wss : List (List Rat)) (sts : List (List Int × List Rat)) : List (List Nat) := (List.range sts.length).map fun i => stl (hf 0 (wss.getD (i + 1) [])) (fal (wss.getD i []) (sts.getD i ([], [])).2)
end
end FW.P
end
section
namespace FW.P
open PySem PyProof.Rows PySem.Spec L2 DL FW
section
variable {S : Sto} {n : Nat} {ws : List Int} {wss : List (List Rat)} {sts : List (List Int × List Rat)}
end
/-! ### the best lots -/
theorem Xp_lt {ws : List Int} (f : Flo ws) {i j : Nat} (h : i < j) (hj : j ≤ ws.length) : Xp ws i < Xp ws j := by
  induction j with
  | zero => omega
  | succ j ih =>
    have e : Xp ws (j + 1) = Xp ws j + ws[j]'(by omega) := by
      rw [Xp_eq hj, Xp_eq (by omega), List.take_succ, List.getElem?_eq_getElem (by omega), List.sum_append]
      simp
    have p := (f.fl _ (List.getElem_mem (show j < ws.length by omega))).1
    rcases Nat.lt_or_ge i j with h1 | h1
    · have := ih h1 (by omega)
      omega
    · have : i = j := by omega
      subst this
      omega
def lowN (st : List Nat) (k : Nat) : Nat := (maxI ((st.filter fun j => decide (j < k)).map fun j => ((j : Nat) : Int))).toNat
def highN (st : List Nat) (k : Nat) : Nat := (minI ((st.filter fun j => decide (k < j)).map fun j => ((j : Nat) : Int))).toNat
theorem low_of {st : List Nat} {k : Nat} (h : ∃ j ∈ st, j < k) : lowN st k ∈ st ∧ lowN st k < k ∧ (∀ j ∈ st, j < k → j ≤ lowN st k) ∧ maxI ((st.filter fun j => decide (j < k)).map fun j => ((j : Nat) : Int)) = (lowN st k : Nat) := by
  obtain ⟨j0, h1, h2⟩ := h
  obtain ⟨L, hL⟩ : ∃ L, L = (st.filter fun j => decide (j < k)).map fun j => ((j : Nat) : Int) := ⟨_, rfl⟩
  have ne : L ≠ [] := fun z => by
    have : ((j0 : Nat) : Int) ∈ L := by
      rw [hL]
      exact List.mem_map.mpr ⟨j0, List.mem_filter.mpr ⟨h1, by simpa using h2⟩, rfl⟩
    rw [z] at this
    cases this
  obtain ⟨a, b⟩ := maxI_mem ne
  have a' := a
  rw [hL] at a'
  obtain ⟨m, hm, e⟩ := List.mem_map.mp a'
  obtain ⟨m1, m2⟩ := List.mem_filter.mp hm
  rw [← hL] at e
  have el : lowN st k = m := by
    unfold lowN
    rw [← hL, ← e]
    simp
  rw [el]
  refine ⟨m1, by simpa using m2, fun j hj hjk => ?_, by rw [← hL]; exact e.symm⟩
  have := b (j : Nat) (by rw [hL]; exact List.mem_map.mpr ⟨j, List.mem_filter.mpr ⟨hj, by simpa using hjk⟩, rfl⟩)
  rw [← e] at this
  omega
theorem high_of {st : List Nat} {k : Nat} (h : ∃ j ∈ st, k < j) : highN st k ∈ st ∧ k < highN st k ∧ (∀ j ∈ st, k < j → highN st k ≤ j) ∧ minI ((st.filter fun j => decide (k < j)).map fun j => ((j : Nat) : Int)) = (highN st k : Nat) := by
  obtain ⟨j0, h1, h2⟩ := h
  obtain ⟨L, hL⟩ : ∃ L, L = (st.filter fun j => decide (k < j)).map fun j => ((j : Nat) : Int) := ⟨_, rfl⟩
  have ne : L ≠ [] := fun z => by
    have : ((j0 : Nat) : Int) ∈ L := by
      rw [hL]
      exact List.mem_map.mpr ⟨j0, List.mem_filter.mpr ⟨h1, by simpa using h2⟩, rfl⟩
    rw [z] at this
    cases this
  obtain ⟨a, b⟩ := minI_mem ne
  have a' := a
  rw [hL] at a'
  obtain ⟨m, hm, e⟩ := List.mem_map.mp a'
  obtain ⟨m1, m2⟩ := List.mem_filter.mp hm
  rw [← hL] at e
  have el : highN st k = m := by
    unfold highN
    rw [← hL, ← e]
    simp
  rw [el]
  refine ⟨m1, by simpa using m2, fun j hj hjk => ?_, by rw [← hL]; exact e.symm⟩
  have := b (j : Nat) (by rw [hL]; exact List.mem_map.mpr ⟨j, List.mem_filter.mpr ⟨hj, by simpa using hjk⟩, rfl⟩)
  rw [← e] at this
  omega
/-- who stands at a still place stays, else it is between the next still ones -/
def bLot (ws : List Int) (st : List Nat) (k : Nat) : Lot :=
  if k ∈ st then [(k, 1)] else
    [(lowN st k, mkRat (Xp ws (highN st k) - Xp ws k) (Xp ws (highN st k) - Xp ws (lowN st k)).toNat), (highN st k, mkRat (Xp ws k - Xp ws (lowN st k)) (Xp ws (highN st k) - Xp ws (lowN st k)).toNat)]
end FW.P
end
section
namespace FW.P
open PySem PyProof.Rows PySem.Spec L2 DL FW
/-- a history: each water is the one ahead with the rain, at rest -/
structure Hs (ws : List Int) (wss : List (List Rat)) (sts : List (List Int × List Rat)) : Prop where
  len : wss.length = sts.length + 1
  wt : ∀ (k : Nat) (w : List Rat), wss[k]? = some w → Wt k ws w
  rn : ∀ st ∈ sts, Wt 0 ws st.2 ∧ Bo ws.length st.1
  st : ∀ (i : Nat) (st : List Int × List Rat) (w v : List Rat), sts[i]? = some st → wss[i]? = some w → wss[i + 1]? = some v → v = rest (ws.zip (List.zipWith (· + ·) w st.2)) st.1
theorem Xa_Xp {ws : List Int} {qs : List Rat} (h : qs.length = ws.length) {k : Nat} (hk : k ≤ ws.length) : Xa (ws.zip qs) k = (Xp ws k : Rat) := by
  rw [← XI_Xa, Xp_eq hk]
  unfold XI
  rw [List.map_take, List.map_fst_zip (by omega)]
/-- what a step is -/
structure Stp (ws : List Int) (w v r : List Rat) (bs : List Int) (Z Y : Nat → Rat) : Prop where
  z0 : ∀ k, k ≤ ws.length → Z k = (hf 0 v).getD k 0
  y0 : ∀ k, k ≤ ws.length → Y k = (hf 0 w).getD k 0 + (hf 0 r).getD k 0
  le : ∀ k, k ≤ ws.length → Z k ≤ Y k
  ends : ∀ k, k ≤ ws.length → (k = 0 ∨ k = ws.length ∨ (k : Int) ∈ bs) → Z k = Y k
  flap : ∀ k, 0 < k → k < ws.length → (k : Int) ∉ bs → ∃ s u, s ≤ u ∧ Z k - Z (k - 1) = s * ((Xp ws k : Rat) - Xp ws (k - 1)) ∧ Z (k + 1) - Z k = u * ((Xp ws (k + 1) : Rat) - Xp ws k) ∧ (s < u → Z k = Y k)
theorem stp_of {ws : List Int} {w r : List Rat} {bs : List Int} {j : Nat} (f : Flo ws) (W : Wt j ws w) (R : Wt 0 ws r) (hj : j ≤ 11) (hb : Bo ws.length bs) :
    Stp ws w (rest (ws.zip (List.zipWith (· + ·) w r)) bs) r bs (fun k => Zr (ws.zip (List.zipWith (· + ·) w r)) bs k) (fun k => Ya (ws.zip (List.zipWith (· + ·) w r)) k) := by
  obtain ⟨Q, m, t⟩ := W.put R f hj
  have rs := zr_rst Q.zne Q.ok (Q.bb hb)
  have ll := Q.ll
  have lz : (List.zipWith (· + ·) w r).length = ws.length := by rw [List.length_zipWith, W.len, R.len, Nat.min_self]
  refine ⟨fun k hk => ?_, fun k hk => ?_, fun k hk => rs.le k (by rw [ll]; exact hk), fun k hk h => rs.ends k (by rw [ll]; exact hk) (by rw [ll]; exact h), fun k h0 h1 h2 => ?_⟩
  · rw [List.getD_eq_getElem?_getD, Q.get hb hk]
    rfl
  · rw [hf_get0 (by rw [W.len]; exact hk), hf_get0 (by rw [R.len]; exact hk)]
    show Ya _ k = _
    rw [Q.ya, rsum_zip _ _ _ (by rw [W.len, R.len])]
  · obtain ⟨s, u, a1, a2, a3, a4⟩ := rs.flap k h0 (by rw [ll]; exact h1) h2
    rw [Xa_Xp lz (by omega), Xa_Xp lz (by omega)] at a2
    rw [Xa_Xp lz (by omega), Xa_Xp lz (by omega)] at a3
    exact ⟨s, u, a1, a2, a3, a4⟩
section
variable {ws : List Int} {w v r : List Rat} {bs : List Int} {Z Y : Nat → Rat}
theorem stl_mem (P : Stp ws w v r bs Z Y) (lv : v.length = ws.length) (lw : w.length = ws.length) (lr : r.length = ws.length) {k : Nat} : k ∈ stl (hf 0 v) (fal w r) ↔ k ≤ ws.length ∧ Z k = Y k := by
  unfold stl
  rw [List.mem_filter, List.mem_range, hf_len, lv]
  constructor
  · rintro ⟨a, b⟩
    have hk : k ≤ ws.length := by omega
    refine ⟨hk, ?_⟩
    simp only [decide_eq_true_eq] at b
    rw [P.z0 k hk, P.y0 k hk, b]
    unfold fal
    rw [List.getD_eq_getElem?_getD, List.getElem?_zipWith, List.getElem?_eq_getElem (by rw [hf_len]; omega), List.getElem?_eq_getElem (by rw [hf_len]; omega), getD_lt (by rw [hf_len]; omega), getD_lt (by rw [hf_len]; omega)]
    rfl
  · rintro ⟨hk, e⟩
    refine ⟨by omega, ?_⟩
    simp only [decide_eq_true_eq]
    rw [P.z0 k hk, P.y0 k hk] at e
    rw [e]
    unfold fal
    rw [List.getD_eq_getElem?_getD, List.getD_eq_getElem?_getD, List.getD_eq_getElem?_getD, List.getElem?_zipWith, List.getElem?_eq_getElem (by rw [hf_len]; omega), List.getElem?_eq_getElem (by rw [hf_len]; omega)]
    rfl
end
end FW.P
end
section
namespace FW.P
open PySem PyProof.Rows PySem.Spec L2 DL FW
section
variable {ws : List Int} {w v r : List Rat} {bs : List Int} {Z Y : Nat → Rat}
theorem ends_mem (P : Stp ws w v r bs Z Y) (lv : v.length = ws.length) (lw : w.length = ws.length) (lr : r.length = ws.length) {k : Nat} (hk : k ≤ ws.length) (h : k = 0 ∨ k = ws.length ∨ (k : Int) ∈ bs) : k ∈ stl (hf 0 v) (fal w r) := (stl_mem P lv lw lr).mpr ⟨hk, P.ends k hk h⟩
end
theorem stls_get {wss : List (List Rat)} {sts : List (List Int × List Rat)} {i : Nat} {st : List Int × List Rat} {w v : List Rat} (h1 : sts[i]? = some st) (h2 : wss[i]? = some w) (h3 : wss[i + 1]? = some v) : (stls wss sts)[i]? = some (stl (hf 0 v) (fal w st.2)) := by
  have hi : i < sts.length := (List.getElem?_eq_some_iff.mp h1).1
  unfold stls
  rw [List.getElem?_map, List.getElem?_range hi]
  simp only [Option.map_some, List.getD_eq_getElem?_getD, h1, h2, h3, Option.getD_some]
section
variable {ws : List Int} {wss : List (List Rat)} {sts : List (List Int × List Rat)}
/-- a step of a history -/
theorem Hs.stp (h : Hs ws wss sts) (f : Flo ws) (hl : sts.length ≤ 11) {i : Nat} (hi : i < sts.length) : ∃ st w v Z Y, sts[i]? = some st ∧ wss[i]? = some w ∧ wss[i + 1]? = some v ∧ Stp ws w v st.2 st.1 Z Y ∧ v.length = ws.length ∧ w.length = ws.length ∧ st.2.length = ws.length ∧ Bo ws.length st.1 ∧ Wt 0 ws st.2 ∧ Wt i ws w ∧ Wt (i + 1) ws v := by
  obtain ⟨st, h1⟩ : ∃ st, sts[i]? = some st := ⟨_, List.getElem?_eq_getElem hi⟩
  obtain ⟨w, h2⟩ : ∃ w, wss[i]? = some w := ⟨_, List.getElem?_eq_getElem (by rw [h.len]; omega)⟩
  obtain ⟨v, h3⟩ : ∃ v, wss[i + 1]? = some v := ⟨_, List.getElem?_eq_getElem (by rw [h.len]; omega)⟩
  have W := h.wt i w h2
  have V := h.wt (i + 1) v h3
  obtain ⟨R, B⟩ := h.rn st (List.mem_of_getElem? h1)
  have e := h.st i st w v h1 h2 h3
  have P := stp_of f W R (by omega) B
  rw [← e] at P
  exact ⟨st, w, v, _, _, h1, h2, h3, P, V.len, W.len, R.len, B, R, W, V⟩
end
/-! ### the best table told -/
section
variable {S : Sto} {n : Nat} {ws : List Int} {wss : List (List Rat)} {sts : List (List Int × List Rat)}
end
end FW.P
end
section
/-! powers of larger numbers -/
namespace DL
open PySem PyProof.Rows PySem.Spec L2
noncomputable def powWD : D2 := fun x y S => match x, y with
  | .int i, .int j => gate (0 ≤ j ∧ j ≤ 100 ∧ i.natAbs < 2 ^ 200) (some (.int (i ^ j.toNat), S))
  | _, _ => none
section
variable {K : PySem.W.Frag} {mg : Str → Option Value}
end
theorem powWD_int {i j : Int} {S : Sto} (h : 0 ≤ j) (h1 : j ≤ 100) (h2 : i.natAbs < 2 ^ 200) : powWD (.int i) (.int j) S = some (.int (i ^ j.toNat), S) := by
  unfold powWD
  simp only
  rw [gate_ok ⟨h, h1, h2⟩]
end DL
end
section
namespace FW.P
open PySem PyProof.Rows PySem.Spec L2 DL FW
noncomputable def b_law_low_z : DS :=
    (dSeq (dPar 2 3 (dCons (dCB absD (dCons (dVar 0) dNil)) (dCons (dVar 1) dNil)))
    (dSeq (dWhile (dTest (dOp gtD (dVar 2) (dC (.int 0))))
    (dPar 2 3 (dCons (dOp modD (dVar 3) (dVar 2)) (dCons (dVar 2) dNil))))
    (dRet (dTup (dCons (dOp fdivD (dVar 0) (dVar 3)) (dCons (dOp fdivD (dVar 1) (dVar 3)) dNil))))))
noncomputable def f_law_low_z : List DV → Sto → Option (DV × Sto) := fnF (some false) 4 b_law_low_z
noncomputable def b_law_draw_z : DS :=
    (dSeq (dIfS (dTest (dOp gtD (dOp ixD (dVar 0) (dC (.int 0))) (dC (.int 0))))
    (dSeq (dAsg (dOp modD (dOp ixD (dVar 0) (dC (.int 0))) (dVar 1)) (dName 2))
    (dSeq (dAsg (dOp fdivD (dOp ixD (dVar 0) (dC (.int 0))) (dVar 1)) (dSub (dVar 0) (dC (.int 0))))
    (dRet (dVar 2)))) dNext)
    (dSeq (dAsg (dOp (addD false) (dOp ixD (dVar 0) (dC (.int 2))) (dC (.int 1))) (dSub (dVar 0) (dC (.int 2))))
    (dSeq (dAsg (dOp modD (dOp powWD (dOp (addD false) (dOp ixD (dVar 0) (dC (.int 1))) (dOp mulD (dC (.int 15485863)) (dOp ixD (dVar 0) (dC (.int 2))))) (dC (.int 3))) (dC (.int 162259276829213363391578010288127))) (dName 3))
    (dSeq (dAsg (dOp modD (dOp powWD (dOp (addD false) (dVar 3) (dOp mulD (dC (.int 32452843)) (dOp ixD (dVar 0) (dC (.int 2))))) (dC (.int 5))) (dC (.int 170141183460469231731687303715884105727))) (dName 3))
    (dRet (dOp modD (dOp fdivD (dVar 3) (dC (.int 1048576))) (dVar 1)))))))
noncomputable def f_law_draw_z : List DV → Sto → Option (DV × Sto) := fnF (some false) 4 b_law_draw_z
noncomputable def b_law_amount_z : DS :=
    (dSeq (dAsg (dLst false (dCons (dC (.int 0)) (dCons (dOp mulD (dVar 1) (dCall 2 f_law_draw_z [] (dCons (dVar 0) (dCons (dC (.int 4)) dNil)))) (dCons (dCall 2 f_law_draw_z [] (dCons (dVar 0) (dCons (dC (.int 10)) dNil))) (dCons (dOp (addD false) (dC (.int 1)) (dCall 2 f_law_draw_z [] (dCons (dVar 0) (dCons (dC (.int 40)) dNil)))) (dCons (dCall 2 f_law_draw_z [] (dCons (dVar 0) (dCons (dOp powD (dC (.int 10)) (dC (.int 12))) dNil))) dNil)))))) (dName 2))
    (dSeq (dAsg (dCall 2 f_law_draw_z [] (dCons (dVar 0) (dCons (dC (.int 8)) dNil))) (dName 3))
    (dRet (dCall 2 f_law_low_z [] (dCons (dOp ixD (dVar 2) (dOp ixD (dLst false (dCons (dC (.int 0)) (dCons (dC (.int 1)) (dCons (dC (.int 1)) (dCons (dC (.int 2)) (dCons (dC (.int 2)) (dCons (dC (.int 3)) (dCons (dC (.int 3)) (dCons (dC (.int 4)) dNil))))))))) (dVar 3))) (dCons (dOp ixD (dLst false (dCons (dC (.int 1)) (dCons (dC (.int 1)) (dCons (dC (.int 1)) (dCons (dC (.int 1)) (dCons (dC (.int 1)) (dCons (dC (.int 12)) (dCons (dOp (addD false) (dC (.int 1)) (dCall 2 f_law_draw_z [] (dCons (dVar 0) (dCons (dC (.int 60)) dNil)))) (dCons (dC (.int 1)) dNil))))))))) (dVar 3)) dNil))))))
noncomputable def f_law_amount_z : List DV → Sto → Option (DV × Sto) := fnF (some false) 4 b_law_amount_z
end FW.P
end
section
namespace FW.P
open PySem PyProof.Rows PySem.Spec L2 DL FW
/-! ### the pot: digits of a great cell, a number to be mixed, how many were mixed -/
structure Pt where
  c : Int
  f : Int
  n : Int
def Pt.ml (t : Pt) : MO := .ml [.int t.c, .int t.f, .int t.n]
def Pt.st (t : Pt) (X G : Sto) : Sto := X ++ t.ml :: G
structure Pt.ok (N : Int) (t : Pt) : Prop where
  c0 : 0 ≤ t.c
  f0 : 0 ≤ t.f
  f1 : t.f < 2 ^ 62
  n0 : 0 ≤ t.n
  n1 : t.n ≤ N
theorem Pt.ok.mono {N M : Int} {t : Pt} (h : t.ok N) (hm : N ≤ M) : t.ok M := ⟨h.c0, h.f0, h.f1, h.n0, Int.le_trans h.n1 hm⟩
section
variable {t t' : Pt} {X G : Sto} {i : Int}
@[simp] theorem pt_len : (t.st X G).length = X.length + (G.length + 1) := by simp [Pt.st]
theorem pt_get : (t.st X G)[X.length]? = some t.ml := by
  unfold Pt.st
  rw [List.getElem?_append_right (Nat.le_refl _), Nat.sub_self]
  rfl
theorem pt_rd : rdL (t.st X G) (.ptr X.length) = some [.int t.c, .int t.f, .int t.n] := by
  unfold rdL
  simp only [pt_get, Pt.ml]
@[simp] theorem pt_0 : ixD (.ptr X.length) (.int 0) (t.st X G) = some (.int t.c, t.st X G) := by
  unfold ixD
  simp only [pt_rd, Option.some_or]
  rfl
@[simp] theorem pt_1 : ixD (.ptr X.length) (.int 1) (t.st X G) = some (.int t.f, t.st X G) := by
  unfold ixD
  simp only [pt_rd, Option.some_or]
  rfl
@[simp] theorem pt_2 : ixD (.ptr X.length) (.int 2) (t.st X G) = some (.int t.n, t.st X G) := by
  unfold ixD
  simp only [pt_rd, Option.some_or]
  rfl
theorem pt_set {mo : MO} : (t.st X G).set X.length mo = X ++ mo :: G := by
  unfold Pt.st
  rw [List.set_append_right _ _ (Nat.le_refl _), Nat.sub_self]
  rfl
@[simp] theorem pt_s0 : setL (.ptr X.length) (.int 0) (.int i) (t.st X G) = some (({ t with c := i } : Pt).st X G) := by
  unfold setL
  simp only [pt_get, Pt.ml]
  show some ((t.st X G).set X.length _) = _
  rw [pt_set]
  rfl
@[simp] theorem pt_s2 : setL (.ptr X.length) (.int 2) (.int i) (t.st X G) = some (({ t with n := i } : Pt).st X G) := by
  unfold setL
  simp only [pt_get, Pt.ml]
  show some ((t.st X G).set X.length _) = _
  rw [pt_set]
  rfl
end
theorem draw_ok {t : Pt} {X G : Sto} {m N : Int} (h : t.ok N) (hN : N < 2 ^ 60) (hm : 0 < m) (hm2 : m < 2 ^ 200) :
    ∃ (r : Int) (t' : Pt), f_law_draw_z [.ptr X.length, .int m] (t.st X G) = some (.int r, t'.st X G) ∧ 0 ≤ r ∧ r < m ∧ t'.ok (N + 1) := by
  have hc0 := h.c0; have hf0 := h.f0; have hf1 := h.f1; have hn0 := h.n0; have hn1 := h.n1
  have fm : FitsD m := fitsD_small hm (by omega)
  by_cases hc : 0 < t.c
  · refine ⟨t.c % m, { t with c := t.c / m }, ?_, Int.emod_nonneg _ (by omega), Int.emod_lt_of_pos _ hm, ⟨Int.ediv_nonneg hc0 (by omega), hf0, hf1, hn0, by show t.n ≤ _; omega⟩⟩
    simp only [f_law_draw_z, fnF, b_law_draw_z, dSeq, startD, List.map, List.length, List.replicate, List.cons_append, List.nil_append]
    simp [hc, hm, fm]
    exact exF_len (by simp)
  · have hn3 : 0 ≤ t.n + 1 ∧ t.n + 1 < 2 ^ 61 := by omega
    have f1 : Fits 15485863 := fits_lt (by decide) (by decide)
    have f2 : Fits (t.n + 1) := fits_lt (by omega) (by omega)
    have f3 : Fits 32452843 := fits_lt (by decide) (by decide)
    have c3 : (t.f + 15485863 * (t.n + 1)).natAbs < 2 ^ 200 := by omega
    have p3 : ∀ S, powWD (.int (t.f + 15485863 * (t.n + 1))) (.int 3) S = some (.int ((t.f + 15485863 * (t.n + 1)) ^ 3), S) := fun S => powWD_int (by decide) (by decide) c3
    obtain ⟨x, hx⟩ : ∃ x : Int, x = (t.f + 15485863 * (t.n + 1)) ^ 3 % 162259276829213363391578010288127 := ⟨_, rfl⟩
    have x0 : 0 ≤ x ∧ x < 162259276829213363391578010288127 := by
      rw [hx]
      exact ⟨Int.emod_nonneg _ (by decide), Int.emod_lt_of_pos _ (by decide)⟩
    have p5 : ∀ S, powWD (.int (x + 32452843 * (t.n + 1))) (.int 5) S = some (.int ((x + 32452843 * (t.n + 1)) ^ 5), S) := fun S => powWD_int (by decide) (by decide) (by omega)
    have f64 : FitsD 1048576 := fitsD_small (by decide) (by decide)
    refine ⟨(x + 32452843 * (t.n + 1)) ^ 5 % 170141183460469231731687303715884105727 / 1048576 % m, { t with n := t.n + 1 }, ?_, Int.emod_nonneg _ (by omega), Int.emod_lt_of_pos _ hm, ⟨hc0, hf0, hf1, by show 0 ≤ t.n + 1; omega, by show t.n + 1 ≤ N + 1; omega⟩⟩
    simp only [f_law_draw_z, fnF, b_law_draw_z, dSeq, startD, List.map, List.length, List.replicate, List.cons_append, List.nil_append]
    simp [hc, f1, f2, f3, p3]
    rw [← hx]
    simp [p5, hm, f64]
    exact exF_len (by simp)
/-! ### fractions -/
theorem low_loop {d0 d1 : DV} {S : Sto} : ∀ (m x y : Nat), x < m → whileF (dTest (dOp gtD (dVar 2) (dC (.int 0)))) (dPar 2 3 (dCons (dOp modD (dVar 3) (dVar 2)) (dCons (dVar 2) dNil))) m [some d0, some d1, some (.int (x : Int)), some (.int (y : Int))] S =
    some (.nx [some d0, some d1, some (.int 0), some (.int ((x.gcd y : Nat) : Int))] S)
  | 0, x, y, h => by omega
  | m + 1, x, y, h => by
    by_cases hx : x = 0
    · subst hx
      rw [while_end (S1 := S) (by simp)]
      simp
    · have hx0 : 0 < x := by omega
      have hxi : (0 : Int) < (x : Int) := by omega
      rw [while_step (S1 := S) (s2 := [some d0, some d1, some (.int ((y % x : Nat) : Int)), some (.int (x : Int))]) (S2 := S) (by simp [hxi, hx0]) (by simp [hx0]), low_loop m (y % x) x (by have := Nat.mod_lt y hx0; omega)]
      rw [Nat.gcd_rec x y]
theorem law_low_ok {a : Int} {b : Nat} {S : Sto} (hb : 0 < b) (h : b < 2 ^ 8000) (ha : a.natAbs < 2 ^ 8000) : f_law_low_z [.int a, .int (b : Int)] S = some (fr (mkRat a b), S) := by
  have g : FitsD ((a.natAbs.gcd b : Nat) : Int) := gcd_fitsD hb h
  have e : (if a < 0 then -a else a) = ((a.natAbs : Nat) : Int) := by split <;> omega
  rw [← mkRat_fr hb]
  simp only [f_law_low_z, fnF, b_law_low_z, startD, dSeq, dPar, dCB, dCons, dNil, dVar, dOp, dC, bnd_some', absD_int, List.map, List.length, List.replicate, List.cons_append, List.nil_append, List.getElem?_cons_zero, List.getElem?_cons_succ, List.set, kNx, e]
  simp only [dWhile, low_loop _ _ _ (lt_fuel (k := 8000) ha (by decide)), kNx]
  simp [g]
end FW.P
end
section
namespace FW.P
open PySem PyProof.Rows PySem.Spec L2 DL FW
/-! ### what the pot draws -/
theorem pick8 {r : Int} {a0 a1 a2 a3 a4 a5 a6 a7 : Int} {P : Int → Prop} (h0 : 0 ≤ r) (h : r < 8) (p : P a0 ∧ P a1 ∧ P a2 ∧ P a3 ∧ P a4 ∧ P a5 ∧ P a6 ∧ P a7) : ∃ x, (∀ S, ixD (.lst [.int a0, .int a1, .int a2, .int a3, .int a4, .int a5, .int a6, .int a7]) (.int r) S = some (.int x, S)) ∧ P x := by
  obtain ⟨p0, p1, p2, p3, p4, p5, p6, p7⟩ := p
  rcases (by omega : r = 0 ∨ r = 1 ∨ r = 2 ∨ r = 3 ∨ r = 4 ∨ r = 5 ∨ r = 6 ∨ r = 7) with rfl | rfl | rfl | rfl | rfl | rfl | rfl | rfl
  · exact ⟨a0, fun S => ixD_lst (at_nat (n := 0) rfl rfl), p0⟩
  · exact ⟨a1, fun S => ixD_lst (at_nat (n := 1) rfl rfl), p1⟩
  · exact ⟨a2, fun S => ixD_lst (at_nat (n := 2) rfl rfl), p2⟩
  · exact ⟨a3, fun S => ixD_lst (at_nat (n := 3) rfl rfl), p3⟩
  · exact ⟨a4, fun S => ixD_lst (at_nat (n := 4) rfl rfl), p4⟩
  · exact ⟨a5, fun S => ixD_lst (at_nat (n := 5) rfl rfl), p5⟩
  · exact ⟨a6, fun S => ixD_lst (at_nat (n := 6) rfl rfl), p6⟩
  · exact ⟨a7, fun S => ixD_lst (at_nat (n := 7) rfl rfl), p7⟩
@[simp] theorem pow10_12 {S : Sto} : powD (.int 10) (.int 12) S = some (.int 1000000000000, S) := powD_int (by decide) (by decide) (by decide)
theorem law_amount_ok {t : Pt} {X G : Sto} {N w : Int} (h : t.ok N) (hN : N < 2 ^ 50) (hw : 1 ≤ w ∧ w ≤ 9) :
    ∃ (q : Rat) (t' : Pt), f_law_amount_z [.ptr X.length, .int w] (t.st X G) = some (fr q, t'.st X G) ∧ FB.Amt q ∧ t'.ok (N + 6) := by
  obtain ⟨r1, t1, e1, a1, b1, k1⟩ := draw_ok (X := X) (G := G) (m := 4) h (by omega) (by decide) (by decide)
  obtain ⟨r2, t2, e2, a2, b2, k2⟩ := draw_ok (X := X) (G := G) (m := 10) k1 (by omega) (by decide) (by decide)
  obtain ⟨r3, t3, e3, a3, b3, k3⟩ := draw_ok (X := X) (G := G) (m := 40) k2 (by omega) (by decide) (by decide)
  obtain ⟨r4, t4, e4, a4, b4, k4⟩ := draw_ok (X := X) (G := G) (m := 1000000000000) k3 (by omega) (by decide) (by decide)
  obtain ⟨r5, t5, e5, a5, b5, k5⟩ := draw_ok (X := X) (G := G) (m := 8) k4 (by omega) (by decide) (by decide)
  obtain ⟨r6, t6, e6, a6, b6, k6⟩ := draw_ok (X := X) (G := G) (m := 60) k5 (by omega) (by decide) (by decide)
  have fw : Fits w := fits_lt (by omega) (by omega)
  have fr1 : Fits r1 := fits_lt (by omega) (by omega)
  have wr0 : 0 ≤ w * r1 := Int.mul_nonneg (by omega) a1
  have wr1 : w * r1 ≤ 27 := by
    have := Int.mul_le_mul hw.2 (show r1 ≤ 3 by omega) a1 (by decide)
    omega
  obtain ⟨j, xj, j0⟩ := pick8 (P := fun j => 0 ≤ j ∧ j < 5) (a0 := 0) (a1 := 1) (a2 := 1) (a3 := 2) (a4 := 2) (a5 := 3) (a6 := 3) (a7 := 4) a5 b5 (by decide)
  obtain ⟨d, hd, hd2⟩ := pick5 (a := .int 0) (b := .int (w * r1)) (c := .int r2) (e := .int (1 + r3)) (f := .int r4) j0.1 j0.2
  obtain ⟨x, rfl, x0, x1⟩ : ∃ x : Int, d = .int x ∧ 0 ≤ x ∧ x ≤ 1000000000000 := by
    rcases hd2 with rfl | rfl | rfl | rfl | rfl
    · exact ⟨_, rfl, by omega, by omega⟩
    · exact ⟨_, rfl, by omega, by omega⟩
    · exact ⟨_, rfl, by omega, by omega⟩
    · exact ⟨_, rfl, by omega, by omega⟩
    · exact ⟨_, rfl, by omega, by omega⟩
  obtain ⟨y, xy, y0⟩ := pick8 (P := fun y => 1 ≤ y ∧ y ≤ 60) (a0 := 1) (a1 := 1) (a2 := 1) (a3 := 1) (a4 := 1) (a5 := 12) (a6 := 1 + r6) (a7 := 1) a5 b5 ⟨by omega, by omega, by omega, by omega, by omega, by omega, by omega, by omega⟩
  obtain ⟨b, rfl⟩ : ∃ b : Nat, y = (b : Int) := ⟨y.toNat, by omega⟩
  have xd : ∀ S, ixD (.lst [.int 0, .int (w * r1), .int r2, .int (1 + r3), .int r4]) (.int j) S = some (.int x, S) := fun S => ixD_lst hd
  have key := law_low_ok (a := x) (b := b) (S := t6.st X G) (by omega) (Nat.lt_of_lt_of_le (show b < 2 ^ 6 by omega) (pow2_le (by decide))) (Nat.lt_of_lt_of_le (show x.natAbs < 2 ^ 60 by omega) (pow2_le (by decide)))
  refine ⟨mkRat x b, t6, ?_, FB.amt_mk (by omega) (by omega) x0 x1, k6.mono (by omega)⟩
  refine fn_rt (d := fr (mkRat x b)) (S1 := t6.st X G) ?_ (exF_len (by simp))
  refine seq_nx (asg_name (d := .lst [.int 0, .int (w * r1), .int r2, .int (1 + r3), .int r4]) (S1 := t4.st X G) (by simp [e1, e2, e3, e4, fw, fr1])) ?_
  refine seq_nx (asg_name (d := .int r5) (S1 := t5.st X G) (by simp [e5])) ?_
  have g8 : ∀ (k : Option (DV × Sto)), gate (8 ≤ 100000) k = k := fun k => gate_ok (by decide)
  refine ret_of ?_
  have l1 : dLst false (dCons (dC (.int 0)) (dCons (dC (.int 1)) (dCons (dC (.int 1)) (dCons (dC (.int 2)) (dCons (dC (.int 2)) (dCons (dC (.int 3)) (dCons (dC (.int 3)) (dCons (dC (.int 4)) dNil)))))))) [some (.ptr X.length), some (.int w), some (.lst [.int 0, .int (w * r1), .int r2, .int (1 + r3), .int r4]), some (.int r5)] (t5.st X G) = some (.lst [.int 0, .int 1, .int 1, .int 2, .int 2, .int 3, .int 3, .int 4], t5.st X G) := by
    simp
  have l2 : dLst false (dCons (dC (.int 1)) (dCons (dC (.int 1)) (dCons (dC (.int 1)) (dCons (dC (.int 1)) (dCons (dC (.int 1)) (dCons (dC (.int 12)) (dCons (dOp (addD false) (dC (.int 1)) (dCall 2 f_law_draw_z [] (dCons (dVar 0) (dCons (dC (.int 60)) dNil)))) (dCons (dC (.int 1)) dNil)))))))) [some (.ptr X.length), some (.int w), some (.lst [.int 0, .int (w * r1), .int r2, .int (1 + r3), .int r4]), some (.int r5)] (t5.st X G) = some (.lst [.int 1, .int 1, .int 1, .int 1, .int 1, .int 12, .int (1 + r6), .int 1], t6.st X G) := by
    simp [e6]
  revert l1 l2
  generalize dLst false (dCons (dC (.int 0)) (dCons (dC (.int 1)) (dCons (dC (.int 1)) (dCons (dC (.int 2)) (dCons (dC (.int 2)) (dCons (dC (.int 3)) (dCons (dC (.int 3)) (dCons (dC (.int 4)) dNil)))))))) = F1
  generalize dLst false _ = F2
  intro l1 l2
  show dCall 2 f_law_low_z [] (dCons (dOp ixD (dVar 2) (dOp ixD F1 (dVar 3))) (dCons (dOp ixD F2 (dVar 3)) dNil)) [some (.ptr X.length), some (.int w), some (.lst [.int 0, .int (w * r1), .int r2, .int (1 + r3), .int r4]), some (.int r5)] (t5.st X G) = _
  simp only [dCall, dCons, dNil, dOp, dVar, List.getElem?_cons_succ, List.getElem?_cons_zero, bnd_some', l1, l2, xj, xd, xy, List.append_nil, List.length_cons, List.length_nil, if_true, key]
end FW.P
end
section
namespace FK
open PySem PyProof.Rows PySem.Spec L2 DL FW
/-! ### more, step by step -/
def LeP (p q : List Int × List Rat) : Prop := (∀ x ∈ p.1, x ∈ q.1) ∧ ∀ k, rsum (p.2.take k) ≤ rsum (q.2.take k)
def LeS : List (List Int × List Rat) → List (List Int × List Rat) → Prop
  | [], [] => True
  | p :: l, q :: m => LeP p q ∧ LeS l m
  | _, _ => False
theorem LeS.snoc : ∀ {l m : List (List Int × List Rat)} {p q : List Int × List Rat}, LeS l m → LeP p q → LeS (l ++ [p]) (m ++ [q])
  | [], [], _, _, _, h => ⟨h, trivial⟩
  | [], _ :: _, _, _, h, _ => h.elim
  | _ :: _, [], _, _, h, _ => h.elim
  | _ :: l, _ :: m, _, _, h, g => ⟨h.1, LeS.snoc (l := l) (m := m) h.2 g⟩
theorem LeS.len : ∀ {l m : List (List Int × List Rat)}, LeS l m → m.length = l.length
  | [], [], _ => rfl
  | [], _ :: _, h => h.elim
  | _ :: _, [], h => h.elim
  | _ :: l, _ :: m, h => by simp [LeS.len (l := l) (m := m) h.2]
end FK
end
section
namespace FK.W
open PySem PyProof.Rows PySem.Spec L2 DL FW
/-! ### amounts to twelve figures by bottoms to sixty -/
def BIL : Nat := 100000000000
noncomputable def b_law_amount_z : DS :=
    (dSeq (dAsg (dCall 2 f_law_draw_z [] (dCons (dVar 0) (dCons (dC (.int 6)) dNil))) (dName 2))
    (dSeq (dIfS (dTest (dOp ltD (dVar 2) (dC (.int 2))))
    (dRet (dTup (dCons (dC (.int 0)) (dCons (dC (.int 1)) dNil)))) dNext)
    (dSeq (dIfS (dTest (dOp ltD (dVar 2) (dC (.int 5))))
    (dRet (dCall 2 f_law_low_z [] (dCons (dOp mulD (dVar 1) (dCall 2 f_law_draw_z [] (dCons (dVar 0) (dCons (dC (.int 4)) dNil)))) (dCons (dOp (addD false) (dC (.int 1)) (dCall 2 f_law_draw_z [] (dCons (dVar 0) (dCons (dC (.int 2)) dNil)))) dNil)))) dNext)
    (dRet (dCall 2 f_law_low_z [] (dCons (dCall 2 f_law_draw_z [] (dCons (dVar 0) (dCons (dOp ixD (dTup (dCons (dC (.int 40)) (dCons (dOp powD (dC (.int 10)) (dC (.int 11))) dNil))) (dOp fdivD (dCall 2 f_law_draw_z [] (dCons (dVar 0) (dCons (dC (.int 4)) dNil))) (dC (.int 3)))) dNil))) (dCons (dOp (addD false) (dC (.int 1)) (dCall 2 f_law_draw_z [] (dCons (dVar 0) (dCons (dC (.int 60)) dNil)))) dNil)))))))
noncomputable def f_law_amount_z : List DV → Sto → Option (DV × Sto) := fnF (some false) 3 b_law_amount_z
theorem law_amount_ok {t : Bk} {G : Sto} {w N : Int} (h : t.ok N) (hN : N < 2 ^ 50) (hw : 1 ≤ w ∧ w ≤ 9) :
    ∃ (q : Rat) (t' : Bk), f_law_amount_z [.ptr 1, .int w] (t.st G) = some (fr q, t'.st G) ∧ Am BIL q ∧ t'.ok (N + 4) := by
  obtain ⟨s, t1, e1, a1, b1, k1⟩ := draw_ok (G := G) (m := 6) h (by omega) (by decide) (by decide)
  by_cases h2 : s < 2
  · refine ⟨0, t1, ?_, am_zero, k1.mono (by omega)⟩
    refine fn_rt (d := fr 0) (S1 := t1.st G) ?_ (exF_len rfl)
    refine seq_nx (asg_name (d := .int s) (S1 := t1.st G) (by simp [e1])) ?_
    refine seq_rt (if_t (S1 := t1.st G) (by simp [h2]) (ret_of ?_))
    show _ = some (DV.tup [.int 0, .int 1], _)
    simp
  · by_cases h5 : s < 5
    · obtain ⟨r2, t2, e2, a2, b2, k2⟩ := draw_ok (G := G) (m := 4) k1 (by omega) (by decide) (by decide)
      obtain ⟨r3, t3, e3, a3, b3, k3⟩ := draw_ok (G := G) (m := 2) k2 (by omega) (by decide) (by decide)
      have fw : Fits w := fits_lt (by omega) (by omega)
      have fr2 : Fits r2 := fits_lt (by omega) (by omega)
      have hm0 : 0 ≤ w * r2 := Int.mul_nonneg (by omega) a2
      have hm1 := Int.mul_le_mul hw.2 (show r2 ≤ 3 by omega) a2 (by decide)
      obtain ⟨q, eq, aq⟩ := low_small (a := w * r2) (b := 1 + r3) (M := BIL) (S := t3.st G) hm0 (by unfold BIL; omega) (by decide) (by omega) (by omega)
      refine ⟨q, t3, ?_, aq, k3.mono (by omega)⟩
      refine fn_rt (d := fr q) (S1 := t3.st G) ?_ (exF_len rfl)
      refine seq_nx (asg_name (d := .int s) (S1 := t1.st G) (by simp [e1])) ?_
      refine seq_nx (if_f (S1 := t1.st G) (by simp [h2]) rfl) ?_
      refine seq_rt (if_t (S1 := t1.st G) (by simp [h5]) (ret_of ?_))
      simp [e2, e3, fw, fr2, eq]
    · obtain ⟨r2, t2, e2, a2, b2, k2⟩ := draw_ok (G := G) (m := 4) k1 (by omega) (by decide) (by decide)
      have f3 : FitsD 3 := fitsD_small (by decide) (by decide)
      have p9 : ∀ S, powD (.int 10) (.int 11) S = some (.int 100000000000, S) := fun S => powD_int (by decide) (by decide) (by decide)
      obtain ⟨m, hm, m0, m1⟩ : ∃ m : Int, (∀ S, ixD (.tup [.int 40, .int 100000000000]) (.int (r2 / 3)) S = some (.int m, S)) ∧ 0 < m ∧ m ≤ 100000000000 := by
        by_cases h3 : r2 = 3
        · refine ⟨100000000000, fun S => ixD_tup (at_nat (n := 1) (by omega) rfl), by decide, by decide⟩
        · refine ⟨40, fun S => ixD_tup (at_nat (n := 0) (by omega) rfl), by decide, by decide⟩
      obtain ⟨r3, t3, e3, a3, b3, k3⟩ := draw_ok (G := G) (m := m) k2 (by omega) m0 (by omega)
      obtain ⟨r4, t4, e4, a4, b4, k4⟩ := draw_ok (G := G) (m := 60) k3 (by omega) (by decide) (by decide)
      obtain ⟨q, eq, aq⟩ := low_small (a := r3) (b := 1 + r4) (M := BIL) (S := t4.st G) a3 (by unfold BIL; omega) (by decide) (by omega) (by omega)
      refine ⟨q, t4, ?_, aq, k4.mono (by omega)⟩
      refine fn_rt (d := fr q) (S1 := t4.st G) ?_ (exF_len rfl)
      refine seq_nx (asg_name (d := .int s) (S1 := t1.st G) (by simp [e1])) ?_
      refine seq_nx (if_f (S1 := t1.st G) (by simp [h2]) rfl) ?_
      refine seq_nx (if_f (S1 := t1.st G) (by simp [h5]) rfl) (ret_of ?_)
      simp [e2, p9, f3, hm, e3, e4, eq]
/-! ### all waters -/
end FK.W
end
section
namespace FW.P
open PySem PyProof.Rows PySem.Spec L2 DL FW
noncomputable def b_law_under_z : DS :=
    (dRet (dOp ltD (dOp mulD (dOp ixD (dVar 0) (dC (.int 0))) (dOp ixD (dVar 1) (dC (.int 1)))) (dOp mulD (dOp ixD (dVar 1) (dC (.int 0))) (dOp ixD (dVar 0) (dC (.int 1))))))
noncomputable def f_law_under_z : List DV → Sto → Option (DV × Sto) := fnF (some false) 2 b_law_under_z
end FW.P
end
section
namespace FW.P
open PySem PyProof.Rows PySem.Spec L2 DL FW
/-! ### levelled -/
noncomputable def lvs (l : List Tk) (prs : List (Int × Int)) : List Rat := prs.flatMap fun p => lay (seg l p)
end FW.P
end
section
namespace FW.P
open PySem PyProof.Rows PySem.Spec L2 DL FW
/-! ### drops: amounts of one sign, all together one -/
theorem lamE_lt {e : Nat} (h : e ≤ 23) : LAM ^ e < 2 ^ 2400 := by
  rcases Nat.eq_zero_or_pos e with z | z
  · subst z; exact Nat.lt_of_lt_of_le (show 1 < 2 ^ 1 by decide) (pow2_le (by decide))
  · have : LAM ^ e < (2 ^ 103) ^ e := Nat.pow_lt_pow_left lam_lt (by omega)
    rw [← Nat.pow_mul] at this
    exact Nat.lt_of_lt_of_le this (pow2_le (by omega))
theorem lamE_2 {e : Nat} (h : e ≤ 23) : (9 + 1) * 1 * LAM ^ e < 2 ^ 2500 := by
  have h1 := lamE_lt h
  have h2 : (2 : Nat) ^ 2500 = 2 ^ 100 * 2 ^ 2400 := by rw [← Nat.pow_add]
  have h3 : (10 : Nat) ≤ 2 ^ 100 := by decide
  have h4 := Nat.mul_le_mul h3 (Nat.le_of_lt h1)
  rw [h2]
  have h5 : 10 * LAM ^ e < 10 * 2 ^ 2400 := Nat.mul_lt_mul_of_pos_left h1 (by decide)
  have h6 : 10 * 2 ^ 2400 ≤ 2 ^ 100 * 2 ^ 2400 := Nat.mul_le_mul_right _ h3
  omega
noncomputable def zE (e : Nat) : Zc := if h : e ≤ 23 then zD (LAM ^ e) 1 9 2500 (Nat.pow_pos lam_pos) (Nat.lt_of_lt_of_le (lamE_lt h) (pow2_le (by decide))) (lamE_2 h) else zS 1 9
theorem zE_C {e : Nat} (h : e ≤ 23) (q : Rat) : (zE e).C q = Dv (LAM ^ e) 1 q := by unfold zE; rw [dif_pos h]; rfl
theorem zE_L {e : Nat} (h : e ≤ 23) : (zE e).L = 9 := by unfold zE; rw [dif_pos h]; rfl
theorem zE_B {e : Nat} (h : e ≤ 23) : (zE e).B = 2500 := by unfold zE; rw [dif_pos h]; rfl
structure Dp (e : Nat) (c : Rat) (ws : List Int) (qs : List Rat) : Prop where
  len : qs.length = ws.length
  sg : ∀ q ∈ qs, 0 ≤ c * q
  dv : ∀ q ∈ qs, Dv (LAM ^ e) 1 q
  tot : rsum qs = c
theorem Dp.row {e : Nat} {c : Rat} {ws : List Int} {qs : List Rat} (h : Dp e c ws qs) (f : Flo ws) (he : e ≤ 23) : Row (zE e) ws qs :=
  ⟨f.ne, fun x hx => by have := f.fl x hx; omega, h.len, fun q hq => by rw [zE_C he]; exact h.dv q hq, by have := f.n; omega, by rw [zE_L he]; have := f.n; omega, by rw [zE_B he]; decide⟩
theorem rsum_cmul (c : Rat) : ∀ r : List Rat, rsum (r.map (c * ·)) = c * rsum r
  | [] => by simp [rsum]
  | a :: r => by
    simp only [List.map_cons, rsum, rsum_cmul c r]
    grind
theorem dv_neg {D M : Nat} {q : Rat} (h : Dv D M q) : Dv D M (-q) := by
  obtain ⟨x, e, b⟩ := h
  refine ⟨-x, ?_, by omega⟩
  rw [Rat.intCast_neg, ← e]
  grind
/-- each is at most one -/
theorem dv_one {e M : Nat} {c : Rat} {r : List Rat} (hc : c = 1 ∨ c = -1) (hs : ∀ q ∈ r, 0 ≤ c * q) (hd : ∀ q ∈ r, Dv (LAM ^ e) M q) (ht : rsum r = c) : ∀ q ∈ r, Dv (LAM ^ e) 1 q := by
  intro q hq
  have a := hs q hq
  have pos : ∀ x ∈ r.map (c * ·), 0 ≤ x := fun x hx => by
    obtain ⟨y, hy, rfl⟩ := List.mem_map.mp hx
    exact hs y hy
  have b := le_rsum pos (c * q) (List.mem_map_of_mem (f := (c * ·)) hq)
  rw [rsum_cmul, ht] at b
  have cc : c * c = 1 := by rcases hc with rfl | rfl <;> grind
  rw [cc] at b
  rcases hc with rfl | rfl
  · rw [Rat.one_mul] at a b
    exact (hd q hq).most a b
  · have e1 : (-1 : Rat) * q = -q := by grind
    rw [e1] at a b
    have := dv_neg ((dv_neg (hd q hq)).most (N := 1) a b)
    rwa [Rat.neg_neg] at this
theorem lay_sgn {c : Rat} {p : List Tk} (hf : ∀ t ∈ p, 1 ≤ t.1) (hs : ∀ t ∈ p, 0 ≤ c * t.2) {q : Rat} (hq : q ∈ lay p) : 0 ≤ c * q := by
  unfold lay at hq
  obtain ⟨t, ht', rfl⟩ := List.mem_map.mp hq
  have wi : ∀ p : List Tk, (∀ t ∈ p, 1 ≤ t.1) → 0 ≤ Wi p := fun p => by
    induction p with
    | nil => intro _; exact Rat.le_refl
    | cons a r ih =>
      intro h
      have h1 := ih fun x hx => h x (List.mem_cons_of_mem _ hx)
      have h2 : (0 : Rat) ≤ (a.1 : Rat) := by exact_mod_cast (by have := h a List.mem_cons_self; omega : (0 : Int) ≤ a.1)
      exact Rat.add_nonneg h2 h1
  have am : ∀ p : List Tk, (∀ t ∈ p, 0 ≤ c * t.2) → 0 ≤ c * Am p := fun p => by
    induction p with
    | nil => intro _; simp [Am]
    | cons a r ih =>
      intro h
      have h1 := ih fun x hx => h x (List.mem_cons_of_mem _ hx)
      have h2 := h a List.mem_cons_self
      simp only [Am]
      grind
  have t1 : (0 : Rat) ≤ (t.1 : Rat) := by exact_mod_cast (by have := hf t ht'; omega : (0 : Int) ≤ t.1)
  have i0 : 0 ≤ (Wi p)⁻¹ := by
    rcases Rat.le_iff_lt_or_eq.mp (wi p hf) with z | z
    · exact Rat.le_of_lt (Rat.inv_pos.mpr z)
    · rw [← z, Rat.inv_zero]
      exact Rat.le_refl
  have : c * (ht p * (t.1 : Rat)) = c * Am p * (Wi p)⁻¹ * (t.1 : Rat) := by
    unfold ht
    rw [Rat.div_def]
    grind
  rw [this]
  exact Rat.mul_nonneg (Rat.mul_nonneg (am p hs) i0) t1
theorem Dp.rst {e : Nat} {c : Rat} {ws bs : List Int} {qs : List Rat} (h : Dp e c ws qs) (f : Flo ws) (he : e ≤ 22) (hc : c = 1 ∨ c = -1) (hb : Bo ws.length bs) : Dp (e + 1) c ws (rest (ws.zip qs) bs) := by
  have R := h.row f (by omega)
  have sg : ∀ q ∈ rest (ws.zip qs) bs, 0 ≤ c * q := fun q hq => by
    unfold rest segs at hq
    obtain ⟨pr, _, hq⟩ := List.mem_flatMap.mp hq
    obtain ⟨p, hp, hq⟩ := List.mem_flatMap.mp hq
    have okS : ∀ t ∈ seg (ws.zip qs) pr, OkT (zE e) t := fun t h => R.ok t (seg_mem h)
    obtain ⟨_, _, q3⟩ := pools_ok okS
    have sub : p.Sublist (ws.zip qs) := by
      have := List.sublist_flatten_of_mem hp
      rw [q3] at this
      exact this.trans (seg_sub _ pr)
    refine lay_sgn (fun t ht => (R.ok t (sub.subset ht)).lo) (fun t ht => ?_) hq
    refine h.sg _ ?_
    have := List.mem_map_of_mem (f := (·.2)) (sub.subset ht)
    rw [R.l2] at this
    exact this
  have tot : rsum (rest (ws.zip qs) bs) = c := by
    rw [rest_sum R.zne R.ok (R.bb hb), R.l2]
    exact h.tot
  have dv : ∀ q ∈ rest (ws.zip qs) bs, Dv (LAM ^ (e + 1)) ((ws.zip qs).length * 1) q := fun q hq => by
    rw [Nat.pow_succ]
    refine rest_dv R.ok (fun t ht => ?_) (by rw [R.l1]; exact f.sum) hq
    refine h.dv _ ?_
    have := List.mem_map_of_mem (f := (·.2)) ht
    rw [R.l2] at this
    exact this
  exact ⟨R.rlen hb, sg, dv_one hc sg dv tot, tot⟩
/-! ### levelled between still places -/
/-- the pairs of neighbours -/
def stP (st : List Nat) : List (Int × Int) := (st.zip (st.drop 1)).map fun p => ((p.1 : Int), (p.2 : Int))
theorem stP_cons (a b : Nat) (r : List Nat) : stP (a :: b :: r) = ((a : Int), (b : Int)) :: stP (b :: r) := by simp [stP]
theorem lvs_cons (l : List Tk) (p : Int × Int) (prs : List (Int × Int)) : lvs l (p :: prs) = lay (seg l p) ++ lvs l prs := by
  unfold lvs
  rw [List.flatMap_cons]
theorem lay_take (p : List Tk) (j : Nat) : rsum ((lay p).take j) = ht p * Wi (p.take j) := by
  have key : ∀ (c : Rat) (l : List Tk), rsum (l.map fun t => c * (t.1 : Rat)) = c * Wi l := fun c l => by
    induction l with
    | nil => simp [rsum, Wi]
    | cons t r ih =>
      simp only [List.map_cons, rsum, Wi, ih]
      grind
  unfold lay
  rw [← List.map_take, key]
theorem wi_pos {p : List Tk} (hf : ∀ t ∈ p, 1 ≤ t.1) (h : p ≠ []) : 0 < Wi p := by
  cases p with
  | nil => exact absurd rfl h
  | cons a r =>
    have wi : ∀ p : List Tk, (∀ t ∈ p, 1 ≤ t.1) → 0 ≤ Wi p := fun p => by
      induction p with
      | nil => intro _; exact Rat.le_refl
      | cons a r ih =>
        intro h
        have h1 := ih fun x hx => h x (List.mem_cons_of_mem _ hx)
        have h2 : (0 : Rat) ≤ (a.1 : Rat) := by exact_mod_cast (by have := h a List.mem_cons_self; omega : (0 : Int) ≤ a.1)
        exact Rat.add_nonneg h2 h1
    have h1 := wi r fun x hx => hf x (List.mem_cons_of_mem _ hx)
    have h2 : (0 : Rat) < (a.1 : Rat) := by exact_mod_cast (by have := hf a List.mem_cons_self; omega : (0 : Int) < a.1)
    simp only [Wi]
    grind
theorem lvs_sum {l : List Tk} (hf : Fl l) : ∀ (r : List Nat) (a : Nat), (a :: r).Pairwise (· < ·) → (∀ x ∈ r, x ≤ l.length) → ∀ (p : Nat × Nat), p ∈ (a :: r).zip r → ∀ k, p.1 ≤ k → k ≤ p.2 →
    rsum ((lvs l (stP (a :: r))).take (k - a)) = Ya l p.1 - Ya l a + (Ya l p.2 - Ya l p.1) / (Xa l p.2 - Xa l p.1) * (Xa l k - Xa l p.1)
  | [], a, _, _, p, hp, _, _, _ => by simp at hp
  | b :: r, a, hs, hn, p, hp, k, h1, h2 => by
    rw [List.pairwise_cons] at hs
    have hab := hs.1 b List.mem_cons_self
    have hbn := hn b List.mem_cons_self
    have ls : (seg l ((a : Int), (b : Int))).length = b - a := seg_length hbn (by omega)
    have ll : (lay (seg l ((a : Int), (b : Int)))).length = b - a := by unfold lay; rw [List.length_map, ls]
    have ne : seg l ((a : Int), (b : Int)) ≠ [] := fun z => by
      rw [z] at ls
      simp at ls
      omega
    have fs : ∀ t ∈ seg l ((a : Int), (b : Int)), 1 ≤ t.1 := fun t ht => hf t (seg_mem ht)
    have am := seg_Am (l := l) (a := a) (b := b) (by omega) (b - a) (Nat.le_refl _)
    have wi := seg_Wi (l := l) (a := a) (b := b) (by omega) (b - a) (Nat.le_refl _)
    have all : (seg l ((a : Int), (b : Int))).take (b - a) = seg l ((a : Int), (b : Int)) := by rw [← ls, List.take_length]
    unfold Ya at am
    unfold Xa at wi
    rw [all, show a + (b - a) = b by omega] at am wi
    have hA : Am (seg l ((a : Int), (b : Int))) = Ya l b - Ya l a := by
      unfold Ya
      rw [am]
      grind
    have hW : Wi (seg l ((a : Int), (b : Int))) = Xa l b - Xa l a := by
      unfold Xa
      rw [wi]
      grind
    have hh : ht (seg l ((a : Int), (b : Int))) = (Ya l b - Ya l a) / (Xa l b - Xa l a) := by unfold ht; rw [hA, hW]
    have wp := wi_pos fs ne
    rw [hW] at wp
    rw [stP_cons, lvs_cons]
    rcases List.mem_cons.mp (by rw [List.zip_cons_cons] at hp; exact hp) with e | hp
    · subst e
      have hk : k - a ≤ (lay (seg l ((a : Int), (b : Int)))).length := by rw [ll]; omega
      rw [List.take_append_of_le_length hk, lay_take, hh]
      have w2 := seg_Wi (l := l) (a := a) (b := b) (by omega) (k - a) (by omega)
      rw [show a + (k - a) = k by omega] at w2
      have e2 : Wi ((seg l ((a : Int), (b : Int))).take (k - a)) = Xa l k - Xa l a := by
        show Xa _ _ = _
        rw [w2]
        grind
      rw [e2]
      grind
    · have hb2 : b ≤ p.1 := by
        have := (List.of_mem_zip hp).1
        rcases List.mem_cons.mp this with e | e
        · omega
        · have := (List.pairwise_cons.mp hs.2).1 p.1 e
          omega
      have ih := lvs_sum hf r b hs.2 (fun x hx => hn x (List.mem_cons_of_mem _ hx)) p hp k h1 h2
      have e1 : k - a = (lay (seg l ((a : Int), (b : Int)))).length + (k - b) := by rw [ll]; omega
      rw [e1, List.take_length_add_append, rsum_app, ih]
      have e2 := lay_take (seg l ((a : Int), (b : Int))) (b - a)
      rw [all, List.take_of_length_le (by rw [ll]; exact Nat.le_refl _), hh, hW] at e2
      have e3 : (Ya l b - Ya l a) / (Xa l b - Xa l a) * (Xa l b - Xa l a) = Ya l b - Ya l a := Rat.div_mul_cancel (by grind)
      rw [e2, e3]
      grind
theorem adj_of : ∀ (r : List Nat) (a k : Nat), (a :: r).Pairwise (· < ·) → a < k → (∃ x ∈ r, k ≤ x) → ∃ p ∈ (a :: r).zip r, p.1 < k ∧ k ≤ p.2
  | [], a, k, _, _, h => by obtain ⟨x, hx, _⟩ := h; cases hx
  | b :: r, a, k, hs, h, ⟨x, hx, hk⟩ => by
    rcases Nat.lt_or_ge b k with h1 | h1
    · have hx' : x ∈ r := by
        rcases List.mem_cons.mp hx with rfl | hx
        · omega
        · exact hx
      obtain ⟨p, hp, q⟩ := adj_of r b k (List.pairwise_cons.mp hs).2 h1 ⟨x, hx', hk⟩
      exact ⟨p, by rw [List.zip_cons_cons]; exact List.mem_cons_of_mem _ hp, q⟩
    · exact ⟨(a, b), by simp, h, h1⟩
theorem gapN : ∀ (r : List Nat) (a : Nat), (a :: r).Pairwise (· < ·) → ∀ p ∈ (a :: r).zip r, ∀ x ∈ a :: r, ¬ (p.1 < x ∧ x < p.2)
  | [], a, _, p, hp => by simp at hp
  | b :: r, a, hs, p, hp => by
    rw [List.pairwise_cons] at hs
    intro x hx q
    rcases List.mem_cons.mp (by rw [List.zip_cons_cons] at hp; exact hp) with e | hp3
    · subst e
      rcases List.mem_cons.mp hx with e | hx2
      · rw [e] at q; exact Nat.lt_irrefl _ q.1
      · rcases List.mem_cons.mp hx2 with e | hx3
        · rw [e] at q; exact Nat.lt_irrefl _ q.2
        · have := (List.pairwise_cons.mp hs.2).1 x hx3
          have := q.2
          show False
          simp only at this
          omega
    · rcases List.mem_cons.mp hx with e | hx2
      · have h1 := (List.of_mem_zip hp3).1
        have := hs.1 _ h1
        omega
      · exact gapN r b hs.2 p hp3 x hx2 q
/-- levelled: each place by its best lot -/
def lvl (ws : List Int) (st : List Nat) (Y : Nat → Rat) (k : Nat) : Rat := rsum ((bLot ws st k).map fun p => p.2 * Y p.1)
/-- a row of still places -/
structure Still (n : Nat) (st : List Nat) : Prop where
  up : st.Pairwise (· < ·)
  hd : ∃ r, st = 0 :: r ∧ r ≠ []
  le : ∀ x ∈ st, x ≤ n
  n : n ∈ st
theorem lvs_at {ws : List Int} {qs : List Rat} {st : List Nat} (f : Flo ws) (hq : qs.length = ws.length) (h : Still ws.length st) {k : Nat} (hk : k ≤ ws.length) : rsum ((lvs (ws.zip qs) (stP st)).take k) = lvl ws st (fun j => rsum (qs.take j)) k := by
  obtain ⟨r, hr, _⟩ := h.hd
  have up := h.up
  rw [hr] at up
  have ll : (ws.zip qs).length = ws.length := by rw [List.length_zip, hq, Nat.min_self]
  have fl : Fl (ws.zip qs) := fun t ht => (f.fl t.1 (List.of_mem_zip (show (t.1, t.2) ∈ _ from ht)).1).1
  have ya : ∀ j, Ya (ws.zip qs) j = rsum (qs.take j) := fun j => by rw [Ya_rsum, List.map_snd_zip (by omega)]
  have mem0 : 0 ∈ st := by rw [hr]; exact List.mem_cons_self
  unfold lvl bLot
  by_cases hk0 : k = 0
  · subst hk0
    rw [if_pos mem0]
    simp [rsum]
    grind
  · have hn : ws.length ∈ r := by
      have := h.n
      rw [hr] at this
      rcases List.mem_cons.mp this with e | e
      · have := List.length_pos_iff.mpr f.ne
        omega
      · exact e
    obtain ⟨p, hp, p1, p2⟩ := adj_of r 0 k up (by omega) ⟨_, hn, hk⟩
    have m1 : p.1 ∈ st := by rw [hr]; exact (List.of_mem_zip hp).1
    have m2 : p.2 ∈ st := by rw [hr]; exact List.mem_cons_of_mem _ (List.of_mem_zip hp).2
    have g := gapN r 0 up p hp
    have le2 := h.le _ m2
    have ls := lvs_sum (l := ws.zip qs) fl r 0 up (fun x hx => by rw [ll]; exact h.le x (by rw [hr]; exact List.mem_cons_of_mem _ hx)) p hp k (by omega) p2
    rw [Nat.sub_zero, ya, ya, ya, Xa_Xp hq (show p.1 ≤ ws.length by omega), Xa_Xp hq le2, Xa_Xp hq hk, List.take_zero] at ls
    simp only [rsum] at ls
    rw [hr, ls]
    have xl := Xp_lt f (show p.1 < p.2 by omega) le2
    have b1 := Xp_small f le2
    have b2 := Xp_small f (show p.1 ≤ ws.length by omega)
    obtain ⟨D, hD⟩ : ∃ D : Nat, D = (Xp ws p.2 - Xp ws p.1).toNat := ⟨_, rfl⟩
    have D0 : 0 < D := by omega
    have eD : ((Xp ws p.2 : Int) : Rat) - ((Xp ws p.1 : Int) : Rat) = (D : Rat) := by
      have : Xp ws p.2 - Xp ws p.1 = (D : Int) := by omega
      rw [← Rat.intCast_sub, this, Rat.intCast_natCast]
    have Dr : (D : Rat) ≠ 0 := by exact_mod_cast (by omega : D ≠ 0)
    by_cases hks : k ∈ st
    · have ek : k = p.2 := by
        rcases Nat.lt_or_eq_of_le p2 with q | q
        · exact absurd ⟨p1, q⟩ (g k (by rw [← hr]; exact hks))
        · exact q
      rw [← hr, if_pos hks]
      simp only [List.map_cons, List.map_nil, rsum]
      rw [ek, eD]
      grind
    · have hkn : k < p.2 := Nat.lt_of_le_of_ne p2 fun z => hks (z ▸ m2)
      obtain ⟨l1, l2, l3, _⟩ := low_of ⟨p.1, m1, p1⟩
      obtain ⟨g1, g2, g3, _⟩ := high_of ⟨p.2, m2, hkn⟩
      have elo : lowN st k = p.1 := by
        have a := l3 p.1 m1 p1
        rcases Nat.lt_or_eq_of_le a with q | q
        · exact absurd ⟨q, by omega⟩ (g (lowN st k) (by rw [← hr]; exact l1))
        · exact q.symm
      have ehi : highN st k = p.2 := by
        have a := g3 p.2 m2 hkn
        rcases Nat.lt_or_eq_of_le a with q | q
        · exact absurd ⟨by omega, q⟩ (g (highN st k) (by rw [← hr]; exact g1))
        · exact q
      rw [← hr, if_neg hks, elo, ehi]
      simp only [List.map_cons, List.map_nil, rsum]
      rw [← hD, Rat.mkRat_eq_div, Rat.mkRat_eq_div, Rat.intCast_sub, Rat.intCast_sub, eD]
      grind
theorem lvs_len {l : List Tk} : ∀ (r : List Nat) (a : Nat), (a :: r).Pairwise (· < ·) → (∀ x ∈ r, x ≤ l.length) → (lvs l (stP (a :: r))).length + a = (a :: r).getLast (by simp)
  | [], a, _, _ => by simp [lvs, stP]
  | b :: r, a, hs, hn => by
    rw [List.pairwise_cons] at hs
    have hab := hs.1 b List.mem_cons_self
    have ls : (seg l ((a : Int), (b : Int))).length = b - a := seg_length (hn b List.mem_cons_self) (by omega)
    have ih := lvs_len (l := l) r b hs.2 fun x hx => hn x (List.mem_cons_of_mem _ hx)
    rw [stP_cons, lvs_cons, List.length_append, List.getLast_cons (by simp)]
    unfold lay
    rw [List.length_map, ls]
    omega
theorem last_max : ∀ (r : List Nat) (a : Nat), (a :: r).Pairwise (· < ·) → ∀ x ∈ a :: r, x ≤ (a :: r).getLast (by simp)
  | [], a, _, x, hx => by
    have := List.mem_singleton.mp hx
    subst this
    simp
  | b :: r, a, hs, x, hx => by
    rw [List.pairwise_cons] at hs
    rw [List.getLast_cons (by simp)]
    rcases List.mem_cons.mp hx with rfl | hx
    · have := last_max r b hs.2 b List.mem_cons_self
      have := hs.1 b List.mem_cons_self
      omega
    · exact last_max r b hs.2 x hx
theorem Dp.lev {e : Nat} {c : Rat} {ws : List Int} {qs : List Rat} {st : List Nat} (h : Dp e c ws qs) (f : Flo ws) (he : e ≤ 22) (hc : c = 1 ∨ c = -1) (hst : Still ws.length st) : Dp (e + 1) c ws (lvs (ws.zip qs) (stP st)) := by
  have R := h.row f (by omega)
  have sub : ∀ q ∈ lvs (ws.zip qs) (stP st), ∃ p : Int × Int, q ∈ lay (seg (ws.zip qs) p) := fun q hq => by
    obtain ⟨p, _, hq⟩ := List.mem_flatMap.mp hq
    exact ⟨p, hq⟩
  have sg : ∀ q ∈ lvs (ws.zip qs) (stP st), 0 ≤ c * q := fun q hq => by
    obtain ⟨p, hq⟩ := sub q hq
    refine lay_sgn (fun t ht => (R.ok t (seg_mem ht)).lo) (fun t ht => ?_) hq
    refine h.sg _ ?_
    have := List.mem_map_of_mem (f := (·.2)) (seg_mem ht)
    rw [R.l2] at this
    exact this
  have len : (lvs (ws.zip qs) (stP st)).length = ws.length := by
    obtain ⟨r, hr, _⟩ := hst.hd
    have up := hst.up
    have n := hst.n
    have le := hst.le
    subst hr
    have l1 := lvs_len (l := ws.zip qs) r 0 up fun x hx => by rw [R.ll]; exact le x (List.mem_cons_of_mem _ hx)
    have m1 := last_max r 0 up _ n
    have m2 := le _ (List.getLast_mem (l := 0 :: r) (by simp))
    omega
  have tot : rsum (lvs (ws.zip qs) (stP st)) = c := by
    have := lvs_at f h.len hst (Nat.le_refl ws.length)
    rw [List.take_of_length_le (by rw [len]; exact Nat.le_refl _)] at this
    rw [this]
    unfold lvl bLot
    rw [if_pos hst.n]
    simp only [List.map_cons, List.map_nil, rsum]
    rw [List.take_of_length_le (by rw [h.len]; exact Nat.le_refl _), h.tot]
    grind
  have dv : ∀ q ∈ lvs (ws.zip qs) (stP st), Dv (LAM ^ (e + 1)) ((ws.zip qs).length * 1) q := fun q hq => by
    obtain ⟨p, hq⟩ := sub q hq
    rw [Nat.pow_succ]
    have sl := seg_sub (ws.zip qs) p
    have fl : ∀ t ∈ ws.zip qs, 1 ≤ t.1 := fun t ht => (R.ok t ht).lo
    have := dv_lay (D := LAM ^ e) (M := 1) (fun t ht => fl t (sl.subset ht)) (fun t ht => by
      refine h.dv _ ?_
      have := List.mem_map_of_mem (f := (·.2)) (sl.subset ht)
      rw [R.l2] at this
      exact this) (Int.le_trans (sum_sub sl fl) (by rw [R.l1]; exact f.sum)) hq
    exact this.le (Nat.mul_le_mul_right _ sl.length_le)
  exact ⟨len, sg, dv_one hc sg dv tot, tot⟩
end FW.P
end
section
namespace FW.P
open PySem PyProof.Rows PySem.Spec L2 DL FW
/-! ### flaps past which no drop comes -/
def hgts (ws : List Int) (v : List Rat) : List Rat := List.zipWith (fun q (w : Int) => q * ((1 : Int) : Rat) / (w : Rat)) v ws
def shF (ws : List Int) (v : List Rat) (bs : List Int) : List Int := ((List.range (ws.length - 1)).filter fun i => decide (((1 : Int) + (i : Nat)) ∈ bs) || !decide ((hgts ws v).getD i 0 = (hgts ws v).getD (i + 1) 0)).map fun i => (1 : Int) + (i : Nat)
theorem shF_bo {ws : List Int} {v : List Rat} {bs : List Int} (hn : ws.length ≤ 100) : Bo ws.length (shF ws v bs) := by
  refine ⟨fun b hb => ?_, ?_, ?_⟩
  · obtain ⟨i, hi, rfl⟩ := List.mem_map.mp hb
    have := List.mem_range.mp (List.mem_filter.mp hi).1
    omega
  · exact List.pairwise_map.mpr ((List.nodup_range.filter _).imp fun h => by omega)
  · unfold shF
    rw [List.length_map]
    refine Nat.le_trans (List.length_filter_le _ _) ?_
    rw [List.length_range]
    omega
section
variable {S : Sto} {n : Nat} {ws : List Int} {wss : List (List Rat)} {sts : List (List Int × List Rat)}
end
/-! ### the drop, step by step -/
noncomputable def dstep (ws : List Int) (wss : List (List Rat)) (sts : List (List Int × List Rat)) (i : Nat) (qs : List Rat) : List Rat :=
  rest (ws.zip (lvs (ws.zip qs) (stP ((stls wss sts).getD i [])))) (shF ws (wss.getD (i + 1) []) (sts.getD i ([], [])).1)
noncomputable def dfold (ws : List Int) (wss : List (List Rat)) (sts : List (List Int × List Rat)) (spot : Nat) : Nat → List Rat → List Rat
  | 0, qs => qs
  | k + 1, qs => dstep ws wss sts (spot + k) (dfold ws wss sts spot k qs)
def unitW (n a : Nat) (c : Rat) : List Rat := (List.replicate n 0).set a c
theorem stl_still {ws : List Int} {w v r : List Rat} {bs : List Int} {Z Y : Nat → Rat} (P : Stp ws w v r bs Z Y) (f : Flo ws) (lv : v.length = ws.length) (lw : w.length = ws.length) (lr : r.length = ws.length) : Still ws.length (stl (hf 0 v) (fal w r)) := by
  have m0 := ends_mem P lv lw lr (show 0 ≤ ws.length by omega) (.inl rfl)
  have mn := ends_mem P lv lw lr (Nat.le_refl ws.length) (.inr (.inl rfl))
  have up : (stl (hf 0 v) (fal w r)).Pairwise (· < ·) := by
    unfold stl
    exact List.pairwise_lt_range.filter _
  refine ⟨up, ?_, fun x hx => ((stl_mem P lv lw lr).mp hx).1, mn⟩
  cases q : stl (hf 0 v) (fal w r) with
  | nil => rw [q] at m0; cases m0
  | cons a l =>
    rw [q] at m0 mn up
    have a0 : a = 0 := by
      rcases List.mem_cons.mp m0 with e | e
      · exact e.symm
      · have := (List.pairwise_cons.mp up).1 0 e
        omega
    subst a0
    refine ⟨l, rfl, fun z => ?_⟩
    subst z
    have := List.mem_singleton.mp mn
    have := List.length_pos_iff.mpr f.ne
    omega
theorem Hs.still {ws : List Int} {wss : List (List Rat)} {sts : List (List Int × List Rat)} (h : Hs ws wss sts) (f : Flo ws) (hl : sts.length ≤ 11) {i : Nat} (hi : i < sts.length) : Still ws.length ((stls wss sts).getD i []) := by
  obtain ⟨st, w, v, Z, Y, h1, h2, h3, P, lv, lw, lr, B, R, W, V⟩ := h.stp f hl hi
  rw [List.getD_eq_getElem?_getD, stls_get h1 h2 h3]
  exact stl_still P f lv lw lr
theorem Dp.step {e : Nat} {c : Rat} {ws : List Int} {wss : List (List Rat)} {sts : List (List Int × List Rat)} {qs : List Rat} {i : Nat} (D : Dp e c ws qs) (h : Hs ws wss sts) (f : Flo ws) (hl : sts.length ≤ 11) (he : e ≤ 20) (hc : c = 1 ∨ c = -1) (hi : i < sts.length) : Dp (e + 2) c ws (dstep ws wss sts i qs) :=
  (D.lev f (by omega) hc (h.still f hl hi)).rst f (by omega) hc (shF_bo (by have := f.n; omega))
theorem Dp.fold {c : Rat} {ws : List Int} {wss : List (List Rat)} {sts : List (List Int × List Rat)} {qs : List Rat} {spot : Nat} (D : Dp 0 c ws qs) (h : Hs ws wss sts) (f : Flo ws) (hl : sts.length ≤ 11) (hc : c = 1 ∨ c = -1) : ∀ k, spot + k ≤ sts.length → Dp (2 * k) c ws (dfold ws wss sts spot k qs)
  | 0, _ => D
  | k + 1, hk => (Dp.fold D h f hl hc k (by omega)).step h f hl (by omega) hc (by omega)
section
variable {S : Sto} {n : Nat} {ws : List Int} {wss : List (List Rat)} {sts : List (List Int × List Rat)}
end
end FW.P
end
section
namespace FW.P
open PySem PyProof.Rows PySem.Spec L2 DL FW
/-! ### lots: places and chances -/
/-! ### heaps of drops -/
section
variable {e e' : Nat} {c c' : Rat} {ws : List Int} {wss : List (List Rat)} {sts : List (List Int × List Rat)} {qs qs' : List Rat} {i : Nat}
theorem Dp.levRow (D : Dp e c ws qs) (h : Hs ws wss sts) (f : Flo ws) (hl : sts.length ≤ 11) (he : e ≤ 20) (hc : c = 1 ∨ c = -1) (hi : i < sts.length) : Row (zE (e + 1)) ws (lvs (ws.zip qs) (stP ((stls wss sts).getD i []))) :=
  (D.lev f (by omega) hc (h.still f hl hi)).row f (by omega)
theorem Dp.ya (D : Dp e c ws qs) (h : Hs ws wss sts) (f : Flo ws) (hl : sts.length ≤ 11) (he : e ≤ 20) (hc : c = 1 ∨ c = -1) (hi : i < sts.length) {k : Nat} (hk : k ≤ ws.length) : Ya (ws.zip (lvs (ws.zip qs) (stP ((stls wss sts).getD i [])))) k = lvl ws ((stls wss sts).getD i []) (fun j => rsum (qs.take j)) k := by
  rw [(D.levRow h f hl he hc hi).ya, lvs_at f D.len (h.still f hl hi) hk]
end
/-! ### drops told -/
section
variable {S : Sto} {n : Nat} {ws : List Int} {wss : List (List Rat)} {sts : List (List Int × List Rat)}
end
/-! ### the law's looks -/
end FW.P
end
section
namespace FW.P
open PySem PyProof.Rows PySem.Spec L2 DL FW
/-! ### drops: what is told of them -/
section
variable {ws : List Int} {wss : List (List Rat)} {sts : List (List Int × List Rat)}
theorem rsum_step {r : List Rat} {k : Nat} (h : k < r.length) : rsum (r.take (k + 1)) = rsum (r.take k) + r[k] := by
  rw [List.take_succ, List.getElem?_eq_getElem h, rsum_app]
  simp [rsum]
  grind
end
end FW.P
end
section
namespace FW.P
open PySem PyProof.Rows PySem.Spec L2 DL FW
/-! ### chances of a place -/
theorem Dv.mul {D E M N : Nat} {p q : Rat} (h : Dv D M p) (g : Dv E N q) : Dv (D * E) (M * N) (p * q) := by
  obtain ⟨x, e, b⟩ := h
  obtain ⟨y, f, c⟩ := g
  refine ⟨x * y, ?_, ?_⟩
  · rw [Rat.intCast_mul, ← e, ← f, Rat.natCast_mul]
    grind
  · rw [Int.natAbs_mul]
    have := Nat.mul_le_mul b c
    have e : M * N * (D * E) = M * D * (N * E) := by
      rw [Nat.mul_assoc, Nat.mul_assoc, Nat.mul_left_comm N D E]
    rw [e]
    exact this
/-- the parts of an average -/
def pt (lot : Lot) (Y : Nat → Rat) : List Rat := lot.map fun p => p.2 * Y p.1
section
variable {ws : List Int} {wss : List (List Rat)} {sts : List (List Int × List Rat)} {spot a : Nat}
end
end FW.P
end
section
namespace FW.P
open PySem PyProof.Rows PySem.Spec L2 DL FW
open FK (Sts Rw run stp run_wt run_snoc)

/-! ### sums of drops -/
def fsum (n : Nat) (f : Nat → Rat) : Rat := rsum ((List.range n).map f)
section
variable {ws : List Int} {wss : List (List Rat)} {sts : List (List Int × List Rat)}
/-- a drop's heap after so many steps -/
noncomputable def Hh (ws : List Int) (wss : List (List Rat)) (sts : List (List Int × List Rat)) (c : Rat) (spot a m k : Nat) : Rat := rsum ((dfold ws wss sts spot m (unitW ws.length a c)).take k)
/-- an amount that came -/
def amt (sts : List (List Int × List Rat)) (spot a : Nat) : Rat := (sts.getD spot ([], [])).2.getD a 0
end
/-! ### a history without first water -/
end FW.P
end
section
namespace FW.P
open PySem PyProof.Rows PySem.Spec L2 DL FW
open FK (Sts Rw run stp run_wt run_snoc hobj_at0)

section
variable {ws : List Int} {wss : List (List Rat)} {sts : List (List Int × List Rat)}
/-- what is told of a drop -/
noncomputable def told (ws : List Int) (wss : List (List Rat)) (sts : List (List Int × List Rat)) (c : Rat) (spot a k : Nat) : Rat := c * Hh ws wss sts c spot a (sts.length - spot) k
/-- told of all before -/
noncomputable def acc (ws : List Int) (wss : List (List Rat)) (sts : List (List Int × List Rat)) (c : Rat) (spot a k : Nat) : Rat :=
  fsum spot (fun s => fsum ws.length fun b => amt sts s b * told ws wss sts c s b k) + fsum a fun b => amt sts spot b * told ws wss sts c spot b k
end
end FW.P
end
section
namespace FW.P
open PySem PyProof.Rows PySem.Spec L2 DL FW
/-! ### orders: rains into single tanks, no flap bolted -/
/-- so much more from a tank on -/
def jmp (t : Nat) (b : Rat) (k : Nat) : Rat := if t < k then b else 0
section
variable {lx ly lz : List Tk} {Zx Zy Zz : Nat → Rat} {t : Nat} {b : Rat}
/-! one alone -/
/-- what one rain alone leaves left of a place -/
def alone (X : Nat → Rat) (n t : Nat) (a : Rat) (k : Nat) : Rat := if k ≤ t then 0 else a * (X k - X t) / (X n - X t)
structure Lin (X : Nat → Rat) (n t : Nat) (U : Nat → Rat) : Prop where
  cv : ∀ k, 0 < k → k < n → ∃ s u, s ≤ u ∧ U k - U (k - 1) = s * (X k - X (k - 1)) ∧ U (k + 1) - U k = u * (X (k + 1) - X k) ∧ (t < k → s = u)
theorem Lin.add {X U V : Nat → Rat} {n t : Nat} (h : Lin X n t U) (g : Lin X n t V) : Lin X n t fun k => U k + V k := by
  refine ⟨fun k k0 kn => ?_⟩
  obtain ⟨s, u, su, e1, e2, e3⟩ := h.cv k k0 kn
  obtain ⟨s', u', su', e1', e2', e3'⟩ := g.cv k k0 kn
  refine ⟨s + s', u + u', by grind, by grind, by grind, fun q => by rw [e3 q, e3' q]⟩
theorem Lin.up {X U : Nat → Rat} {n t t' : Nat} (h : Lin X n t U) (ht : t ≤ t') : Lin X n t' U := ⟨fun k k0 kn => by
  obtain ⟨s, u, su, e1, e2, e3⟩ := h.cv k k0 kn
  exact ⟨s, u, su, e1, e2, fun q => e3 (by omega)⟩⟩
end
end FW.P
end
section
/-! orders: rains into single tanks -/
namespace FB
open PySem PyProof.Rows PySem.Spec L2 DL FW
noncomputable def b_law_under_z : DS :=
    (dRet (dOp eqD (dLc false (diZ (dCons (dVar 0) (dCons (dVar 1) dNil))) (dGTup 2 (dGCons (dName 2) (dGCons (dName 3) dGNil))) (dTest (dOp gtD (dOp mulD (dOp ixD (dVar 2) (dC (.int 0))) (dOp ixD (dVar 3) (dC (.int 1)))) (dOp mulD (dOp ixD (dVar 3) (dC (.int 0))) (dOp ixD (dVar 2) (dC (.int 1)))))) (dC (.int 1)) [2, 3]) (dLst false dNil)))
noncomputable def f_law_under_z : List DV → Sto → Option (DV × Sto) := fnF (some false) 4 b_law_under_z
noncomputable def b_fallen_z : DS :=
    (dSeq (dAsg (dMake "History" 3 f_History_init_r [.non] (dCons (dVar 0) dNil)) (dName 2))
    (dSeq (dFor (diL (dVar 1)) (dGTup 2 (dGCons (dName 3) (dGCons (dName 4) dGNil)))
    (dSeq (dAsg (dOp (repD true) (dLst false (dCons (dC (.tup [(.int 0), (.int 1)])) dNil)) (dCB lenD (dCons (dVar 0) dNil))) (dName 5))
    (dSeq (dAsg (dVar 4) (dSub (dVar 5) (dOp subD (dVar 3) (dC (.int 1)))))
    (dDrop (dMeth "History" "step" 3 f_History_step_z [] (dVar 2) (dCons (dLst false dNil) (dCons (dVar 5) dNil)))))))
    (dRet (dMeth "History" "water" 2 f_History_water_z [.non] (dVar 2) dNil))))
noncomputable def f_fallen_z : List DV → Sto → Option (DV × Sto) := fnF (some false) 6 b_fallen_z
noncomputable def b_check_order_z : DS :=
    (dIfS (dTest (dOp neD (dCB (sortBD false) (dCons (dVar 1) dNil)) (dLr1' false (dCB lenD (dCons (dVar 0) dNil)))))
    dNever dNext)
noncomputable def f_check_order_z : List DV → Sto → Option (DV × Sto) := fnF (some false) 2 b_check_order_z
noncomputable def b_check_rains_z : DS :=
    (dFor (diE (dCons (dVar 1) dNil)) (dGTup 2 (dGCons (dName 2) (dGCons (dGTup 2 (dGCons (dName 3) (dGCons (dName 4) dGNil))) dGNil)))
    (dIfS (dOr (dTest (dInRg true (dVar 3) (dCons (dC (.int 1)) (dCons (dOp (addD false) (dCB lenD (dCons (dVar 0) dNil)) (dC (.int 1))) dNil)))) (dNot (dTest (dCall 2 f_above_z [] (dCons (dVar 4) (dCons (dC (.tup [(.int 0), (.int 1)])) dNil))))))
    dNever dNext))
noncomputable def f_check_rains_z : List DV → Sto → Option (DV × Sto) := fnF (some false) 5 b_check_rains_z
noncomputable def b_behind_z : DS :=
    (dSeq (dDrop (dCall 1 f_check_floors_z [] (dCons (dVar 0) dNil)))
    (dSeq (dDrop (dCall 2 f_check_rains_z [] (dCons (dVar 0) (dCons (dVar 1) dNil))))
    (dSeq (dDrop (dCall 2 f_check_order_z [] (dCons (dVar 1) (dCons (dVar 2) dNil))))
    (dRet (dCall 2 f_fallen_z [] (dCons (dVar 0) (dCons (dLc false (diL (dVar 2)) (dName 3) dYes (dOp ixD (dVar 1) (dVar 3)) [3]) dNil)))))))
noncomputable def f_behind_z : List DV → Sto → Option (DV × Sto) := fnF (some false) 4 b_behind_z
noncomputable def b_bounds_z : DS :=
    (dSeq (dDrop (dCall 1 f_check_floors_z [] (dCons (dVar 0) dNil)))
    (dSeq (dDrop (dCall 2 f_check_rains_z [] (dCons (dVar 0) (dCons (dVar 1) dNil))))
    (dSeq (dAsg (dSortKey false (dVar 1)) (dName 2))
    (dRet (dTup (dCons (dCall 2 f_heaped_z [] (dCons (dVar 0) (dCons (dCall 2 f_fallen_z [] (dCons (dVar 0) (dCons (dVar 2) dNil))) dNil))) (dCons (dCall 2 f_heaped_z [] (dCons (dVar 0) (dCons (dCall 2 f_fallen_z [] (dCons (dVar 0) (dCons (dRevL false (dVar 2)) dNil))) dNil))) dNil)))))))
noncomputable def f_bounds_z : List DV → Sto → Option (DV × Sto) := fnF (some false) 3 b_bounds_z
noncomputable def b_law_rains_z : DS :=
    (dSeq (dAsg (dLst true dNil) (dName 3))
    (dSeq (dFor (diR1 (dCons (dCall 2 f_law_take_z [] (dCons (dVar 0) (dCons (dOp (addD false) (dVar 2) (dC (.int 1))) dNil))) dNil)) (dName 4)
    (dSeq (dAsg (dCall 1 f_law_amount_z [] (dCons (dVar 0) dNil)) (dName 5))
    (dDrop (dBM "list" appendD (dVar 3) (dCons (dTup (dCons (dOp (addD false) (dC (.int 1)) (dCall 2 f_law_take_z [] (dCons (dVar 0) (dCons (dCB lenD (dCons (dVar 1) dNil)) dNil)))) (dCons (dIf (dTest (dOp gtD (dOp ixD (dVar 5) (dC (.int 0))) (dC (.int 0)))) (dVar 5) (dTup (dCons (dOp (addD false) (dC (.int 1)) (dCall 2 f_law_take_z [] (dCons (dVar 0) (dCons (dC (.int 3)) dNil)))) (dCons (dC (.int 1)) dNil)))) dNil))) dNil)))))
    (dRet (dVar 3))))
noncomputable def f_law_rains_z : List DV → Sto → Option (DV × Sto) := fnF (some false) 6 b_law_rains_z
end FB
end
section
/-! a def that is called where nothing is being shown (repr): the marks around it are known to be none -/
namespace DL
open PySem PyProof.Rows PySem.Spec L2
/-- FnOk, where nothing is being shown -/
structure Quiet (P : Program) (w : World) (K : PySem.W.Frag) (mg : Str → Option Value) (base : Heap) (CX : CXT) (k : Nat) (f : Addr) (fd : FuncData) (ps : List Str) (sp : Sp) : Prop where
  cnt : ∀ zs H Q E, sp zs H Q E → zs.length = ps.length
  go : ∀ (A : Around) (out : List Env) (s : Shared) (H : Hp) (ag : Args) (us : List Value) (zs : List V) (Q : VK) (E : XK), A.guards = some [] → Room k A → Env0 P w K mg base A out s H →
    BindsTo s fd ag (ps.zip us) → Vals zs us → sp zs H Q E → codeAny (model P w) A (.call (.ref f) ag) (CR CX out P w H s Q E) s
theorem Quiet.imp {P : Program} {w : World} {K : PySem.W.Frag} {mg : Str → Option Value} {base : Heap} {CX : CXT} {k : Nat} {f : Addr} {fd : FuncData} {ps : List Str} {sp tp : Sp} (F : Quiet P w K mg base CX k f fd ps sp) (h : ∀ zs H Q E, tp zs H Q E → sp zs H Q E) : Quiet P w K mg base CX k f fd ps tp :=
  ⟨fun zs H Q E q => F.cnt zs H Q E (h _ _ _ _ q), fun A out s H ag us zs Q E g r e b v q => F.go A out s H ag us zs Q E g r e b v (h _ _ _ _ q)⟩
theorem quiet_of {CX : CXT} {P : Program} {w : World} {K : PySem.W.Frag} {mg : Str → Option Value} {base : Heap} {k : Nat} {f : Addr} {x qual : Str} {pr : Arguments} {bd : List Stmt} {sc : Scope} {dV kV dc pm cv ct oc : Value} {an od : Option Addr}
    {sl : Array (Option Value)} {N ps : List Str} {sp : Sp} (at_ : K.lookup f = some ⟨oc, od, .func (PySem.W.fnOf x qual pr bd sc dV kV dc pm an cv ct), sl⟩) (code : PySem.W.codeIn K cv qual = true) (S : FnScope N ps sc)
    (cnt : ∀ zs H Q E, sp zs H Q E → zs.length = ps.length)
    (each : ∀ (A : Around) (out : List Env) (s : Shared) (H : Hp) (zs : List V) (Q : VK) (E : XK), A.guards = some [] → Room k (A.deeper (envOfC qual sc s.heap.objs.size f cv)) → sp zs H Q E →
      ∃ t, PSs (cxOf CX P w K mg base N qual sc f cv A out s H E) bd t ∧ t { nx := fun _ H1 => Q .non H1, rt := Q } (start N zs) H) :
    Quiet P w K mg base CX (k + 1) f (PySem.W.fnOf x qual pr bd sc dV kV dc pm an cv ct) ps sp := by
  constructor
  · exact cnt
  intro A out s H ag us zs Q E gd room e0 bnd vals q
  have n1 := cnt _ _ _ _ q
  have inK := e0.mod.kin.keeps fun b o e => (e0.bs b o e).1
  have free := e0.mod.nolimit.keeps fun b o e => (e0.bs b o e).1
  have kinds : ∀ z ∈ ps.zip us, sc.names.lookup z.1 = some .local ∨ (sc.names.lookup z.1 = some .cell ∧ ((cellsFrom (s.heap.objs.size + 1) sc.names []).lookup z.1).isSome = true) := by
    rintro ⟨n, v⟩ hz
    cases S.par n (List.of_mem_zip hz).1 with
    | inl q => exact .inl q
    | inr q => exact .inr ⟨q, PySem.W.cellsFrom_some _ _ _ (.inl q)⟩
  apply codeAny_call_function room.depth (inK _ _ at_) rfl S.co S.gen rfl (PySem.W.codeRec_of inK code)
  apply bnd
  apply wpAny_newFunctionEnv_cells S.kind kinds
  rintro env rfl s1 st
  constructor
  · exact free.keeps st.toInCall.keep
  apply codeAny_func
  obtain ⟨t, run, post⟩ := each A out s H zs Q E gd (room.deeper _) q
  have J : Inv (cxOf CX P w K mg base N qual sc f cv A out s H E) [] (start N zs) H s1 := inv_start S room.hd e0 n1 vals st
  have ends : ∀ {τ : L2.St} {G : Hp} {s2 : Shared} {v : V} {u : Value}, Inv (cxOf CX P w K mg base N qual sc f cv A out s H E) [] τ G s2 → RelV v u → Q v G → CE out P w H s Q u s2 := fun {τ G s2 v u} I r p => ⟨v, G, I.os, I.bare, I.base, I.hok, r, p⟩
  refine wpAny_mono (run.run [] s1 (start N zs) H _ J post) (fun fl s2 hs => ?_) fun _ _ hs => hs
  match fl, hs with
  | .ret u, ⟨v, _, G, I, r, p⟩ => exact ends I r p
  | .next, ⟨_, G, I, p⟩ => exact ends (v := V.non) (u := Value.none) I rfl p
  | .brk, ⟨_, _, _, p⟩ => exact p.elim
  | .cont, ⟨_, _, _, p⟩ => exact p.elim
end DL
namespace DL
open PySem PyProof.Rows PySem.Spec L2 LamX
/-! ### the law's call, nothing being shown -/
section
variable {P : Program} {w : World} {K : PySem.W.Frag} {mg mb : Str → Option Value} {a : Addr} {tb : List (Addr × Addr)} {vs : List Value} {ns : List Int} {h : Heap}
def scO (vs : List Value) : Obj := { cls := .type "list", data := .seq vs.toArray }
def tbO : Obj := { cls := .none, data := .fields #[] }
/-- what is tracked at the start: the script, where it isn't the text's own, and the tables -/
def trk (K : PySem.W.Frag) (a : Addr) (tb : List (Addr × Addr)) (vs : List Value) (ns : List Int) : Hp := fun b =>
  if b = a then (if (K.lookup a).isNone = true then some (.frz (scO vs) (.lst (ns.map V.int))) else none) else if b ∈ tb.map (·.2) then some (.tbl #[]) else none
structure At0 (K : PySem.W.Frag) (a : Addr) (tb : List (Addr × Addr)) (vs : List Value) (ns : List Int) (h : Heap) : Prop where
  inK : K.In h
  sc : h.get? a = some (scO vs)
  is : IntsAre vs ns
  len : ns.length ≤ sizeLine
  tab : ∀ p ∈ tb, h.get? p.2 = some tbO
  not : ∀ p ∈ tb, K.lookup p.2 = none
theorem At0.tb_at (Z : At0 K a tb vs ns h) {b : Addr} (hb : b ∈ tb.map (·.2)) : h.get? b = some tbO := by
  obtain ⟨p, hp, rfl⟩ := List.mem_map.mp hb
  exact Z.tab p hp
theorem At0.apart (Z : At0 K a tb vs ns h) : a ∉ tb.map (·.2) := fun z => by
  have := (Z.tb_at z).symm.trans Z.sc
  have d := congrArg Obj.data (Option.some.inj this)
  exact nomatch d
/-- the three sorts of places -/
theorem At0.sort (Z : At0 K a tb vs ns h) (b : Addr) : (trk K a tb vs ns b = none ∧ b ∉ tb.map (·.2)) ∨ (b ∈ tb.map (·.2) ∧ trk K a tb vs ns b = some (.tbl #[])) ∨ (b = a ∧ K.lookup a = none ∧ trk K a tb vs ns b = some (.frz (scO vs) (.lst (ns.map V.int)))) := by
  unfold trk
  by_cases e : b = a
  · rw [if_pos e]
    by_cases q : (K.lookup a).isNone = true
    · exact .inr (.inr ⟨e, Option.isNone_iff_eq_none.mp q, if_pos q⟩)
    · exact .inl ⟨if_neg q, e ▸ Z.apart⟩
  · rw [if_neg e]
    by_cases q : b ∈ tb.map (·.2)
    · exact .inr (.inl ⟨q, if_pos q⟩)
    · exact .inl ⟨if_neg q, q⟩
/-- what is neither list nor table is not tracked -/
theorem At0.free (Z : At0 K a tb vs ns h) {b : Addr} {o : Obj} (e : h.get? b = some o) (n1 : ∀ us n, o.data ≠ .seq us n) (n2 : o.data ≠ .fields #[]) : trk K a tb vs ns b = none := by
  rcases Z.sort b with q | q | q
  · exact q.1
  · cases (Z.tb_at q.1).symm.trans e
    exact absurd rfl n2
  · rw [q.1] at e
    cases Z.sc.symm.trans e
    exact absurd rfl (n1 _ _)
theorem At0.base (Z : At0 K a tb vs ns h) {b : Addr} {o : Obj} (e : h.get? b = some o) (n1 : ∀ us n, o.data ≠ .seq us n) (n2 : o.data ≠ .fields #[]) : (hidT h (trk K a tb vs ns)).get? b = some o := hidT_get e (Z.free e n1 n2)
theorem At0.names (Z : At0 K a tb vs ns h) {b : Addr} {m : Str → Option Value} (N : h.Ns b m) : (hidT h (trk K a tb vs ns)).Ns b m := by
  obtain ⟨o, es, ep, e, d, r⟩ := N
  exact ⟨o, es, ep, Z.base e (fun us n z => nomatch d.symm.trans z) (fun z => nomatch d.symm.trans z), d, r⟩
theorem At0.kin (Z : At0 K a tb vs ns h) : K.In (hidT h (trk K a tb vs ns)) := fun b o e => by
  refine hidT_get (Z.inK b o e) ?_
  rcases Z.sort b with q | q | q
  · exact q.1
  · obtain ⟨p, hp, ep⟩ := List.mem_map.mp q.1
    rw [← ep, Z.not p hp] at e
    exact nomatch e
  · rw [q.1, q.2.1] at e
    exact nomatch e
theorem At0.tables (Z : At0 K a tb vs ns h) (C : ∀ p ∈ tb, PySem.W.CodeHd h p.1 p.2) (N : h.Ns mainGlobals mg)
    (B : ∃ (bm : Addr) (ob : Obj), mg "__builtins__" = some (.ref bm) ∧ bm ≠ builtinsNs ∧ h.get? bm = some ob ∧ ob.cls = .type "module" ∧ ob.dict = some builtinsNs ∧ ob.data = .plain) :
    ∀ p ∈ tb, TabB (hidT h (trk K a tb vs ns)) mg p.1 p.2 := by
  intro p hp
  obtain ⟨go, ge, gp, g1, g2, _⟩ := N
  have tp := Z.tab p hp
  have apartG : ∀ {q : Addr}, q = mainGlobals → ∀ {o : Obj}, h.get? q = some o → (∀ es ep, o.data ≠ .dict es ep) → False := fun {q} e {o} g n => by
    rw [e] at g
    cases g1.symm.trans g
    exact n _ _ g2
  refine ⟨?_, ?_, fun z => ?_⟩
  · obtain ⟨o, us, fl, tf, fg, tg, inf, tx, tt, e1, r1, r2, rest⟩ := C p hp
    refine ⟨o, us, fl, tf, fg, tg, inf, tx, tt, Z.base e1 (fun vs n z => nomatch r2.symm.trans z) (fun z => ?_), r1, r2, rest⟩
    have u0 : us = #[] := by
      have := r2.symm.trans z
      cases this
      rfl
    have r3 := rest.1
    rw [u0] at r3
    simp at r3
  · obtain ⟨bm, ob, b1, b2, b3, b4, b5, b6⟩ := B
    refine ⟨bm, ob, b1, b2, fun q => apartG q b3 (fun es ep z => nomatch b6.symm.trans z), fun q => ?_, Z.base b3 (fun vs n z => nomatch b6.symm.trans z) (fun z => nomatch b6.symm.trans z), b4, b5, b6⟩
    rw [q] at b3
    cases tp.symm.trans b3
    exact nomatch b6
  · exact apartG z.symm tp (fun es ep z => nomatch z)
theorem quiet_call {CX : CXT} {k : Nat} {fa : Addr} {fd : FuncData} {x : Str} {sp : Sp} {s : Shared} (Z : At0 K a tb vs ns s.heap) (C : ∀ p ∈ tb, PySem.W.CodeHd s.heap p.1 p.2) (N : s.heap.Ns mainGlobals mg) (N2 : s.heap.Ns builtinsNs mb) (boot : ∀ x : Str, x ≠ "__name__" → mb x = bootBuiltins x) (lim : s.heap.NoLimit) (gens : s.gens = #[])
    (B : ∃ (bm : Addr) (ob : Obj), mg "__builtins__" = some (.ref bm) ∧ bm ≠ builtinsNs ∧ s.heap.get? bm = some ob ∧ ob.cls = .type "module" ∧ ob.dict = some builtinsNs ∧ ob.data = .plain) (room : Room k callerA)
    (F : ∀ base : Heap, K.In base → base.Ns mainGlobals mg → (∀ p ∈ tb, TabB base mg p.1 p.2) → Quiet P w K mg base CX k fa fd [x] sp) (bind : ∀ (s : Shared) (u : Value), BindsTo s fd ⟨[u], []⟩ [(x, u)])
    (pre : ∀ H : Hp, (∀ p ∈ tb, H p.2 = some (.tbl #[])) → SqL K H a (ns.map V.int) → sp [.ref a] H (fun v _ => v = .bl true) fun _ _ _ => False) (never : ∀ H e s', CX [] H s (fun _ _ _ => False) e s' → False) :
    codeAny (model P w) callerA (.call (.ref fa) ⟨[.ref a], []⟩) (fun r s' => r = .ok (.ret (.bool true)) ∧ OldK s.heap s'.heap ∧ s'.os = s.os ∧ AllBare s'.gens) s := by
  have vals := vals_ints Z.is
  have vlen := Z.is.length
  obtain ⟨H, hH⟩ : ∃ H, H = trk K a tb vs ns := ⟨_, rfl⟩
  have tabs : ∀ p ∈ tb, H p.2 = some (.tbl #[]) := fun p hp => by
    have m : p.2 ∈ tb.map (·.2) := List.mem_map.mpr ⟨p, hp, rfl⟩
    rw [hH]
    rcases Z.sort p.2 with q | q | q
    · exact absurd m q.2
    · exact q.2
    · exact absurd (q.1 ▸ m) Z.apart
  have script : SqL K H a (ns.map V.int) := by
    rcases Z.sort a with q | q | q
    · cases e : K.lookup a with
      | none =>
        have t := q.1
        unfold trk at t
        rw [if_pos rfl, if_pos (by rw [e]; rfl)] at t
        exact nomatch t
      | some o =>
        cases Z.sc.symm.trans (Z.inK a o e)
        exact .inr ⟨_, vs.toArray, _, e, rfl, rfl, rfl, by rw [List.size_toArray, vlen]; exact Z.len, by simpa using vals⟩
    · exact absurd q.1 Z.apart
    · rw [hH]
      exact .inl (.inr ⟨scO vs, q.2.2⟩)
  have sound : HOk P w H s.heap := fun b u z => by
    rw [hH] at z
    rcases Z.sort b with q | q | q
    · exact nomatch q.1.symm.trans z
    · cases q.2.symm.trans z
      exact Z.tb_at q.1
    · cases q.2.2.symm.trans z
      rw [q.1]
      exact ⟨Z.sc, by rw [List.length_map]; exact Z.len, vs, _, vals, Z.sc⟩
  have md : L2.Mod K mg (hidT s.heap H) := by
    rw [hH]
    obtain ⟨mc, l1, l2⟩ := lim
    exact ⟨Z.kin, Z.names N, ⟨mb, Z.names N2, boot⟩, ⟨mc, Z.names l1, l2⟩⟩
  have env : Env0 P w K mg (hidT s.heap H) callerA [] s H := ⟨rfl, md, fun _ _ e => of_hidT e, Nat.le_of_eq (hidT_size _ _), trivial, (fun b hb => (List.not_mem_nil (show b ∈ ([] : List Addr) from hb)).elim), sound, .of_eq gens⟩
  have Fb := F (hidT s.heap H) md.kin (by rw [hH]; exact Z.names N) (by rw [hH]; exact Z.tables C N B)
  refine codeAny_mono (Fb.go callerA [] s H ⟨[.ref a], []⟩ [.ref a] [.ref a] _ _ rfl room env (bind s (.ref a)) (.cons rfl .nil) (pre H tabs script)) fun r s' got => ?_
  match r, got with
  | .error e, got => exact (never H e s' got).elim
  | .ok .next, got => exact got.elim
  | .ok .brk, got => exact got.elim
  | .ok .cont, got => exact got.elim
  | .ok (.ret u), ⟨v, G, os, bare, un, sound', rv, q⟩ =>
    cases (show v = .bl true from q)
    cases (show u = Value.bool true from rv)
    have stays : ∀ b o, b ∉ tb.map (·.2) → s.heap.get? b = some o → s'.heap.get? b = some o := fun b o nb e => by
      rcases Z.sort b with t | t | t
      · rw [← hH] at t
        exact un.keep b o e t.1 (by intro z; cases z) (by simp)
      · exact absurd t.1 nb
      · have t3 := t.2.2
        rw [← hH] at t3
        rw [t.1] at e t3 ⊢
        cases Z.sc.symm.trans e
        exact (sound' a _ (un.frzs a _ _ t3)).1
    have grew : ∀ b ∈ tb.map (·.2), ∃ more : Array Value, s'.heap.get? b = some { cls := .none, data := .fields more } := fun b hb => by
      obtain ⟨p, hp, rfl⟩ := List.mem_map.mp hb
      obtain ⟨more, z⟩ := un.tbls p.2 #[] (tabs p hp)
      exact ⟨_, sound' p.2 _ z⟩
    refine ⟨rfl, ⟨fun b o e => ?_, fun b o e => ?_⟩, os, bare⟩
    · by_cases m : b ∈ tb.map (·.2)
      · obtain ⟨more, g⟩ := grew b m
        cases (Z.tb_at m).symm.trans e
        obtain ⟨p, hp, rfl⟩ := List.mem_map.mp m
        exact .inr (.inl ⟨((C p hp).tab (Z.tab p hp)).isCodeTable, rfl, #[], more, rfl, by rw [Array.empty_append]; exact g⟩)
      · exact .inl (stays b o m e)
    · by_cases m : b ∈ tb.map (·.2)
      · obtain ⟨more, g⟩ := grew b m
        exact ⟨_, g⟩
      · exact ⟨o, stays b o m e⟩
end
end DL
end
section
/-! repr, where nothing is being shown -/
namespace DL
open PySem PyProof.Rows PySem.Spec L2 LamX
section
variable {X : Cx} {K : PySem.W.Frag} {mg : Str → Option Value}
def rRepr (K : PySem.W.Frag) : List V → Hp → VK → Prop := fun xs H Q => ∃ a d, xs = [.ref a] ∧ Dp K H (.ref a) d ∧ SeqAt.shaped d = true ∧ d.showable = true ∧ d.shown.length ≤ sizeLine ∧ Q (.str d.shown) H
theorem shaped_lay {d : PyData} (h : SeqAt.shaped d = true) : d.canLay0 = true ∧ d.depth ≤ 64 := by
  unfold SeqAt.shaped at h
  simpa using h
theorem cr_repr (gd : X.A.guards = some []) (hu : X.A.units + 80 < cLine) : CallR X (.builtin "repr") (rRepr X.K) := by
  intro pins s σ H xs us Q I r h
  obtain ⟨a, d, rfl, hd, sh, sp, len, q⟩ := h
  obtain ⟨u, rfl, rx⟩ := vals1 r
  cases rx
  obtain ⟨lay, dep⟩ := shaped_lay sh
  obtain ⟨as, rd⟩ := Dp.reads I d _ _ hd rfl
  exact repr_of_reads' (h₀ := s.heap) rd sp (PyData.noDict_hsm (PyData.hasDict_of_canLay d lay)) gd (by omega) (fun _ _ e => e) (fun h' u tk kp => ⟨.str d.shown, H, I.kept (t' := tk) kp, ⟨_, rfl⟩, q⟩) len
/-- a text that shows data -/
noncomputable def reprD : DC := fun xs S => match xs with
  | [x] => match pyS S x with
    | some p => gate (SeqAt.shaped p = true ∧ p.showable = true ∧ p.shown.length ≤ sizeLine) (match x with
      | .lst _ => some (.str p.shown, S)
      | .tup _ => some (.str p.shown, S)
      | .ptr _ => some (.str p.shown, S)
      | _ => none)
    | none => none
  | _ => none
theorem rc_repr : RC K mg (rRepr K) reprD := by
  intro W S xs vs d S' Q R h e q
  unfold reprD at e
  split at e
  · rename_i x
    split at e
    · rename_i p hp
      obtain ⟨v, rfl, hv⟩ := dens1 h
      obtain ⟨⟨sh, sp, ln⟩, e⟩ := gate_inv e
      have dp := pyS_ok R hp hv
      split at e
      · cases e
        obtain ⟨a, _, rfl, _⟩ := hv
        exact ⟨a, p, rfl, dp, sh, sp, ln, q _ W (Ext.refl W) R rfl⟩
      · cases e
        obtain ⟨a, _, rfl, _⟩ := hv
        exact ⟨a, p, rfl, dp, sh, sp, ln, q _ W (Ext.refl W) R rfl⟩
      · cases e
        obtain ⟨a, _, rfl⟩ := hv
        exact ⟨a, p, rfl, dp, sh, sp, ln, q _ W (Ext.refl W) R rfl⟩
      · cases e
    · cases e
  · cases e
end
end DL
end
section
/-! defs that show data, and the law's walk with such -/
namespace DL
open PySem PyProof.Rows PySem.Spec L2 LamX
section
variable {X : Cx} {CX : CXT} {k : Nat} {f : Addr} {fd : FuncData} {ps : List Str} {sp : Sp} {E : XK} {ds : List Value} {dvs : List V}
end
section
variable {K : PySem.W.Frag} {mg : Str → Option Value}
/-- a def as a function of data, nothing being shown -/
theorem fn_dlQ {P : Program} {w : World} {base : Heap} {x qual : Str} {st : Stmt} {f : Addr} {fd : FuncData} {N ps : List Str} {k n : Nat} {m : Option Bool} {body : DS} (F : Fun K x qual st f fd) (S : FnScope N ps (defScope st)) (hps : ps.length = n)
    (hb : ∀ (cdv : Value) (A : Around) (outer : List Env) (s : Shared) (H : Hp) (E : XK), Room k (A.deeper (envOfC qual (defScope st) s.heap.objs.size f cdv)) → (A.deeper (envOfC qual (defScope st) s.heap.objs.size f cdv)).guards = some [] →
      ∃ t, PSs (cxOf CX0 P w K mg base N qual (defScope st) f cdv A outer s H E).nox (defBody st) t ∧ RS K mg t body) :
    Quiet P w K mg base CX0 (k + 1) f fd ps (spF K mg n (fnF m N.length body)) := by
  have cnt : ∀ zs H Q E, spF K mg n (fnF m N.length body) zs H Q E → zs.length = ps.length := fun zs H Q E h => h.1.trans hps.symm
  obtain ⟨oc, od, kv, dc, pm, an, cdv, ct, sl, rfl, lk, hcd⟩ := F.ex
  apply quiet_of lk hcd S cnt
  intro A outer s H zs Q E gd room h
  obtain ⟨t, ht, hR⟩ := hb cdv A outer s H E room gd
  refine ⟨t, ht.nox, ?_⟩
  obtain ⟨_, W, Sx, ds, d, S', rfl, R, hd, hg, q⟩ := h
  unfold fnF at hg
  split at hg
  · rename_i s1 S1 e1
    refine hR W _ _ Sx _ _ R (slo_start hd) e1 fun σ1 W1 x1 R1 L1 => ?_
    obtain ⟨W2, h2, x2, R2, d2⟩ := exF_ok R x1 R1 (d := .non) (v := V.non) rfl hg
    rw [← h2]
    exact q _ W2 x2 R2 d2
  · rename_i d1 S1 e1
    refine hR W _ _ Sx _ _ R (slo_start hd) e1 fun v1 W1 x1 R1 d1 => ?_
    obtain ⟨W2, h2, x2, R2, d2⟩ := exF_ok R x1 R1 d1 hg
    rw [← h2]
    exact q _ W2 x2 R2 d2
  · cases hg
theorem law_ofQ {P : Program} {w : World} {base : Heap} {k : Nat} {f : Addr} {fd : FuncData} {ps : List Str} {g : List DV → Sto → Option (DV × Sto)} (F : Quiet P w K mg base CX0 k f fd ps (spF K mg 1 g))
    (h : ∀ ns : List Int, ns.length ≤ 63 → ∃ S', g [.rls (ns.map DV.int)] [] = some (.bl true, S')) : Quiet P w K mg base CX0 k f fd ps (spLawT K mg) := by
  refine F.imp fun zs H Q E q => ?_
  obtain ⟨t, a, ns, rfl, hS, hl, q⟩ := q
  obtain ⟨W, e, R, hd⟩ := start_world (mg := mg) t hS
  obtain ⟨S', hg⟩ := h ns hl
  refine ⟨rfl, W, [], [.rls (ns.map DV.int)], _, S', e, R, ⟨_, _, rfl, hd, rfl⟩, hg, fun v W' x R' d => ?_⟩
  cases (show v = V.bl true from d)
  exact q _
/-- what the last theorem wants of the law -/
def LawQ (l : PySem.W.OpenLaw) (w : World) (K : PySem.W.Frag) (CX : CXT) (k n : Nat) (x : Str) (mg : Str → Option Value) (fa : Addr) (h : Heap) : Prop :=
  ∃ (fd : FuncData) (tb : List (Addr × Addr)) (sp : Sp), (∀ p ∈ tb, h.get? p.2 = some tbO) ∧ (∀ p ∈ tb, K.lookup p.2 = none) ∧ (∀ p ∈ tb, PySem.W.CodeHd h p.1 p.2) ∧ (∀ (s : Shared) (u : Value), BindsTo s fd ⟨[u], []⟩ [(x, u)]) ∧
    (∀ (H : Hp) (a : Addr) (ns : List Int), ns.length ≤ n → (∀ p ∈ tb, H p.2 = some (.tbl #[])) → SqL K H a (ns.map V.int) → sp [.ref a] H (fun v _ => v = .bl true) fun _ _ _ => False) ∧
    ∀ base : Heap, K.In base → base.Ns mainGlobals mg → (∀ p ∈ tb, TabB base mg p.1 p.2) → Quiet l.prog w K mg base CX k fa fd [x] sp
theorem un80 {k : Nat} {A : Around} (hr : Room k A) : A.units + 80 < cLine := by
  have := hr.un
  omega
/-- a law in whose text bounds' table grows -/
theorem law_atQ {l : PySem.W.OpenLaw} {w : World} {k : Nat} {fa f c P : Addr} {fd fb : FuncData} {h : Heap} {oc : Value} {od db : Option Addr} {sl sb : Array (Option Value)} {vs : Array Value}
    (In : K.In h) (hm : mg "bounds" = some (.ref f)) (l1 : K.lookup f = some ⟨oc, od, .func fb, sl⟩) (c1 : fb.code = .ref c) (q1 : fb.qualname = "bounds") (l2 : K.lookup c = some ⟨.type "code", db, .fields vs, sb⟩)
    (v11 : vs[11]? = some (.ref P)) (nP : K.lookup P = none) (hd : PySem.W.CodeHd h c P) (tab : BndTab K mg h)
    (bind : ∀ (s : Shared) (v : Value), BindsTo s fd ⟨[v], []⟩ [("script", v)])
    (F : Bnd K mg fb c P → ∀ base : Heap, K.In base → base.Ns mainGlobals mg → TabB base mg c P → Quiet l.prog w K mg base CX0 k fa fd ["script"] (spLawT K mg)) : LawQ l w K CX0 k 63 "script" mg fa h := by
  have tb : tabsOf K mg = [(P, (fb.qualname ++ ".<locals>.") ++ "<lambda>")] := by
    unfold tabsOf
    rw [hm]
    simp only [l1]
    unfold tabAt
    rw [c1]
    simp only [l2, v11]
  rw [q1] at tb
  refine ⟨fd, [(c, P)], spLawT K mg, fun p hp => ?_, fun p hp => ?_, fun p hp => ?_, bind, fun H a ns hl hT hS => ⟨?_, a, ns, rfl, hS, hl, fun _ => rfl⟩, fun base hb hn hB => F ⟨c1, tb⟩ base hb hn (hB (c, P) (by simp))⟩
  · cases List.mem_singleton.mp hp
    exact tab f c P _ fb _ vs hm l1 rfl c1 l2 rfl v11
  · cases List.mem_singleton.mp hp
    exact nP
  · cases List.mem_singleton.mp hp
    exact hd
  · rw [tb]
    intro p hp
    cases List.mem_singleton.mp hp
    exact TabS.nil (hT (c, P) (by simp))
theorem walk_boundsQ {l : PySem.W.OpenLaw} {n k : Nat} {q : Program} {lo : List Str} {A1 : (Str → Option Value) → Heap → Prop} {B1 : World → Heap → Prop} {d : DefRec} {K : Params → PySem.W.Frag} {CX : World → CXT} {x : Str}
    (most : l.most = some n) (line : n ≤ sizeLine) (dflt : d.params.defaults = []) (room : Room k callerA) (has : ∃ e ∈ recsOf q, e.name = "bounds") (inK : ∀ (w : World) (h : Heap), B1 w h → (K w.params).In h)
    (F : ∀ (w : World) (mg : Str → Option Value) (fa : Addr) (h : Heap), B1 w h → h.Ns mainGlobals mg → mg d.name = some (.ref fa) → BndTab (K w.params) mg h → LawQ l w (K w.params) (CX w) k n x mg fa h)
    (never : ∀ (w : World) (H : Hp) (s : Shared) (e : Value) (s' : Shared), CX w [] H s (fun _ _ _ => False) e s' → False) :
    PySem.W.WalkO q lo A1 B1 l.row.toRowW d [] (fun g us => PySem.call g us) := by
  apply Att.attach_callB most dflt
  intro w s₀ s₁ mg mb fa o pm cd doc a vs ns G Y _ _ _ hfa obj whole len bits gens
  have In := inK w _ Y
  have tab : BndTab (K w.params) mg s₁.heap := by
    intro b c P o1 fd k1 us e0 e1 e2 e3 e4 e5 e6
    obtain ⟨e, he, hn⟩ := has
    obtain ⟨b', o', fd', c', P', f0, f1, f2, f3, _, ⟨⟨oc, vc, g1, _, g3, g4⟩, g5⟩⟩ := G.T.tab e he
    rw [hn] at f0
    cases e0.symm.trans f0
    cases (In _ _ e1).symm.trans f1
    cases e2.symm.trans f2
    cases e3.symm.trans f3
    cases (In _ _ e4).symm.trans g1
    cases e5.symm.trans g3
    cases e6.symm.trans g4
    exact g5
  have T := G.T
  obtain ⟨fd, tb, sp, t1, t2, t3, bd, pr, ok⟩ := F w mg fa _ Y T.g hfa tab
  exact quiet_call ⟨In, obj, whole, Nat.le_trans len line, t1, t2⟩ t3 T.g T.b T.builtins T.nolimit gens T.bmain room ok bd (fun H h1 h2 => pr H a ns len h1 h2) fun H e s' z => never w H s₁ e s' z
end
end DL
end
section
/-! how long a text is that shows data -/
namespace DL
open PySem PyProof.Rows PySem.Spec L2
/-- data can be shown, in so many signs at most -/
structure Shw (N : Nat) (p : PyData) : Prop where
  ok : p.showable = true
  len : p.shown.length ≤ N
theorem Shw.up {N M : Nat} {p : PyData} (h : Shw N p) (g : N ≤ M) : Shw M p := ⟨h.ok, Nat.le_trans h.len g⟩
theorem shownAll_map : ∀ ps : List PyData, PyData.shownAll ps = ps.map PyData.shown
  | [] => rfl
  | p :: ps => by simp only [PyData.shownAll, List.map_cons, shownAll_map ps]
theorem showAll_of : ∀ {ps : List PyData}, (∀ p ∈ ps, p.showable = true) → PyData.showableAll ps = true
  | [], _ => by simp only [PyData.showableAll]
  | p :: ps, h => by
    have := showAll_of (ps := ps) fun q hq => h q (List.mem_cons_of_mem _ hq)
    simp only [PyData.showableAll, h p List.mem_cons_self, this, Bool.and_self]
theorem sum_most {N : Nat} : ∀ {ts : List Str}, (∀ t ∈ ts, t.length ≤ N) → (ts.map (·.length)).sum ≤ ts.length * N
  | [], _ => by simp
  | t :: ts, h => by
    have a := h t List.mem_cons_self
    have b := sum_most (N := N) (ts := ts) fun q hq => h q (List.mem_cons_of_mem _ hq)
    simp only [List.map_cons, List.sum_cons, List.length_cons, Nat.add_mul, Nat.one_mul]
    omega
theorem shw_list {N : Nat} {ps : List PyData} (h : ∀ p ∈ ps, Shw N p) : Shw (ps.length * (N + 2) + 3) (.list ps) := by
  refine ⟨by simpa only [PyData.showable] using showAll_of fun p hp => (h p hp).ok, ?_⟩
  have a := listText_len_le (ps.map PyData.shown)
  have b := sum_most (N := N) (ts := ps.map PyData.shown) fun t ht => by
    obtain ⟨p, hp, rfl⟩ := List.mem_map.mp ht
    exact (h p hp).len
  rw [List.length_map] at a b
  simp only [PyData.shown, shownAll_map, Nat.mul_add]
  omega
theorem shw_tup {N : Nat} {ps : List PyData} (h : ∀ p ∈ ps, Shw N p) : Shw (ps.length * (N + 2) + 3) (.tuple ps) := by
  refine ⟨by simpa only [PyData.showable] using showAll_of fun p hp => (h p hp).ok, ?_⟩
  have a := tupleText_len_le (ps.map PyData.shown)
  have b := sum_most (N := N) (ts := ps.map PyData.shown) fun t ht => by
    obtain ⟨p, hp, rfl⟩ := List.mem_map.mp ht
    exact (h p hp).len
  rw [List.length_map] at a b
  simp only [PyData.shown, shownAll_map, Nat.mul_add]
  omega
theorem shw_int {i : Int} {n : Nat} (h : i.natAbs < 2 ^ n) (hn : n ≤ 1900) : Shw 1921 (.int i) := by
  have lg : i.natAbs.log2 < 1920 := by
    by_cases z : i.natAbs = 0
    · rw [z]
      decide
    · exact Nat.lt_of_lt_of_le ((Nat.log2_lt z).mpr h) (by omega)
  refine ⟨by simp only [PyData.showable, lg, decide_true], ?_⟩
  have := int_text_length_le (a := i) (k := 1920) (by decide) lg
  show (Str.ofString (toString i)).length ≤ 1921
  first
    | exact this
    | (rw [PySem.ofString_length]; exact this)
/-- data that a text shows -/
theorem repr_ok {S : Sto} {d : DV} {p : PyData} {n N : Nat} (h : pyS S d = some p) (hs : ShN n p) (hn : n ≤ 64) (sh : Shw N p) (hN : N ≤ 16777216) (hd : (∃ ds, d = .lst ds) ∨ (∃ ds, d = .tup ds) ∨ ∃ k, d = .ptr k) : reprD [d] S = some (.str p.shown, S) := by
  have g : SeqAt.shaped p = true ∧ p.showable = true ∧ p.shown.length ≤ sizeLine := ⟨hs.shaped hn, sh.ok, Nat.le_trans sh.len hN⟩
  unfold reprD
  rcases hd with ⟨ds, rfl⟩ | ⟨ds, rfl⟩ | ⟨k, rfl⟩
  · simp only [h]
    rw [gate_ok g]
  · simp only [h]
    rw [gate_ok g]
  · simp only [h]
    rw [gate_ok g]
end DL
end
section
namespace FW
open PySem PyProof.Rows PySem.Spec L2 DL
/-! ### corners: from each on to the farthest place to which it rises least -/
/-- what has been found up to a corner, within a stretch that ends at m -/
structure Cn (l : List Tk) (bs : List Int) (c m : Nat) (Z : Nat → Rat) : Prop where
  cm : c ≤ m
  ml : m ≤ l.length
  le : ∀ k, k ≤ c → Z k ≤ Ya l k
  now : Z c = Ya l c
  ends : ∀ k, k ≤ c → (k = 0 ∨ (k : Int) ∈ bs) → Z k = Ya l k
  flap : ∀ k, 0 < k → k < c → (k : Int) ∉ bs → ∃ s u, s ≤ u ∧ Z k - Z (k - 1) = s * (Xa l k - Xa l (k - 1)) ∧ Z (k + 1) - Z k = u * (Xa l (k + 1) - Xa l k) ∧ (s < u → Z k = Ya l k)
  last : c = 0 ∨ (c : Int) ∈ bs ∨ ∃ s, Z c - Z (c - 1) = s * (Xa l c - Xa l (c - 1)) ∧ ∀ g, c < g → g ≤ m → s * (Xa l g - Xa l c) < Ya l g - Ya l c
/-- one corner more -/
noncomputable def exc (Z : Nat → Rat) (l : List Tk) (c : Nat) (b : Rat) (k : Nat) : Rat := if k ≤ c then Z k else Ya l c + b * (Xa l k - Xa l c)
theorem Cn.next {l : List Tk} {bs : List Int} {c d m : Nat} {Z : Nat → Rat} {b : Rat} (C : Cn l bs c m Z) (hf : Fl l) (h1 : c < d) (h2 : d ≤ m) (hb : Ya l d - Ya l c = b * (Xa l d - Xa l c))
    (lo : ∀ g, c < g → g < d → b * (Xa l g - Xa l c) ≤ Ya l g - Ya l c) (hi : ∀ g, d < g → g ≤ m → b * (Xa l g - Xa l c) < Ya l g - Ya l c) (free : ∀ k : Nat, c < k → k < m → (k : Int) ∉ bs) : Cn l bs d m (exc Z l c b) := by
  have z1 : ∀ k, k ≤ c → exc Z l c b k = Z k := fun k hk => if_pos hk
  have z2 : ∀ k, c ≤ k → exc Z l c b k = Ya l c + b * (Xa l k - Xa l c) := fun k hk => by
    by_cases e : k = c
    · subst e
      rw [z1 _ (Nat.le_refl _), C.now]
      grind
    · exact if_neg (by omega)
  have zd : exc Z l c b d = Ya l d := by
    rw [z2 d (by omega)]
    grind
  have ml := C.ml
  refine ⟨h2, C.ml, fun k hk => ?_, zd, fun k hk he => ?_, fun k h0 hk hn => ?_, ?_⟩
  · by_cases hc : k ≤ c
    · rw [z1 k hc]
      exact C.le k hc
    · rw [z2 k (by omega)]
      by_cases e : k = d
      · subst e
        grind
      · have := lo k (by omega) (by omega)
        grind
  · by_cases hc : k ≤ c
    · rw [z1 k hc]
      exact C.ends k hc he
    · by_cases e : k = d
      · subst e
        exact zd
      · rcases he with he | he
        · omega
        · exact absurd he (free k (by omega) (by omega))
  · by_cases hc : k < c
    · rw [z1 k (by omega), z1 (k - 1) (by omega), z1 (k + 1) (by omega)]
      exact C.flap k h0 hc hn
    · by_cases e : k = c
      · subst e
        rcases C.last with z | z | ⟨s, e1, e2⟩
        · omega
        · exact absurd z hn
        · refine ⟨s, b, ?_, by rw [z1 k (Nat.le_refl _), z1 (k - 1) (by omega)]; exact e1, ?_, fun _ => by rw [z1 k (Nat.le_refl _)]; exact C.now⟩
          · have h3 := e2 d h1 h2
            rw [hb] at h3
            have h4 := Xa_lt hf (i := k) (j := d) h1 (by omega)
            have h5 : s * (Xa l d - Xa l k) < b * (Xa l d - Xa l k) := h3
            refine Rat.not_lt.mp fun z => ?_
            have := Rat.mul_le_mul_of_nonneg_right (Rat.le_of_lt z) (show 0 ≤ Xa l d - Xa l k by grind)
            grind
          · rw [z2 (k + 1) (by omega), z2 k (Nat.le_refl _)]
            grind
      · refine ⟨b, b, Rat.le_refl, ?_, ?_, fun z => absurd z (Rat.lt_irrefl)⟩
        · rw [z2 k (by omega), z2 (k - 1) (by omega)]
          grind
        · rw [z2 k (by omega), z2 (k + 1) (by omega)]
          grind
  · refine .inr (.inr ⟨b, ?_, fun g g1 g2 => ?_⟩)
    · rw [z2 d (by omega), z2 (d - 1) (by omega)]
      grind
    · have := hi g g1 g2
      grind
/-- the next stretch -/
theorem Cn.over {l : List Tk} {bs : List Int} {c m : Nat} {Z : Nat → Rat} (C : Cn l bs c c Z) (h1 : c ≤ m) (h2 : m ≤ l.length) (h : c = 0 ∨ (c : Int) ∈ bs) : Cn l bs c m Z :=
  ⟨h1, h2, C.le, C.now, C.ends, C.flap, h.elim .inl fun h => .inr (.inl h)⟩
theorem Cn.zero {l : List Tk} {bs : List Int} : Cn l bs 0 0 fun _ => 0 :=
  ⟨Nat.le_refl _, Nat.zero_le _, fun k hk => by rw [Nat.le_zero.mp hk, Y0]; exact Rat.le_refl, by rw [Y0], fun k hk _ => by rw [Nat.le_zero.mp hk, Y0], fun k h0 hk => by omega, .inl rfl⟩
theorem Cn.rst {l : List Tk} {bs : List Int} {Z : Nat → Rat} (C : Cn l bs l.length l.length Z) : Rst l bs Z :=
  ⟨C.le, fun k hk he => by
    rcases he with he | rfl | he
    · exact C.ends k hk (.inl he)
    · exact C.now
    · exact C.ends k hk (.inr he), C.flap⟩
theorem Cn.rest {l : List Tk} {bs : List Int} {Z : Nat → Rat} {m0 : Zc} {r : List Rat} (C : Cn l bs l.length l.length Z) (h0 : l ≠ []) (hok : ∀ t ∈ l, OkT m0 t) (hbs : ∀ b ∈ bs, 1 ≤ b ∧ b < (l.length : Int)) (hl : r.length = l.length) (h : ∀ k, k ≤ l.length → rsum (r.take k) = Z k) : rest l bs = r :=
  rest_of h0 hok hbs hl fun k hk => by
    rw [h k hk]
    exact Rst.uniq (zr_rst h0 hok hbs) C.rst (fun t ht => (hok t ht).lo) hk
end FW
end
section
namespace FB
open PySem PyProof.Rows PySem.Spec L2 DL FW
/-- floors and amounts that the corners go over -/
structure Cq (ws : List Int) (q : List Rat) : Prop where
  ln : q.length = ws.length
  fl : ∀ w ∈ ws, 1 ≤ w ∧ w ≤ 9
  n : ws.length ≤ 8
  hz : Hz 1400 q
section
variable {ws : List Int} {q : List Rat}
theorem Cq.ll (h : Cq ws q) : (ws.zip q).length = ws.length := by
  rw [List.length_zip, h.ln, Nat.min_self]
theorem Cq.ff (h : Cq ws q) : Fl (ws.zip q) := fun t ht => (h.fl t.1 (List.of_mem_zip ht).1).1
theorem Cq.y (h : Cq ws q) (k : Nat) : Ya (ws.zip q) k = rsum (q.take k) := by
  rw [Ya_rsum, List.map_snd_zip (by have := h.ln; omega)]
theorem Cq.x (h : Cq ws q) (k : Nat) : Xa (ws.zip q) k = (((ws.take k).sum : Int) : Rat) := by
  unfold Xa
  rw [← sum_Wi, List.map_take, List.map_fst_zip (by have := h.ln; omega)]
theorem Cq.sz (h : Cq ws q) {k : Nat} (hk : k ≤ ws.length) : Sz 1400 (Ya (ws.zip q) k) := by
  rw [h.y]
  have e := hf_rsum (r := q) (k := k) 0 (by have := h.ln; omega)
  rw [Rat.zero_add] at e
  exact h.hz.2 _ (List.mem_of_getElem? e)
end
def sp (ws : List Int) (m : Nat) : List DV := (List.range (m + 1)).map fun k => DV.int (ws.take k).sum
/-- the best goal so far -/
structure Bst (l : List Tk) (c d u : Nat) (b : Rat) : Prop where
  cd : c < d
  du : d ≤ u
  eq : Ya l d - Ya l c = b * (Xa l d - Xa l c)
  lo : ∀ g, c < g → g < d → b * (Xa l g - Xa l c) ≤ Ya l g - Ya l c
  hi : ∀ g, d < g → g ≤ u → b * (Xa l g - Xa l c) < Ya l g - Ya l c
end FB
end
section
namespace FB
open PySem PyProof.Rows PySem.Spec L2 DL FW
theorem lcL_ofB {α : Type} {φ γ : α → DV} {tgt : DG} {te : DE} {vs : List Nat} {s : Sl} {S : Sto} : ∀ {l : List α} {acc : List DV}, (∀ x ∈ l, ∃ s1, tgt (φ x) (wipeD s vs) S = some (s1, S) ∧ te s1 S = some (γ x, S)) →
    lcL tgt dYes te vs (l.map φ) acc s S = some (acc ++ l.map γ, S)
  | [], acc, _ => by simp [lcL]
  | x :: l, acc, h => by
    obtain ⟨s1, h1, h2⟩ := h x (List.mem_cons_self)
    have ih := fun acc => lcL_ofB (φ := φ) (γ := γ) (tgt := tgt) (te := te) (vs := vs) (s := s) (S := S) (l := l) (acc := acc) fun y hy => h y (List.mem_cons_of_mem _ hy)
    simp only [List.map_cons, lcL, h1, bnd_some', dYes]
    simp [h2, ih]
end FB
end
section
namespace FB
open PySem PyProof.Rows PySem.Spec L2 DL FW
/-! ### a store that has only grown -/
structure Gr (S S' : Sto) : Prop where
  len : S.length ≤ S'.length
  get : ∀ j, j < S.length → S'[j]? = S[j]?
theorem Gr.refl (S : Sto) : Gr S S := ⟨Nat.le_refl _, fun _ _ => rfl⟩
theorem Gr.trans {A B C : Sto} (h : Gr A B) (g : Gr B C) : Gr A C := ⟨Nat.le_trans h.len g.len, fun j hj => (g.get j (Nat.lt_of_lt_of_le hj h.len)).trans (h.get j hj)⟩
theorem Gr.app (S X : Sto) : Gr S (S ++ X) := ⟨by simp, fun j hj => List.getElem?_append_left hj⟩
theorem Gr.set {S S' : Sto} (h : Gr S S') {k : Nat} {mo : MO} (hk : S.length ≤ k) : Gr S (S'.set k mo) := ⟨by rw [List.length_set]; exact h.len, fun j hj => by rw [List.getElem?_set_ne (by omega)]; exact h.get j hj⟩
theorem Gr.at {S S' : Sto} (h : Gr S S') {k : Nat} {mo : MO} (e : S[k]? = some mo) : S'[k]? = some mo := by rw [h.get k (List.getElem?_eq_some_iff.mp e).1, e]
theorem Gr.rd {S S' : Sto} (h : Gr S S') {d : DV} {ds : List DV} (e : rdL S d = some ds) : rdL S' d = some ds := by
  cases d with
  | ptr n =>
    unfold rdL at e ⊢
    simp only at e ⊢
    split at e
    · rename_i es q
      rw [h.at q]
      exact e
    · cases e
  | _ => exact e
theorem Gr.h {S S' : Sto} (h : Gr S S') {n : Nat} {ws : List Int} {wss : List (List Rat)} {sts : List (List Int × List Rat)} (H : HAt S n ws wss sts) : HAt S' n ws wss sts := by
  have := H.lt
  exact H.same fun k h1 h2 => h.get k (by omega)
/-! ### loops and comprehensions over what stays as it is, in a store that changes -/
section
variable {tgt : DG} {body : DS} {it : DIt} {xs : List DV}
end
/-! ### what a History tells, as lists of one's own -/
section
variable {S : Sto} {n : Nat} {ws : List Int} {wss xs : List (List Rat)} {sts : List (List Int × List Rat)} {w : List Rat}
/-- the rows of steps told: a list at p of tuples of two lists each, from b on -/
structure Row2 (S : Sto) (b p : Nat) (sts : List (List Int × List Rat)) : Prop where
  pt : S[p]? = some (.ml ((List.range sts.length).map fun i => DV.tup [.ptr (b + 2 * i), .ptr (b + 2 * i + 1)]))
  fst : ∀ i r, sts[i]? = some r → S[b + 2 * i]? = some (.ml (r.1.map DV.int))
  snd : ∀ i r, sts[i]? = some r → S[b + 2 * i + 1]? = some (.ml (r.2.map fr))
  lt : b + 2 * sts.length ≤ p
theorem Row2.gr {S S' : Sto} {b p : Nat} (h : Row2 S b p sts) (g : Gr S S') : Row2 S' b p sts := ⟨g.at h.pt, fun i r e => g.at (h.fst i r e), fun i r e => g.at (h.snd i r e), h.lt⟩
end
end FB
end
section
namespace FB
open PySem PyProof.Rows PySem.Spec L2 DL FW
/-- what a History stands for, and the law's own lists of it -/
structure Rt (S : Sto) (n st dn : Nat) (ws : List Int) (xs : List (List Rat)) (w : List Rat) (sts : List (List Int × List Rat)) : Prop where
  h : HAt S n ws (xs ++ [w]) sts
  s : S[st]? = some (.ml ((xs ++ [w]).map dF))
  d : S[dn]? = some (.ml (sts.map stD))
  f : Flo ws
  W : ∀ (k : Nat) (u : List Rat), (xs ++ [w])[k]? = some u → Wt k ws u
  l : xs.length = sts.length
  l10 : sts.length ≤ 10
  z : ∀ r ∈ sts, r.1.length ≤ 1000 ∧ r.2.length ≤ 1000
section
variable {S : Sto} {n st dn : Nat} {ws : List Int} {xs : List (List Rat)} {sts : List (List Int × List Rat)} {w : List Rat} {v4 v5 v6 v7 v8 v9 : Option DV}
theorem Rt.gr {S' : Sto} (R : Rt S n st dn ws xs w sts) (g : Gr S S') : Rt S' n st dn ws xs w sts := ⟨g.h R.h, g.at R.s, g.at R.d, R.f, R.W, R.l, R.l10, R.z⟩
end
end FB
end
section
namespace FB
open PySem PyProof.Rows PySem.Spec L2 DL FW
section
variable {S S0 : Sto} {n st dn b p : Nat} {ws : List Int} {xs : List (List Rat)} {sts : List (List Int × List Rat)} {w : List Rat} {v4 v5 v6 v7 v8 v9 : Option DV}
/-- rows told, each of its lists longer by one, up to k -/
structure Row3 (S0 S : Sto) (b p k : Nat) (sts : List (List Int × List Rat)) : Prop where
  gr : Gr S0 S
  pt : S[p]? = some (.ml ((List.range sts.length).map fun i => DV.tup [.ptr (b + 2 * i), .ptr (b + 2 * i + 1)]))
  fst : ∀ i r, sts[i]? = some r → S[b + 2 * i]? = some (.ml (r.1.map DV.int ++ if i < k then [.int (i : Nat)] else []))
  snd : ∀ i r, sts[i]? = some r → S[b + 2 * i + 1]? = some (.ml (r.2.map fr ++ if i < k then [.int (-((i : Nat) : Int))] else []))
  lt : b + 2 * sts.length ≤ p
  ge : S0.length ≤ b
/-! ### the rows due -/
def due (i : Nat) (r : List Int × List Rat) : DV := .tup [.lst (r.1.map DV.int ++ [.int (i : Nat)]), .lst (r.2.map fr ++ [.int (-((i : Nat) : Int))])]
end
end FB
end
section
namespace FB
open PySem PyProof.Rows PySem.Spec L2 DL FW
theorem Rt.mod {S S' : Sto} {n st dn : Nat} {ws : List Int} {xs : List (List Rat)} {sts : List (List Int × List Rat)} {w : List Rat} (R : Rt S n st dn ws xs w sts) (h : ∀ k, k = st ∨ k = dn ∨ (n ≤ k ∧ k ≤ n + 2) → S'[k]? = S[k]?) : Rt S' n st dn ws xs w sts :=
  ⟨R.h.same fun k h1 h2 => h k (.inr (.inr ⟨h1, h2⟩)), (h st (.inl rfl)).trans R.s, (h dn (.inr (.inl rfl))).trans R.d, R.f, R.W, R.l, R.l10, R.z⟩
end FB
end
section
namespace FB
open PySem PyProof.Rows PySem.Spec L2 DL FW
open FK (Sts Rw run stp run_wt run_snoc hobj_at0 am_zero)

/-- a rain into a tank (from 0) -/
abbrev Rn := Nat × Rat
def rnD (p : Rn) : DV := .tup [.int ((p.1 + 1 : Nat) : Int), fr p.2]
def unitR (n : Nat) (p : Rn) : List Rat := (List.replicate n (0 : Rat)).set p.1 p.2
def stR (n : Nat) (p : Rn) : List Int × List Rat := ([], unitR n p)
def zer (ws : List Int) : List Rat := ws.map fun _ => (0 : Rat)
noncomputable def fall (ws : List Int) (rs : List Rn) : List Rat := run ws (zer ws) (rs.map (stR ws.length))
def MIL : Nat := 1000000000000
structure RnOk (ws : List Int) (rs : List Rn) : Prop where
  t : ∀ p ∈ rs, p.1 < ws.length
  a : ∀ p ∈ rs, FK.Am MIL p.2
  pos : ∀ p ∈ rs, 0 < p.2
  n : rs.length ≤ 11
theorem unit_rw {ws : List Int} {p : Rn} (ha : FK.Am MIL p.2) : Rw MIL ws (unitR ws.length p) := by
  refine ⟨by simp [unitR], fun q hq => ?_⟩
  rcases List.mem_or_eq_of_mem_set hq with h | h
  · rw [List.eq_of_mem_replicate h]
    exact am_zero
  · rw [h]
    exact ha
theorem bo_nil {n : Nat} : Bo n [] := ⟨fun b h => (by cases h), List.nodup_nil, Nat.zero_le _⟩
theorem rn_sts {ws : List Int} {rs : List Rn} (h : RnOk ws rs) : Sts MIL ws (rs.map (stR ws.length)) := fun p hp => by
  obtain ⟨r, hr, rfl⟩ := List.mem_map.mp hp
  exact ⟨bo_nil, unit_rw (h.a r hr)⟩
theorem zer_rw (ws : List Int) : Rw MIL ws (zer ws) := ⟨by simp [zer], fun q hq => by
  obtain ⟨_, _, rfl⟩ := List.mem_map.mp hq
  exact am_zero⟩
theorem mil_le : MIL ≤ 1000000000000 := Nat.le_refl _
theorem fall_wt {ws : List Int} {rs : List Rn} (f : Flo ws) (h : RnOk ws rs) : Wt rs.length ws (fall ws rs) := by
  have := run_wt f mil_le (j := 0) ((zer_rw ws).wt f mil_le) (rn_sts h) (by rw [List.length_map]; have := h.n; omega)
  rw [List.length_map, Nat.zero_add] at this
  exact this
noncomputable def falB : DS := (dSeq (dAsg (dOp (repD true) (dLst false (dCons (dC (.tup [(.int 0), (.int 1)])) dNil)) (dCB lenD (dCons (dVar 0) dNil))) (dName 5))
    (dSeq (dAsg (dVar 4) (dSub (dVar 5) (dOp subD (dVar 3) (dC (.int 1)))))
    (dDrop (dMeth "History" "step" 3 f_History_step_z [] (dVar 2) (dCons (dLst false dNil) (dCons (dVar 5) dNil))))))
theorem fallen_ok {S : Sto} {ws : List Int} {rs : List Rn} (f : Flo ws) (h : RnOk ws rs) : f_fallen_z [dI ws, .lst (rs.map rnD)] S = some (dF (fall ws rs), S) := by
  have f8 := f.n
  have rn := h.n
  have Z := (zer_rw ws).wt f mil_le
  have lw : ∀ S, lenD [dI ws] S = some (.int (ws.length : Nat), S) := fun S => by simp [dI]
  obtain ⟨n, hn⟩ : ∃ n, n = S.length := ⟨_, rfl⟩
  have mk : dMake "History" 3 f_History_init_r [.non] (dCons (dVar 0) dNil) [some (dI ws), some (.lst (rs.map rnD)), none, none, none, none] S = some (.ptr n, S ++ hobj n ws [zer ws] []) := by
    have := FW.init_P (S := S) (fd := dI ws) (wd := .non) f Z (by omega) rfl (.inr ⟨rfl, rfl⟩)
    rw [← hn] at this
    unfold dMake
    simp only [dCons, dVar, dNil, List.getElem?_cons_zero, bnd_some', List.length_cons, List.length_nil, List.cons_append, List.nil_append, if_true]
    exact this
  have H0 := hobj_at0 (S := S) (ws := ws) (wss := [zer ws]) (sts := [])
  rw [← hn] at H0
  have wi : ∀ i, i ≤ rs.length → Wt i ws (run ws (zer ws) ((rs.take i).map (stR ws.length))) := fun i hi => by
    have ok : RnOk ws (rs.take i) := ⟨fun p hp => h.t p (List.mem_of_mem_take hp), fun p hp => h.a p (List.mem_of_mem_take hp), fun p hp => h.pos p (List.mem_of_mem_take hp), by rw [List.length_take]; omega⟩
    have := fall_wt f ok
    rw [List.length_take, Nat.min_eq_left hi] at this
    exact this
  obtain ⟨s', S', e, X, wss, sts, o3, o4, o5, rfl, rfl, H, q1, q2⟩ := forL_inv (tgt := (dGTup 2 (dGCons (dName 3) (dGCons (dName 4) dGNil)))) (body := falB)
    (fun k s S' => ∃ (X : Sto) (wss : List (List Rat)) (sts : List (List Int × List Rat)) (o3 o4 o5 : Option DV), s = [some (dI ws), some (.lst (rs.map rnD)), some (.ptr n), o3, o4, o5] ∧ S' = S ++ X ∧ HAt (S ++ X) n ws (wss ++ [run ws (zer ws) ((rs.take k).map (stR ws.length))]) sts ∧ wss.length = k ∧ sts.length = k)
    (xs := rs.map rnD) (s := [some (dI ws), some (.lst (rs.map rnD)), some (.ptr n), none, none, none]) (S := S ++ hobj n ws [zer ws] []) (k := 0) ⟨_, [], [], none, none, none, rfl, rfl, H0, rfl, rfl⟩ (by
      rintro i x s S' hx ⟨X, wss, sts, o3, o4, o5, rfl, rfl, H, q1, q2⟩
      have hi : i < rs.length := by simpa using (List.getElem?_eq_some_iff.mp hx).1
      have hxe : x = rnD rs[i] := by
        rw [List.getElem?_map, List.getElem?_eq_getElem hi] at hx
        simpa using hx.symm
      subst hxe
      rw [Nat.zero_add] at q1 q2 H ⊢
      obtain ⟨p, hp⟩ : ∃ p, p = rs[i] := ⟨_, rfl⟩
      have pm : p ∈ rs := hp ▸ List.getElem_mem hi
      rw [← hp]
      obtain ⟨m, hm⟩ : ∃ m, m = (S ++ X).length := ⟨_, rfl⟩
      have lt := (List.getElem?_eq_some_iff.mp H.w).1
      have e0 : DV.tup [(.int 0), (.int 1)] = fr 0 := rfl
      have rp : repD true (.lst [fr 0]) (.int (ws.length : Nat)) (S ++ X) = some (.ptr m, S ++ X ++ [MO.ml ((List.replicate ws.length (0 : Rat)).map fr)]) := by
        unfold repD
        simp only [trL_lst]
        rw [gate_ok ⟨by omega, by omega, by simp; omega⟩, newL_t, Int.toNat_natCast, List.map_replicate, hm]
        congr 4
        rw [List.flatten_replicate_singleton]
      obtain ⟨Q, hQ⟩ : ∃ Q, Q = S ++ X ++ [MO.ml ((unitR ws.length p).map fr)] := ⟨_, rfl⟩
      have st1 : setL (.ptr m) (.int (p.1 : Nat)) (fr p.2) (S ++ X ++ [MO.ml ((List.replicate ws.length (0 : Rat)).map fr)]) = some Q := by
        unfold setL
        rw [hm]
        simp only [List.getElem?_concat_length]
        have : L2.ixN ((List.replicate ws.length (0 : Rat)).map fr).length ((p.1 : Nat) : Int) = some p.1 := by
          unfold L2.ixN
          rw [if_pos (by omega), if_pos (by have := h.t p pm; simp; omega), Int.toNat_natCast]
        rw [this]
        simp only
        rw [hQ, List.set_append_right _ _ (Nat.le_refl _), Nat.sub_self]
        unfold unitR
        rw [List.map_set]
        rfl
      have HQ : HAt Q n ws (wss ++ [run ws (zer ws) ((rs.take i).map (stR ws.length))]) sts := by
        rw [hQ]
        exact H.app _
      have rdq : rdL Q (.ptr m) = some ((unitR ws.length p).map fr) := by
        rw [hQ, hm]
        unfold rdL
        simp only [List.getElem?_concat_length]
      have so := step_okP (rd := .ptr m) (bd := .lst []) (bs := []) (j := i) rdq ⟨by intro z; cases z; omega, by intro z; cases z; omega⟩ HQ f (wi i (by omega)) ((unit_rw (h.a p pm)).wt f mil_le) (by omega) bo_nil (.inl rfl) (fun X _ _ _ => .inl rfl) (by omega) (by omega)
      have er : run ws (zer ws) ((rs.take (i + 1)).map (stR ws.length)) = rest (ws.zip (List.zipWith (· + ·) (run ws (zer ws) ((rs.take i).map (stR ws.length))) (unitR ws.length p))) [] := by
        rw [List.take_succ, List.getElem?_eq_getElem hi, Option.toList_some, List.map_append, List.map_cons, List.map_nil, ← hp]
        exact run_snoc
      rw [← er] at so
      have H2 := HQ.hset (wss ++ [run ws (zer ws) ((rs.take i).map (stR ws.length))] ++ [run ws (zer ws) ((rs.take (i + 1)).map (stR ws.length))]) (sts ++ [(sortI [], unitR ws.length p)])
      obtain ⟨X2, hX2⟩ : ∃ X2, hset Q n (wss ++ [run ws (zer ws) ((rs.take i).map (stR ws.length))] ++ [run ws (zer ws) ((rs.take (i + 1)).map (stR ws.length))]) (sts ++ [(sortI [], unitR ws.length p)]) = S ++ X2 := ⟨_, by
        unfold hset
        rw [hQ, List.append_assoc, List.set_append_right _ _ (by omega), List.set_append_right _ _ (by omega)]⟩
      rw [hX2] at so H2
      refine ⟨[some (dI ws), some (.lst (rs.map rnD)), some (.ptr n), some (.int ((p.1 + 1 : Nat) : Int)), some (fr p.2), o5], S ++ X, [some (dI ws), some (.lst (rs.map rnD)), some (.ptr n), some (.int ((p.1 + 1 : Nat) : Int)), some (fr p.2), some (.ptr m)], S ++ X2, by simp [rnD], .inl ?_, X2, _, _, _, _, _, rfl, rfl, H2, by simp; omega, by simp; omega⟩
      refine seq_nx (s1 := [some (dI ws), some (.lst (rs.map rnD)), some (.ptr n), some (.int ((p.1 + 1 : Nat) : Int)), some (fr p.2), some (.ptr m)]) (S1 := S ++ X ++ [MO.ml ((List.replicate ws.length (0 : Rat)).map fr)]) (asg_name (by simp [e0, lw, rp])) ?_
      refine seq_nx (s1 := [some (dI ws), some (.lst (rs.map rnD)), some (.ptr n), some (.int ((p.1 + 1 : Nat) : Int)), some (fr p.2), some (.ptr m)]) (S1 := Q) ?_ ?_
      · have sb : ((p.1 + 1 : Nat) : Int) - 1 = (p.1 : Nat) := by omega
        simp only [dAsg, dSub, dOp, dC, dVar, List.getElem?_cons_succ, List.getElem?_cons_zero, bnd_some', subD_int, sb, st1]
      · refine drop_of (d := .non) ?_
        have g0 : ∀ S : Sto, gate (0 ≤ 100000) (some (DV.lst [], S)) = some (DV.lst [], S) := fun S => gate_ok (by decide)
        exact Eq.trans (HQ.meth (xs := [.lst [], .ptr m]) (S1 := Q) rfl lk_step (by simp [g0]) (by rfl)) so)
  rw [List.length_map, Nat.zero_add, List.take_length] at H
  refine fn_rt (d := dF (fall ws rs)) (S1 := S ++ X) ?_ (exF_cut (clos_map (fun _ => rfl) _) fun n z => by cases z)
  refine seq_nx (s1 := [some (dI ws), some (.lst (rs.map rnD)), some (.ptr n), none, none, none]) (S1 := S ++ hobj n ws [zer ws] []) (asg_name mk) ?_
  refine seq_nx (for_of (it := .li (.lst (rs.map rnD))) (S1 := S ++ hobj n ws [zer ws] []) (by simp [diL]) rfl e) ?_
  exact ret_of (Eq.trans (H.meth (xs := []) (S1 := S ++ X) rfl lk_water rfl (by rfl)) (water_now H))
theorem sz_am {q : Rat} (h : FK.Am MIL q) : Sz 1400 q := by
  have := FK.Rw.sz (M := MIL) (ws := [1]) (r := [q]) ⟨rfl, fun x hx => by cases List.mem_singleton.mp hx; exact h⟩ ⟨by simp, fun w hw => by cases List.mem_singleton.mp hw; decide, by decide⟩ mil_le q (by simp)
  exact this
theorem check_rains_ok {S : Sto} {ws : List Int} {rs : List Rn} (f : Flo ws) (h : RnOk ws rs) : f_check_rains_z [dI ws, .lst (rs.map rnD)] S = some (.non, S) := by
  have f8 := f.n
  have lw : ∀ S, lenD [dI ws] S = some (.int (ws.length : Nat), S) := fun S => by simp [dI]
  obtain ⟨s', e, _⟩ := forF_same (tgt := dGTup 2 (dGCons (dName 2) (dGCons (dGTup 2 (dGCons (dName 3) (dGCons (dName 4) dGNil))) dGNil))) (body := dIfS (dOr (dTest (dInRg true (dVar 3) (dCons (dC (.int 1)) (dCons (dOp (addD false) (dCB lenD (dCons (dVar 0) dNil)) (dC (.int 1))) dNil)))) (dNot (dTest (dCall 2 f_above_z [] (dCons (dVar 4) (dCons (dC (.tup [(.int 0), (.int 1)])) dNil))))))
    dNever dNext) (it := .en (.lst (rs.map rnD))) (S := S) (xs := (rs.map rnD).mapIdx fun i x => DV.tup [.int (i : Nat), x]) (enum_at (d := .lst (rs.map rnD)) rfl) (fun s => ∃ a b c, s = [some (dI ws), some (.lst (rs.map rnD)), a, b, c]) (fun x hx s hs => by
    rw [List.mem_mapIdx] at hx
    obtain ⟨i, hi, rfl⟩ := hx
    obtain ⟨a, b, c, rfl⟩ := hs
    have hi' : i < rs.length := by simpa using hi
    obtain ⟨p, hp⟩ : ∃ p, p = rs[i] := ⟨_, rfl⟩
    have pm : p ∈ rs := hp ▸ List.getElem_mem hi'
    have ht := h.t p pm
    have ab := above_ok (S := S) (sz_am (h.a p pm)) (sz_zero (n := 1400)) (by decide) (by decide)
    rw [decide_eq_true (h.pos p pm)] at ab
    have e0 : fr 0 = DV.tup [(.int 0), (.int 1)] := rfl
    rw [e0] at ab
    refine ⟨[some (dI ws), some (.lst (rs.map rnD)), some (.int (i : Nat)), some (.int ((p.1 + 1 : Nat) : Int)), some (fr p.2)], [some (dI ws), some (.lst (rs.map rnD)), some (.int (i : Nat)), some (.int ((p.1 + 1 : Nat) : Int)), some (fr p.2)], ?_, ?_, _, _, _, rfl⟩
    · simp [rnD, ← hp]
    · refine if_f (S1 := S) ?_ rfl
      have hr : RgS ((ws.length : Int) + 1) := rgS_of (by omega) (by omega)
      have hr1 : RgS (1 : Int) := rgS_of (by decide) (by decide)
      have c1 : (1 : Int) ≤ ((p.1 + 1 : Nat) : Int) := by omega
      have c2 : ((p.1 + 1 : Nat) : Int) < (ws.length : Int) + 1 := by omega
      simp [lw, hr, hr1, ab, ht]
      try omega) (itLen (.en (.lst (rs.map rnD))) S + 1) 0 [some (dI ws), some (.lst (rs.map rnD)), none, none, none] (by simp [itLen]) (Nat.zero_le _) ⟨_, _, _, rfl⟩
  refine fn_nx (s := s') (S1 := S) ?_ exF_same
  show dFor _ _ _ [some (dI ws), some (.lst (rs.map rnD)), none, none, none] S = _
  rw [dFor, enD_of (fe := dVar 1) (bd := .lst (rs.map rnD)) (ds := rs.map rnD) rfl rfl, bnd_some']
  exact e
/-! ### the bounds -/
def srt (rs : List Rn) : List Rn := (LK.byKey (rs.map fun p => (p, ((p.1 + 1 : Nat) : Int)))).map (·.1)
theorem srt_perm (rs : List Rn) : (srt rs).Perm rs := by
  unfold srt LK.byKey
  refine ((List.mergeSort_perm _ _).map _).trans ?_
  rw [List.map_map]
  have : (fun p : Rn => p) = ((fun x : Rn × Int => x.1) ∘ fun p : Rn => (p, ((p.1 + 1 : Nat) : Int))) := rfl
  rw [← this, List.map_id']
theorem RnOk.perm {ws : List Int} {rs qs : List Rn} (h : RnOk ws rs) (p : qs.Perm rs) : RnOk ws qs :=
  ⟨fun x hx => h.t x (p.mem_iff.mp hx), fun x hx => h.a x (p.mem_iff.mp hx), fun x hx => h.pos x (p.mem_iff.mp hx), by rw [p.length_eq]; exact h.n⟩
theorem sort_rn {S : Sto} {m : Bool} {rs : List Rn} {fe : DE} {s : Sl} (h : fe s S = some (.lst (rs.map rnD), S)) : dSortKey m fe s S = some (newL m ((srt rs).map rnD) S) := by
  have fi : ∀ rs : List Rn, DL.firstsD (rs.map rnD) = some (rs.map fun p => ((p.1 + 1 : Nat) : Int)) := fun rs => by
    induction rs with
    | nil => rfl
    | cons p rs ih => simp [DL.firstsD, DL.firstD, rnD, ih]
  unfold dSortKey
  simp only [h, bnd_some', rdL_lst, fi]
  have e : (rs.map rnD).zip (rs.map fun p => ((p.1 + 1 : Nat) : Int)) = (rs.map fun p => (p, ((p.1 + 1 : Nat) : Int))).map fun b => (rnD b.1, b.2) := by
    rw [List.zip_map', List.map_map]
    rfl
  rw [e, byKey_map rnD]
  unfold srt
  rw [List.map_map, List.map_map]
  rfl
theorem bounds_ok {S : Sto} {ws : List Int} {rs : List Rn} (f : Flo ws) (h : RnOk ws rs) : f_bounds_z [dI ws, .lst (rs.map rnD)] S = some (.tup [dF (hf 0 (fall ws (srt rs))), dF (hf 0 (fall ws (srt rs).reverse))], S) := by
  have f8 := f.n
  have fl : ∀ x ∈ ws, 1 ≤ x := fun x hx => (f.fl x hx).1
  have ok1 := h.perm (srt_perm rs)
  have ok2 := h.perm ((List.reverse_perm _).trans (srt_perm rs))
  have c1 := check_floors_ok (S := S) f.ne fl
  have c2 := check_rains_ok (S := S) f h
  have he : ∀ {qs : List Rn}, RnOk ws qs → f_heaped_z [dI ws, dF (fall ws qs)] S = some (dF (hf 0 (fall ws qs)), S) := fun {qs} ok => by
    have W := fall_wt f ok
    exact heaped_okzB (S := S) f.ne fl W.len W.pos (FK.Wt.hz' W f (by have := ok.n; omega)) (by decide) (by have := W.len; omega)
  have f1 := fallen_ok (S := S) f ok1
  have f2 := fallen_ok (S := S) f ok2
  have so := sort_rn (m := false) (S := S) (rs := rs) (fe := dVar 1) (s := [some (dI ws), some (.lst (rs.map rnD)), none]) rfl
  rw [newL_f] at so
  have g2 : ∀ (x y : DV) (S : Sto), gate (2 ≤ 100000) (some (DV.tup [x, y], S)) = some (DV.tup [x, y], S) := fun x y S => gate_ok (by decide)
  have rv : dRevL false (dVar 2) [some (dI ws), some (.lst (rs.map rnD)), some (.lst ((srt rs).map rnD))] S = some (.lst ((srt rs).reverse.map rnD), S) := by
    unfold dRevL
    simp only [dVar, List.getElem?_cons_succ, List.getElem?_cons_zero, bnd_some', rdL_lst, newL_f, List.map_reverse]
  refine fn_rt (d := .tup [dF (hf 0 (fall ws (srt rs))), dF (hf 0 (fall ws (srt rs).reverse))]) (S1 := S) ?_ exF_same
  refine seq_nx (s1 := [some (dI ws), some (.lst (rs.map rnD)), none]) (S1 := S) (drop_of (d := .non) (by simp [startD, c1])) ?_
  refine seq_nx (s1 := [some (dI ws), some (.lst (rs.map rnD)), none]) (S1 := S) (drop_of (d := .non) (by simp [c2])) ?_
  refine seq_nx (s1 := [some (dI ws), some (.lst (rs.map rnD)), some (.lst ((srt rs).map rnD))]) (S1 := S) (asg_name so) (ret_of ?_)
  revert rv
  generalize dRevL false (dVar 2) = F
  intro rv
  simp only [dTup, dCall, dCons, dVar, dNil, List.getElem?_cons_succ, List.getElem?_cons_zero, bnd_some', List.append_nil, List.length_cons, List.length_nil, if_true, f1, he ok1, rv, f2, he ok2, g2]
end FB
end
section
namespace FB
open PySem PyProof.Rows PySem.Spec L2 DL FW
open FK (Sts Rw run stp run_wt run_snoc am_zero)
open FW.P (jmp alone Lin)
noncomputable def allJ (rs : List Rn) (k : Nat) : Rat := rsum (rs.map fun p => jmp p.1 p.2 k)
/-- all at once -/
noncomputable def tot (n : Nat) (rs : List Rn) : List Rat := rs.foldl (fun v p => v.set p.1 (v.getD p.1 0 + p.2)) (List.replicate n 0)
theorem RnOk.init {ws : List Int} {rs : List Rn} {p : Rn} (h : RnOk ws (rs ++ [p])) : RnOk ws rs :=
  ⟨fun x hx => h.t x (List.mem_append_left _ hx), fun x hx => h.a x (List.mem_append_left _ hx), fun x hx => h.pos x (List.mem_append_left _ hx), by have := h.n; simp at this; omega⟩
theorem RnOk.last {ws : List Int} {rs : List Rn} {p : Rn} (h : RnOk ws (rs ++ [p])) : p.1 < ws.length ∧ FK.Am MIL p.2 ∧ 0 < p.2 :=
  ⟨h.t p (by simp), h.a p (by simp), h.pos p (by simp)⟩
section
variable {ws : List Int} {rs : List Rn} {p : Rn}
structure Fall (ws : List Int) (rs : List Rn) (p : Rn) (l : List Tk) : Prop where
  e : ∀ k, rsum ((fall ws (rs ++ [p])).take k) = Zr l [] k
  R : Rst l [] (Zr l [])
  f : Fl l
  l1 : l.map (·.1) = ws
  ll : l.length = ws.length
  y : ∀ k, Ya l k = rsum ((fall ws rs).take k) + jmp p.1 p.2 k
structure Tot (ws : List Int) (rs : List Rn) : Prop where
  R : Rst (ws.zip (tot ws.length rs)) [] (Zr (ws.zip (tot ws.length rs)) [])
  l1 : (ws.zip (tot ws.length rs)).map (·.1) = ws
  ll : (ws.zip (tot ws.length rs)).length = ws.length
  y : ∀ k, Ya (ws.zip (tot ws.length rs)) k = allJ rs k
end
end FB
end
section
namespace FB
open PySem PyProof.Rows PySem.Spec L2 DL FW
open FK (am_zero am_mk)
/-- a list of the def's own is handed on -/
theorem exF_dkq {t t' : Dk} {G : Sto} {ds : List DV} (h : clos (G.length + 2) ds = true) : exF (some false) (t.st G) (.ptr (G.length + 2)) (t'.st (G ++ [.ml ds])) = some (.lst ds, t'.st G) := by
  unfold exF exF1
  simp only
  have hl : (t'.st (G ++ [MO.ml ds])).length = (t.st G).length + 1 := by simp
  rw [if_neg (by omega)]
  have hc : (t.st G).length < (t'.st (G ++ [MO.ml ds])).length ∧ ∀ n : Nat, n < (t.st G).length → (t'.st (G ++ [MO.ml ds]))[n]? = (t.st G)[n]? ∨ ∃ mo, (t'.st (G ++ [MO.ml ds]))[n]? = some mo ∧ cloM (t.st G).length mo = true := by
    refine ⟨by omega, fun n hn => ?_⟩
    match n with
    | 0 => exact .inr ⟨_, rfl, clos_int⟩
    | 1 => exact .inr ⟨_, rfl, by simp [cloM, clos, clo]⟩
    | n + 2 =>
      refine .inl ?_
      show (G ++ [MO.ml ds])[n]? = G[n]?
      have : n < G.length := by simp at hn; omega
      rw [List.getElem?_append_left this]
  rw [if_pos hc]
  unfold exR
  have hg : (t'.st (G ++ [MO.ml ds]))[G.length + 2]? = some (.ml ds) := by
    show (G ++ [MO.ml ds])[G.length]? = _
    simp
  have hn : ¬ (G.length + 2 < (t.st G).length) := by simp
  have ht : (t'.st (G ++ [MO.ml ds])).take (t.st G).length = t'.st G := List.take_left (l₁ := t'.st G) (l₂ := [MO.ml ds])
  have h' : clos (t.st G).length ds = true := by simpa using h
  simp only
  rw [if_neg hn, hg]
  simp only
  rw [if_pos h', ht]
  rfl
theorem clos_rn {n : Nat} {rs : List Rn} : clos n (rs.map rnD) = true := by
  induction rs with
  | nil => rfl
  | cons p rs ih => simp [clos, clo, rnD, fr, ih]
theorem num_pos_iff {q : Rat} : q.num > 0 ↔ 0 < q := by
  constructor
  · intro h
    refine Rat.not_le.mp fun z => ?_
    have : q = 0 := Rat.le_antisymm z (Rat.num_nonneg.mp (Int.le_of_lt h))
    rw [this] at h
    exact absurd h (by decide)
  · intro h
    have h0 := Rat.num_nonneg.mpr (Rat.le_of_lt h)
    have : q.num ≠ 0 := fun z => by
      rw [Rat.num_eq_zero.mp z] at h
      exact Rat.lt_irrefl h
    omega
theorem fr_int (x : Int) : DV.tup [.int x, .int 1] = fr ((x : Int) : Rat) := by simp [fr]
theorem am_int' {x : Int} (h0 : 0 ≤ x) (h1 : x ≤ 1000) : FK.Am MIL (x : Rat) := by
  have := am_mk (x := x) (b := 1) (M := MIL) (by decide) (by decide) h0 (by unfold MIL; omega)
  have e : mkRat x 1 = (x : Rat) := Rat.mkRat_self (x : Rat)
  rw [e] at this
  exact this
noncomputable def rnB : DS := (dSeq (dAsg (dCall 1 f_law_amount_z [] (dCons (dVar 0) dNil)) (dName 5))
    (dDrop (dBM "list" appendD (dVar 3) (dCons (dTup (dCons (dOp (addD false) (dC (.int 1)) (dCall 2 f_law_take_z [] (dCons (dVar 0) (dCons (dCB lenD (dCons (dVar 1) dNil)) dNil)))) (dCons (dIf (dTest (dOp gtD (dOp ixD (dVar 5) (dC (.int 0))) (dC (.int 0)))) (dVar 5) (dTup (dCons (dOp (addD false) (dC (.int 1)) (dCall 2 f_law_take_z [] (dCons (dVar 0) (dCons (dC (.int 3)) dNil)))) (dCons (dC (.int 1)) dNil)))) dNil))) dNil))))
/-! ### a share added -/
end FB
end
section
namespace FB
open PySem PyProof.Rows PySem.Spec L2 DL FW
theorem law_rains_okM {M : Nat} (hM : M ≤ 10) {t : Dk} {G : Sto} {N : Int} {ws : List Int} (f : Flo ws) (h : t.ok N) (hN : N < 2 ^ 40) : ∃ (rs : List Rn) (t' : Dk), f_law_rains_z [.ptr 1, dI ws, .int (M : Nat)] (t.st G) = some (.lst (rs.map rnD), t'.st G) ∧ RnOk ws rs ∧ rs.length ≤ M ∧ t'.ok (N + 101) := by
  have f8 := f.n
  have f1 : 0 < ws.length := List.length_pos_iff.mpr f.ne
  obtain ⟨r0, t0, e0, a0, b0, k0⟩ := take_ok (G := G ++ [.ml []]) (m := (M : Int) + 1) h (by omega) (by omega) (by omega)
  obtain ⟨n, rfl⟩ : ∃ n : Nat, r0 = (n : Int) := ⟨r0.toNat, by omega⟩
  have lw : ∀ S, lenD [dI ws] S = some (.int (ws.length : Nat), S) := fun S => by simp [dI]
  obtain ⟨s', S', e, rs, t', o4, o5, rfl, rfl, hl, ht, ha, hp, hk⟩ := forL_inv (tgt := dName 4) (body := rnB)
    (fun k s S => ∃ (rs : List Rn) (t' : Dk) (o4 o5 : Option DV), s = [some (.ptr 1), some (dI ws), some (.int (M : Nat)), some (.ptr (G.length + 2)), o4, o5] ∧ S = t'.st (G ++ [.ml (rs.map rnD)]) ∧ rs.length = k ∧ (∀ p ∈ rs, p.1 < ws.length) ∧ (∀ p ∈ rs, FK.Am MIL p.2) ∧ (∀ p ∈ rs, 0 < p.2) ∧ t'.ok (N + 1 + 9 * k))
    (xs := (List.range n).map fun i => DV.int (0 + (i : Nat))) (s := [some (.ptr 1), some (dI ws), some (.int (M : Nat)), some (.ptr (G.length + 2)), none, none]) (S := t0.st (G ++ [.ml []])) (k := 0)
    ⟨[], t0, none, none, rfl, rfl, rfl, (fun p hp => by cases hp), (fun p hp => by cases hp), (fun p hp => by cases hp), by simpa using k0⟩ (by
      rintro i x s S hx ⟨rs, t', o4, o5, rfl, rfl, hl, ht, ha, hp, hk⟩
      have hi : i < n := by simpa using (List.getElem?_eq_some_iff.mp hx).1
      obtain ⟨q, t1, e1, am, k1⟩ := law_amount_ok (G := G ++ [.ml (rs.map rnD)]) hk (by omega)
      obtain ⟨r2, t2, e2, a2, b2, k2⟩ := take_ok (G := G ++ [.ml (rs.map rnD)]) (m := (ws.length : Nat)) k1 (by omega) (by omega) (by omega)
      obtain ⟨r, rfl⟩ : ∃ r : Nat, r2 = (r : Int) := ⟨r2.toNat, by omega⟩
      obtain ⟨r3, t3, e3, a3, b3, k3⟩ := take_ok (G := G ++ [.ml (rs.map rnD)]) (m := 3) k2 (by omega) (by decide) (by decide)
      have sq : q.num > 0 ↔ 0 < q := num_pos_iff
      have c1 : (1 : Int) + (r : Nat) = (r : Int) + 1 := by omega
      have ap : ∀ (t : Dk) (p : Rn), appendD (.ptr (G.length + 2)) [rnD p] (t.st (G ++ [.ml (rs.map rnD)])) = some (.non, t.st (G ++ [.ml ((rs ++ [p]).map rnD)])) := fun t p => by
        rw [dk_append (by simp; omega)]
        simp
      have ixq : ∀ S, ixD (fr q) (.int 0) S = some (.int q.num, S) := fun S => by simp [fr, ixD]
      obtain ⟨p, tt, ea, h1, h2, h3, h4⟩ : ∃ (p : Rn) (tt : Dk), (dDrop (dBM "list" appendD (dVar 3) (dCons (dTup (dCons (dOp (addD false) (dC (.int 1)) (dCall 2 f_law_take_z [] (dCons (dVar 0) (dCons (dCB lenD (dCons (dVar 1) dNil)) dNil)))) (dCons (dIf (dTest (dOp gtD (dOp ixD (dVar 5) (dC (.int 0))) (dC (.int 0)))) (dVar 5) (dTup (dCons (dOp (addD false) (dC (.int 1)) (dCall 2 f_law_take_z [] (dCons (dVar 0) (dCons (dC (.int 3)) dNil)))) (dCons (dC (.int 1)) dNil)))) dNil))) dNil)))
          [some (.ptr 1), some (dI ws), some (.int (M : Nat)), some (.ptr (G.length + 2)), some x, some (fr q)] (t1.st (G ++ [.ml (rs.map rnD)])) = some (.nx [some (.ptr 1), some (dI ws), some (.int (M : Nat)), some (.ptr (G.length + 2)), some x, some (fr q)] (tt.st (G ++ [.ml ((rs ++ [p]).map rnD)]))) ∧ p.1 < ws.length ∧ FK.Am MIL p.2 ∧ 0 < p.2 ∧ tt.ok (N + 1 + 9 * ((0 + i + 1 : Nat) : Int)) := by
        by_cases hq : 0 < q
        · refine ⟨(r, q), t2, drop_of (d := .non) ?_, by omega, ⟨am.pos, am.le, am.dv⟩, hq, k2.mono (by omega)⟩
          have := ap t2 (r, q)
          simp [lw, e2, ixq, sq, hq, c1]
          simpa [rnD] using this
        · have pq : (0 : Rat) < ((1 + r3 : Int) : Rat) := by exact_mod_cast (show (0 : Int) < 1 + r3 by omega)
          have am := am_int' (x := 1 + r3) (by omega) (by omega)
          have hy := fr_int (1 + r3)
          revert pq am hy
          generalize ((1 + r3 : Int) : Rat) = y
          intro pq am hy
          refine ⟨(r, y), t3, drop_of (d := .non) ?_, by omega, am, pq, k3.mono (by omega)⟩
          have := ap t3 (r, y)
          simp [lw, e2, e3, ixq, sq, hq, c1, hy]
          simpa [rnD] using this
      refine ⟨_, _, [some (.ptr 1), some (dI ws), some (.int (M : Nat)), some (.ptr (G.length + 2)), some x, some (fr q)], _, rfl, .inl (seq_nx (s1 := [some (.ptr 1), some (dI ws), some (.int (M : Nat)), some (.ptr (G.length + 2)), some x, some (fr q)]) (S1 := t1.st (G ++ [.ml (rs.map rnD)])) (asg_name (by simp [e1])) ea), rs ++ [p], tt, _, _, rfl, rfl, by simp [hl], fun y hy => ?_, fun y hy => ?_, fun y hy => ?_, h4⟩
      all_goals
        rcases List.mem_append.mp hy with hy | hy
        · first | exact ht y hy | exact ha y hy | exact hp y hy
        · rw [List.mem_singleton.mp hy]
          assumption)
  rw [Nat.zero_add, List.length_map, List.length_range] at hl hk
  refine ⟨rs, t', ?_, ⟨ht, ha, hp, by omega⟩, by omega, hk.mono (by omega)⟩
  have hr : RgS (n : Int) := rgS_of (by omega) (by omega)
  refine fn_rt (d := .ptr (G.length + 2)) (S1 := t'.st (G ++ [.ml (rs.map rnD)])) ?_ (exF_dkq clos_rn)
  refine seq_nx (s1 := [some (.ptr 1), some (dI ws), some (.int (M : Nat)), some (.ptr (G.length + 2)), none, none]) (S1 := t.st (G ++ [.ml []])) (by simp) ?_
  refine seq_nx (s1 := [some (.ptr 1), some (dI ws), some (.int (M : Nat)), some (.ptr (G.length + 2)), o4, o5]) (S1 := t'.st (G ++ [.ml (rs.map rnD)])) ?_ (ret_of rfl)
  exact for_of (it := .rg 0 n) (S1 := t0.st (G ++ [MO.ml []])) (by simp [e0, hr]) rfl e

/-! ### rains behind an order -/
def oI (idx : List Nat) : List Int := idx.map fun (i : Nat) => (i : Int)
def gets (rs : List Rn) (idx : List Nat) : List Rn := idx.map fun i => rs.getD i (0, 0)
theorem gets_all (rs : List Rn) : gets rs (List.range rs.length) = rs := by
  refine List.ext_getElem? fun k => ?_
  unfold gets
  rw [List.getElem?_map]
  by_cases hk : k < rs.length
  · rw [List.getElem?_range hk, List.getElem?_eq_getElem hk]
    simp [List.getD_eq_getElem?_getD, List.getElem?_eq_getElem hk]
  · rw [List.getElem?_eq_none (by simp; omega), List.getElem?_eq_none (by omega)]
    rfl
theorem gets_perm {rs : List Rn} {idx : List Nat} (h : idx.Perm (List.range rs.length)) : (gets rs idx).Perm rs := by
  have := h.map fun i => rs.getD i (0, 0)
  rw [show (List.range rs.length).map (fun i => rs.getD i (0, 0)) = rs from gets_all rs] at this
  exact this
theorem sort_idx {n : Nat} {idx : List Nat} (h : idx.Perm (List.range n)) : sortI (oI idx) = (List.range n).map fun (i : Nat) => (i : Int) := by
  refine List.Perm.eq_of_pairwise (le := fun a b : Int => a ≤ b) (fun a b _ _ h1 h2 => Int.le_antisymm h1 h2) (sortI_up _) ?_ ((sortI_perm _).trans (h.map _))
  exact List.pairwise_map.mpr (List.pairwise_lt_range.imp fun h => by omega)
theorem check_order_ok {S : Sto} {rs : List Rn} {idx : List Nat} (hn : rs.length ≤ 1000) (h : idx.Perm (List.range rs.length)) : f_check_order_z [.lst (rs.map rnD), dI (oI idx)] S = some (.non, S) := by
  have so : sortBD false [dI (oI idx)] S = some (dI (sortI (oI idx)), S) := by
    have h2 := toIs_map (oI idx)
    simp [sortBD, dI, h2]
  have ln : lenD [.lst (rs.map rnD)] S = some (.int (rs.length : Nat), S) := by simp
  have rg : dLr1' false (dCB lenD (dCons (dVar 0) dNil)) [some (.lst (rs.map rnD)), some (dI (oI idx))] S = some (dI ((List.range rs.length).map fun (i : Nat) => (i : Int)), S) := by
    simp only [dLr1', dCB, dCons, dNil, dVar, List.getElem?_cons_zero, bnd_some', ln]
    rw [gate_ok (by omega), newL_f]
    unfold rgD dI
    rw [List.map_map]
    congr 3
    simp
  have ne : neD (dI (sortI (oI idx))) (dI ((List.range rs.length).map fun (i : Nat) => (i : Int))) S = some (.bl false, S) := by
    rw [ne_dI, sort_idx h]
    simp
  refine fn_nx (s := [some (.lst (rs.map rnD)), some (dI (oI idx))]) (S1 := S) (if_f (S1 := S) ?_ rfl) exF_same
  show dTest _ [some (.lst (rs.map rnD)), some (dI (oI idx))] S = _
  revert rg
  generalize dLr1' false (dCB lenD (dCons (dVar 0) dNil)) = F
  intro rg
  simp only [dTest, dOp, dCB, dCons, dNil, dVar, List.getElem?_cons_succ, List.getElem?_cons_zero, bnd_some', so, rg, ne]
theorem behind_ok {S : Sto} {ws : List Int} {rs : List Rn} {idx : List Nat} (f : Flo ws) (h : RnOk ws rs) (hp : idx.Perm (List.range rs.length)) : f_behind_z [dI ws, .lst (rs.map rnD), dI (oI idx)] S = some (dF (fall ws (gets rs idx)), S) := by
  have hn := h.n
  have ok := h.perm (gets_perm hp)
  have c1 := check_floors_ok (S := S) f.ne fun x hx => (f.fl x hx).1
  have c2 := check_rains_ok (S := S) f h
  have c3 := check_order_ok (S := S) (by omega) hp
  have f1 := fallen_ok (S := S) f ok
  have il : idx.length = rs.length := by
    have := hp.length_eq
    simpa using this
  have e := lcL_ofB (φ := fun i : Nat => DV.int (i : Int)) (γ := fun i : Nat => rnD (rs.getD i (0, 0))) (tgt := dName 3) (te := dOp ixD (dVar 1) (dVar 3)) (vs := [3]) (s := [some (dI ws), some (.lst (rs.map rnD)), some (dI (oI idx)), none]) (S := S) (l := idx) (acc := []) (fun i hi => by
    have hi2 : i < rs.length := by
      have := (hp.mem_iff.mp hi)
      exact List.mem_range.mp this
    have ix : ixD (.lst (rs.map rnD)) (.int (i : Nat)) S = some (rnD (rs.getD i (0, 0)), S) := by
      refine ixD_lst ?_
      have g : (rs.map rnD)[i]? = some (rnD (rs.getD i (0, 0))) := by
        rw [List.getElem?_map, List.getElem?_eq_getElem hi2, List.getD_eq_getElem?_getD, List.getElem?_eq_getElem hi2]
        rfl
      unfold L2.atI L2.ixN
      rw [if_pos (by omega), if_pos (by simp; omega)]
      simpa using g
    exact ⟨[some (dI ws), some (.lst (rs.map rnD)), some (dI (oI idx)), some (.int (i : Nat))], rfl, by simp [ix]⟩)
  have lc : dLc false (diL (dVar 2)) (dName 3) dYes (dOp ixD (dVar 1) (dVar 3)) [3] [some (dI ws), some (.lst (rs.map rnD)), some (dI (oI idx)), none] S = some (.lst ((gets rs idx).map rnD), S) := by
    have := lc_of (m := false) (it := .li (dI (oI idx))) (S1 := S) (fi := diL (dVar 2)) (s := [some (dI ws), some (.lst (rs.map rnD)), some (dI (oI idx)), none]) (S := S) (by simp [diL, dI]) rfl (by
      rw [show (oI idx).map DV.int = idx.map fun i : Nat => DV.int (i : Int) by unfold oI; rw [List.map_map]; rfl]
      exact e) (by simp; omega)
    rw [this, newL_f, List.nil_append]
    unfold gets
    rw [List.map_map]
    rfl
  refine fn_rt (d := dF (fall ws (gets rs idx))) (S1 := S) ?_ exF_same
  refine seq_nx (s1 := [some (dI ws), some (.lst (rs.map rnD)), some (dI (oI idx)), none]) (S1 := S) (drop_of (d := .non) (by simp [startD, c1])) ?_
  refine seq_nx (s1 := [some (dI ws), some (.lst (rs.map rnD)), some (dI (oI idx)), none]) (S1 := S) (drop_of (d := .non) (by simp [c2])) ?_
  refine seq_nx (s1 := [some (dI ws), some (.lst (rs.map rnD)), some (dI (oI idx)), none]) (S1 := S) (drop_of (d := .non) (by simp [c3])) (ret_of ?_)
  revert lc
  generalize dLc false (diL (dVar 2)) (dName 3) dYes (dOp ixD (dVar 1) (dVar 3)) [3] = F
  intro lc
  simp only [dCall, dCons, dVar, dNil, List.getElem?_cons_succ, List.getElem?_cons_zero, bnd_some', List.length_cons, List.length_nil, lc]
  simp [f1]
/-! ### neighbours exchanged, over and over -/
section
variable (g : Nat → Nat)
variable {g}
end
end FB
end
section
namespace FB
open PySem PyProof.Rows PySem.Spec L2 DL FW
open FK (am_zero am_mk)
open FW.P (jmp alone)
section
variable {ws : List Int} {rs qs : List Rn} {p : Rn}
noncomputable def lo (ws : List Int) (rs : List Rn) : List Rat := hf 0 (fall ws (srt rs))
noncomputable def hi (ws : List Int) (rs : List Rn) : List Rat := hf 0 (fall ws (srt rs).reverse)
end
/-! ### amounts -/
end FB
end
section
namespace DL
open PySem PyProof.Rows PySem.Spec L2
/-! ### texts -/
def tx (i : Int) : Str := toString i
section
variable {K : PySem.W.Frag} {mg : Str → Option Value}
/-! ### f-strings -/
variable {te ta : TE} {fa fb : DE}
inductive RJ (K : PySem.W.Frag) (mg : Str → Option Value) : List TE → List DE → Prop where
  | nil : RJ K mg [] []
  | cons {t : TE} {f : DE} {ts : List TE} {fs : List DE} (h : RE K mg t f) (r : RJ K mg ts fs) : RJ K mg (t :: ts) (f :: fs)
/-! ### methods of a text -/
def toStr : DV → Option Str
  | .str s => some s
  | _ => none
def toStrs : List DV → Option (List Str)
  | [] => some []
  | d :: ds => match toStr d, toStrs ds with
    | some i, some is => some (i :: is)
    | _, _ => none
@[simp] theorem toStrs_map : ∀ ys : List Str, toStrs (ys.map DV.str) = some ys
  | [] => rfl
  | y :: ys => by simp [toStrs, toStr, toStrs_map ys]
/-! ### slices of a text -/
end
end DL
end
section
namespace FW
open PySem PyProof.Rows PySem.Spec L2 DL TL
/-! ### fractions as texts: each def as a function of data -/
/-! ### what is written -/
/-- of at most four hundred figures -/
def Fig (n : Nat) : Prop := n < 10 ^ 400
theorem Fig.len {n : Nat} (h : Fig n) : (numL n).length ≤ 400 := numL_len (by decide) h
theorem Fig.int {n : Nat} (h : Fig n) : PySem.intText? (tx (n : Int)) = some (n : Int) := int_num (by have := h.len; omega)
end FW
end
section
namespace FW
open PySem PyProof.Rows PySem.Spec L2 DL TL
/-! ### fractions as texts: reckoned -/
/-- signs below 128 alone -/
def Asc (x : Str) : Prop := ∀ c ∈ tl x, c < 128
theorem Asc.ok {x : Str} (h : Asc x) : PyData.canLay0 (.str x) = true := by
  show PySem.PyData.strOk x = true
  unfold PySem.PyData.strOk
  rw [Array.all_eq_true']
  intro c hc
  have := h c (Array.mem_toList_iff.mpr hc)
  rw [decide_eq_true_eq]
  omega
theorem Asc.sh {x : Str} (h : Asc x) : ShN 0 (.str x) := ⟨h.ok, Nat.le_refl _⟩
theorem neD_str {S : Sto} {a b : Str} (h : Asc a) (g : Asc b) : neD (.str a) (.str b) S = some (.bl (!decide (a = b)), S) := by
  rw [neD_of (p := .str a) (q := .str b) rfl rfl h.sh g.sh (by decide)]
  simp [PyData.eqv, Bool.beq_eq_decide_eq]
theorem asc_app {x y : Str} (h : Asc x) (g : Asc y) : Asc (x ++ y) := fun c hc => by
  rw [tl_append] at hc
  rcases List.mem_append.mp hc with hc | hc
  · exact h c hc
  · exact g c hc
/-- a fraction of at most four hundred figures -/
structure FigR (q : Rat) : Prop where
  n : Fig q.num.natAbs
  d : Fig q.den
end FW
end
section
/-! what shows data has plain signs alone -/
namespace FW
open PySem PyProof.Rows PySem.Spec L2 DL
theorem asc_lit {s : Str} (h : (s.cps.toList.all fun c => decide (c < 128)) = true) : Asc s := fun c hc => by
  have := List.all_eq_true.mp h c hc
  simpa using this
theorem asc_int (i : Int) : Asc (PyData.shown (.int i)) := fun c hc => by
  by_cases q : c < 128
  · exact q
  · exact absurd hc (shown_int_free' (k := c) (by omega) i)
theorem asc_from : ∀ (ts : List Str) (k : Nat) (acc : Str), Asc acc → (∀ t ∈ ts, Asc t) → Asc (textFrom k acc ts)
  | [], _, _, h, _ => h
  | t :: ts, k, acc, h, g => by
    refine asc_from ts (k + 1) _ (asc_app (asc_app h ?_) (g t List.mem_cons_self)) fun x hx => g x (List.mem_cons_of_mem _ hx)
    split
    · exact asc_lit (by decide +kernel)
    · exact asc_lit (by decide +kernel)
theorem asc_listT {ts : List Str} (h : ∀ t ∈ ts, Asc t) : Asc (listText ts) := asc_app (asc_from ts 0 _ (asc_lit (by decide +kernel)) h) (asc_lit (by decide +kernel))
theorem asc_join : ∀ {ts : List Str}, (∀ t ∈ ts, Asc t) → Asc (Str.join ", " ts)
  | [], _ => asc_lit (by decide +kernel)
  | [x], h => h x List.mem_cons_self
  | x :: y :: r, h => by
    have := asc_join (ts := y :: r) fun t ht => h t (List.mem_cons_of_mem _ ht)
    exact asc_app (asc_app (h x List.mem_cons_self) (asc_lit (by decide +kernel))) this
theorem asc_tupT {ts : List Str} (h : ∀ t ∈ ts, Asc t) : Asc (tupleText ts) := by
  unfold tupleText
  refine asc_app (asc_app (asc_lit (by decide +kernel)) (asc_join h)) ?_
  split
  · exact asc_lit (by decide +kernel)
  · exact asc_lit (by decide +kernel)
theorem asc_list {ps : List PyData} (h : ∀ p ∈ ps, Asc p.shown) : Asc (PyData.shown (.list ps)) := by
  simp only [PyData.shown, shownAll_map]
  exact asc_listT fun t ht => by
    obtain ⟨p, hp, rfl⟩ := List.mem_map.mp ht
    exact h p hp
theorem asc_tup {ps : List PyData} (h : ∀ p ∈ ps, Asc p.shown) : Asc (PyData.shown (.tuple ps)) := by
  simp only [PyData.shown, shownAll_map]
  exact asc_tupT fun t ht => by
    obtain ⟨p, hp, rfl⟩ := List.mem_map.mp ht
    exact h p hp
end FW
end
section
/-! an own exception whose __init__ says super().__init__("..") and keeps its one value: made, raised -/
namespace PySem
namespace ExS
open PySem.W PySem.Calls PyProof.Rows PySem.HandSPX
/-- the text of such an __init__(self, what) -/
def iB (m : Str) (kd : Nat) (q0 q1 q2 q3 q4 q5 q6 q7 q8 q9 : Pos) : List Stmt :=
  [.Expr (.Call (.Attribute (.Call (.Name "super" q0) [] [] q1) "__init__" q2) [.Constant (.str m) kd q3] [] q4) q5, .Assign [.Attribute (.Name "self" q6) "what" q7] (.Name "what" q8) q9]
/-- what the written part says of the class at C, and of its __init__, at fI -/
structure ExT (P : Program) (K : Frag) (mg : Str → Option Value) (C fI : Addr) : Prop where
  cls : ∃ nm q N bs bm sn sub ab col dd k0 k1 k2 k3 k5, K.lookup C = some (excClassObj nm q C N bs bm true sn sub ab col dd k0 k1 k2 k3 k5 "ValueError.__new__") ∧ refsVE bm = true
  sa : findIn K (.ref C) "__setattr__" = some (some (.builtin "object.__setattr__"))
  ga : findIn K (.ref C) "__getattribute__" = some (some (.builtin "BaseException.__getattribute__"))
  gg : findIn K (.ref C) "__getattr__" = some none
  noN : findIn K (.ref C) "what" = some none
  iC : findIn K (.ref C) "__init__" = some (some (.ref fI))
  tC : typeIn K (.ref fI) = some (.type "function")
  kC : keepIn K (.ref C) = true
  exC : subIn K (.ref C) (.type "BaseException") = some true
  veC : subIn K (.ref C) (.type "ValueError") = some true
  meC : mroIn K C (.ref C) = some true
  tyC : typeIn K (.ref C) = some (.type "type")
  hdC : hasDictIn K C = true
  suC : ks_superIn K C C "__init__" = some (some (.builtin "ValueError.__init__"))
  opC : nsIn K cStatics "thirdparty.any" = some none
  su : mg "super" = none
  fn : ∃ (oc : Value) (od : Option Addr) (doc pm : Value) (an : Option Addr) (ct : Value) (osl : Array (Option Value)) (params : Arguments) (scope : Scope) (qual : Str) (cda cc : Addr) (m : Str) (kd : Nat) (q0 q1 q2 q3 q4 q5 q6 q7 q8 q9 : Pos) (ar : Arg)
      (ccl cl : Value) (cdd cld : Option Addr) (vs : Array Value) (ccs csl : Array (Option Value)) (file : Str) (tf : Tok),
    K.lookup fI = some ⟨oc, od, .func (ksFn "__init__" qual params (iB m kd q0 q1 q2 q3 q4 q5 q6 q7 q8 q9) scope .none .none doc pm an (.ref cda) ct cc), osl⟩ ∧ codeIn K (.ref cda) qual = true ∧
    (∀ (s : Shared) (x v : Value), BindsTo s (ksFn "__init__" qual params (iB m kd q0 q1 q2 q3 q4 q5 q6 q7 q8 q9) scope .none .none doc pm an (.ref cda) ct cc) ⟨[x, v], []⟩ [("self", x), ("what", v)]) ∧
    (params.posonlyargs ++ params.args).head? = some ar ∧ ar.arg = "self" ∧
    K.lookup cda = some ⟨ccl, cdd, .fields vs, ccs⟩ ∧ vs[2]? = some (.str file tf) ∧ ((P.main.file : Str) == file) = true ∧ (P.main.scope.names.lookup ("super" : Str)).isSome = false ∧
    K.lookup cc = some ⟨cl, cld, .cell (some (.ref C)), csl⟩ ∧
    scope.names.lookup ("super" : Str) = some .globalImplicit ∧ scope.names.lookup ("__class__" : Str) = some .free ∧ scope.names.lookup ("self" : Str) = some .local ∧ scope.names.lookup ("what" : Str) = some .local ∧ scope.kind = .function ∧
    (∀ x ∈ scope.names, x.2 ≠ .cell) ∧ scope.isCoroutine = false ∧ scope.isGenerator = false ∧ (q2.endLine == q4.line) = true
/-- what __init__ leaves of a fresh exception at x -/
structure InitEnd (h h' : Heap) (x C dx t1 : Addr) (v : Value) : Prop where
  keep : ∀ b o, b ≠ x → h.get? b = some o → h'.get? b = some o
  obj : h'.get? x = some { cls := .ref C, dict := some dx, data := .fields #[.ref t1, .none, .none, .none, .bool false, .none] }
  dbig : h.objs.size ≤ dx
  dne : dx ≠ x
  ns : h'.Ns1 dx (fun y => if y = "what" then some v else none)
section
variable {prog : Program} {w : World} {A : Around} {E : Value → Shared → Prop} {R : Result → Shared → Prop} {s : Shared} {K : Frag} {mg mb : Str → Option Value} {C fI : Addr}
theorem meth_eq {m : Str} {kd : Nat} {q0 q1 q2 q3 q4 : Pos} {env : Env} (hpos : (q2.endLine == q4.line) = true) : eval (.Call (.Attribute (.Call (.Name "super" q0) [] [] q1) "__init__" q2) [.Constant (.str m) kd q3] [] q4) env = (do
      let ov ← attributeBase (.Call (.Name "super" q0) [] [] q1) "__init__" env (eval (.Call (.Name "super" q0) [] [] q1) env)
      standAt q2.atName
      let (f, first) ← holding [ov] (getMethod ov "__init__" (do return (← importBound (.Call (.Name "super" q0) [] [] q1) env).getD true))
      callWith q4 f first (backTo q4 (starEach [.Constant (.str m) kd q3] env)) []) := by
  show (do
    let ov ← attributeBase (.Call (.Name "super" q0) [] [] q1) "__init__" env (eval (.Call (.Name "super" q0) [] [] q1) env)
    standAt q2.atName
    methodCall (.Call (.Name "super" q0) [] [] q1) "__init__" q2 q4 env ov 1 (backTo q4 (starEach [.Constant (.str m) kd q3] env)) []) = _
  have e : methodCallPos true (.Call (.Name "super" q0) [] [] q1) env q2 q4 = pure q4 := by
    unfold methodCallPos
    rw [hpos]
    rfl
  have e2 : methodCallForm 1 (backTo q4 (starEach [.Constant (.str m) kd q3] env)) [] = true := rfl
  unfold methodCall
  rw [e2, e]
  simp only [pure_bind]
  rfl
theorem ldX {M : Model} {env : Env} {m : Str → Option Value} {x : Str} {pos : Pos} {v : Value} {Q : Value → Shared → Prop} (hk : env.scope.kind = .function) (hl : env.kindOf x = some .local) (hn : s.heap.Ns env.locals m) (hv : m x = some v) (h : Q v s)
    (hd : (x == ("__debug__" : Str)) = false := by decide) : wpAny M A (eval (.Name x pos) env) Q E s := wpAny_Name (wpAny_loadName_local hk hl hn hv h) hd
theorem init_at (T : ExT prog K mg C fI) {x t0 : Addr} {v : Value} (X : K.In s.heap) (hlim : s.heap.NoLimit) (hg : s.heap.Ns mainGlobals mg) (hb : s.heap.Ns builtinsNs mb) (hbs : mb "super" = some (.type "super"))
    (hx : s.heap.get? x = some (excO C t0)) (hnx : K.lookup x = none) (hroom : A.depth < recursionLimit)
    (hq : ∀ h' tk dx t1, InitEnd s.heap h' x C dx t1 v → R (.ok (.ret .none)) { s with heap := h', toks := tk }) :
    codeAny (model prog w) A (.call (.ref fI) ⟨[.ref x, v], []⟩) R s := by
  obtain ⟨oc, od, doc, pm, an, ct, osl, params, scope, qual, cda, cc, m, kd, q0, q1, q2, q3, q4, q5, q6, q7, q8, q9, ar, ccl, cl, cdd, cld, vs, ccs, csl, file, tf, ho, hcd, hbind, har, hars, hcode, hvs, hfile, htop, hcell, ks, kc, kself, kwhat, hkind, ncell, hco, hgen, hpos⟩ := T.fn
  obtain ⟨nm, q, N, bs, bm, sn, sub, ab, col, dd, k0, k1, k2, k3, k5, hC, hbm⟩ := T.cls
  have hcl : clsIn K C = some { name := nm, bases := bs, mro := .ref C :: bm, ns := N, qualname := q, hasDict := true, slotNames := sn, subclasses := sub, abstract := ab, collection := col, hasDel := false } := by unfold clsIn; rw [hC] <;> rfl
  refine ks_codeAny_call_defAt (binds := [("self", .ref x), ("what", v)]) hroom (X _ _ ho) rfl hlim (codeRec_of X hcd) rfl (hbind _ _ _) ncell (fun y hy => ?_) (fun h₁ hns hk => ?_) hco hgen hkind
  · rcases List.mem_cons.mp hy with rfl | hy
    · exact kself
    · cases List.mem_singleton.mp hy
      exact kwhat
  have X₁ : K.In h₁ := X.keeps hk
  have hx₁ := hk _ _ hx
  obtain ⟨hp, g, d, t, os⟩ := s
  show _root_.PySem.wpAt _ (A.deeper (ksEnv qual scope hp.objs.size fI (.ref cda) cc)) (.func (iB m kd q0 q1 q2 q3 q4 q5 q6 q7 q8 q9) (ksEnv qual scope hp.objs.size fI (.ref cda) cc)) (execs (iB m kd q0 q1 q2 q3 q4 q5 q6 q7 q8 q9) (ksEnv qual scope hp.objs.size fI (.ref cda) cc)) _ _ _
  refine ks_wpAt_execs_cons (ks_wpAt_Expr_any (ks_wpAt_MethodCall ?_ (meth_eq hpos)) (by simp [interactive, hkind]))
  have hDD := X₁ _ _ hC
  refine ks_wpAt_super_base (env := ksEnv qual scope hp.objs.size fI (.ref cda) cc) ks kc (by decide) rfl (X₁ _ _ ho) rfl har rfl (X₁ _ _ hcode) rfl hvs hfile htop ?_
  refine ks_loadName_global hkind ks (loadGlobal_builtin (env := ksEnv qual scope hp.objs.size fI (.ref cda) cc) (hg.keeps hk) T.su (hb.keeps hk) hbs ⟨rfl, ?_⟩)
  refine wpAny_loadName_free hkind kc rfl ⟨_, X₁ _ _ hcell, rfl⟩ ?_
  rw [hars]
  refine wpAny_loadName_local hkind kself hns (v := .ref x) (by first | rfl | with_unfolding_all rfl | kernel_rfl) ?_
  refine ks_wpAny_isType_cls hDD rfl ⟨rfl, ?_⟩
  refine ks_wpAny_call_super hDD rfl hx₁ rfl (fun c e => by cases e) (looks_mroIn X₁ T.meC) (fun h₂ e2 k2 => ?_)
  have X₂ : K.In h₂ := X₁.keeps k2
  have hx₂ := k2 _ _ hx₁
  have hal : alongIn K "__init__" (((Value.ref C :: bm).dropWhile (· != .ref C)).drop 1) = some (some (.builtin "ValueError.__init__")) := by
    have := T.suC
    unfold ks_superIn at this
    rw [hcl] at this
    exact this
  have hxC : x ≠ C := fun z => by
    rw [z, X₂ _ _ hC] at hx₂
    cases hx₂
  have I₂ : InstAt h₂ x (excO C t0) C none := ⟨hx₂, rfl, rfl, trivial⟩
  have hcl' : Looks (model prog w) h₂ (mroOf (.ref C)) (.ref C :: bm) := (looks_clsIn X₂ hcl).andThen .now
  refine kxs_getMethod kxs_ValueError e2 (looks_opaque X₂ T.opC) hcl' rfl X₂ hal (I₂.type.andThen (looks_subIn X₂ T.veC)) hxC (by decide) ?_
  have k3 : ∀ b o, h₂.get? b = some o → (h₂.push (kxs_mw "ValueError.__init__" x)).get? b = some o := fun b o e => Heap.get?_push_of_some _ e
  have hu : (h₂.push (kxs_mw "ValueError.__init__" x)).get? h₂.objs.size = some (kxs_mw "ValueError.__init__" x) := Heap.get?_push_at rfl rfl
  generalize h₂.push (kxs_mw "ValueError.__init__" x) = h₃ at k3 hu ⊢
  have X₃ : K.In h₃ := X₂.keeps k3
  have hx₃ := k3 _ _ hx₂
  dsimp only
  refine kxs_callWith (i := "ValueError.__init__") (x := x) rfl (evalArgs_plain (wpAny_items_cons (Constant_str (wpAny_items_nil ⟨hu, ?_⟩)))) 
  have FB := F.excBase_ValueError
  refine wpAny_call (codeAny_of_tree ?_)
  show wpAny _ _ (callAny (.ref h₂.objs.size) ⟨[Value.str m _], []⟩) _ _ _
  simp only [callAny]
  refine wpAny_bind (wpAny_load hu ?_)
  simp only [kxs_mw, show (Value.type "method-wrapper" == Value.type "method" || Value.type "method-wrapper" == Value.type "builtin_function_or_method" || Value.type "method-wrapper" == Value.type "method-wrapper") = true by decide, if_true]
  refine KFB.if_so (by decide) ?_
  refine wpAny_bind (check_bound_init FB.toExcCallFacts (X₃ _ _ hC) hx₃ rfl ?_)
  refine wpAny_bind (wpAny_pure (wpAny_pure ?_))
  refine ⟨plainId_quiet FB.init.plain _, codeAny_builtin FB.initEntry ?_⟩
  refine exc_init_tree (cls := .ref C) (t0 := t0) (dv := none) (c2 := .none) (c3 := .none) (b4 := .bool false) hx₃ (by rw [sizeLine_eq]; exact (by decide : 1 ≤ 16777216)) (fun h₄ k4 hx₄ ht₄ => ?_)
  show _root_.PySem.wpAt _ _ _ (execs _ _) _ _ _
  refine wpAt_of_wpAny ?_
  have k14 : ∀ b o, b ≠ x → h₁.get? b = some o → h₄.get? b = some o := fun b o hb e => k4 b o hb (k3 b o (k2 b o e))
  have L1 := hns.lt
  have hLx : hp.objs.size ≠ x := Nat.ne_of_gt (Heap.lt_size (show hp.get? x = some _ from hx))
  have hns4 : h₄.Ns hp.objs.size (fun y => ([(("self" : Str), Value.ref x), (("what" : Str), v)].reverse.lookup y)) := hns.at fun o e => k14 _ o hLx e
  have X₄ : K.In h₄ := fun a o e => k14 a o (fun z => by rw [z, hnx] at e; cases e) (X₁ a o e)
  refine wpAny_execs_cons (plainObj_wpAny_Assign_Attribute ?_)
  refine ldX hkind kwhat hns4 (v := v) (by first | rfl | with_unfolding_all rfl | kernel_rfl) (ldX hkind kself hns4 (v := .ref x) (by first | rfl | with_unfolding_all rfl | kernel_rfl) ?_)
  refine set_plain X₄ (ox := excO C h₃.objs.size) (od := none) ⟨hx₄, rfl, rfl, trivial⟩ T.sa ?_
  refine exc_osa X₄ hx₄ hcl (show refsVE (.ref C :: bm) = true from hbm) rfl T.noN (fun h₅ tk₅ dx k₅ dn dne hx₅ hn₅ => ?_)
  show wpAny _ _ (execs _ _) _ _ _
  have z : hp.objs.size < h₄.objs.size := hns4.lt
  exact wpAny_execs_nil (hq h₅ tk₅ dx h₃.objs.size ⟨fun b o hb e => k₅ b o hb (k14 b o hb (hk b o e)), hx₅, Nat.le_of_lt (Nat.lt_of_lt_of_le z dn), dne, hn₅⟩)
end
end ExS
end PySem
namespace L2
open PySem PySem.Spec PyProof.Rows
/-- C(e), C's own __init__ keeping e as what -/
def tMkW (C : Addr) (ta : TA) : St → Hp → XK → Prop := fun σ H Q => ta σ H fun vs H1 => ∃ v, vs = [v] ∧ ∀ d, H1 d = none → Q (.ref C) (some d) (upd H1 d (.xd [(("what" : Str), v)]))
theorem rel_what {v : V} {u : Value} (r : RelV v u) (f : Str) : RelO (List.lookup f [(("what" : Str), v)]) (if f = "what" then some u else none) := by
  have := relO_put (f := "what") (fs := []) (mA := fun _ => none) r (fun _ => True.intro) f
  exact this
section
variable {X : Cx} {C fI : Addr}
/-- behind such an __init__: the exception and its dict -/
theorem init_un {P : Program} {w : World} {fs : List Addr} {H1 : Hp} {h h' : Heap} {a d t1 : Addr} {v : V} {u : Value} (hok : HOk P w (upd H1 a (exo a C none)) h) (M : PySem.ExS.InitEnd h h' a C d t1 u) (r : RelV v u) (ha : a < h.objs.size) :
    Un fs [] (upd H1 a (exo a C none)) (upd (upd H1 d (exd d [(("what" : Str), v)])) a (exo a C (some d))) h h' ∧ HOk P w (upd (upd H1 d (exd d [(("what" : Str), v)])) a (exo a C (some d))) h' := by
  have hd : upd H1 a (exo a C none) d = none := hok.fresh M.dbig
  have na : ∀ {b : Addr}, upd H1 a (exo a C none) b = none → b ≠ a := fun {b} n z => by
    rw [z, upd_same] at n
    cases n
  have nd : ∀ {b : Addr} {o : Obj}, h.get? b = some o → b ≠ d := fun {b o} e => Nat.ne_of_lt (Nat.lt_of_lt_of_le (Heap.lt_size e) M.dbig)
  have same : ∀ {b : Addr}, b ≠ a → b ≠ d → upd (upd H1 d (exd d [(("what" : Str), v)])) a (exo a C (some d)) b = upd H1 a (exo a C none) b := fun {b} h1 h2 => by rw [upd_ne h1, upd_ne h2, upd_ne h1]
  have far : ∀ {b : Addr} {o : HO}, upd H1 a (exo a C none) b = some o → b ≠ d := fun {b o} e z => by
    rw [z, hd] at e
    cases e
  refine ⟨⟨fun b o e n _ _ => M.keep b o (na n) e, fun b o e n _ _ => ⟨o.slots, M.keep b o (na n) e⟩, fun b o e n _ => by rw [same (na n) (nd e)]; exact n, fun b o e _ => ?_, fun b xs e => ?_, fun b o w' e => ?_, fun b ps e => ?_⟩, fun b o e => ?_⟩
  · by_cases hb : b = a
    · rw [hb]
      exact ⟨_, M.obj⟩
    · exact ⟨o, M.keep b o hb e⟩
  · have hb : b ≠ a := fun z => by
      rw [z, upd_same] at e
      exact exo_tup (Option.some.inj e)
    rw [same hb (far e)]
    exact e
  · have hb : b ≠ a := fun z => by
      rw [z, upd_same] at e
      exact exo_frz (Option.some.inj e)
    rw [same hb (far e)]
    exact e
  · have hb : b ≠ a := fun z => by
      rw [z, upd_same] at e
      exact exo_tbl (Option.some.inj e)
    rw [same hb (far e)]
    exact ⟨#[], by rw [e]; simp⟩
  · by_cases hb : b = a
    · subst hb
      rw [upd_same] at e
      cases e
      exact exo_ok M.obj
    · by_cases hbd : b = d
      · subst hbd
        rw [upd_ne hb, upd_same] at e
        cases e
        exact exd_ok M.ns (rel_what r)
      · rw [same hb hbd] at e
        have noa : ∀ {c : Addr}, upd H1 a (exo a C none) c = some (.own b) → c ≠ a := fun {c} hc z => by
          rw [z, upd_same] at hc
          exact exo_own (Option.some.inj hc)
        refine (hok b o e).stay (fun c v' hc y => M.keep c v' ?_ y) (fun c hc => by rw [same (noa hc) (far hc)]; exact hc) fun c xs hc => ?_
        · rcases hc with hc | hc
          · rw [hc]
            exact hb
          · exact noa hc
        · have hca : c ≠ a := fun z => by
            rw [z, upd_same] at hc
            exact exo_tup (Option.some.inj hc)
          rw [same hca (far hc)]
          exact hc
theorem pmk_what {x : Str} {e : Expr} {ta : TA} {p pos : Pos} {k : Nat} (T : PySem.ExS.ExT X.prog X.K X.mg C fI) (hr : Room (k + 1) X.A) (ha : PA X [e] ta) (hg : Gl X x) (hm : X.mg x = some (.ref C))
    (hdb : (x == ("__debug__" : Str)) = false := by decide) (he : starEach (e :: []) X.env = (false, eval e X.env) :: starEach [] X.env := by rfl) (hpl : (backTo pos (starEach [] X.env)).any (·.1) = false := by rfl) :
    PMk X (.Call (.Name x p) [e] [] pos) (tMkW C ta) := by
  intro pins s σ H Q I h
  obtain ⟨nm, q, N, bs, bm, sn, sub, ab, col, dd, k0, k1, k2, k3, k5, hC, hbm⟩ := T.cls
  refine wpAny_Call_Name_kw (ld_glob I hg hm ?_ hdb)
  refine PySem.W.callWith_K (h₀ := X.base) I.ok.mod.kin T.kC (thn (ha.run pos pins s σ H _ I h) fun us s1 ⟨vs, H1, I1, r1, v, ev, q1⟩ => ⟨I1.kIn, ?_⟩) he hpl
  show wpAny _ _ (call (.ref C) us) _ _ _
  subst ev
  obtain ⟨u, rfl, ru⟩ := vals1 r1
  have hlim := I1.nolimit
  obtain ⟨mb, hb1, hb2⟩ := I1.mod.blt
  have hgl := I1.mod.glob.keeps I1.bk
  have hbl := hb1.keeps I1.bk
  obtain ⟨hp, g, dr, tk, os⟩ := s1
  have kk : ∀ b o, hp.get? b = some o → ((hp.push (PySem.W.kdv_tup [u])).push (PySem.HandSPX.excO C hp.objs.size)).get? b = some o := fun b o e => Heap.get?_push_of_some _ (Heap.get?_push_of_some _ e)
  have hget : ((hp.push (PySem.W.kdv_tup [u])).push (PySem.HandSPX.excO C hp.objs.size)).get? (hp.objs.size + 1) = some (PySem.HandSPX.excO C hp.objs.size) := by heap_get
  have hsz : hp.objs.size ≤ hp.objs.size + 1 := Nat.le_succ _
  have I2 : Inv X pins σ (upd H1 (hp.objs.size + 1) (exo (hp.objs.size + 1) C none)) ⟨(hp.push (PySem.W.kdv_tup [u])).push (PySem.HandSPX.excO C hp.objs.size), g, dr, tk, os⟩ :=
    I1.laid (t' := tk) (a := hp.objs.size + 1) (o := exo (hp.objs.size + 1) C none) (h' := (hp.push (PySem.W.kdv_tup [u])).push (PySem.HandSPX.excO C hp.objs.size)) kk hsz (exo_ok hget)
  have hnx : X.K.lookup (hp.objs.size + 1) = none := by
    cases z : X.K.lookup (hp.objs.size + 1) with
    | none => rfl
    | some o => exact absurd (Nat.lt_of_succ_lt (Heap.lt_size (I1.kIn _ _ z))) (Nat.lt_irrefl _)
  refine wpAny_call (PySem.HandSPX.call_own F.excBase_ValueError (fun Y => PySem.HandSPX.refsVE_contains Y bm hbm) (I1.kIn _ _ hC) (PySem.W.looks_findIn I1.kIn T.iC) (fun self => PySem.W.bind_fn I1.kIn self T.tC) (by rw [sizeLine_eq]; exact (by decide : 1 ≤ 16777216)) ?_)
  refine PySem.ExS.init_at (s := ⟨(hp.push (PySem.W.kdv_tup [u])).push (PySem.HandSPX.excO C hp.objs.size), g, dr, tk, os⟩) T I2.kIn (hlim.keeps kk) (hgl.keeps kk) (hbl.keeps kk) ((hb2 "super" (by decide)).trans (by decide +kernel)) hget hnx ?_ fun h' tk' dx t1 M => ⟨rfl, ?_⟩
  · have := hr.dp
    show X.A.depth + 1 < recursionLimit
    omega
  · obtain ⟨un, hok⟩ := init_un (fs := frs X.stack) I2.hok M ru (Heap.lt_size hget)
    have hd2 : upd H1 (hp.objs.size + 1) (exo (hp.objs.size + 1) C none) dx = none := I2.hok.fresh M.dbig
    have hd1 : H1 dx = none := by
      rw [upd_ne M.dne] at hd2
      exact hd2
    have ea : upd (upd H1 dx (exd dx [(("what" : Str), v)])) (hp.objs.size + 1) (exo (hp.objs.size + 1) C (some dx)) (hp.objs.size + 1) = some (exo (hp.objs.size + 1) C (some dx)) := upd_same
    have ed : upd (upd H1 dx (exd dx [(("what" : Str), v)])) (hp.objs.size + 1) (exo (hp.objs.size + 1) C (some dx)) dx = some (exd dx [(("what" : Str), v)]) := by rw [upd_ne M.dne, upd_same]
    have eq : upd (del (upd (upd H1 dx (exd dx [(("what" : Str), v)])) (hp.objs.size + 1) (exo (hp.objs.size + 1) C (some dx))) (hp.objs.size + 1)) dx (.xd [(("what" : Str), v)]) = upd H1 dx (.xd [(("what" : Str), v)]) := by
      funext b
      by_cases h1 : b = dx
      · rw [h1, upd_same, upd_same]
      · rw [upd_ne h1, upd_ne h1]
        by_cases h2 : b = hp.objs.size + 1
        · rw [h2, del_same]
          exact (I1.hok.fresh hsz).symm
        · rw [del_ne h2, upd_ne h2, upd_ne h1]
    have qq := q1 dx hd1
    rw [← eq] at qq
    exact mk_end (raises_own T.exC T.tyC) I1 hsz kk un hok rfl I1.bare ea ed hd1 qq
end
end L2
end
section
/-! refusals as data: statements that may raise an own exception which keeps one value -/
namespace DL
open PySem PyProof.Rows PySem.Spec L2
/-- how a block ends: as ever, or by a refusal of the class c that keeps w -/
inductive XRes where
  | ok (r : Res)
  | ex (c : Str) (w : DV) (s : Sl) (S : Sto)
/-- how a def ends -/
inductive XR where
  | val (d : DV) (S : Sto)
  | exc (c : Str) (w : DV) (S : Sto)
abbrev DX := Sl → Sto → Option XRes
section
variable (K : PySem.W.Frag) (mg : Str → Option Value)
def XPost (Wx : WX) (W : Wd) (D : Ends) : XRes → Prop
  | .ok r => Post K mg W D r
  | .ex c w s S => ∀ C v dx σ' W', mg c = some (.ref C) → Ext W W' → Rep K mg W' S → Slo K W' σ' s → Den K W' w v → W'.H dx = none → Wx (.ref C) (some dx) σ' (upd W'.H dx (.xd [(("what" : Str), v)]))
def RSX (Wx : WX) (ts : TS) (f : DX) : Prop := ∀ (W : Wd) (σ : L2.St) (s : Sl) (S : Sto) (r : XRes) (D : Ends), Rep K mg W S → Slo K W σ s → f s S = some r → XPost K mg Wx W D r → ts D σ W.H
/-- what such a def promises -/
def spX (n : Nat) (g : List DV → Sto → Option XR) : Sp := fun vs H Q E => vs.length = n ∧ ∃ (W : Wd) (S : Sto) (ds : List DV) (r : XR), W.H = H ∧ Rep K mg W S ∧ Dens K W ds vs ∧ g ds S = some r ∧ match r with
  | .val d S' => ∀ v W', Ext W W' → Rep K mg W' S' → Den K W' d v → Q v W'.H
  | .exc c w S' => ∀ C v dx W', mg c = some (.ref C) → Ext W W' → Rep K mg W' S' → Den K W' w v → W'.H dx = none → E (.ref C) (some dx) (upd W'.H dx (.xd [(("what" : Str), v)]))
end
section
variable {K : PySem.W.Frag} {mg : Str → Option Value} {Wx : WX} {t u ts : TS} {f g : DX}
theorem XPost.ext {W W' : Wd} {D : Ends} {r : XRes} (e : Ext W W') (h : XPost K mg Wx W D r) : XPost K mg Wx W' D r := by
  cases r with
  | ok r => exact Post.ext e h
  | ex c w s S => exact fun C v dx σ' W'' hc e' => h C v dx σ' W'' hc (e.trans e')
def dOkX (f : DS) : DX := fun s S => match f s S with
  | some r => some (.ok r)
  | none => none
theorem rx_ok {f : DS} (h : RS K mg t f) : RSX K mg Wx t (dOkX f) := by
  intro W σ s S r D R L e P
  unfold dOkX at e
  split at e
  · rename_i r' e1
    cases e
    exact h W σ s S r' D R L e1 P
  · cases e
/-- raise C(e) -/
def tRaiseW (C : Addr) (Wx : WX) (te : TE) : TS := fun _ σ H => tMkW C (tCons te tNil) σ H fun cls d H' => Wx cls d σ H'
def dRaise (c : Str) (fe : DE) : DX := fun s S => bnd (fe s S) fun w S1 => some (.ex c w s S1)
theorem rx_raise {C : Addr} {c : Str} {te : TE} {fe : DE} (hc : mg c = some (.ref C)) (h : RE K mg te fe) : RSX K mg Wx (tRaiseW C Wx te) (dRaise c fe) := by
  intro W σ s S r D R L e P
  obtain ⟨w, S1, e1, e⟩ := bnd_inv e
  cases e
  refine h W σ s S w S1 _ R L e1 fun v W1 x1 R1 d1 => ⟨v, rfl, fun d hd => P C v d σ W1 hc x1 R1 (L.ext x1) d1 hd⟩
def dSeqX (f g : DX) : DX := fun s S => match f s S with
  | some (.ok (.nx s1 S1)) => g s1 S1
  | r => r
theorem rx_seq (hf : RSX K mg Wx t f) (hg : RSX K mg Wx u g) : RSX K mg Wx (tSeq t u) (dSeqX f g) := by
  intro W σ s S r D R L e P
  unfold dSeqX at e
  split at e
  · rename_i s1 S1 e1
    exact hf W σ s S _ _ R L e1 fun σ' W' x' R' L' => hg W' σ' s1 S1 r D R' L' e (P.ext x')
  · rename_i e1
    refine hf W σ s S r _ R L e ?_
    cases r with
    | ex c w s2 S2 => exact P
    | ok r =>
      cases r with
      | nx s2 S2 => exact absurd e (e1 s2 S2)
      | rt d S2 => exact P
      | bk s2 S2 => exact P
      | ct s2 S2 => exact P
def dIfX (c : DT) (f g : DX) : DX := fun s S => bnd (c s S) fun b S1 => if b = true then f s S1 else g s S1
theorem rx_if {tc : TT} {fc : DT} (hc : RT K mg tc fc) (hf : RSX K mg Wx t f) (hg : RSX K mg Wx u g) : RSX K mg Wx (tIfS tc t u) (dIfX fc f g) := by
  intro W σ s S r D R L e P
  obtain ⟨b, S1, e1, e⟩ := bnd_inv e
  refine hc W σ s S b S1 _ R L e1 fun W1 x1 R1 => ?_
  cases b with
  | true => exact hf W1 σ s S1 r D R1 (L.ext x1) e (P.ext x1)
  | false => exact hg W1 σ s S1 r D R1 (L.ext x1) e (P.ext x1)
/-- a call that may raise, as a statement -/
def dCallX (n : Nat) (g : List DV → Sto → Option XR) (fa : DA) : DX := fun s S => bnd (fa s S) fun xs S1 => if xs.length = n then (match g xs S1 with
  | some (.val _ S2) => some (.ok (.nx s S2))
  | some (.exc c w S2) => some (.ex c w s S2)
  | none => none) else none
theorem rx_call {n : Nat} {gf : List DV → Sto → Option XR} {ta : TA} {fa : DA} (h : RA K mg ta fa) : RSX K mg Wx (tDrop (tCallS (spX K mg n gf) (WE Wx) ta)) (dCallX n gf fa) := by
  intro W σ s S r D R L e P
  obtain ⟨xs, S1, e1, e⟩ := bnd_inv e
  split at e
  · rename_i hn
    refine h W σ s S xs S1 _ R L e1 fun vs W1 x1 R1 d1 => ?_
    split at e
    · rename_i d S2 e2
      cases e
      exact ⟨by rw [d1.len]; exact hn, W1, S1, xs, .val d S2, rfl, R1, d1, e2, fun v W2 x2 R2 d2 => P σ W2 (x1.trans x2) R2 (L.ext (x1.trans x2))⟩
    · rename_i c w S2 e2
      cases e
      exact ⟨by rw [d1.len]; exact hn, W1, S1, xs, .exc c w S2, rfl, R1, d1, e2, fun C v dx W2 hc x2 R2 d2 hd => P C v dx σ W2 hc (x1.trans x2) R2 (L.ext (x1.trans x2)) d2 hd⟩
    · cases e
  · cases e
/-- a loop whose turns may raise -/
def forFX (tgt : DG) (body : DX) (it : DIt) : Nat → Nat → DX
  | 0, _ => fun _ _ => none
  | k + 1, i => fun s S => match itemAt it S i with
    | none => none
    | some none => some (.ok (.nx s S))
    | some (some d) => match tgt d s S with
      | none => none
      | some p => match body p.1 p.2 with
        | none => none
        | some (.ex c w s2 S2) => some (.ex c w s2 S2)
        | some (.ok (.nx s2 S2)) => forFX tgt body it k (i + 1) s2 S2
        | some (.ok (.ct s2 S2)) => forFX tgt body it k (i + 1) s2 S2
        | some (.ok (.bk s2 S2)) => some (.ok (.nx s2 S2))
        | some (.ok (.rt d2 S2)) => some (.ok (.rt d2 S2))
def dForX (fi : DI) (tgt : DG) (body : DX) : DX := fun s S => bnd (fi s S) fun it S1 => forFX tgt body it (itLen it S1 + 1) 0 s S1
theorem rx_for {wi : TI} {fi : DI} {tg : TG} {fg : DG} {tb : TS} {fb : DX} (hi : RI K mg wi fi) (hg : RG K mg tg fg) (hb : RSX K mg Wx tb fb) : RSX K mg Wx (tFor wi tg tb) (dForX fi fg fb) := by
  intro W σ s S r D R L e P
  obtain ⟨it, S1, e1, e⟩ := bnd_inv e
  refine hi W σ s S it S1 _ R L e1 fun J W1 x1 R1 hJ => ?_
  have P1 := P.ext x1
  refine ⟨fun i m σ' H' => ∃ W' s' S', W'.H = H' ∧ Ext W1 W' ∧ Rep K mg W' S' ∧ Slo K W' σ' s' ∧ forFX fg fb it m i s' S' = some r, ⟨_, W1, s, S1, rfl, Ext.refl W1, R1, L.ext x1, e⟩, ?_⟩
  rintro i m σ2 H2 ⟨W2, s2, S2, rfl, x2, R2, L2', e2⟩
  have hJ2 := hJ.ext0 x2.toEx0
  cases m with
  | zero => cases e2
  | succ m =>
    unfold forFX at e2
    split at e2
    · cases e2
    · rename_i hit
      cases e2
      exact .inl ⟨item_stop R2 hJ2 hit, P1 σ2 W2 x2 R2 L2'⟩
    · rename_i d hit
      obtain ⟨hgo, hy⟩ := item_go R2 hJ2 hit
      refine .inr ⟨hgo, fun σ' H' => ∃ W' s' S', W'.H = H' ∧ Ext W1 W' ∧ Rep K mg W' S' ∧ Slo K W' σ' s' ∧ forFX fg fb it m (i + 1) s' S' = some r, fun σ' H' h => ⟨m, Nat.lt_succ_self m, h⟩, fun x H' y => ?_⟩
      obtain ⟨W3, rfl, x3, R3, d3⟩ := hy x H' y
      split at e2
      · cases e2
      · rename_i p ep
        refine hg W3 σ2 s2 S2 d x p.1 p.2 _ R3 (L2'.ext x3) d3 ep fun σ4 W4 x4 R4 L4 => ?_
        have x14 : Ext W1 W4 := (x2.trans x3).trans x4
        split at e2
        · cases e2
        · rename_i c w s5 S5 er
          cases e2
          exact hb W4 σ4 p.1 p.2 _ _ R4 L4 er fun C v dx σ5 W5 hc x5 R5 L5 d5 hd => P1 C v dx σ5 W5 hc (x14.trans x5) R5 L5 d5 hd
        · rename_i s5 S5 er
          exact hb W4 σ4 p.1 p.2 _ _ R4 L4 er fun σ5 W5 x5 R5 L5 => ⟨W5, s5, S5, rfl, x14.trans x5, R5, L5, e2⟩
        · rename_i s5 S5 er
          exact hb W4 σ4 p.1 p.2 _ _ R4 L4 er fun σ5 W5 x5 R5 L5 => ⟨W5, s5, S5, rfl, x14.trans x5, R5, L5, e2⟩
        · rename_i s5 S5 er
          cases e2
          exact hb W4 σ4 p.1 p.2 _ _ R4 L4 er fun σ5 W5 x5 R5 L5 => P1 σ5 W5 (x14.trans x5) R5 L5
        · rename_i d5 S5 er
          cases e2
          exact hb W4 σ4 p.1 p.2 _ _ R4 L4 er fun v W5 x5 R5 d5' => P1 v W5 (x14.trans x5) R5 d5'
/-- a def that may raise, as a function of data -/
noncomputable def fnX (m : Option Bool) (n : Nat) (body : DX) : List DV → Sto → Option XR := fun ds S => match body (startD n ds) S with
  | some (.ok (.nx _ S1)) => (match exF m S .non S1 with
    | some (d2, S2) => some (.val d2 S2)
    | none => none)
  | some (.ok (.rt d S1)) => (match exF m S d S1 with
    | some (d2, S2) => some (.val d2 S2)
    | none => none)
  | some (.ex c w _ S1) => some (.exc c w S1)
  | _ => none
theorem fn_dlX {P : Program} {w : World} {base : Heap} {x qual : Str} {st : Stmt} {f : Addr} {fd : FuncData} {N ps : List Str} {k n : Nat} {m : Option Bool} {body : DX} (F : Fun K x qual st f fd) (S : FnScope N ps (defScope st)) (hps : ps.length = n)
    (hb : ∀ (cdv : Value) (A : Around) (outer : List Env) (s : Shared) (H : Hp) (E : XK), Room k (A.deeper (envOfC qual (defScope st) s.heap.objs.size f cdv)) →
      Takes (cxOf (L2.CX P w) P w K mg base N qual (defScope st) f cdv A outer s H E) (fun cls d _ H => E cls d H) →
      ∃ t, PSs (cxOf (L2.CX P w) P w K mg base N qual (defScope st) f cdv A outer s H E) (defBody st) t ∧ RSX K mg (fun cls d _ H => E cls d H) t body) :
    FnOk P w K mg base (L2.CX P w) (k + 1) f fd ps (spX K mg n (fnX m N.length body)) := by
  refine F.okX S (fun vs H Q E h => h.1.trans hps.symm) fun cdv A outer s H vs Q E hr h => ?_
  obtain ⟨t, ht, hR⟩ := hb cdv A outer s H E hr (takes_of rfl rfl rfl rfl)
  refine ⟨t, ht, ?_⟩
  obtain ⟨_, W, S, ds, r, rfl, R, hd, hg, q⟩ := h
  unfold fnX at hg
  split at hg
  · rename_i s1 S1 e1
    split at hg
    · rename_i d2 S2 e2
      cases hg
      refine hR W _ _ S _ _ R (slo_start hd) e1 fun σ1 W1 x1 R1 L1 => ?_
      obtain ⟨W2, h2, x2, R2, d2⟩ := exF_ok R x1 R1 (d := .non) (v := V.non) rfl e2
      rw [← h2]
      exact q _ W2 x2 R2 d2
    · cases hg
  · rename_i d1 S1 e1
    split at hg
    · rename_i d2 S2 e2
      cases hg
      refine hR W _ _ S _ _ R (slo_start hd) e1 fun v1 W1 x1 R1 d1 => ?_
      obtain ⟨W2, h2, x2, R2, d2⟩ := exF_ok R x1 R1 d1 e2
      rw [← h2]
      exact q _ W2 x2 R2 d2
    · cases hg
  · rename_i c w' s1 S1 e1
    cases hg
    exact hR W _ _ S _ _ R (slo_start hd) e1 fun C v dx σ' W' hc x' R' L' d' hd' => q C v dx W' hc x' R' d' hd'
  · cases hg
end
end DL
end
section
/-! isinstance of a caught exception that has its dict -/
namespace L2
open PySem PySem.Spec PyProof.Rows
theorem inst_x {X : Cx} {a D dx : Addr} {oe : Obj} {pn pins : List (Addr × Obj)} {σ : L2.St} {H : Hp} {s : Shared} {fs : List (Str × V)} (I : Inv (X.suite a ((a, oe) :: pn)) pins σ H s) (hz : Zc (.ref D) (some dx) oe) (hf : ∃ vs, oe.data = .fields vs) (hx : H dx = some (.xd fs)) :
    ∃ od, PySem.W.InstAt s.heap a oe D (some od) := by
  obtain ⟨hget, _⟩ := I.pin (a, oe) (List.mem_append.mpr (.inl List.mem_cons_self))
  obtain ⟨vs, hv⟩ := hf
  obtain ⟨mA, hns, _⟩ := (show ObjOk X.prog X.w H s.heap dx (.xd fs) from I.hok dx _ hx)
  obtain ⟨od, ho, _⟩ := lookIn_ns hns
  refine ⟨od, ?_⟩
  obtain ⟨oc, odd, oda, osl⟩ := oe
  obtain ⟨h1, h2⟩ := hz
  dsimp only at h1 h2 hv
  subst h1 h2 hv
  exact ⟨hget, rfl, rfl, ho⟩
/-- isinstance(e, c), e the exception that the suite holds (at a; its class cls, its dict d) -/
def rIsD (K : PySem.W.Frag) (a : Addr) (cls : Value) (d : Option Addr) : List V → Hp → VK → Prop := fun xs H Q => ∃ (D dx : Addr) (c : V) (cv : Value) (b : Bool) (fs : List (Str × V)), cls = .ref D ∧ d = some dx ∧ ExcC K D ∧ xs = [.ref a, c] ∧ ClsV c cv ∧ PySem.W.kitOne K (.ref D) cv = some b ∧ H dx = some (.xd fs) ∧ Q (.bl b) H
/-- isinstance(e, (c1, c2, ..)) -/
def rIsDT (K : PySem.W.Frag) (a : Addr) (cls : Value) (d : Option Addr) : List V → Hp → VK → Prop := fun xs H Q => ∃ (D dx tp : Addr) (cs : List V) (us : List Value) (b : Bool) (fs : List (Str × V)), cls = .ref D ∧ d = some dx ∧ ExcC K D ∧ xs = [.ref a, .ref tp] ∧ H tp = some (.tup cs) ∧ Paired ClsV cs us ∧ PySem.W.kitAny K (.ref D) us = some b ∧ H dx = some (.xd fs) ∧ Q (.bl b) H
section
variable {X : Cx} {a : Addr} {cls : Value} {d : Option Addr} {oe : Obj} {pn : List (Addr × Obj)}
theorem call_isD (hz : Zc cls d oe) (hf : ∃ vs, oe.data = .fields vs) : CallR (X.suite a ((a, oe) :: pn)) (.builtin "isinstance") (rIsD X.K a cls d) := by
  intro pins s σ H xs us Q I r h
  obtain ⟨D, dx, c, cv, b, fs, rfl, rfl, C, rfl, hcv, e, hx, q⟩ := h
  obtain ⟨u1, u2, rfl, r1, r2⟩ := vals2 r
  cases r1
  have ec := hcv.eq r2
  subst ec
  obtain ⟨od, J⟩ := inst_x I hz hf hx
  have hcl : (PySem.W.clsIn X.K D).isSome = true := by
    obtain ⟨cd, hc, _⟩ := PySem.W.any_some C.hd
    rw [hc]
    rfl
  exact PySem.W.kia_one (PySem.W.kitx_exc hcl C.hg C.hk C.hs C.ha C.hn C.ht C.hm) I.kIn J e (fun z => nomatch z) fun tk => ⟨.bl b, H, I.kept (t' := tk) fun _ _ z => z, rfl, q⟩
theorem call_isDT (hz : Zc cls d oe) (hf : ∃ vs, oe.data = .fields vs) : CallR (X.suite a ((a, oe) :: pn)) (.builtin "isinstance") (rIsDT X.K a cls d) := by
  intro pins s σ H xs us Q I r h
  obtain ⟨D, dx, tp, cs, ws, b, fs, rfl, rfl, C, rfl, hT, k, e, hx, q⟩ := h
  obtain ⟨u1, u2, rfl, r1, r2⟩ := vals2 r
  cases r1
  cases r2
  obtain ⟨od, J⟩ := inst_x I hz hf hx
  have hcl : (PySem.W.clsIn X.K D).isSome = true := by
    obtain ⟨cd, hc, _⟩ := PySem.W.any_some C.hd
    rw [hc]
    rfl
  obtain ⟨_, its, rv, o, h1, h2, n, h3⟩ := (show ObjOk X.prog X.w H s.heap tp (.tup cs) from I.hok tp _ hT)
  have e3 := ClsV.all k rv
  subst e3
  obtain ⟨oc, od', dt, sl⟩ := o
  simp only at h2 h3
  subst h2 h3
  exact PySem.W.kia_tup (PySem.W.kitx_exc hcl C.hg C.hk C.hs C.ha C.hn C.ht C.hm) I.kIn J h1 e (fun z => nomatch z) fun tk => ⟨.bl b, H, I.kept (t' := tk) fun _ _ z => z, rfl, q⟩
end
/-- a class that is none of its own -/
structure ClsN (K : PySem.W.Frag) (C D : Addr) (b : Bool) : Prop where
  hd : PySem.W.hasDictIn K D = true
  ty : PySem.W.typeIn K (.ref D) = some (.type "type")
  mr : PySem.W.mroIn K C (.ref D) = some b
theorem ClsN.kit {K : PySem.W.Frag} {C D : Addr} {b : Bool} (h : ClsN K C D b) (me : PySem.W.mroIn K C (.ref C) = some true) : PySem.W.kitOne K (.ref C) (.ref D) = some b := by
  unfold PySem.W.kitOne
  by_cases e : C = D
  · have := h.mr
    rw [← e, me] at this
    cases this
    rw [if_pos (by rw [e]; simp)]
  · rw [if_neg (by simpa using e)]
    obtain ⟨cd, hc, _⟩ := PySem.W.any_some h.hd
    unfold PySem.W.kitCls
    simp only
    rw [if_pos (by rw [hc, h.ty]; simp)]
    exact h.mr
theorem kit_VE {K : PySem.W.Frag} {C : Addr} (h : PySem.W.subIn K (.ref C) (.type "ValueError") = some true) : PySem.W.kitOne K (.ref C) (.type "ValueError") = some true := by
  unfold PySem.W.kitOne
  rw [if_neg (by simp)]
  unfold PySem.W.kitCls
  simp only
  rw [if_pos (by decide +kernel)]
  exact h
theorem ClsN.exm {K : PySem.W.Frag} {C D : Addr} {b : Bool} (h : ClsN K C D b) (hs : PySem.W.subIn K (.ref D) (.type "BaseException") = some true) : PySem.W.exmOne K (.ref C) (.ref D) = some b :=
  PySem.W.exm_ref hs h.hd h.ty h.mr
end L2
namespace L2
theorem kit_self {K : PySem.W.Frag} {C : PySem.Addr} : PySem.W.kitOne K (.ref C) (.ref C) = some true := by
  unfold PySem.W.kitOne
  rw [if_pos (by simp)]
end L2
end
section
/-! a refusal caught: its class asked, and what it keeps -/
namespace DL
open PySem PyProof.Rows PySem.Spec L2
section
variable {K : PySem.W.Frag} {mg : Str → Option Value} {W : Wd} {S : Sto}
theorem loose_new {p : Addr} {o : HO} (R : Rep K mg W S) (h : W.H p = none) : Ext W (W.loose p o) ∧ Rep K mg (W.loose p o) S := by
  have hp : ¬ W.P p := fun z => R.al p z h
  have ha : p ∉ W.α := fun z => R.there z h
  exact ⟨ext_loose (Ext.refl W) h hp ha, rep_loose R hp ha (plain_none h)⟩
end
def tConsts : List Addr → TA
  | [] => tNil
  | c :: r => tCons (tC (.ref c)) (tConsts r)
theorem tConsts_ok {σ : L2.St} {H : Hp} {Q : List V → Hp → Prop} : ∀ {cs : List Addr} , Q (cs.map V.ref) H → tConsts cs σ H Q
  | [], h => h
  | c :: cs, h => tConsts_ok (cs := cs) (Q := fun vs H' => Q (.ref c :: vs) H') h
/-- if isinstance(e, (..)): return "odd"; return (isinstance(e, C), isinstance(e, ValueError), e.what), e in slot 2 -/
def tSuite (K : PySem.W.Frag) (C : Addr) (Cs : List Addr) : Addr → Value → Option Addr → TS := fun a cls d =>
  tSeq (tIfS (tB (tCB (rIsDT K a cls d) (tCons (tVar 2) (tCons (tTup (tConsts Cs)) tNil)))) (tRet (tC (.str "odd"))) tNext)
    (tRet (tTup (tCons (tCB (rIsD K a cls d) (tCons (tVar 2) (tCons (tC (.ref C)) tNil))) (tCons (tCB (rIsD K a cls d) (tCons (tVar 2) (tCons (tC (.ty "ValueError")) tNil))) (tCons (tXf a cls d C "what" (tVar 2)) tNil)))))
end DL
end
section
/-! a caught exception that is kept behind its suite: tracked from there on -/
namespace L2
open PySem PySem.Spec PyProof.Rows
/-- at a: an exception of the class cls, its dict at d -/
def exk (a : Addr) (cls : Value) (d : Option Addr) : HO := .ext fun h => ∃ (oe : Obj) (vs : Array Value), h.get? a = some oe ∧ oe.data = .fields vs ∧ Zc cls d oe
theorem exk_ok {P : Program} {w : World} {H : Hp} {h : Heap} {a : Addr} {cls : Value} {d : Option Addr} {oe : Obj} (he : h.get? a = some oe) (hf : ∃ vs, oe.data = .fields vs) (hz : Zc cls d oe) : ObjOk P w H h a (exk a cls d) := by
  obtain ⟨vs, hv⟩ := hf
  exact ⟨⟨oe, vs, he, hv, hz⟩, ⟨oe, he⟩, fun h1 h2 ⟨o, vs, e, r⟩ k => ⟨o, vs, k o e, r⟩⟩
theorem exk_at {P : Program} {w : World} {H : Hp} {h : Heap} {a : Addr} {cls : Value} {d : Option Addr} (hok : HOk P w H h) (he : H a = some (exk a cls d)) : ∃ (oe : Obj) (vs : Array Value), h.get? a = some oe ∧ oe.data = .fields vs ∧ Zc cls d oe :=
  (hok a _ he).1
section
variable {X : Cx} {pins : List (Addr × Obj)} {σ : L2.St} {H : Hp} {s : Shared} {a : Addr} {o : HO}
/-- what is pinned, and was not there at the entry, is tracked from now on -/
theorem Inv.track {oe : Obj} (I : Inv X ((a, oe) :: pins) σ H s) (hp : ∀ p ∈ X.pn ++ pins, p.1 ≠ a) (h0 : X.s_0.heap.get? a = none) (new : ObjOk X.prog X.w (upd H a o) s.heap a o) : Inv X pins σ (upd H a o) s := by
  obtain ⟨ha, hn, hL, hF, hc⟩ := I.pin (a, oe) (List.mem_append_right _ List.mem_cons_self)
  have ha : s.heap.get? a = some oe := ha
  have hn : H a = none := hn
  have nit : ∀ b u, H b = some u → b ≠ a := fun b u e z => by rw [z, hn] at e; cases e
  have n0 : ∀ b ob, X.s_0.heap.get? b = some ob → b ≠ a := fun b ob e z => by rw [z, h0] at e; cases e
  refine ⟨I.ok, I.os, I.bare, ⟨I.base.keep, I.base.slot, fun b ob e n hx => ?_, I.base.there, fun b xs e => ?_, fun b ob u e => ?_, fun b ps e => ?_⟩, I.loc, I.cell, ?_, fun x c e => ?_, fun p hm => ?_, fun b u e => ?_, I.len⟩
  · rw [upd_ne (n0 b ob e)]
    exact I.base.free b ob e n hx
  · have := I.base.tups b xs e
    rw [upd_ne (nit _ _ this)]
    exact this
  · have := I.base.frzs b ob u e
    rw [upd_ne (nit _ _ this)]
    exact this
  · obtain ⟨m, this⟩ := I.base.tbls b ps e
    exact ⟨m, by rw [upd_ne (nit _ _ this)]; exact this⟩
  · rw [upd_ne (Ne.symm hL)]
    exact I.free
  · have hca : c ≠ a := fun z => by
      obtain ⟨v, ob, q⟩ := I.cell x c e
      subst z
      obtain ⟨q1, q2⟩ : s.heap.get? c = some ob ∧ ob.data = .cell v := by
        first
          | exact q
          | exact ⟨q.1, q.2⟩
      rw [ha] at q1
      cases q1
      exact hc v q2
    rw [upd_ne hca]
    exact I.freeC x c e
  · have hm' : p ∈ X.pn ++ ((a, oe) :: pins) := by
      rcases List.mem_append.mp hm with h | h
      · exact List.mem_append_left _ h
      · exact List.mem_append_right _ (List.mem_cons_of_mem _ h)
    obtain ⟨q1, q2, q3⟩ := I.pin p hm'
    exact ⟨q1, by rw [upd_ne (hp p hm)]; exact q2, q3⟩
  · by_cases hb : b = a
    · subst hb
      rw [upd_same] at e
      cases e
      exact new
    · rw [upd_ne hb] at e
      exact (I.hok b u e).stay (fun c v _ q => q) (fun c q => by rw [upd_ne (nit c _ q)]; exact q) fun c xs q => by rw [upd_ne (nit c _ q)]; exact q
/-- the suite is left, and what it held stays pinned -/
theorem Inv.unsuiteK {a : Addr} {oe : Obj} {pn' : List (Addr × Obj)} (I : Inv (X.suite a ((a, oe) :: (X.pn ++ pins))) pn' σ H s) (ok : X.Ok) : Inv X ((a, oe) :: pins) σ H s :=
  ⟨ok, I.os, I.bare, I.base, I.loc, I.cell, I.free, I.freeC, fun p hp => I.pin p (List.mem_append_left _ (by
    rcases List.mem_append.mp hp with h | h
    · exact List.mem_cons_of_mem _ (List.mem_append_left _ h)
    · rcases List.mem_cons.mp h with h | h
      · rw [h]
        exact List.mem_cons_self
      · exact List.mem_cons_of_mem _ (List.mem_append_right _ h))), I.hok, I.len⟩
/-- the object of such an exception -/
theorem inst_k {D dx : Addr} {fs : List (Str × V)} (I : Inv X pins σ H s) (he : H a = some (exk a (.ref D) (some dx))) (hx : H dx = some (.xd fs)) : ∃ (oe od : Obj), PySem.W.InstAt s.heap a oe D (some od) ∧ ∃ mA : Str → Option Value, PySem.W.lookIn "what" od = some (mA "what") ∧ ∀ f, RelO (fs.lookup f) (mA f) := by
  obtain ⟨oe, vs, hget, hv, hz⟩ := exk_at I.hok he
  obtain ⟨mA, hns, hr⟩ := (show ObjOk X.prog X.w H s.heap dx (.xd fs) from I.hok dx _ hx)
  obtain ⟨od, ho, hl⟩ := lookIn_ns hns
  refine ⟨oe, od, ?_, mA, hl "what", hr⟩
  obtain ⟨oc, odd, oda, osl⟩ := oe
  obtain ⟨h1, h2⟩ := hz
  dsimp only at h1 h2 hv
  subst h1 h2 hv
  exact ⟨hget, rfl, rfl, ho⟩
/-- isinstance(e, c), e such an exception -/
def rIsK (K : PySem.W.Frag) : List V → Hp → VK → Prop := fun xs H Q => ∃ (a D dx : Addr) (c : V) (cv : Value) (b : Bool) (fs : List (Str × V)), xs = [.ref a, c] ∧ H a = some (exk a (.ref D) (some dx)) ∧ ExcC K D ∧ ClsV c cv ∧ PySem.W.kitOne K (.ref D) cv = some b ∧ H dx = some (.xd fs) ∧ Q (.bl b) H
def rIsKT (K : PySem.W.Frag) : List V → Hp → VK → Prop := fun xs H Q => ∃ (a D dx tp : Addr) (cs : List V) (us : List Value) (b : Bool) (fs : List (Str × V)), xs = [.ref a, .ref tp] ∧ H a = some (exk a (.ref D) (some dx)) ∧ ExcC K D ∧ H tp = some (.tup cs) ∧ Paired ClsV cs us ∧ PySem.W.kitAny K (.ref D) us = some b ∧ H dx = some (.xd fs) ∧ Q (.bl b) H
theorem call_isK : CallR X (.builtin "isinstance") (rIsK X.K) := by
  intro pins s σ H xs us Q I r h
  obtain ⟨a, D, dx, c, cv, b, fs, rfl, he, C, hcv, e, hx, q⟩ := h
  obtain ⟨u1, u2, rfl, r1, r2⟩ := vals2 r
  cases r1
  have ec := hcv.eq r2
  subst ec
  obtain ⟨oe, od, J, _⟩ := inst_k I he hx
  have hcl : (PySem.W.clsIn X.K D).isSome = true := by
    obtain ⟨cd, hc, _⟩ := PySem.W.any_some C.hd
    rw [hc]
    rfl
  exact PySem.W.kia_one (PySem.W.kitx_exc hcl C.hg C.hk C.hs C.ha C.hn C.ht C.hm) I.kIn J e (fun z => nomatch z) fun tk => ⟨.bl b, H, I.kept (t' := tk) fun _ _ z => z, rfl, q⟩
theorem call_isKT : CallR X (.builtin "isinstance") (rIsKT X.K) := by
  intro pins s σ H xs us Q I r h
  obtain ⟨a, D, dx, tp, cs, ws, b, fs, rfl, he, C, hT, k, e, hx, q⟩ := h
  obtain ⟨u1, u2, rfl, r1, r2⟩ := vals2 r
  cases r1
  cases r2
  obtain ⟨oe, od, J, _⟩ := inst_k I he hx
  have hcl : (PySem.W.clsIn X.K D).isSome = true := by
    obtain ⟨cd, hc, _⟩ := PySem.W.any_some C.hd
    rw [hc]
    rfl
  obtain ⟨_, its, rv, o, h1, h2, n, h3⟩ := (show ObjOk X.prog X.w H s.heap tp (.tup cs) from I.hok tp _ hT)
  have e3 := ClsV.all k rv
  subst e3
  obtain ⟨oc, od', dt, sl⟩ := o
  simp only at h2 h3
  subst h2 h3
  exact PySem.W.kia_tup (PySem.W.kitx_exc hcl C.hg C.hk C.hs C.ha C.hn C.ht C.hm) I.kIn J h1 e (fun z => nomatch z) fun tk => ⟨.bl b, H, I.kept (t' := tk) fun _ _ z => z, rfl, q⟩
/-- e.what of such an exception -/
def tWhK (K : PySem.W.Frag) (te : TE) : TE := fun σ H Q => te σ H fun x H1 => ∃ (a D dx : Addr) (fs : List (Str × V)) (v : V), x = .ref a ∧ H1 a = some (exk a (.ref D) (some dx)) ∧ XfC K D ∧ PySem.W.findIn K (.ref D) "what" = some none ∧ H1 dx = some (.xd fs) ∧ fs.lookup ("what" : Str) = some v ∧ Q v H1
theorem pe_whK {e : Expr} {te : TE} {pos : Pos} (he : PE X e te) (hb : attributeBase e "what" X.env (eval e X.env) = eval e X.env := by rfl) : PE X (.Attribute e "what" pos) (tWhK X.K te) := by
  refine ⟨fun pins s σ H Q I h => ?_⟩
  refine attr_of hb (thn (he.run pins s σ H _ I h) fun u s1 hh => ?_)
  obtain ⟨x, H1, I1, rx, a, D, dx, fs, v, ex, ea, T, hno, ed, l, q⟩ := hh
  subst ex
  obtain rfl : u = Value.ref a := rx
  obtain ⟨oe, od, J, mA, hl, hr⟩ := inst_k I1 ea ed
  obtain ⟨u, hu, ru⟩ := RelO.some_of (v := v) (o := mA "what") (by rw [← l]; exact hr "what")
  exact HandSPX.exc_get I1.kIn J T.ga T.gg T.exC (PySem.W.findObj_own T.hdC hno rfl (by rw [hl, hu])) (handed_of ru) ⟨v, H1, I1.tok _, ru, q⟩
end
end L2
namespace L2
open PySem PySem.Spec PyProof.Rows
/-- the wish of: except X as e (slot i): kept = e (slot j) -/
def wKeep (K : PySem.W.Frag) (c : Value) (i j : Nat) (Wout : WX) (D : Ends) : WX := fun cls d σ H =>
  ∃ b, PySem.W.exmOne K cls c = some b ∧ (b = true → ∀ a, H a = none → D.nx (((σ.set i (some (.ref a))).set j (some (.ref a))).set i none) (upd H a (exk a cls d))) ∧ (b = false → Wout cls d σ H)
section
variable {X : Cx} {x n y : Str} {c : Value} {i j : Nat} {body : List Stmt} {np pos pos' p1 p2 p3 : Pos} {tb : WX → TS} {Wout : WX}
/-- try: .. / except X as e: kept = e -/
theorem ps_try_keep (hs : X.stack = X.env :: X.outer) (hf : X.env.frame = some X.env.locals) (hN : X.N.Nodup) (hi : X.N[i]? = some n) (hj : X.N[j]? = some y) (hij : i ≠ j) (hln : X.env.kindOf n = some .local) (hly : Loc X.env.scope y) (hfy : X.fn y = true ∨ X.env.scope.names.lookup y = some .local) (hvn : Vis X.env.scope n) (hc : Names X x c) (tk : Takes X Wout) (hex : X.ex = [])
    (hdb : (n == ("__debug__" : Str)) = false) (hcd : (n == ("__classdict__" : Str)) = false)
    (hsw : ∀ Y : Cx, Y.env = X.env → swapsWith (.Name n p2) (some (.Name y p1)) p3.line Y.env = pure false)
    (hb : ∀ (W : WX) (pn : List (Addr × Obj)) (xe : Value → Shared → Prop), Takes (X.tr pn xe) W → PassesOwn (model X.prog X.w) X.A X.env xe → PSs (X.tr pn xe) body (tb W)) :
    PS X (.Try body [.ExceptHandler (some (.Name x np)) (some n) [.Assign [.Name y p1] (.Name n p2) p3] pos'] [] [] pos) (fun D σ H => tb (wKeep X.K c i j Wout D) D σ H) := by
  refine ⟨fun pins s σ H D I h => ?_⟩
  have ok := I.ok
  have hfr : X.A.frames = some (X.env :: X.outer) := by rw [ok.frames, hs]
  refine wpAny_Try_except (wpAny_mono ((hb (wKeep X.K c i j Wout D) (X.pn ++ pins) _ (fun u s' xx => ?_) PassesOwn.looking).run [] s σ H D (I.toTry _) h) (fun f s1 hsp => ?_) (fun e s1 he => he))
  · obtain ⟨a, B, sI, pins', σ', H', cls, d, rfl, J', nb, up, sky, na, os, ag, b, hb1, hyes, hno⟩ := xx
    have J : Inv X pins σ' H' sI := J'.ofTry ok
    have sky' : Sky B (X.env :: X.outer) a (Zc cls d) X.env.locals s'.heap := by rw [← hs]; exact sky
    show wpAny (model X.prog X.w) X.A (noteFrame (.ref a) X.env) _ _ _
    refine Sky.land Zc.steady hfr hf sky' fun h3 fl3 up3 => ?_
    have J3 : Inv X pins σ' H' { s' with heap := h3 } := J.landed nb fl3.1 (up.trans up3) os ag
    obtain ⟨oe3, vs3, he3, hz3, hd3⟩ := fl3.there
    have nfr : a ∉ frs (X.env :: X.outer) := fun hm => by
      obtain ⟨_, o', e', hnf⟩ := fl3.2.2.1.mem hm
      rw [he3] at e'
      cases e'
      exact hnf _ hd3
    have nL : a ≠ X.env.locals := fun z => nfr (List.mem_filterMap.mpr ⟨X.env, List.mem_cons_self, by rw [hf, z]⟩)
    have nF : a ∉ X.fs := fun hm => by
      obtain ⟨e, he, q⟩ := List.mem_filterMap.mp hm
      exact nfr (List.mem_filterMap.mpr ⟨e, List.mem_cons_of_mem _ he, q⟩)
    have nI : sI.heap.get? a = none := by
      cases q : sI.heap.get? a with
      | none => rfl
      | some o =>
        have z := nb a o q (by rw [hs]; exact nfr)
        have z0 : B.get? a = none := fl3.2.1
        rw [z0] at z
        cases z
    have n0 : X.s_0.heap.get? a = none := by
      cases q : X.s_0.heap.get? a with
      | none => rfl
      | some o =>
        obtain ⟨o', z⟩ := J.base.there a o q (by rw [hex]; simp)
        rw [nI] at z
        cases z
    have npin : ∀ p ∈ X.pn ++ pins, p.1 ≠ a := fun p hp z => by
      have := (J.pin p hp).1
      rw [z, nI] at this
      cases this
    have S3 := J3.suite he3 hd3 na nL nF
    refine wpAny_handleBy_cons (codeAny_handlers_test ?_) (by intro q; cases q)
    have LT : PySem.W.Looks (model X.prog X.w) h3 (typeOf (.ref a)) cls := fun A Q E s k q => wpAny_typeOf_ref (k _ _ he3) (by rw [hz3.1]; exact q)
    have LM := PySem.W.exm_one (M := model X.prog X.w) (J3.kIn) LT hb1
    have test : ∀ {Q : Value → Shared → Prop} {E : Value → Shared → Prop}, Q c { s' with heap := h3 } → wpAny (model X.prog X.w) (X.A.mark (some (.ref a))) (eval (.Name x np) X.env) Q E { s' with heap := h3 } := fun {Q E} q => by
      obtain ⟨hg, hdbg, hm | ⟨hm, hv, hnn⟩⟩ := hc
      · exact ld_glob (X := X.suite a ((a, oe3) :: (X.pn ++ pins))) S3 hg hm q hdbg
      · exact ld_blt (X := X.suite a ((a, oe3) :: (X.pn ++ pins))) S3 hg hm hv q hnn hdbg
    refine test (LM.here ?_)
    cases b with
    | true =>
      refine codeAny_handlers_suite_as (HandSPX.lands_againZ fl3 fun h4 fl4 up4 => ?_)
      have J4 : Inv X pins σ' H' { s' with heap := h4 } := J.landed nb fl4.1 ((up.trans up3).trans up4) os ag
      obtain ⟨oe4, vs4, he4, hz4, hd4⟩ := fl4.there
      refine store_ok (X := X.suite a ((a, oe4) :: (X.pn ++ pins))) (v := .ref a) (J4.suite he4 hd4 na nL nF) hN hi (.inl hln) rfl (fun s5 S5 => ?_) (.inr hln)
      have hσ : i < σ'.length := by
        have := J.len
        rw [this]
        exact (List.getElem?_eq_some_iff.mp hi).1
      have li : (σ'.set i (some (V.ref a)))[i]? = some (some (.ref a)) := List.getElem?_set_self hσ
      have run := (pss_one (ps_set (X := X.suite a ((a, oe4) :: (X.pn ++ pins))) (i := j) hN hj hly (pe_var (X := X.suite a ((a, oe4) :: (X.pn ++ pins))) (i := i) hi hvn hdb hcd) (hsw _ rfl) hfy)).run [] s5 (σ'.set i (some (.ref a))) H'
        { nx := fun σ6 H6 => σ6 = (σ'.set i (some (.ref a))).set j (some (.ref a)) ∧ H6 = H', rt := fun _ _ => False } S5 ⟨_, li, rfl, rfl⟩
      refine wpAny_mono run (fun f s6 hsp => ?_) (fun _ _ z => False.elim z)
      cases f with
      | next =>
        obtain ⟨σ6, H6, S6, rfl, rfl⟩ := hsp
        refine gone_ok (S6.unsuiteK ok) hN hi hln fun s7 J7 => ⟨_, _, J7.track npin n0 (exk_ok (J7.pin (a, oe4) (List.mem_append_right _ List.mem_cons_self)).1 ⟨_, hd4⟩ hz4), hyes rfl a na⟩
      | brk =>
        obtain ⟨_, _, _, z⟩ := hsp
        exact False.elim z
      | cont =>
        obtain ⟨_, _, _, z⟩ := hsp
        exact False.elim z
      | ret u =>
        obtain ⟨_, _, _, _, _, z⟩ := hsp
        exact False.elim z
    | false =>
      show wpAny _ X.A (handleBy (.ref a) X.env []) _ _ _
      refine wpAny_handleBy_nil ?_
      obtain ⟨k1, k2, k3, oe, vs, T, oT, ts', he, hz, hd, h1, hr⟩ := id fl3
      unfold PySem.passOn
      refine wpAny_bind (wpAny_field he hd h1 ?_)
      rw [if_neg (show ¬ ((Value.ref T == Value.none) = true) from by simp)]
      have fin : wpAny (model X.prog X.w) X.A (setFlight (.ref a) X.env.frame) (fun _ s4 => wpAny (model X.prog X.w) X.A (throw (.ref a) : Sem Flow) (SP X pins D) X.xe s4) X.xe { s' with heap := h3 } := by
        rw [hf]
        refine HandSPX.setFlight_upZ fl3 fun h4 hh4 up4 => wpAny_throw (tk _ _ ?_)
        exact ⟨a, B, sI, pins, σ', H', cls, d, rfl, J, nb, (up.trans up3).trans up4, .inr (.inr (by rw [hs]; exact hh4)), na, os, ag, hno rfl⟩
      first
        | exact wpAny_bind (wpAny_pure (wpAny_bind fin))
        | exact wpAny_bind fin
  · cases f with
    | next =>
      obtain ⟨σ', H', J', q⟩ := hsp
      exact wpAny_execs_nil ⟨σ', H', J'.ofTry ok, q⟩
    | brk =>
      obtain ⟨σ', H', J', q⟩ := hsp
      exact ⟨σ', H', J'.ofTry ok, q⟩
    | cont =>
      obtain ⟨σ', H', J', q⟩ := hsp
      exact ⟨σ', H', J'.ofTry ok, q⟩
    | ret u =>
      obtain ⟨v, σ', H', J', r, q⟩ := hsp
      exact ⟨v, σ', H', J'.ofTry ok, r, q⟩
end
end L2
end
section
/-! a refusal caught and kept behind its suite, as data -/
namespace DL
open PySem PyProof.Rows PySem.Spec L2
section
variable {K : PySem.W.Frag} {mg : Str → Option Value} {W : Wd} {S : Sto}
/-- try: .. / except C0 as e (slot i): kept = e (slot j) -/
def tKeep (K : PySem.W.Frag) (C0 : Addr) (i j : Nat) (tb : WX → TS) : TS := fun D σ H => tb (wKeep K (.ref C0) i j (fun _ _ _ _ => False) D) D σ H
/-- what such a statement wants of its end -/
def KPost (K : PySem.W.Frag) (mg : Str → Option Value) (i j : Nat) (W : Wd) (D : Ends) : XRes → Prop
  | .ok r => Post K mg W D r
  | .ex c w s S => ∀ C v dx a σ' W', mg c = some (.ref C) → Ext W W' → Rep K mg W' S → Slo K W' σ' s → Den K W' w v → W'.H a = some (exk a (.ref C) (some dx)) → W'.H dx = some (.xd [(("what" : Str), v)]) → D.nx (((σ'.set i (some (.ref a))).set j (some (.ref a))).set i none) W'.H
theorem keep_ok {tb : WX → TS} {fb : DX} {C0 : Addr} {i j : Nat} {s : Sl} {σ : L2.St} {r : XRes} {D : Ends} (hb : ∀ Wx, RSX K mg Wx (tb Wx) fb) (R : Rep K mg W S) (L : Slo K W σ s) (e : fb s S = some r)
    (hc0 : ∀ c w s' S', r = .ex c w s' S' → ∀ C, mg c = some (.ref C) → PySem.W.exmOne K (.ref C) (.ref C0) = some true) (P : KPost K mg i j W D r) : tKeep K C0 i j tb D σ W.H := by
  refine hb _ W σ s S r D R L e ?_
  cases r with
  | ok r => exact P
  | ex c w s' S' =>
    intro C v dx σ' W' hc x R' L' d' hd
    refine ⟨true, hc0 c w s' S' rfl C hc, fun _ a ha => ?_, fun z => Bool.noConfusion z⟩
    obtain ⟨x3, R3⟩ := loose_new (o := .xd [(("what" : Str), v)]) R' hd
    have ha1 : (W'.loose dx (.xd [(("what" : Str), v)])).H a = none := ha
    obtain ⟨x4, R4⟩ := loose_new (o := exk a (.ref C) (some dx)) R3 ha1
    have hne : dx ≠ a := fun z => by
      rw [← z] at ha
      rw [upd_same] at ha
      cases ha
    refine P C v dx a σ' _ hc ((x.trans x3).trans x4) R4 (L'.ext (x3.trans x4)) (d'.ext (x3.trans x4)) upd_same ?_
    show upd (upd W'.H dx _) a _ dx = _
    rw [upd_ne hne, upd_same]
end
end DL
end
section
/-! readings of a def one of whose slots holds a caught exception: RE, RA, RT, RS with one premise more -/
namespace DL
open PySem PyProof.Rows PySem.Spec L2
/-- slot i holds the exception at a, of the class D, its dict at dx, what it keeps: v, as data w -/
structure Kd where
  i : Nat
  a : Addr
  D : Addr
  dx : Addr
  v : V
  w : DV
structure Kp (K : PySem.W.Frag) (k : Kd) (W : Wd) (σ : L2.St) : Prop where
  sl : σ[k.i]? = some (some (.ref k.a))
  ha : W.H k.a = some (exk k.a (.ref k.D) (some k.dx))
  hx : W.H k.dx = some (.xd [(("what" : Str), k.v)])
  na : k.a ∉ W.α
  nx : k.dx ∉ W.α
  dw : Den K W k.w k.v
section
variable {K : PySem.W.Frag} {mg : Str → Option Value} {k : Kd}
theorem Kp.ext {W W' : Wd} {σ : L2.St} (h : Kp K k W σ) (x : Ext W W') : Kp K k W' σ where
  sl := h.sl
  ha := x.h _ _ h.na (fun ps z => by unfold exk at z; cases z) h.ha
  hx := x.h _ _ h.nx (fun ps z => by cases z) h.hx
  na := fun z => by
    rcases x.an _ z with y | y
    · exact h.na y
    · rw [h.ha] at y
      cases y
  nx := fun z => by
    rcases x.an _ z with y | y
    · exact h.nx y
    · rw [h.hx] at y
      cases y
  dw := h.dw.ext x
variable (K mg k)
def KE (te : TE) (f : DE) : Prop := ∀ (W : Wd) (σ : L2.St) (s : Sl) (S : Sto) (d : DV) (S' : Sto) (Q : VK), Rep K mg W S → Slo K W σ s → Kp K k W σ → f s S = some (d, S') →
  (∀ v W', Ext W W' → Rep K mg W' S' → Den K W' d v → Q v W'.H) → te σ W.H Q
def KA (ta : TA) (f : DA) : Prop := ∀ (W : Wd) (σ : L2.St) (s : Sl) (S : Sto) (ds : List DV) (S' : Sto) (Q : List V → Hp → Prop), Rep K mg W S → Slo K W σ s → Kp K k W σ → f s S = some (ds, S') →
  (∀ vs W', Ext W W' → Rep K mg W' S' → Dens K W' ds vs → Q vs W'.H) → ta σ W.H Q
def KT (tt : TT) (f : DT) : Prop := ∀ (W : Wd) (σ : L2.St) (s : Sl) (S : Sto) (b : Bool) (S' : Sto) (Q : Bool → Hp → Prop), Rep K mg W S → Slo K W σ s → Kp K k W σ → f s S = some (b, S') →
  (∀ W', Ext W W' → Rep K mg W' S' → Q b W'.H) → tt σ W.H Q
variable {K mg k}
variable {te ta tb : TE} {fe fa fb : DE} {taa : TA} {faa : DA} {tt tu : TT} {ft fu : DT}
theorem ke (h : RE K mg te fe) : KE K mg k te fe := fun W σ s S d S' Q R L _ e q => h W σ s S d S' Q R L e q
theorem ka (h : RA K mg taa faa) : KA K mg k taa faa := fun W σ s S d S' Q R L _ e q => h W σ s S d S' Q R L e q
theorem kt (h : RT K mg tt ft) : KT K mg k tt ft := fun W σ s S d S' Q R L _ e q => h W σ s S d S' Q R L e q
theorem ka_cons (ha : KE K mg k ta fa) (hr : KA K mg k taa faa) : KA K mg k (tCons ta taa) (dCons fa faa) := by
  intro W σ s S ds S' Q R L P h q
  obtain ⟨x, S1, e1, h⟩ := bnd_inv h
  obtain ⟨xs, S2, e2, h⟩ := bnd_inv h
  cases h
  refine ha W σ s S x S1 _ R L P e1 fun v W1 x1 R1 d1 => ?_
  refine hr W1 σ s _ xs _ _ R1 (L.ext x1) (P.ext x1) e2 fun vs W2 x2 R2 d2 => ?_
  exact q (v :: vs) W2 (x1.trans x2) R2 ⟨v, vs, rfl, d1.ext x2, d2⟩
theorem ke_tup (h : KA K mg k taa faa) : KE K mg k (tTup taa) (dTup faa) := by
  intro W σ s S d S' Q R L P e q
  obtain ⟨xs, S1, e1, e⟩ := bnd_inv e
  obtain ⟨hl, e⟩ := gate_inv e
  cases e
  refine h W σ s S xs _ _ R L P e1 fun vs W1 x1 R1 d1 => ⟨by rw [d1.len]; exact lim_le hl, fun p hp => ?_⟩
  obtain ⟨W2, e2, x2, R2, d2⟩ := newT_ok R1 hp d1
  rw [← e2]
  exact q _ W2 (x1.trans x2) R2 d2
theorem ke_lst {m : Bool} (h : KA K mg k taa faa) : KE K mg k (tLst taa) (dLst m faa) := by
  intro W σ s S d S' Q R L P e q
  obtain ⟨xs, S1, e1, e⟩ := bnd_inv e
  obtain ⟨hl, e⟩ := gate_inv e
  refine h W σ s S xs S1 _ R L P e1 fun vs W1 x1 R1 d1 => ⟨by rw [d1.len]; exact lim_le hl, fun p hp => ?_⟩
  obtain ⟨W2, e2, x2, R2, d2⟩ := newL_ok R1 hp d1 (Option.some.inj e)
  rw [← e2]
  exact q _ W2 (x1.trans x2) R2 d2
theorem kt_B (h : KE K mg k te fa) : KT K mg k (tB te) (dTest fa) := by
  intro W σ s S b S' Q R L P e q
  obtain ⟨x, S1, e1, e⟩ := bnd_inv e
  split at e
  · cases e
    exact h W σ s S _ _ _ R L P e1 fun v W1 x1 R1 d1 => ⟨_, (show v = _ from d1), q W1 x1 R1⟩
  · cases e
theorem kt_or (h1 : KT K mg k tt ft) (h2 : KT K mg k tu fu) : KT K mg k (tOr tt tu) (dOr ft fu) := by
  intro W σ s S b S' Q R L P e q
  obtain ⟨x, S1, e1, e⟩ := bnd_inv e
  refine h1 W σ s S x S1 _ R L P e1 fun W1 x1 R1 => ?_
  cases x with
  | false => exact iteF (h2 W1 σ s S1 b S' _ R1 (L.ext x1) (P.ext x1) e fun W2 x2 R2 => q W2 (x1.trans x2) R2)
  | true =>
    cases e
    exact iteT (q W1 x1 R1)
theorem kt_not (h1 : KT K mg k tt ft) : KT K mg k (tNot tt) (dNot ft) := by
  intro W σ s S b S' Q R L P e q
  obtain ⟨x, S1, e1, e⟩ := bnd_inv e
  cases e
  exact h1 W σ s S x _ _ R L P e1 fun W1 x1 R1 => q W1 x1 R1
/-- isinstance(e, C) -/
theorem ke_is {c : V} {cv : Value} {b : Bool} (xc : ExcC K k.D) (hc : ClsV c cv) (hk : PySem.W.kitOne K (.ref k.D) cv = some b) : KE K mg k (tCB (rIsK K) (tCons (tVar k.i) (tCons (tC c) tNil))) (fun _ S => some (.bl b, S)) := by
  intro W σ s S d S' Q R L P e q
  cases e
  exact ⟨_, P.sl, k.a, k.D, k.dx, c, cv, b, _, rfl, P.ha, xc, hc, hk, P.hx, q (.bl b) W (Ext.refl W) R rfl⟩
/-- isinstance(e, (..)), own classes -/
theorem ke_isT {Cs : List Addr} {b : Bool} (xc : ExcC K k.D) (hl : Cs.length ≤ 1000) (hk : PySem.W.kitAny K (.ref k.D) (Cs.map Value.ref) = some b) : KE K mg k (tCB (rIsKT K) (tCons (tVar k.i) (tCons (tTup (tConsts Cs)) tNil))) (fun _ S => some (.bl b, S)) := by
  intro W σ s S d S' Q R L P e q
  cases e
  refine ⟨_, P.sl, tConsts_ok ⟨by rw [List.length_map, sizeLine_eq]; omega, fun p hp => ?_⟩⟩
  obtain ⟨x4, R4⟩ := loose_new (o := .tup (Cs.map V.ref)) R hp
  have pr : ∀ cs : List Addr, Paired ClsV (cs.map V.ref) (cs.map Value.ref) := fun cs => by
    induction cs with
    | nil => exact .nil
    | cons c r ih => exact .cons (.own c) ih
  have P4 := P.ext x4
  exact ⟨k.a, k.D, k.dx, p, Cs.map V.ref, Cs.map Value.ref, b, _, rfl, P4.ha, xc, upd_same, pr Cs, hk, P4.hx, q (.bl b) _ x4 R4 rfl⟩
/-- e.what -/
theorem ke_what (xf : XfC K k.D) (wh : PySem.W.findIn K (.ref k.D) "what" = some none) : KE K mg k (tWhK K (tVar k.i)) (fun _ S => some (k.w, S)) := by
  intro W σ s S d S' Q R L P e q
  cases e
  exact ⟨_, P.sl, k.a, k.D, k.dx, _, k.v, rfl, P.ha, xf, wh, P.hx, by simp [List.lookup], q k.v W (Ext.refl W) R P.dw⟩
/-- statements -/
def KS (K : PySem.W.Frag) (mg : Str → Option Value) (k : Kd) (ts : TS) (f : DS) : Prop := ∀ (W : Wd) (σ : L2.St) (s : Sl) (S : Sto) (r : Res) (D : Ends), Rep K mg W S → Slo K W σ s → Kp K k W σ → f s S = some r →
  (match r with
  | .nx s' S' => ∀ σ' W', Ext W W' → Rep K mg W' S' → Slo K W' σ' s' → Kp K k W' σ' → D.nx σ' W'.H
  | .rt d S' => ∀ v W', Ext W W' → Rep K mg W' S' → Den K W' d v → D.rt v W'.H
  | _ => False) → ts D σ W.H
theorem ks_ret (h : KE K mg k te fe) : KS K mg k (tRet te) (dRet fe) := by
  intro W σ s S r D R L P e p
  obtain ⟨d, S1, e1, e⟩ := bnd_inv e
  cases e
  exact h W σ s S d S1 _ R L P e1 fun v W1 x1 R1 d1 => p v W1 x1 R1 d1
theorem ks_seq {t u : TS} {f g : DS} (h1 : KS K mg k t f) (h2 : KS K mg k u g) : KS K mg k (tSeq t u) (dSeq f g) := by
  intro W σ s S r D R L P e p
  cases q : f s S with
  | none => simp [dSeq, q] at e
  | some r1 =>
    cases r1 with
    | nx s1 S1 =>
      have e : g s1 S1 = some r := by simpa [dSeq, q, kNx] using e
      refine h1 W σ s S _ _ R L P q fun σ1 W1 x1 R1 L1 P1 => ?_
      refine h2 W1 σ1 s1 S1 r D R1 L1 P1 e ?_
      cases r with
      | nx s2 S2 => exact fun σ2 W2 x2 R2 L2 P2 => p σ2 W2 (x1.trans x2) R2 L2 P2
      | rt d S2 => exact fun v W2 x2 R2 d2 => p v W2 (x1.trans x2) R2 d2
      | bk s2 S2 => exact p
      | ct s2 S2 => exact p
    | rt d S2 =>
      have e : Res.rt d S2 = r := by simpa [dSeq, q, kNx] using e
      subst e
      exact h1 W σ s S _ _ R L P q p
    | bk s2 S2 =>
      have e : Res.bk s2 S2 = r := by simpa [dSeq, q, kNx] using e
      subst e
      exact False.elim p
    | ct s2 S2 =>
      have e : Res.ct s2 S2 = r := by simpa [dSeq, q, kNx] using e
      subst e
      exact False.elim p
theorem ks_asg {j : Nat} (h : KE K mg k te fe) (hj : j ≠ k.i) : KS K mg k (tAsg te (gName j)) (dAsg fe (dName j)) := by
  intro W σ s S r D R L P e p
  obtain ⟨d, S1, e1, e⟩ := bnd_inv e
  have e : Res.nx (s.set j (some d)) S1 = r := by simpa [dName] using e
  subst e
  refine h W σ s S d S1 _ R L P e1 fun v W1 x1 R1 d1 => ?_
  have P1 := P.ext x1
  exact p (σ.set j (some v)) W1 x1 R1 ((L.ext x1).set j d1) ⟨by rw [List.getElem?_set_ne hj]; exact P1.sl, P1.ha, P1.hx, P1.na, P1.nx, P1.dw⟩
theorem ks_next : KS K mg k tNext dNext := by
  intro W σ s S r D R L P e p
  cases e
  exact p σ W (Ext.refl W) R L P
theorem ks_if {t u : TS} {f g : DS} (ht : KT K mg k tt ft) (h1 : KS K mg k t f) (h2 : KS K mg k u g) : KS K mg k (tIfS tt t u) (dIfS ft f g) := by
  intro W σ s S r D R L P e p
  obtain ⟨b, S1, e1, e⟩ := bnd_inv e
  refine ht W σ s S b S1 _ R L P e1 fun W1 x1 R1 => ?_
  have P1 := P.ext x1
  have p1 : ∀ {r : Res}, (match r with
    | .nx s' S' => ∀ σ' W', Ext W W' → Rep K mg W' S' → Slo K W' σ' s' → Kp K k W' σ' → D.nx σ' W'.H
    | .rt d S' => ∀ v W', Ext W W' → Rep K mg W' S' → Den K W' d v → D.rt v W'.H
    | _ => False) → (match r with
    | .nx s' S' => ∀ σ' W', Ext W1 W' → Rep K mg W' S' → Slo K W' σ' s' → Kp K k W' σ' → D.nx σ' W'.H
    | .rt d S' => ∀ v W', Ext W1 W' → Rep K mg W' S' → Den K W' d v → D.rt v W'.H
    | _ => False) := fun {r} z => by
    cases r with
    | nx s2 S2 => exact fun σ2 W2 x2 R2 L2 P2 => z σ2 W2 (x1.trans x2) R2 L2 P2
    | rt d S2 => exact fun v W2 x2 R2 d2 => z v W2 (x1.trans x2) R2 d2
    | bk s2 S2 => exact z
    | ct s2 S2 => exact z
  cases b with
  | true => exact iteT (h1 W1 σ s S1 r D R1 (L.ext x1) P1 e (p1 p))
  | false => exact iteF (h2 W1 σ s S1 r D R1 (L.ext x1) P1 e (p1 p))
theorem ke_if (ht : KT K mg k tt ft) (ha : KE K mg k ta fa) (hb : KE K mg k tb fb) : KE K mg k (tIf tt ta tb) (dIf ft fa fb) := by
  intro W σ s S d S' Q R L P e q
  obtain ⟨b, S1, e1, e⟩ := bnd_inv e
  refine ht W σ s S b S1 _ R L P e1 fun W1 x1 R1 => ?_
  cases b with
  | true => exact iteT (ha W1 σ s S1 d S' _ R1 (L.ext x1) (P.ext x1) e fun z W2 x2 R2 d2 => q z W2 (x1.trans x2) R2 d2)
  | false => exact iteF (hb W1 σ s S1 d S' _ R1 (L.ext x1) (P.ext x1) e fun z W2 x2 R2 d2 => q z W2 (x1.trans x2) R2 d2)
/-- the exception kept, as the premise of what follows the try -/
theorem keep_ok2 {W : Wd} {S : Sto} {tb : WX → TS} {fb : DX} {C0 : Addr} {i j : Nat} {s : Sl} {σ : L2.St} {c : Str} {w : DV} {s' : Sl} {S1 : Sto} {D : Ends} (hij : i ≠ j) (hj : j < s'.length) (hb : ∀ Wx, RSX K mg Wx (tb Wx) fb) (R : Rep K mg W S) (L : Slo K W σ s) (e : fb s S = some (.ex c w s' S1))
    (hc0 : ∀ C, mg c = some (.ref C) → PySem.W.exmOne K (.ref C) (.ref C0) = some true)
    (P : ∀ C v dx a σ' W', mg c = some (.ref C) → Ext W W' → Rep K mg W' S1 → Slo K W' σ' ((s'.set j none).set i none) → Kp K ⟨j, a, C, dx, v, w⟩ W' σ' → D.nx σ' W'.H) : tKeep K C0 i j tb D σ W.H := by
  refine hb _ W σ s S _ D R L e ?_
  intro C v dx σ' W' hc x R' L' d' hd
  refine ⟨true, hc0 C hc, fun _ a ha => ?_, fun z => Bool.noConfusion z⟩
  obtain ⟨x3, R3⟩ := loose_new (o := .xd [(("what" : Str), v)]) R' hd
  have ha1 : (W'.loose dx (.xd [(("what" : Str), v)])).H a = none := ha
  obtain ⟨x4, R4⟩ := loose_new (o := exk a (.ref C) (some dx)) R3 ha1
  have hne : dx ≠ a := fun z => by
    rw [← z] at ha
    rw [upd_same] at ha
    cases ha
  have jl : j < σ'.length := by rw [L'.1]; exact hj
  refine P C v dx a _ ((W'.loose dx (.xd [(("what" : Str), v)])).loose a (exk a (.ref C) (some dx))) hc ((x.trans x3).trans x4) R4 ?_ ⟨?_, upd_same, ?_, fun z => R3.there z ha1, fun z => R'.there z hd, d'.ext (x3.trans x4)⟩
  · have L4 := L'.ext (x3.trans x4)
    refine ⟨by simp [L4.1], fun q d hq => ?_⟩
    by_cases h1 : q = i
    · subst h1
      by_cases h2 : q < (s'.set j none).length
      · rw [List.getElem?_set_self h2] at hq
        cases hq
      · rw [List.getElem?_eq_none (by simp at h2 ⊢; omega)] at hq
        cases hq
    · rw [List.getElem?_set_ne (Ne.symm h1)] at hq
      by_cases h3 : q = j
      · subst h3
        rw [List.getElem?_set_self hj] at hq
        cases hq
      · rw [List.getElem?_set_ne (Ne.symm h3)] at hq
        obtain ⟨u, hu, du⟩ := L4.2 q d hq
        exact ⟨u, by rw [List.getElem?_set_ne (Ne.symm h1), List.getElem?_set_ne (Ne.symm h3), List.getElem?_set_ne (Ne.symm h1)]; exact hu, du⟩
  · show (((σ'.set i (some (.ref a))).set j (some (.ref a))).set i none)[j]? = _
    rw [List.getElem?_set_ne hij, List.getElem?_set_self (by simp; exact jl)]
  · show upd (upd W'.H dx _) a _ dx = _
    rw [upd_ne hne, upd_same]
end
end DL
end
section
/-! list.count and list.index over flat items; a def whose code is known and that may raise; what does not raise keeps its reading; a try that keeps, and what follows it -/
namespace L2
open PySem PySem.Spec PyProof.Rows
section
variable {X : Cx}
def rCountF (K : PySem.W.Frag) : V → List V → Hp → VK → Prop := fun x xs H Q => ∃ (a : Addr) (ys : List V) (y : V), x = V.ref a ∧ xs = [y] ∧ SqL K H a ys ∧ flatV y = true ∧ ys.all flatV = true ∧ Q (.int (ys.countP fun z => eqV z y : Nat)) H
theorem count_eqU {y : V} : ∀ {xs : List V} {us : List Value}, Vals xs us → xs.all flatV = true → us.countP (eqU y) = xs.countP fun z => eqV z y
  | _, _, .nil, _ => rfl
  | x :: xs, u :: us, .cons r t, f => by
    rw [List.all_cons, Bool.and_eq_true] at f
    rw [List.countP_cons, List.countP_cons, count_eqU t f.2, eqU_of r f.1]
theorem mt_countF : MtR X "list.count" (rCountF X.K) := by
  intro pins s σ H x xs v us Q I rx rxs h
  obtain ⟨a, ys, y, rfl, rfl, hs, fy, fys, q⟩ := h
  cases rx
  cases rxs with
  | cons ry rt =>
    rename_i uy ut
    cases rt
    obtain ⟨its, rv, ⟨⟨cls, dd, data, sl⟩, n, ho, hc, hdn, hd⟩, hlen⟩ := I.list hs
    simp only at hc hd
    subst hc hd
    refine call_meets PySem.F.slot_list_count ⟨_, ho, rfl⟩ PySem.F.entry_list_count (PySem.F.args_list_count_2 _ _)
      (SeqAt.list_countAt a its.toArray n dd sl uy (eqU y)) ⟨ho, fun u' hu' => mem_eqAt ry fy rv fys u' (by simpa using hu'), ?_⟩
    have e := count_eqU (y := y) rv fys
    have e2 : its.toArray.toList.countP (eqU y) = ys.countP fun z => eqV z y := by simpa using e
    rw [e2]
    exact ⟨.int _, H, I.tok _, ⟨_, rfl⟩, q⟩
end
end L2
namespace DL
open PySem PyProof.Rows PySem.Spec L2
section
variable {K : PySem.W.Frag} {mg : Str → Option Value}
def countD : DM := fun x vs S => match rdL S x, vs with
  | some ds, [y] => (match toV y, toVs ds with
    | some u, some us => some (.int (us.countP fun z => eqV z u : Nat), S)
    | _, _ => none)
  | _, _ => none
def indexD : DM := fun x vs S => match rdL S x, vs with
  | some ds, [y] => (match toV y, toVs ds with
    | some u, some us => (match us.findIdx? fun z => eqV z u with
      | some j => some (.int (j : Nat), S)
      | none => none)
    | _, _ => none)
  | _, _ => none
theorem rm_count : RM K mg (rCountF K) countD := by
  intro W S x xs v vs d S' Q R hx hs e q
  unfold countD at e
  split at e
  · rename_i ds y h1
    split at e
    · rename_i u us h2 h3
      cases e
      obtain ⟨a, ws, rfl, h5, h6⟩ := rdL_ok R hx h1
      obtain ⟨rfl, f2⟩ := toVs_ok h3 h6
      obtain ⟨w, r, rfl, hw, hr⟩ := hs
      cases (show r = [] from hr)
      obtain ⟨rfl, f1⟩ := toV_ok h2 hw
      exact ⟨a, _, _, rfl, rfl, h5, f1, f2, q _ W (Ext.refl W) R rfl⟩
    · cases e
  · cases e
theorem rm_index : RM K mg (rIndex K) indexD := by
  intro W S x xs v vs d S' Q R hx hs e q
  unfold indexD at e
  split at e
  · rename_i ds y h1
    split at e
    · rename_i u us h2 h3
      split at e
      · rename_i j h4
        cases e
        obtain ⟨a, ws, rfl, h5, h6⟩ := rdL_ok R hx h1
        obtain ⟨rfl, f2⟩ := toVs_ok h3 h6
        obtain ⟨w, r, rfl, hw, hr⟩ := hs
        cases (show r = [] from hr)
        obtain ⟨rfl, f1⟩ := toV_ok h2 hw
        obtain ⟨hj, hz, hno⟩ := List.findIdx?_eq_some_iff_getElem.mp h4
        refine ⟨a, _, _, j, _, rfl, rfl, h5, f1, f2, List.getElem?_eq_getElem hj, hz, fun m z' hm hz' => ?_, q _ W (Ext.refl W) R rfl⟩
        obtain ⟨hml, hme⟩ := List.getElem?_eq_some_iff.mp hz'
        have := hno m hm
        rw [hme] at this
        simpa using this
      · cases e
    · cases e
  · cases e
/-- a def whose code object is known, and that may raise -/
theorem fn_dlXT {P : Program} {w : World} {base : Heap} {x qual : Str} {st : Stmt} {f c : Addr} {fd : FuncData} {N ps : List Str} {k n : Nat} {m : Option Bool} {body : DX} (F : Fun K x qual st f fd) (code : fd.code = .ref c) (S : FnScope N ps (defScope st)) (hps : ps.length = n)
    (hb : ∀ (A : Around) (outer : List Env) (s : Shared) (H : Hp) (E : XK), Room k (A.deeper (envOfC qual (defScope st) s.heap.objs.size f (.ref c))) →
      Takes (cxOf (L2.CX P w) P w K mg base N qual (defScope st) f (.ref c) A outer s H E) (fun cls d _ H => E cls d H) →
      ∃ t, PSs (cxOf (L2.CX P w) P w K mg base N qual (defScope st) f (.ref c) A outer s H E) (defBody st) t ∧ RSX K mg (fun cls d _ H => E cls d H) t body) :
    FnOk P w K mg base (L2.CX P w) (k + 1) f fd ps (spX K mg n (fnX m N.length body)) := by
  have len : ∀ vs H Q E, spX K mg n (fnX m N.length body) vs H Q E → vs.length = ps.length := fun vs H Q E h => h.1.trans hps.symm
  obtain ⟨oc, od, kv, dc, pm, an, cdv, ct, sl, rfl, lk, hcd⟩ := F.ex
  cases (show cdv = .ref c from code)
  apply fn_of lk hcd S len
  intro A outer s H vs Q E hr h
  obtain ⟨t, ht, hR⟩ := hb A outer s H E hr (takes_of rfl rfl rfl rfl)
  refine ⟨t, ht, ?_⟩
  obtain ⟨_, W, S, ds, r, rfl, R, hd, hg, q⟩ := h
  unfold fnX at hg
  split at hg
  · rename_i s1 S1 e1
    split at hg
    · rename_i d2 S2 e2
      cases hg
      refine hR W _ _ S _ _ R (slo_start hd) e1 fun σ1 W1 x1 R1 L1 => ?_
      obtain ⟨W2, h2, x2, R2, d2⟩ := exF_ok R x1 R1 (d := .non) (v := V.non) rfl e2
      rw [← h2]
      exact q _ W2 x2 R2 d2
    · cases hg
  · rename_i d1 S1 e1
    split at hg
    · rename_i d2 S2 e2
      cases hg
      refine hR W _ _ S _ _ R (slo_start hd) e1 fun v1 W1 x1 R1 d1 => ?_
      obtain ⟨W2, h2, x2, R2, d2⟩ := exF_ok R x1 R1 d1 e2
      rw [← h2]
      exact q _ W2 x2 R2 d2
    · cases hg
  · rename_i c' w' s1 S1 e1
    cases hg
    exact hR W _ _ S _ _ R (slo_start hd) e1 fun C v dx σ' W' hc x1 R1 L1 d1 hdx => q C v dx W' hc x1 R1 d1 hdx
  · cases hg
/-! ### what does not raise keeps its reading -/
def SimB (f : DS) (g : DX) : Prop := ∀ s S r, f s S = some r → g s S = some (.ok r)
def SimF (f : List DV → Sto → Option (DV × Sto)) (g : List DV → Sto → Option XR) : Prop := ∀ ds S d S', f ds S = some (d, S') → g ds S = some (.val d S')
theorem sim_ok {f : DS} : SimB f (dOkX f) := fun s S r h => by simp only [dOkX, h]
theorem sim_raise {g : DX} : SimB dNever g := fun s S r h => by cases h
theorem sim_seq {f g : DS} {f' g' : DX} (h1 : SimB f f') (h2 : SimB g g') : SimB (dSeq f g) (dSeqX f' g') := by
  intro s S r h
  cases q : f s S with
  | none => simp [dSeq, q] at h
  | some r1 =>
    have e1 := h1 _ _ _ q
    cases r1 with
    | nx s1 S1 =>
      have h : g s1 S1 = some r := by simpa [dSeq, q, kNx] using h
      simp only [dSeqX, e1]
      exact h2 _ _ _ h
    | rt d S2 =>
      have h : Res.rt d S2 = r := by simpa [dSeq, q, kNx] using h
      subst h
      simp only [dSeqX, e1]
    | bk s2 S2 =>
      have h : Res.bk s2 S2 = r := by simpa [dSeq, q, kNx] using h
      subst h
      simp only [dSeqX, e1]
    | ct s2 S2 =>
      have h : Res.ct s2 S2 = r := by simpa [dSeq, q, kNx] using h
      subst h
      simp only [dSeqX, e1]
theorem sim_if {c : DT} {f g : DS} {f' g' : DX} (h1 : SimB f f') (h2 : SimB g g') : SimB (dIfS c f g) (dIfX c f' g') := by
  intro s S r h
  obtain ⟨b, S1, e1, e⟩ := bnd_inv h
  unfold dIfX
  rw [e1]
  cases b with
  | true => exact h1 _ _ _ e
  | false => exact h2 _ _ _ e
theorem sim_forF {tgt : DG} {f : DS} {f' : DX} {it : DIt} (h1 : SimB f f') : ∀ (k i : Nat) s S r, forF tgt f it k i s S = some r → forFX tgt f' it k i s S = some (.ok r)
  | 0, _, _, _, _, h => by cases h
  | k + 1, i, s, S, r, h => by
    cases q1 : itemAt it S i with
    | none =>
      simp only [forF, q1] at h
      cases h
    | some o => cases o with
      | none =>
        simp only [forF, q1] at h
        cases h
        simp only [forFX, q1]
      | some d =>
        cases q2 : tgt d s S with
        | none =>
          simp only [forF, q1, q2] at h
          cases h
        | some p =>
          cases q3 : f p.1 p.2 with
          | none =>
            simp only [forF, q1, q2, q3] at h
            cases h
          | some r2 =>
            simp only [forF, q1, q2, q3] at h
            simp only [forFX, q1, q2, h1 _ _ _ q3]
            cases r2 with
            | nx s2 S2 => exact sim_forF h1 k (i + 1) _ _ _ h
            | ct s2 S2 => exact sim_forF h1 k (i + 1) _ _ _ h
            | bk s2 S2 =>
              cases h
              rfl
            | rt d2 S2 =>
              cases h
              rfl
theorem sim_for {fi : DI} {tgt : DG} {f : DS} {f' : DX} (h1 : SimB f f') : SimB (dFor fi tgt f) (dForX fi tgt f') := by
  intro s S r h
  obtain ⟨it, S1, e1, e⟩ := bnd_inv h
  unfold dForX
  rw [e1]
  exact sim_forF h1 _ _ _ _ _ e
theorem sim_call {n : Nat} {f : List DV → Sto → Option (DV × Sto)} {g : List DV → Sto → Option XR} {fa : DA} (h1 : SimF f g) : SimB (dDrop (dCall n f [] fa)) (dCallX n g fa) := by
  intro s S r h
  obtain ⟨d, S1, e1, e⟩ := bnd_inv h
  cases e
  obtain ⟨xs, S2, e2, e3⟩ := bnd_inv e1
  unfold dCallX
  rw [e2]
  by_cases hn : xs.length = n
  · rw [bnd, if_pos hn]
    have e4 : f xs S2 = some (d, S1) := by simpa [hn] using e3
    rw [h1 _ _ _ _ e4]
  · exfalso
    simp [hn] at e3
theorem sim_fn {m : Option Bool} {n : Nat} {f : DS} {g : DX} (h1 : SimB f g) : SimF (fnF m n f) (fnX m n g) := by
  intro ds S d S' h
  unfold fnF at h
  unfold fnX
  split at h
  · rename_i s1 S1 e1
    rw [h1 _ _ _ e1]
    simp only [h]
  · rename_i d1 S1 e1
    rw [h1 _ _ _ e1]
    simp only [h]
  · cases h
/-! ### a try that keeps, and what follows it -/
theorem kt_isN {k : Kd} : KT K mg k (tB (tIsN (tVar k.i))) (fun _ S => some (false, S)) := by
  intro W σ s S b S' Q R L P e q
  cases e
  exact ⟨_, P.sl, false, rfl, q W (Ext.refl W) R⟩
def dIs (b : Bool) : DE := fun _ S => some (.bl b, S)
def dKw (w : DV) : DE := fun _ S => some (w, S)
def dNo : DT := fun _ S => some (false, S)
def dNoneE : DE := fun _ _ => none
theorem re_none {te : TE} : RE K mg te dNoneE := fun _ _ _ _ _ _ _ _ _ e => by cases e
theorem kitA_nil {t : Value} : PySem.W.kitAny K t [] = some false := rfl
theorem kitA_f {t c : Value} {cs : List Value} {b : Option Bool} (h : PySem.W.kitOne K t c = some false) (h2 : PySem.W.kitAny K t cs = b) : PySem.W.kitAny K t (c :: cs) = b := by
  unfold PySem.W.kitAny
  rw [h]
  exact h2
noncomputable def fKept (m : Option Bool) (n : Nat) (i j : Nat) (cs : List (Str × (DV → DS))) (pre : DS) (blk : DX) (t0 : DS) : List DV → Sto → Option (DV × Sto) := fun ds S => match pre (startD n ds) S with
  | some (.nx s0 S0) => (match blk s0 S0 with
    | some (.ok (.nx s1 S1)) => (match t0 s1 S1 with
      | some (.rt d S2) => exF m S d S2
      | _ => none)
    | some (.ex c w s1 S1) => if j < s1.length then (match cs.find? fun p => decide (p.1 = c) with
      | some p => (match p.2 w ((s1.set j none).set i none) S1 with
        | some (.rt d S2) => exF m S d S2
        | _ => none)
      | none => none) else none
    | _ => none)
  | _ => none
theorem kept_ok {m : Option Bool} {N : List Str} {i j n : Nat} {cs : List (Str × (DV → DS))} {C0 : Addr} {pre t0 : DS} {blk : DX} {tp tt : TS} {tb : WX → TS} {vs : List V} {H : Hp} {Q : VK} {E : XK} (hij : i ≠ j)
    (hp : RS K mg tp pre) (hb : ∀ Wx, RSX K mg Wx (tb Wx) blk) (h0 : RS K mg tt t0)
    (hc : ∀ p ∈ cs, ∀ C, mg p.1 = some (.ref C) → PySem.W.exmOne K (.ref C) (.ref C0) = some true ∧ ∀ a dx v w, KS K mg ⟨j, a, C, dx, v, w⟩ tt (p.2 w))
    (h : spF K mg n (fKept m N.length i j cs pre blk t0) vs H Q E) : tSeq tp (tSeq (tKeep K C0 i j tb) tt) { nx := fun _ H' => Q .non H', rt := Q } (start N vs) H := by
  obtain ⟨len, W, S, ds, d, S', rfl, R, hd, hg, q⟩ := h
  unfold fKept at hg
  split at hg
  · rename_i s0 S0 e0
    refine hp W _ _ S _ _ R (slo_start hd) e0 fun σ1 W1 x1 R1 L1 => ?_
    split at hg
    · rename_i s1 S1 e1
      split at hg
      · rename_i d2 S2 e2
        refine keep_ok hb R1 L1 e1 (fun c w s' S' z => by cases z) ?_
        intro σ2 W2 x2 R2 L2
        refine h0 W2 σ2 s1 S1 _ _ R2 L2 e2 fun v W3 x3 R3 d3 => ?_
        obtain ⟨W4, h4, x4, R4, d4⟩ := exF_ok R ((x1.trans x2).trans x3) R3 d3 hg
        rw [← h4]
        exact q _ W4 x4 R4 d4
      · cases hg
    · rename_i c w s1 S1 e1
      split at hg
      · rename_i hjl
        split at hg
        · rename_i p ep
          have hm := List.mem_of_find?_eq_some ep
          have hpc : p.1 = c := by simpa using List.find?_some ep
          subst hpc
          split at hg
          · rename_i d2 S2 e2
            refine keep_ok2 hij hjl hb R1 L1 e1 (fun C hC => (hc p hm C hC).1) ?_
            intro C v dx a σ2 W2 hC x2 R2 L2 P2
            refine (hc p hm C hC).2 a dx v w W2 σ2 _ S1 _ _ R2 L2 P2 e2 fun v3 W3 x3 R3 d3 => ?_
            obtain ⟨W4, h4, x4, R4, d4⟩ := exF_ok R ((x1.trans x2).trans x3) R3 d3 hg
            rw [← h4]
            exact q _ W4 x4 R4 d4
          · cases hg
        · cases hg
      · cases hg
    · cases hg
  · cases hg
end
section
variable {X : Cx} {x n y : Str} {C0 : Addr} {i j : Nat} {body : List Stmt} {np pos pos' p1 p2 p3 : Pos} {tb : WX → TS}
theorem ps_try_keep2 (hs : X.stack = X.env :: X.outer) (hf : X.env.frame = some X.env.locals) (hN : X.N.Nodup) (hi : X.N[i]? = some n) (hj : X.N[j]? = some y) (hij : i ≠ j) (hln : X.env.kindOf n = some .local) (hly : Loc X.env.scope y) (hfy : X.fn y = true ∨ X.env.scope.names.lookup y = some .local) (hvn : Vis X.env.scope n) (hc : Names X x (.ref C0)) (tk : Takes X (fun _ _ _ _ => False)) (hex : X.ex = [])
    (hdb : (n == ("__debug__" : Str)) = false) (hcd : (n == ("__classdict__" : Str)) = false)
    (hsw : ∀ Y : Cx, Y.env = X.env → swapsWith (.Name n p2) (some (.Name y p1)) p3.line Y.env = pure false)
    (hb : ∀ (W : WX) (pn : List (Addr × Obj)) (xe : Value → Shared → Prop), Takes (X.tr pn xe) W → PassesOwn (model X.prog X.w) X.A X.env xe → PSs (X.tr pn xe) body (tb W)) :
    PS X (.Try body [.ExceptHandler (some (.Name x np)) (some n) [.Assign [.Name y p1] (.Name n p2) p3] pos'] [] [] pos) (tKeep X.K C0 i j tb) :=
  ps_try_keep hs hf hN hi hj hij hln hly hfy hvn hc tk hex hdb hcd hsw hb
end
/-! ### how such blocks are reckoned -/
section
variable {f g : DX} {s s1 : Sl} {S S1 : Sto} {r : Option XRes} {c : Str} {w d : DV}
theorem xseq_nx (h1 : f s S = some (.ok (.nx s1 S1))) (h2 : g s1 S1 = r) : dSeqX f g s S = r := by
  unfold dSeqX
  rw [h1]
  exact h2
theorem xseq_ex (h1 : f s S = some (.ex c w s1 S1)) : dSeqX f g s S = some (.ex c w s1 S1) := by
  unfold dSeqX
  rw [h1]
theorem x_ok {f : DS} {r : Res} (h : f s S = some r) : dOkX f s S = some (.ok r) := by
  unfold dOkX
  rw [h]
theorem xif_t {t : DT} (h : t s S = some (true, S1)) (h2 : f s S1 = r) : dIfX t f g s S = r := by
  unfold dIfX
  rw [h]
  exact h2
theorem xif_f {t : DT} (h : t s S = some (false, S1)) (h2 : g s S1 = r) : dIfX t f g s S = r := by
  unfold dIfX
  rw [h]
  exact h2
theorem x_raise {fe : DE} (h : fe s S = some (w, S1)) : dRaise c fe s S = some (.ex c w s S1) := by
  unfold dRaise
  rw [h]
  rfl
theorem xcall_val {n : Nat} {g : List DV → Sto → Option XR} {fa : DA} {xs : List DV} {S2 : Sto} (h : fa s S = some (xs, S1)) (hn : xs.length = n) (h2 : g xs S1 = some (.val d S2)) : dCallX n g fa s S = some (.ok (.nx s S2)) := by
  unfold dCallX
  rw [h, bnd_some', if_pos hn, h2]
theorem xcall_exc {n : Nat} {g : List DV → Sto → Option XR} {fa : DA} {xs : List DV} {S2 : Sto} (h : fa s S = some (xs, S1)) (hn : xs.length = n) (h2 : g xs S1 = some (.exc c w S2)) : dCallX n g fa s S = some (.ex c w s S2) := by
  unfold dCallX
  rw [h, bnd_some', if_pos hn, h2]
theorem xfor_ex {tgt : DG} {body : DX} {it : DIt} {xs A Z : List DV} {b : DV} (hat : ∀ i, itemAt it S i = some xs[i]?) (hxs : xs = A ++ b :: Z) (I : Sl → Prop) (hA : ∀ x ∈ A, ∀ s, I s → ∃ s1 s2, tgt x s S = some (s1, S) ∧ body s1 S = some (.ok (.nx s2 S)) ∧ I s2)
    (hb : ∀ s, I s → ∃ s1 s2, tgt b s S = some (s1, S) ∧ body s1 S = some (.ex c w s2 S)) : ∀ (k i : Nat) (s : Sl), A.length < k + i → i ≤ A.length → I s → ∃ s', forFX tgt body it k i s S = some (.ex c w s' S)
  | 0, i, s, hk, hi, h => by omega
  | k + 1, i, s, hk, hi, h => by
    have h1 := hat i
    by_cases hi2 : i < A.length
    · have e0 : xs[i]? = some A[i] := by rw [hxs, List.getElem?_append_left hi2, List.getElem?_eq_getElem hi2]
      rw [e0] at h1
      obtain ⟨s1, s2, e1, e2, h2⟩ := hA A[i] (List.getElem_mem hi2) s h
      obtain ⟨s', e⟩ := xfor_ex hat hxs I hA hb k (i + 1) s2 (by omega) (by omega) h2
      exact ⟨s', by simp only [forFX, h1, e1, e2, e]⟩
    · have hi3 : i = A.length := by omega
      have e0 : xs[i]? = some b := by rw [hxs, hi3]; simp
      rw [e0] at h1
      obtain ⟨s1, s2, e1, e2⟩ := hb s h
      exact ⟨s2, by simp only [forFX, h1, e1, e2]⟩
theorem xfn_exc {m : Option Bool} {n : Nat} {body : DX} {ds : List DV} (h : body (startD n ds) S = some (.ex c w s S1)) : fnX m n body ds S = some (.exc c w S1) := by
  unfold fnX
  rw [h]
end
end DL
end
section
/-! rains one by one, by the law's own corners; rows, rains and orders as they are shown -/
namespace FB
open PySem PyProof.Rows PySem.Spec L2 DL FW
open FK (Sts Rw run stp run_wt run_snoc hobj_at0 am_zero)
section
variable {ws : List Int} {p : Rn} {S : Sto} {o1 o2 o5 o6 o7 : Option DV}
end
theorem tk_ok' {ws : List Int} {rs : List Rn} (h : RnOk ws rs) (i : Nat) : RnOk ws (rs.take i) := ⟨fun p hp => h.t p (List.mem_of_mem_take hp), fun p hp => h.a p (List.mem_of_mem_take hp), fun p hp => h.pos p (List.mem_of_mem_take hp), by rw [List.length_take]; have := h.n; omega⟩
/-! ### a History of the same steps -/
/-! ### shown -/
def prn (p : Rn) : PyData := .tuple [.int ((p.1 + 1 : Nat) : Int), pfr p.2]
theorem pys_mapG {α : Type} {r : Nat → Option PyData} {f : α → DV} {g : α → PyData} : ∀ {l : List α}, (∀ x ∈ l, py r (f x) = some (g x)) → pys r (l.map f) = some (l.map g)
  | [], _ => rfl
  | x :: l, h => by
    have := pys_mapG (l := l) fun y hy => h y (List.mem_cons_of_mem _ hy)
    simp only [List.map_cons, pys, h x List.mem_cons_self, this]
theorem py_lstG {α : Type} {r : Nat → Option PyData} {f : α → DV} {g : α → PyData} {l : List α} (h : ∀ x ∈ l, py r (f x) = some (g x)) : py r (.lst (l.map f)) = some (.list (l.map g)) := by
  simp only [py, pys_mapG h, Option.map_some]
theorem two_ofG {α : Type} {P : α → Prop} {a b : α} (h : P a) (g : P b) : ∀ x ∈ [a, b], P x := fun x hx => by
  rcases List.mem_cons.mp hx with rfl | hx
  · exact h
  · rw [List.mem_singleton.mp hx]
    exact g
theorem three_of {α : Type} {P : α → Prop} {a b c : α} (h : P a) (g : P b) (k : P c) : ∀ x ∈ [a, b, c], P x := fun x hx => by
  rcases List.mem_cons.mp hx with rfl | hx
  · exact h
  · exact two_ofG g k x hx
theorem py_rns {r : Nat → Option PyData} (rs : List Rn) : py r (.lst (rs.map rnD)) = some (.list (rs.map prn)) := py_lstG (f := rnD) fun p _ => rfl
theorem py_ints {r : Nat → Option PyData} (ws : List Int) : py r (dI ws) = some (.list (ws.map PyData.int)) := py_lstG (f := DV.int) fun p _ => rfl
theorem sh_ints (ws : List Int) : ShN 3 (.list (ws.map PyData.int)) := shN_list fun p hp => by
  obtain ⟨x, _, rfl⟩ := List.mem_map.mp hp
  exact shN_int
theorem sh_rns (rs : List Rn) : ShN 3 (.list (rs.map prn)) := shN_list fun p hp => by
  obtain ⟨x, _, rfl⟩ := List.mem_map.mp hp
  exact shN_tuple (n := 1) (two_ofG shN_int (sh_pfr x.2))
theorem shw_frG {q : Rat} (h : Sz 1900 q) : Shw 3849 (pfr q) := by
  have := shw_tup (N := 1921) (two_ofG (shw_int h.1 (by decide)) (shw_int (n := 1900) (i := (q.den : Int)) (by simpa using h.2) (by decide)))
  exact this
theorem shw_uptoG {N M m : Nat} {α : Type} {l : List α} {g : α → PyData} (h : ∀ x ∈ l, Shw N (g x)) (hl : l.length ≤ m) (hM : m * (N + 2) + 3 ≤ M) : Shw M (.list (l.map g)) := by
  have := shw_list (N := N) (ps := l.map g) fun p hp => by
    obtain ⟨x, hx, rfl⟩ := List.mem_map.mp hp
    exact h x hx
  rw [List.length_map] at this
  exact this.up (Nat.le_trans (Nat.add_le_add_right (Nat.mul_le_mul_right _ hl) _) hM)
theorem shw_intsG {l : List Int} (h : ∀ x ∈ l, 0 ≤ x ∧ x ≤ 100) (hl : l.length ≤ 11) : Shw 90000 (.list (l.map PyData.int)) :=
  shw_uptoG (N := 1921) (m := 11) (fun x hx => shw_int (n := 10) (by have := h x hx; omega) (by decide)) hl (by decide)
theorem shw_rns {ws : List Int} {rs : List Rn} (f : Flo ws) (h : RnOk ws rs) : Shw 90000 (.list (rs.map prn)) :=
  shw_uptoG (N := 7705) (m := 11) (fun p hp => by
    have t := h.t p hp
    have n8 := f.n
    have := shw_tup (N := 3849) (two_ofG ((shw_int (n := 10) (i := ((p.1 + 1 : Nat) : Int)) (by omega) (by decide)).up (by decide)) (shw_frG ((sz_am (h.a p hp)).mono (by decide))))
    exact this.up (by simp)) h.n (by decide)
theorem asc_frG (q : Rat) : Asc (pfr q).shown := asc_tup (two_ofG (P := fun p => Asc (PyData.shown p)) (asc_int _) (asc_int _))
theorem asc_mapG {α : Type} {g : α → PyData} {l : List α} (h : ∀ x ∈ l, Asc (g x).shown) : Asc (PyData.shown (.list (l.map g))) := asc_list fun p hp => by
  obtain ⟨x, hx, rfl⟩ := List.mem_map.mp hp
  exact h x hx
theorem asc_rns (rs : List Rn) : Asc (PyData.shown (.list (rs.map prn))) := asc_mapG fun p _ => asc_tup (two_ofG (P := fun p => Asc (PyData.shown p)) (asc_int _) (asc_frG p.2))
theorem asc_ints (l : List Int) : Asc (PyData.shown (.list (l.map PyData.int))) := asc_mapG fun p _ => asc_int p
end FB
end
section
/-! orders told: bounds, rising orders, the water kept as a list -/
namespace FB
open PySem PyProof.Rows PySem.Spec L2 DL FW
open FK (Sts Rw run stp run_wt run_snoc hobj_at0 am_zero)

namespace Od
abbrev gk (rs : List Rn) (i : Nat) : Nat := (rs.getD i (0, 0)).1
section
variable {ws : List Int} {rs ps qs : List Rn} {idx : List Nat} {S : Sto}
end
section
variable {ws : List Int} {rs : List Rn} {idx : List Nat} {S : Sto} {d0 o2 o5 o7 o8 o9 o10 o11 o12 o13 o14 o15 : Option DV}
end
/-! ### rising orders -/
section
variable {rs : List Rn} {idx : List Nat}
end
end Od
end FB
end
section
namespace FB.K39
open PySem PyProof.Rows PySem.Spec L2 DL FW 
/-! ### the text -/
def topS (i : Nat) : Stmt := PySem.Challenge.pw_flapwater_k39_rains_refused.main.body.getD i (.Pass ⟨0, 0, 0, 0⟩)
abbrev s_lowest : Stmt := topS 4
abbrev ns_lowest : List Str := ["top", "bottom", "common"]
theorem sc_lowest : FnScope ns_lowest ["top", "bottom"] (defScope s_lowest) := ⟨rfl, rfl, rfl, by decide +kernel, rfl, by decide +kernel, by decide +kernel⟩
abbrev s_plus : Stmt := topS 5
abbrev ns_plus : List Str := ["one", "other", "common", "rest", "top", "shared"]
theorem sc_plus : FnScope ns_plus ["one", "other"] (defScope s_plus) := ⟨rfl, rfl, rfl, by decide +kernel, rfl, by decide +kernel, by decide +kernel⟩
abbrev s_sums : Stmt := topS 8
abbrev ns_sums : List Str := ["amounts", "told", "amount"]
theorem sc_sums : FnScope ns_sums ["amounts"] (defScope s_sums) := ⟨rfl, rfl, rfl, by decide +kernel, rfl, by decide +kernel, by decide +kernel⟩
abbrev s_above : Stmt := topS 7
abbrev ns_above : List Str := ["one", "other"]
theorem sc_above : FnScope ns_above ["one", "other"] (defScope s_above) := ⟨rfl, rfl, rfl, by decide +kernel, rfl, by decide +kernel, by decide +kernel⟩
abbrev s_check_water : Stmt := topS 24
abbrev ns_check_water : List Str := ["floors", "water", "number", "amount"]
theorem sc_check_water : FnScope ns_check_water ["floors", "water"] (defScope s_check_water) := ⟨rfl, rfl, rfl, by decide +kernel, rfl, by decide +kernel, by decide +kernel⟩
abbrev s_check_floors : Stmt := topS 23
abbrev ns_check_floors : List Str := ["floors", "number", "floor"]
theorem sc_check_floors : FnScope ns_check_floors ["floors"] (defScope s_check_floors) := ⟨rfl, rfl, rfl, by decide +kernel, rfl, by decide +kernel, by decide +kernel⟩
abbrev s_heaped : Stmt := topS 26
abbrev ns_heaped : List Str := ["floors", "water"]
theorem sc_heaped : FnScope ns_heaped ["floors", "water"] (defScope s_heaped) := ⟨rfl, rfl, rfl, by decide +kernel, rfl, by decide +kernel, by decide +kernel⟩
abbrev s_History_water : Stmt := inClass (topS 33) 6
abbrev ns_History_water : List Str := ["self", "number"]
theorem sc_History_water : FnScope ns_History_water ["self", "number"] (defScope s_History_water) := ⟨rfl, rfl, rfl, by decide +kernel, rfl, by decide +kernel, by decide +kernel⟩
abbrev s_stretches : Stmt := topS 27
abbrev ns_stretches : List Str := ["floors", "bolted", "cuts"]
theorem sc_stretches : FnScope ns_stretches ["floors", "bolted"] (defScope s_stretches) := ⟨rfl, rfl, rfl, by decide +kernel, rfl, by decide +kernel, by decide +kernel⟩
abbrev s_share : Stmt := topS 6
abbrev ns_share : List Str := ["amount", "part", "whole", "top", "bottom"]
theorem sc_share : FnScope ns_share ["amount", "part", "whole"] (defScope s_share) := ⟨rfl, rfl, rfl, by decide +kernel, rfl, by decide +kernel, by decide +kernel⟩
abbrev s_pool_height : Stmt := topS 28
abbrev ns_pool_height : List Str := ["pool", "floors", "amount"]
theorem sc_pool_height : FnScope ns_pool_height ["pool"] (defScope s_pool_height) := ⟨rfl, rfl, rfl, by decide +kernel, rfl, by decide +kernel, by decide +kernel⟩
abbrev s_pooled : Stmt := topS 29
abbrev ns_pooled : List Str := ["floors", "water", "pools", "floor", "amount", "pool", "floors_ahead", "amount_ahead"]
theorem sc_pooled : FnScope ns_pooled ["floors", "water"] (defScope s_pooled) := ⟨rfl, rfl, rfl, by decide +kernel, rfl, by decide +kernel, by decide +kernel⟩
abbrev s_at_rest : Stmt := topS 30
abbrev ns_at_rest : List Str := ["floors", "water", "bolted", "rest", "start", "end", "level_floors", "amount", "whole", "floor"]
theorem sc_at_rest : FnScope ns_at_rest ["floors", "water", "bolted"] (defScope s_at_rest) := ⟨rfl, rfl, rfl, by decide +kernel, rfl, by decide +kernel, by decide +kernel⟩
abbrev s_check_bolted : Stmt := topS 25
abbrev ns_check_bolted : List Str := ["floors", "bolted", "at", "flap"]
theorem sc_check_bolted : FnScope ns_check_bolted ["floors", "bolted"] (defScope s_check_bolted) := ⟨rfl, rfl, rfl, by decide +kernel, rfl, by decide +kernel, by decide +kernel⟩
abbrev s_settled : Stmt := topS 31
abbrev ns_settled : List Str := ["floors", "water", "bolted"]
theorem sc_settled : FnScope ns_settled ["floors", "water", "bolted"] (defScope s_settled) := ⟨rfl, rfl, rfl, by decide +kernel, rfl, by decide +kernel, by decide +kernel⟩
abbrev s_History_step : Stmt := inClass (topS 33) 2
abbrev ns_History_step : List Str := ["self", "bolted", "rain", "fallen", "amount", "more"]
theorem sc_History_step : FnScope ns_History_step ["self", "bolted", "rain"] (defScope s_History_step) := ⟨rfl, rfl, rfl, by decide +kernel, rfl, by decide +kernel, by decide +kernel⟩
abbrev s_History_init : Stmt := inClass (topS 33) 0
abbrev ns_History_init : List Str := ["self", "floors", "water", "first"]
theorem sc_History_init : FnScope ns_History_init ["self", "floors", "water"] (defScope s_History_init) := ⟨rfl, rfl, rfl, by decide +kernel, rfl, by decide +kernel, by decide +kernel⟩
abbrev s_fallen : Stmt := topS 37
abbrev ns_fallen : List Str := ["floors", "rains", "history", "tank", "amount", "rain"]
theorem sc_fallen : FnScope ns_fallen ["floors", "rains"] (defScope s_fallen) := ⟨rfl, rfl, rfl, by decide +kernel, rfl, by decide +kernel, by decide +kernel⟩
abbrev s_check_rains : Stmt := topS 35
abbrev ns_check_rains : List Str := ["floors", "rains", "number", "tank", "amount"]
theorem sc_check_rains : FnScope ns_check_rains ["floors", "rains"] (defScope s_check_rains) := ⟨rfl, rfl, rfl, by decide +kernel, rfl, by decide +kernel, by decide +kernel⟩
abbrev s_bounds : Stmt := topS 38
abbrev ns_bounds : List Str := ["floors", "rains", "rising"]
theorem sc_bounds : FnScope ns_bounds ["floors", "rains"] (defScope s_bounds) := ⟨rfl, rfl, rfl, by decide +kernel, rfl, by decide +kernel, by decide +kernel⟩
abbrev s_check_order : Stmt := topS 36
abbrev ns_check_order : List Str := ["rains", "order"]
theorem sc_check_order : FnScope ns_check_order ["rains", "order"] (defScope s_check_order) := ⟨rfl, rfl, rfl, by decide +kernel, rfl, by decide +kernel, by decide +kernel⟩
abbrev s_behind : Stmt := topS 39
abbrev ns_behind : List Str := ["floors", "rains", "order", "number"]
theorem sc_behind : FnScope ns_behind ["floors", "rains", "order"] (defScope s_behind) := ⟨rfl, rfl, rfl, by decide +kernel, rfl, by decide +kernel, by decide +kernel⟩
abbrev s_law_refusal : Stmt := topS 47
abbrev ns_law_refusal : List Str := ["tanks", "some", "row", "caught", "e"]
theorem sc_law_refusal : FnScope ns_law_refusal ["tanks", "some", "row"] (defScope s_law_refusal) := ⟨rfl, rfl, rfl, by decide +kernel, rfl, by decide +kernel, by decide +kernel⟩
abbrev s_law_take : Stmt := topS 42
abbrev ns_law_take : List Str := ["deck", "many", "drawn", "turn", "mixed"]
theorem sc_law_take : FnScope ns_law_take ["deck", "many"] (defScope s_law_take) := ⟨rfl, rfl, rfl, by decide +kernel, rfl, by decide +kernel, by decide +kernel⟩
abbrev s_law_bad_row : Stmt := topS 49
abbrev ns_law_bad_row : List Str := ["deck", "row", "spot", "some"]
theorem sc_law_bad_row : FnScope ns_law_bad_row ["deck", "row"] (defScope s_law_bad_row) := ⟨rfl, rfl, rfl, by decide +kernel, rfl, by decide +kernel, by decide +kernel⟩
abbrev s_law_low : Stmt := topS 43
abbrev ns_law_low : List Str := ["top", "bottom", "one", "other"]
theorem sc_law_low : FnScope ns_law_low ["top", "bottom"] (defScope s_law_low) := ⟨rfl, rfl, rfl, by decide +kernel, rfl, by decide +kernel, by decide +kernel⟩
abbrev s_law_bad_rains : Stmt := topS 48
abbrev ns_law_bad_rains : List Str := ["deck", "tanks", "some", "at", "tank", "odd"]
theorem sc_law_bad_rains : FnScope ns_law_bad_rains ["deck", "tanks", "some"] (defScope s_law_bad_rains) := ⟨rfl, rfl, rfl, by decide +kernel, rfl, by decide +kernel, by decide +kernel⟩
abbrev s_law_amount : Stmt := topS 45
abbrev ns_law_amount : List Str := ["deck", "some", "kind"]
theorem sc_law_amount : FnScope ns_law_amount ["deck"] (defScope s_law_amount) := ⟨rfl, rfl, rfl, by decide +kernel, rfl, by decide +kernel, by decide +kernel⟩
abbrev s_law_rains : Stmt := topS 46
abbrev ns_law_rains : List Str := ["deck", "tanks", "most", "found", "turn", "amount"]
theorem sc_law_rains : FnScope ns_law_rains ["deck", "tanks", "most"] (defScope s_law_rains) := ⟨rfl, rfl, rfl, by decide +kernel, rfl, by decide +kernel, by decide +kernel⟩
abbrev s_law_tanks : Stmt := topS 44
abbrev ns_law_tanks : List Str := ["deck", "most", "many", "kind", "tank"]
theorem sc_law_tanks : FnScope ns_law_tanks ["deck", "most"] (defScope s_law_tanks) := ⟨rfl, rfl, rfl, by decide +kernel, rfl, by decide +kernel, by decide +kernel⟩
abbrev s_law_deck : Stmt := topS 41
abbrev ns_law_deck : List Str := ["script", "great", "fold", "cell"]
theorem sc_law_deck : FnScope ns_law_deck ["script"] (defScope s_law_deck) := ⟨rfl, rfl, rfl, by decide +kernel, rfl, by decide +kernel, by decide +kernel⟩
abbrev s_law : Stmt := topS 50
abbrev ns_law : List Str := ["script", "deck", "lap", "tanks", "some", "row", "spot", "bad", "odd", "due", "odd_row", "kept", "asked", "told"]
theorem sc_law : FnScope ns_law ["script"] (defScope s_law) := ⟨rfl, rfl, rfl, by decide +kernel, rfl, by decide +kernel, by decide +kernel⟩
abbrev s_xinitNoFloors : Stmt := inClass (topS 11) 0
abbrev s_xinitNoRain : Stmt := inClass (topS 19) 0
abbrev s_xinitNoOrder : Stmt := inClass (topS 20) 0
/-! ### each def as a function of data -/
noncomputable def b_check_floors_x : DX :=
    (dSeqX (dIfX (dTest (dOp eqD (dCB lenD (dCons (dVar 0) dNil)) (dC (.int 0))))
    (dRaise "NoFloors" (dC .non))
    (dOkX dNext))
    (dForX (diE (dCons (dVar 0) dNil)) (dGTup 2 (dGCons (dName 1) (dGCons (dName 2) dGNil)))
    (dIfX (dTest (dOp ltD (dVar 2) (dC (.int 1))))
    (dRaise "NoFloors" (dVar 1))
    (dOkX dNext))))
noncomputable def f_check_floors_x : List DV → Sto → Option XR := fnX (some false) 3 b_check_floors_x
noncomputable def b_check_rains_x : DX :=
    (dForX (diE (dCons (dVar 1) dNil)) (dGTup 2 (dGCons (dName 2) (dGCons (dGTup 2 (dGCons (dName 3) (dGCons (dName 4) dGNil))) dGNil)))
    (dIfX (dOr (dTest (dInRg true (dVar 3) (dCons (dC (.int 1)) (dCons (dOp (addD false) (dCB lenD (dCons (dVar 0) dNil)) (dC (.int 1))) dNil)))) (dNot (dTest (dCall 2 f_above_z [] (dCons (dVar 4) (dCons (dC (.tup [(.int 0), (.int 1)])) dNil))))))
    (dRaise "NoRain" (dVar 2))
    (dOkX dNext)))
noncomputable def f_check_rains_x : List DV → Sto → Option XR := fnX (some false) 5 b_check_rains_x
noncomputable def b_check_order_x : DX :=
    (dIfX (dTest (dOp neD (dCB (sortBD false) (dCons (dVar 1) dNil)) (dLr1' false (dCB lenD (dCons (dVar 0) dNil)))))
    (dRaise "NoOrder" (dC .non))
    (dOkX dNext))
noncomputable def f_check_order_x : List DV → Sto → Option XR := fnX (some false) 2 b_check_order_x
noncomputable def b_bounds_x : DX :=
    (dSeqX (dCallX 1 f_check_floors_x (dCons (dVar 0) dNil))
    (dSeqX (dCallX 2 f_check_rains_x (dCons (dVar 0) (dCons (dVar 1) dNil)))
    (dOkX (dSeq (dAsg (dSortKey false (dVar 1)) (dName 2))
    (dRet (dTup (dCons (dCall 2 f_heaped_z [] (dCons (dVar 0) (dCons (dCall 2 f_fallen_z [] (dCons (dVar 0) (dCons (dVar 2) dNil))) dNil))) (dCons (dCall 2 f_heaped_z [] (dCons (dVar 0) (dCons (dCall 2 f_fallen_z [] (dCons (dVar 0) (dCons (dRevL false (dVar 2)) dNil))) dNil))) dNil))))))))
noncomputable def f_bounds_x : List DV → Sto → Option XR := fnX (some false) 3 b_bounds_x
noncomputable def b_behind_x : DX :=
    (dSeqX (dCallX 1 f_check_floors_x (dCons (dVar 0) dNil))
    (dSeqX (dCallX 2 f_check_rains_x (dCons (dVar 0) (dCons (dVar 1) dNil)))
    (dSeqX (dCallX 2 f_check_order_x (dCons (dVar 1) (dCons (dVar 2) dNil)))
    (dOkX (dRet (dCall 2 f_fallen_z [] (dCons (dVar 0) (dCons (dLc false (diL (dVar 2)) (dName 3) dYes (dOp ixD (dVar 1) (dVar 3)) [3]) dNil))))))))
noncomputable def f_behind_x : List DV → Sto → Option XR := fnX (some false) 4 b_behind_x
theorem sim_check_floors : SimF f_check_floors_z f_check_floors_x := sim_fn (sim_seq (sim_if sim_raise sim_ok) (sim_for (sim_if sim_raise sim_ok)))
theorem sim_check_rains : SimF f_check_rains_z f_check_rains_x := sim_fn (sim_for (sim_if sim_raise sim_ok))
theorem sim_check_order : SimF f_check_order_z f_check_order_x := sim_fn (sim_if sim_raise sim_ok)
theorem sim_bounds : SimF f_bounds_z f_bounds_x := sim_fn (sim_seq (sim_call sim_check_floors) (sim_seq (sim_call sim_check_rains) sim_ok))
theorem sim_behind : SimF f_behind_z f_behind_x := sim_fn (sim_seq (sim_call sim_check_floors) (sim_seq (sim_call sim_check_rains) (sim_seq (sim_call sim_check_order) sim_ok)))
noncomputable def p_law_refusal : DS :=
    (dAsg (dC .non) (dName 3))
noncomputable def x_law_refusal : DX :=
    (dIfX (dTest (dIsN false (dVar 2)))
    (dCallX 2 f_bounds_x (dCons (dVar 0) (dCons (dVar 1) dNil)))
    (dCallX 3 f_behind_x (dCons (dVar 0) (dCons (dVar 1) (dCons (dVar 2) dNil)))))
noncomputable def t_law_refusal : DS :=
    (dSeq (dIfS (dTest (dIsN false (dVar 3)))
    (dRet (dTup (dCons (dC (.str "none")) (dCons (dC .non) dNil)))) dNext)
    (dSeq (dIfS (dOr (dNot (dTest dNoneE)) (dTest dNoneE))
    (dRet (dTup (dCons (dC (.str "odd")) (dCons (dC .non) dNil)))) dNext)
    (dSeq (dIfS (dTest dNoneE)
    (dRet (dTup (dCons (dC (.str "odd")) (dCons (dC .non) dNil)))) dNext)
    (dSeq (dAsg (dLst false (dCons dNoneE (dCons dNoneE (dCons dNoneE dNil)))) (dName 1))
    (dRet (dIf (dTest (dOp eqD (dBM "list" countD (dVar 1) (dCons (dC (.bl true)) dNil)) (dC (.int 1)))) (dTup (dCons (dOp ixD (dLst false (dCons (dC (.str "floors")) (dCons (dC (.str "rain")) (dCons (dC (.str "order")) dNil)))) (dBM "list" indexD (dVar 1) (dCons (dC (.bl true)) dNil))) (dCons dNoneE dNil))) (dTup (dCons (dC (.str "odd")) (dCons (dC .non) dNil)))))))))
noncomputable def t_law_refusal_NoFloors (w : DV) : DS :=
    (dSeq (dIfS dNo
    (dRet (dTup (dCons (dC (.str "none")) (dCons (dC .non) dNil)))) dNext)
    (dSeq (dIfS (dOr (dNot (dTest (dIs true))) (dTest (dIs false)))
    (dRet (dTup (dCons (dC (.str "odd")) (dCons (dC .non) dNil)))) dNext)
    (dSeq (dIfS (dTest (dIs false))
    (dRet (dTup (dCons (dC (.str "odd")) (dCons (dC .non) dNil)))) dNext)
    (dSeq (dAsg (dLst false (dCons (dIs true) (dCons (dIs false) (dCons (dIs false) dNil)))) (dName 1))
    (dRet (dIf (dTest (dOp eqD (dBM "list" countD (dVar 1) (dCons (dC (.bl true)) dNil)) (dC (.int 1)))) (dTup (dCons (dOp ixD (dLst false (dCons (dC (.str "floors")) (dCons (dC (.str "rain")) (dCons (dC (.str "order")) dNil)))) (dBM "list" indexD (dVar 1) (dCons (dC (.bl true)) dNil))) (dCons (dKw w) dNil))) (dTup (dCons (dC (.str "odd")) (dCons (dC .non) dNil)))))))))
noncomputable def t_law_refusal_NoRain (w : DV) : DS :=
    (dSeq (dIfS dNo
    (dRet (dTup (dCons (dC (.str "none")) (dCons (dC .non) dNil)))) dNext)
    (dSeq (dIfS (dOr (dNot (dTest (dIs true))) (dTest (dIs false)))
    (dRet (dTup (dCons (dC (.str "odd")) (dCons (dC .non) dNil)))) dNext)
    (dSeq (dIfS (dTest (dIs false))
    (dRet (dTup (dCons (dC (.str "odd")) (dCons (dC .non) dNil)))) dNext)
    (dSeq (dAsg (dLst false (dCons (dIs false) (dCons (dIs true) (dCons (dIs false) dNil)))) (dName 1))
    (dRet (dIf (dTest (dOp eqD (dBM "list" countD (dVar 1) (dCons (dC (.bl true)) dNil)) (dC (.int 1)))) (dTup (dCons (dOp ixD (dLst false (dCons (dC (.str "floors")) (dCons (dC (.str "rain")) (dCons (dC (.str "order")) dNil)))) (dBM "list" indexD (dVar 1) (dCons (dC (.bl true)) dNil))) (dCons (dKw w) dNil))) (dTup (dCons (dC (.str "odd")) (dCons (dC .non) dNil)))))))))
noncomputable def t_law_refusal_NoOrder (w : DV) : DS :=
    (dSeq (dIfS dNo
    (dRet (dTup (dCons (dC (.str "none")) (dCons (dC .non) dNil)))) dNext)
    (dSeq (dIfS (dOr (dNot (dTest (dIs true))) (dTest (dIs false)))
    (dRet (dTup (dCons (dC (.str "odd")) (dCons (dC .non) dNil)))) dNext)
    (dSeq (dIfS (dTest (dIs false))
    (dRet (dTup (dCons (dC (.str "odd")) (dCons (dC .non) dNil)))) dNext)
    (dSeq (dAsg (dLst false (dCons (dIs false) (dCons (dIs false) (dCons (dIs true) dNil)))) (dName 1))
    (dRet (dIf (dTest (dOp eqD (dBM "list" countD (dVar 1) (dCons (dC (.bl true)) dNil)) (dC (.int 1)))) (dTup (dCons (dOp ixD (dLst false (dCons (dC (.str "floors")) (dCons (dC (.str "rain")) (dCons (dC (.str "order")) dNil)))) (dBM "list" indexD (dVar 1) (dCons (dC (.bl true)) dNil))) (dCons (dKw w) dNil))) (dTup (dCons (dC (.str "odd")) (dCons (dC .non) dNil)))))))))
noncomputable def f_law_refusal_z : List DV → Sto → Option (DV × Sto) := fKept (some false) 5 4 3 [("NoFloors", t_law_refusal_NoFloors), ("NoRain", t_law_refusal_NoRain), ("NoOrder", t_law_refusal_NoOrder)] p_law_refusal x_law_refusal t_law_refusal
noncomputable def b_law_bad_row_z : DS :=
    (dSeq (dAsg (dCall 2 f_law_take_z [] (dCons (dVar 0) (dCons (dOp (addD false) (dCB lenD (dCons (dVar 1) dNil)) (dC (.int 1))) dNil))) (dName 2))
    (dSeq (dAsg (dLst false (dCons (dOp (addD false) (dOp (addD false) (dSlL false (dVar 1) doN (doS (dVar 2))) (dLst false (dCons (dOp (addD false) (dCB lenD (dCons (dVar 1) dNil)) (dC (.int 1))) dNil))) (dSlL false (dVar 1) (doS (dVar 2)) doN)) (dCons (dOp (addD false) (dOp (addD false) (dVar 1) (dOp (repD false) (dLst false (dCons (dC (.int 0)) dNil)) (dCB intD (dCons (dOp neD (dVar 1) (dLst false dNil)) dNil)))) (dOp (repD false) (dLst false (dCons (dC (.int 7)) dNil)) (dCB intD (dCons (dOp eqD (dVar 1) (dLst false dNil)) dNil)))) dNil))) (dName 3))
    (dSeq (dAsg (dOp (addD false) (dVar 3) (dLst false (dCons (dOp (addD false) (dOp (addD false) (dSlL false (dVar 1) doN (doS (dVar 2))) (dLst false (dCons (dUn negD (dC (.int 1))) dNil))) (dSlL false (dVar 1) (doS (dOp (addD false) (dVar 2) (dC (.int 1)))) doN)) (dCons (dIf (dTest (dOp neD (dVar 1) (dLst false dNil))) (dSlL false (dVar 1) (doS (dC (.int 1))) doN) (dLst false (dCons (dC (.int 0)) dNil))) dNil)))) (dName 3))
    (dRet (dOp ixD (dVar 3) (dCall 2 f_law_take_z [] (dCons (dVar 0) (dCons (dC (.int 4)) dNil))))))))
noncomputable def f_law_bad_row_z : List DV → Sto → Option (DV × Sto) := fnF (some false) 4 b_law_bad_row_z
noncomputable def b_law_bad_rains_z : DS :=
    (dSeq (dAsg (dCall 2 f_law_take_z [] (dCons (dVar 0) (dCons (dOp (addD false) (dCB lenD (dCons (dVar 2) dNil)) (dC (.int 1))) dNil))) (dName 3))
    (dSeq (dAsg (dOp ixD (dLst false (dCons (dC (.int 0)) (dCons (dUn negD (dC (.int 1))) (dCons (dOp (addD false) (dCB lenD (dCons (dVar 1) dNil)) (dC (.int 1))) (dCons (dOp (addD false) (dOp (addD false) (dCB lenD (dCons (dVar 1) dNil)) (dC (.int 1))) (dCall 2 f_law_take_z [] (dCons (dVar 0) (dCons (dC (.int 99)) dNil)))) dNil))))) (dCall 2 f_law_take_z [] (dCons (dVar 0) (dCons (dC (.int 4)) dNil)))) (dName 4))
    (dSeq (dAsg (dOp ixD (dLst false (dCons (dTup (dCons (dVar 4) (dCons (dTup (dCons (dC (.int 1)) (dCons (dC (.int 1)) dNil))) dNil))) (dCons (dTup (dCons (dC (.int 1)) (dCons (dTup (dCons (dC (.int 0)) (dCons (dC (.int 1)) dNil))) dNil))) (dCons (dTup (dCons (dC (.int 1)) (dCons (dCall 2 f_law_low_z [] (dCons (dOp subD (dUn negD (dC (.int 1))) (dCall 2 f_law_take_z [] (dCons (dVar 0) (dCons (dC (.int 99)) dNil)))) (dCons (dC (.int 7)) dNil))) dNil))) (dCons (dTup (dCons (dVar 4) (dCons (dTup (dCons (dC (.int 0)) (dCons (dC (.int 1)) dNil))) dNil))) dNil))))) (dCall 2 f_law_take_z [] (dCons (dVar 0) (dCons (dC (.int 4)) dNil)))) (dName 5))
    (dRet (dTup (dCons (dOp (addD false) (dOp (addD false) (dOp (addD false) (dSlL false (dVar 2) doN (doS (dVar 3))) (dLst false (dCons (dVar 5) dNil))) (dSlL false (dVar 2) (doS (dVar 3)) doN)) (dLst false (dCons (dTup (dCons (dC (.int 0)) (dCons (dTup (dCons (dC (.int 1)) (dCons (dC (.int 2)) dNil))) dNil))) dNil))) (dCons (dVar 3) dNil)))))))
noncomputable def f_law_bad_rains_z : List DV → Sto → Option (DV × Sto) := fnF (some false) 6 b_law_bad_rains_z
noncomputable def b_law_z : DS :=
    (dSeq (dAsg (dCall 1 f_law_deck_r [] (dCons (dVar 0) dNil)) (dName 1))
    (dSeq (dFor (diR1 (dCons (dOp (addD false) (dC (.int 3)) (dCB minD (dCons (dC (.int 5)) (dCons (dCB lenD (dCons (dVar 0) dNil)) dNil)))) dNil)) (dName 2)
    (dSeq (dAsg (dCall 2 f_law_tanks_z [] (dCons (dVar 1) (dCons (dC (.int 8)) dNil))) (dName 3))
    (dSeq (dAsg (dCall 3 f_law_rains_z [] (dCons (dVar 1) (dCons (dVar 3) (dCons (dC (.int 8)) dNil)))) (dName 4))
    (dSeq (dAsg (dRevL false (dLr1' false (dCB lenD (dCons (dVar 4) dNil)))) (dName 5))
    (dSeq (dAsg (dCall 2 f_law_take_z [] (dCons (dVar 1) (dCons (dCB lenD (dCons (dVar 3) dNil)) dNil))) (dName 6))
    (dSeq (dAsg (dOp (addD false) (dOp (addD false) (dSlL false (dVar 3) doN (doS (dVar 6))) (dLst false (dCons (dOp ixD (dLst false (dCons (dC (.int 0)) (dCons (dUn negD (dC (.int 1))) (dCons (dUn negD (dC (.int 99))) dNil)))) (dCall 2 f_law_take_z [] (dCons (dVar 1) (dCons (dC (.int 3)) dNil)))) dNil))) (dSlL false (dVar 3) (doS (dOp (addD false) (dVar 6) (dC (.int 1)))) doN)) (dName 7))
    (dSeq (dAsg (dCall 3 f_law_bad_rains_z [] (dCons (dVar 1) (dCons (dVar 3) (dCons (dVar 4) dNil)))) (dGTup 2 (dGCons (dName 8) (dGCons (dName 9) dGNil))))
    (dSeq (dAsg (dCall 2 f_law_bad_row_z [] (dCons (dVar 1) (dCons (dVar 5) dNil))) (dName 10))
    (dSeq (dAsg (dCB reprD (dCons (dLst false (dCons (dVar 3) (dCons (dVar 4) (dCons (dVar 8) (dCons (dVar 10) dNil))))) dNil)) (dName 11))
    (dSeq (dFor (diL (dLst false (dCons (dC .non) (dCons (dVar 5) (dCons (dVar 10) dNil))))) (dName 12)
    (dSeq (dIfS (dOr (dTest (dOp neD (dCall 3 f_law_refusal_z [] (dCons (dLst false dNil) (dCons (dVar 8) (dCons (dVar 12) dNil)))) (dTup (dCons (dC (.str "floors")) (dCons (dC .non) dNil))))) (dTest (dOp neD (dCall 3 f_law_refusal_z [] (dCons (dVar 7) (dCons (dVar 8) (dCons (dVar 12) dNil)))) (dTup (dCons (dC (.str "floors")) (dCons (dVar 6) dNil))))))
    (dRet (dC (.bl false))) dNext)
    (dIfS (dTest (dOp neD (dCall 3 f_law_refusal_z [] (dCons (dVar 3) (dCons (dVar 8) (dCons (dVar 12) dNil)))) (dTup (dCons (dC (.str "rain")) (dCons (dVar 9) dNil)))))
    (dRet (dC (.bl false))) dNext)))
    (dSeq (dAsg (dLc false (diL (dLst false (dCons (dC .non) (dCons (dVar 5) (dCons (dVar 10) dNil))))) (dName 12) dYes (dCall 3 f_law_refusal_z [] (dCons (dVar 3) (dCons (dVar 4) (dCons (dVar 12) dNil)))) [12]) (dName 13))
    (dIfS (dOr (dTest (dOp neD (dVar 13) (dLst false (dCons (dTup (dCons (dC (.str "none")) (dCons (dC .non) dNil))) (dCons (dTup (dCons (dC (.str "none")) (dCons (dC .non) dNil))) (dCons (dTup (dCons (dC (.str "order")) (dCons (dC .non) dNil))) dNil)))))) (dTest (dOp neD (dCB reprD (dCons (dLst false (dCons (dVar 3) (dCons (dVar 4) (dCons (dVar 8) (dCons (dVar 10) dNil))))) dNil)) (dVar 11))))
    (dRet (dC (.bl false))) dNext))))))))))))
    (dRet (dC (.bl true)))))
noncomputable def f_law_z : List DV → Sto → Option (DV × Sto) := fnF (some false) 14 b_law_z
/-! ### what the top has left -/
structure Txt (K : PySem.W.Frag) (mg : Str → Option Value) where
  a_lowest : Addr
  fd_lowest : FuncData
  F_lowest : Fun K "lowest" "lowest" s_lowest a_lowest fd_lowest
  g_lowest : mg "lowest" = some (.ref a_lowest)
  b_lowest : Binds K fd_lowest ["top", "bottom"] []
  a_plus : Addr
  fd_plus : FuncData
  F_plus : Fun K "plus" "plus" s_plus a_plus fd_plus
  g_plus : mg "plus" = some (.ref a_plus)
  b_plus : Binds K fd_plus ["one", "other"] []
  a_sums : Addr
  fd_sums : FuncData
  F_sums : Fun K "sums" "sums" s_sums a_sums fd_sums
  g_sums : mg "sums" = some (.ref a_sums)
  b_sums : Binds K fd_sums ["amounts"] []
  a_above : Addr
  fd_above : FuncData
  F_above : Fun K "above" "above" s_above a_above fd_above
  g_above : mg "above" = some (.ref a_above)
  b_above : Binds K fd_above ["one", "other"] []
  a_check_water : Addr
  fd_check_water : FuncData
  F_check_water : Fun K "check_water" "check_water" s_check_water a_check_water fd_check_water
  g_check_water : mg "check_water" = some (.ref a_check_water)
  b_check_water : Binds K fd_check_water ["floors", "water"] []
  a_check_floors : Addr
  fd_check_floors : FuncData
  F_check_floors : Fun K "check_floors" "check_floors" s_check_floors a_check_floors fd_check_floors
  g_check_floors : mg "check_floors" = some (.ref a_check_floors)
  b_check_floors : Binds K fd_check_floors ["floors"] []
  a_heaped : Addr
  fd_heaped : FuncData
  F_heaped : Fun K "heaped" "heaped" s_heaped a_heaped fd_heaped
  g_heaped : mg "heaped" = some (.ref a_heaped)
  b_heaped : Binds K fd_heaped ["floors", "water"] []
  a_History_water : Addr
  fd_History_water : FuncData
  v_History_water : V
  dv_History_water : ∀ W, Den K W (.non) v_History_water
  F_History_water : FunB K "water" "History.water" s_History_water [v_History_water] a_History_water fd_History_water
  b_History_water : Binds K fd_History_water ["self", "number"] []
  ds_History_water : List Value
  rd_History_water : Vals [v_History_water] ds_History_water
  bd_History_water : Binds K fd_History_water ["self", "number"] ds_History_water
  a_stretches : Addr
  fd_stretches : FuncData
  F_stretches : Fun K "stretches" "stretches" s_stretches a_stretches fd_stretches
  g_stretches : mg "stretches" = some (.ref a_stretches)
  b_stretches : Binds K fd_stretches ["floors", "bolted"] []
  a_share : Addr
  fd_share : FuncData
  F_share : Fun K "share" "share" s_share a_share fd_share
  g_share : mg "share" = some (.ref a_share)
  b_share : Binds K fd_share ["amount", "part", "whole"] []
  a_pool_height : Addr
  fd_pool_height : FuncData
  F_pool_height : Fun K "pool_height" "pool_height" s_pool_height a_pool_height fd_pool_height
  g_pool_height : mg "pool_height" = some (.ref a_pool_height)
  b_pool_height : Binds K fd_pool_height ["pool"] []
  a_pooled : Addr
  fd_pooled : FuncData
  F_pooled : Fun K "pooled" "pooled" s_pooled a_pooled fd_pooled
  g_pooled : mg "pooled" = some (.ref a_pooled)
  b_pooled : Binds K fd_pooled ["floors", "water"] []
  a_at_rest : Addr
  fd_at_rest : FuncData
  F_at_rest : Fun K "at_rest" "at_rest" s_at_rest a_at_rest fd_at_rest
  g_at_rest : mg "at_rest" = some (.ref a_at_rest)
  b_at_rest : Binds K fd_at_rest ["floors", "water", "bolted"] []
  a_check_bolted : Addr
  fd_check_bolted : FuncData
  F_check_bolted : Fun K "check_bolted" "check_bolted" s_check_bolted a_check_bolted fd_check_bolted
  g_check_bolted : mg "check_bolted" = some (.ref a_check_bolted)
  b_check_bolted : Binds K fd_check_bolted ["floors", "bolted"] []
  a_settled : Addr
  fd_settled : FuncData
  v_settled : V
  dv_settled : ∀ W, Den K W (.tup []) v_settled
  F_settled : FunB K "settled" "settled" s_settled [v_settled] a_settled fd_settled
  g_settled : mg "settled" = some (.ref a_settled)
  b_settled : Binds K fd_settled ["floors", "water", "bolted"] []
  ds_settled : List Value
  rd_settled : Vals [v_settled] ds_settled
  bd_settled : Binds K fd_settled ["floors", "water", "bolted"] ds_settled
  a_History_step : Addr
  fd_History_step : FuncData
  F_History_step : Fun K "step" "History.step" s_History_step a_History_step fd_History_step
  b_History_step : Binds K fd_History_step ["self", "bolted", "rain"] []
  a_History_init : Addr
  fd_History_init : FuncData
  v_History_init : V
  dv_History_init : ∀ W, Den K W (.non) v_History_init
  F_History_init : FunB K "__init__" "History.__init__" s_History_init [v_History_init] a_History_init fd_History_init
  b_History_init : Binds K fd_History_init ["self", "floors", "water"] []
  ds_History_init : List Value
  rd_History_init : Vals [v_History_init] ds_History_init
  bd_History_init : Binds K fd_History_init ["self", "floors", "water"] ds_History_init
  a_fallen : Addr
  fd_fallen : FuncData
  F_fallen : Fun K "fallen" "fallen" s_fallen a_fallen fd_fallen
  g_fallen : mg "fallen" = some (.ref a_fallen)
  b_fallen : Binds K fd_fallen ["floors", "rains"] []
  a_check_rains : Addr
  fd_check_rains : FuncData
  F_check_rains : Fun K "check_rains" "check_rains" s_check_rains a_check_rains fd_check_rains
  g_check_rains : mg "check_rains" = some (.ref a_check_rains)
  b_check_rains : Binds K fd_check_rains ["floors", "rains"] []
  a_bounds : Addr
  fd_bounds : FuncData
  F_bounds : Fun K "bounds" "bounds" s_bounds a_bounds fd_bounds
  g_bounds : mg "bounds" = some (.ref a_bounds)
  b_bounds : Binds K fd_bounds ["floors", "rains"] []
  a_check_order : Addr
  fd_check_order : FuncData
  F_check_order : Fun K "check_order" "check_order" s_check_order a_check_order fd_check_order
  g_check_order : mg "check_order" = some (.ref a_check_order)
  b_check_order : Binds K fd_check_order ["rains", "order"] []
  a_behind : Addr
  fd_behind : FuncData
  F_behind : Fun K "behind" "behind" s_behind a_behind fd_behind
  g_behind : mg "behind" = some (.ref a_behind)
  b_behind : Binds K fd_behind ["floors", "rains", "order"] []
  a_law_refusal : Addr
  fd_law_refusal : FuncData
  F_law_refusal : Fun K "_law_refusal" "_law_refusal" s_law_refusal a_law_refusal fd_law_refusal
  g_law_refusal : mg "_law_refusal" = some (.ref a_law_refusal)
  b_law_refusal : Binds K fd_law_refusal ["tanks", "some", "row"] []
  a_law_take : Addr
  fd_law_take : FuncData
  F_law_take : Fun K "_law_take" "_law_take" s_law_take a_law_take fd_law_take
  g_law_take : mg "_law_take" = some (.ref a_law_take)
  b_law_take : Binds K fd_law_take ["deck", "many"] []
  a_law_bad_row : Addr
  fd_law_bad_row : FuncData
  F_law_bad_row : Fun K "_law_bad_row" "_law_bad_row" s_law_bad_row a_law_bad_row fd_law_bad_row
  g_law_bad_row : mg "_law_bad_row" = some (.ref a_law_bad_row)
  b_law_bad_row : Binds K fd_law_bad_row ["deck", "row"] []
  a_law_low : Addr
  fd_law_low : FuncData
  F_law_low : Fun K "_law_low" "_law_low" s_law_low a_law_low fd_law_low
  g_law_low : mg "_law_low" = some (.ref a_law_low)
  b_law_low : Binds K fd_law_low ["top", "bottom"] []
  a_law_bad_rains : Addr
  fd_law_bad_rains : FuncData
  F_law_bad_rains : Fun K "_law_bad_rains" "_law_bad_rains" s_law_bad_rains a_law_bad_rains fd_law_bad_rains
  g_law_bad_rains : mg "_law_bad_rains" = some (.ref a_law_bad_rains)
  b_law_bad_rains : Binds K fd_law_bad_rains ["deck", "tanks", "some"] []
  a_law_amount : Addr
  fd_law_amount : FuncData
  F_law_amount : Fun K "_law_amount" "_law_amount" s_law_amount a_law_amount fd_law_amount
  g_law_amount : mg "_law_amount" = some (.ref a_law_amount)
  b_law_amount : Binds K fd_law_amount ["deck"] []
  a_law_rains : Addr
  fd_law_rains : FuncData
  F_law_rains : Fun K "_law_rains" "_law_rains" s_law_rains a_law_rains fd_law_rains
  g_law_rains : mg "_law_rains" = some (.ref a_law_rains)
  b_law_rains : Binds K fd_law_rains ["deck", "tanks", "most"] []
  a_law_tanks : Addr
  fd_law_tanks : FuncData
  F_law_tanks : Fun K "_law_tanks" "_law_tanks" s_law_tanks a_law_tanks fd_law_tanks
  g_law_tanks : mg "_law_tanks" = some (.ref a_law_tanks)
  b_law_tanks : Binds K fd_law_tanks ["deck", "most"] []
  a_law_deck : Addr
  fd_law_deck : FuncData
  F_law_deck : Fun K "_law_deck" "_law_deck" s_law_deck a_law_deck fd_law_deck
  g_law_deck : mg "_law_deck" = some (.ref a_law_deck)
  b_law_deck : Binds K fd_law_deck ["script"] []
  a_law : Addr
  fd_law : FuncData
  F_law : Fun K "law" "law" s_law a_law fd_law
  g_law : mg "law" = some (.ref a_law)
  b_law : Binds K fd_law ["script"] []
  a_History : Addr
  g_History : mg "History" = some (.ref a_History)
  cl_History : Cls K a_History
  m_History_water : Meth K a_History "water" a_History_water
  m_History_step : Meth K a_History "step" a_History_step
  M_History : Mk K a_History a_History_init
  n_History__floors : NoAttr K a_History "_floors"
  n_History__steps : NoAttr K a_History "_steps"
  n_History__waters : NoAttr K a_History "_waters"
  c_B : Addr
  P_B : Addr
  bnd : Bnd K mg fd_bounds c_B P_B
  c_FlapError : Addr
  g_FlapError : mg "FlapError" = some (.ref c_FlapError)
  s_FlapError : PySem.W.subIn K (.ref c_FlapError) (.type "BaseException") = some true
  c_NoFloors : Addr
  i_NoFloors : Addr
  g_NoFloors : mg "NoFloors" = some (.ref c_NoFloors)
  xc_NoFloors : ExcC K c_NoFloors
  xf_NoFloors : XfC K c_NoFloors
  wh_NoFloors : PySem.W.findIn K (.ref c_NoFloors) "what" = some none
  me_NoFloors : PySem.W.mroIn K c_NoFloors (.ref c_NoFloors) = some true
  ve_NoFloors : PySem.W.subIn K (.ref c_NoFloors) (.type "ValueError") = some true
  n_FlapError_NoFloors : ClsN K c_NoFloors c_FlapError true
  c_NoRain : Addr
  i_NoRain : Addr
  g_NoRain : mg "NoRain" = some (.ref c_NoRain)
  xc_NoRain : ExcC K c_NoRain
  xf_NoRain : XfC K c_NoRain
  wh_NoRain : PySem.W.findIn K (.ref c_NoRain) "what" = some none
  me_NoRain : PySem.W.mroIn K c_NoRain (.ref c_NoRain) = some true
  ve_NoRain : PySem.W.subIn K (.ref c_NoRain) (.type "ValueError") = some true
  n_FlapError_NoRain : ClsN K c_NoRain c_FlapError true
  c_NoOrder : Addr
  i_NoOrder : Addr
  g_NoOrder : mg "NoOrder" = some (.ref c_NoOrder)
  xc_NoOrder : ExcC K c_NoOrder
  xf_NoOrder : XfC K c_NoOrder
  wh_NoOrder : PySem.W.findIn K (.ref c_NoOrder) "what" = some none
  me_NoOrder : PySem.W.mroIn K c_NoOrder (.ref c_NoOrder) = some true
  ve_NoOrder : PySem.W.subIn K (.ref c_NoOrder) (.type "ValueError") = some true
  n_FlapError_NoOrder : ClsN K c_NoOrder c_FlapError true
  c_NoDrop : Addr
  g_NoDrop : mg "NoDrop" = some (.ref c_NoDrop)
  c_NoFlap : Addr
  g_NoFlap : mg "NoFlap" = some (.ref c_NoFlap)
  c_NoRows : Addr
  g_NoRows : mg "NoRows" = some (.ref c_NoRows)
  c_NoStep : Addr
  g_NoStep : mg "NoStep" = some (.ref c_NoStep)
  c_NoTable : Addr
  g_NoTable : mg "NoTable" = some (.ref c_NoTable)
  c_NoTank : Addr
  g_NoTank : mg "NoTank" = some (.ref c_NoTank)
  c_NoText : Addr
  g_NoText : mg "NoText" = some (.ref c_NoText)
  c_NoWater : Addr
  g_NoWater : mg "NoWater" = some (.ref c_NoWater)
  n_NoDrop_NoFloors : ClsN K c_NoFloors c_NoDrop false
  n_NoDrop_NoRain : ClsN K c_NoRain c_NoDrop false
  n_NoDrop_NoOrder : ClsN K c_NoOrder c_NoDrop false
  n_NoFlap_NoFloors : ClsN K c_NoFloors c_NoFlap false
  n_NoFlap_NoRain : ClsN K c_NoRain c_NoFlap false
  n_NoFlap_NoOrder : ClsN K c_NoOrder c_NoFlap false
  n_NoRows_NoFloors : ClsN K c_NoFloors c_NoRows false
  n_NoRows_NoRain : ClsN K c_NoRain c_NoRows false
  n_NoRows_NoOrder : ClsN K c_NoOrder c_NoRows false
  n_NoStep_NoFloors : ClsN K c_NoFloors c_NoStep false
  n_NoStep_NoRain : ClsN K c_NoRain c_NoStep false
  n_NoStep_NoOrder : ClsN K c_NoOrder c_NoStep false
  n_NoTable_NoFloors : ClsN K c_NoFloors c_NoTable false
  n_NoTable_NoRain : ClsN K c_NoRain c_NoTable false
  n_NoTable_NoOrder : ClsN K c_NoOrder c_NoTable false
  n_NoTank_NoFloors : ClsN K c_NoFloors c_NoTank false
  n_NoTank_NoRain : ClsN K c_NoRain c_NoTank false
  n_NoTank_NoOrder : ClsN K c_NoOrder c_NoTank false
  n_NoText_NoFloors : ClsN K c_NoFloors c_NoText false
  n_NoText_NoRain : ClsN K c_NoRain c_NoText false
  n_NoText_NoOrder : ClsN K c_NoOrder c_NoText false
  n_NoWater_NoFloors : ClsN K c_NoFloors c_NoWater false
  n_NoWater_NoRain : ClsN K c_NoRain c_NoWater false
  n_NoWater_NoOrder : ClsN K c_NoOrder c_NoWater false
  n_NoFloors_NoRain : ClsN K c_NoRain c_NoFloors false
  n_NoFloors_NoOrder : ClsN K c_NoOrder c_NoFloors false
  n_NoRain_NoFloors : ClsN K c_NoFloors c_NoRain false
  n_NoRain_NoOrder : ClsN K c_NoOrder c_NoRain false
  n_NoOrder_NoFloors : ClsN K c_NoFloors c_NoOrder false
  n_NoOrder_NoRain : ClsN K c_NoRain c_NoOrder false
  z_ValueError : mg "ValueError" = none
  z_abs : mg "abs" = none
  z_enumerate : mg "enumerate" = none
  z_int : mg "int" = none
  z_isinstance : mg "isinstance" = none
  z_len : mg "len" = none
  z_list : mg "list" = none
  z_min : mg "min" = none
  z_range : mg "range" = none
  z_repr : mg "repr" = none
  z_sorted : mg "sorted" = none
  z_sum : mg "sum" = none
  z_zip : mg "zip" = none
  a_NOUGHT : Addr
  g_NOUGHT : mg "NOUGHT" = some (.ref a_NOUGHT)
  d_NOUGHT : ∀ W, Den K W (.tup [(.int 0), (.int 1)]) (.ref a_NOUGHT)
  g_gcd : mg "gcd" = some (.builtin "math.gcd")
section
variable {P : Program} {w : World} {K : PySem.W.Frag} {mg : Str → Option Value} {base : Heap}
theorem G_lowest_z (T : Txt K mg) : FnOk P w K mg base CX0 1 T.a_lowest T.fd_lowest ["top", "bottom"] (spF K mg 2 f_lowest_z) :=
  fn_dl (k := 0) T.F_lowest sc_lowest rfl fun cdv A outer s H E hr => ⟨_, (pss_cons (ps_set (i := 2) sc_lowest.nd rfl (by first | exact Or.inl rfl | exact Or.inr rfl) (pe_callBfun cr_gcd (by rfl) T.g_gcd (pa_cons (pv 0) (pa_cons (pv 1) pa_nil))))
    (pss_one (ps_ret (pe_tup (pa_cons (pe_op op_fdivW (pv 0) (pv 2)) (pa_cons (pe_op op_fdivW (pv 1) (pv 2)) pa_nil)))))),
    (rs_seq (rs_asg (re_CB rc_gcd (ra_cons re_var (ra_cons re_var ra_nil))) rg_name)
    (rs_ret (re_tup (ra_cons (re_op ro_fdiv re_var re_var) (ra_cons (re_op ro_fdiv re_var re_var) ra_nil)))))⟩
theorem G_plus_z (T : Txt K mg) : FnOk P w K mg base CX0 2 T.a_plus T.fd_plus ["one", "other"] (spF K mg 2 f_plus_z) :=
  fn_dl (k := 1) T.F_plus sc_plus rfl fun cdv A outer s H E hr => ⟨_, (pss_cons (ps_set (i := 2) sc_plus.nd rfl (by first | exact Or.inl rfl | exact Or.inr rfl) (pe_callBfun cr_gcd (by rfl) T.g_gcd (pa_cons (pe_ix ix_seq (pv 0) pe_int (fun _ _ => rfl)) (pa_cons (pe_ix ix_seq (pv 1) pe_int (fun _ _ => rfl)) pa_nil))))
    (pss_cons (ps_set (i := 3) sc_plus.nd rfl (by first | exact Or.inl rfl | exact Or.inr rfl) (pe_op op_fdivW (pe_ix ix_seq (pv 0) pe_int (fun _ _ => rfl)) (pv 2)))
    (pss_cons (ps_asg (pe_call (G_lowest_z T) (hr.mono (by first | decide | omega)) (by rfl) T.g_lowest T.F_lowest.kp T.b_lowest .nil pass0 (pa_cons (pe_op op_addG (pe_op op_mulW (pe_ix ix_seq (pv 0) pe_int (fun _ _ => rfl)) (pe_op op_fdivW (pe_ix ix_seq (pv 1) pe_int (fun _ _ => rfl)) (pv 2))) (pe_op op_mulW (pe_ix ix_seq (pv 1) pe_int (fun _ _ => rfl)) (pv 3))) (pa_cons (pv 2) pa_nil))) (pg_tup (by rfl) (pgs_cons (pg_name (i := 4) sc_plus.nd rfl (by first | exact Or.inl rfl | exact Or.inr rfl)) (pgs_cons (pg_name (i := 5) sc_plus.nd rfl (by first | exact Or.inl rfl | exact Or.inr rfl)) pgs_nil))))
    (pss_one (ps_ret (pe_tup (pa_cons (pv 4) (pa_cons (pe_op op_mulW (pe_op op_mulW (pv 5) (pv 3)) (pe_op op_fdivW (pe_ix ix_seq (pv 1) pe_int (fun _ _ => rfl)) (pv 2))) pa_nil)))))))),
    (rs_seq (rs_asg (re_CB rc_gcd (ra_cons (re_op ro_ix re_var re_int) (ra_cons (re_op ro_ix re_var re_int) ra_nil))) rg_name)
    (rs_seq (rs_asg (re_op ro_fdiv (re_op ro_ix re_var re_int) re_var) rg_name)
    (rs_seq (rs_asg (re_call0 (ra_cons (re_op (ro_add (m := false)) (re_op ro_mul (re_op ro_ix re_var re_int) (re_op ro_fdiv (re_op ro_ix re_var re_int) re_var)) (re_op ro_mul (re_op ro_ix re_var re_int) re_var)) (ra_cons re_var ra_nil))) (rg_tup (rgs_cons rg_name (rgs_cons rg_name rgs_nil))))
    (rs_ret (re_tup (ra_cons re_var (ra_cons (re_op ro_mul (re_op ro_mul re_var re_var) (re_op ro_fdiv (re_op ro_ix re_var re_int) re_var)) ra_nil)))))))⟩
theorem G_sums_z (T : Txt K mg) : FnOk P w K mg base CX0 3 T.a_sums T.fd_sums ["amounts"] (spF K mg 1 f_sums_z) :=
  fn_dl (k := 2) T.F_sums sc_sums rfl fun cdv A outer s H E hr => ⟨_, (pss_cons (ps_set (i := 1) sc_sums.nd rfl (by first | exact Or.inl rfl | exact Or.inr rfl) (pe_lst (pa_cons (pe_glob (v := .ref T.a_NOUGHT) (by rfl) T.g_NOUGHT rfl) pa_nil)))
    (pss_cons (ps_for PassesOwn.never rfl (pi_list (pv 0)) (pg_name (i := 2) sc_sums.nd rfl (by first | exact Or.inl rfl | exact Or.inr rfl))
    (pss_one (ps_expr (pe_bm PySem.F.plainAttrs_list PySem.F.slot_list_append PySem.F.type_list_append mt_append (pv 1) (pa_cons (pe_call (G_plus_z T) (hr.mono (by first | decide | omega)) (by rfl) T.g_plus T.F_plus.kp T.b_plus .nil pass0 (pa_cons (pe_ix ix_seq (pv 1) (pe_un un_neg pe_int) (fun _ _ => rfl)) (pa_cons (pv 2) pa_nil))) pa_nil)))))
    (pss_one (ps_ret (pv 1))))),
    (rs_seq (rs_asg (re_lst (m := true) (ra_cons (re_c T.d_NOUGHT) ra_nil)) rg_name)
    (rs_seq (rs_for (ri_list re_var) rg_name
    (rs_drop (re_BM rm_append re_var (ra_cons (re_call0 (ra_cons (re_op ro_ix re_var (re_un ru_neg re_int)) (ra_cons re_var ra_nil))) ra_nil))))
    (rs_ret re_var)))⟩
theorem G_above_z (T : Txt K mg) : FnOk P w K mg base CX0 1 T.a_above T.fd_above ["one", "other"] (spF K mg 2 f_above_z) :=
  fn_dl (k := 0) T.F_above sc_above rfl fun cdv A outer s H E hr => ⟨_, (pss_one (ps_ret (pe_cmpR op_gt (pe_op op_mulW (pe_ix ix_seq (pv 0) pe_int (fun _ _ => rfl)) (pe_ix ix_seq (pv 1) pe_int (fun _ _ => rfl))) (pe_op op_mulW (pe_ix ix_seq (pv 1) pe_int (fun _ _ => rfl)) (pe_ix ix_seq (pv 0) pe_int (fun _ _ => rfl))) (nomark _)))),
    (rs_ret (re_op ro_gt (re_op ro_mul (re_op ro_ix re_var re_int) (re_op ro_ix re_var re_int)) (re_op ro_mul (re_op ro_ix re_var re_int) (re_op ro_ix re_var re_int))))⟩
theorem G_check_water_z (T : Txt K mg) : FnOk P w K mg base CX0 2 T.a_check_water T.fd_check_water ["floors", "water"] (spF K mg 2 f_check_water_z) :=
  fn_dl (k := 1) T.F_check_water sc_check_water rfl fun cdv A outer s H E hr => ⟨_, (pss_cons (ps_if (pt_cmpR (op_neD hr.units) (pe_callB cr_len (by rfl) T.z_len (by decide +kernel) (pa_cons (pv 1) pa_nil)) (pe_callB cr_len (by rfl) T.z_len (by decide +kernel) (pa_cons (pv 0) pa_nil)) (nomark _))
    (pss_one ps_never) pss_nil)
    (pss_one (ps_for PassesOwn.never rfl (pi_enum (by rfl) T.z_enumerate (pa_cons (pv 1) pa_nil)) (pg_tup (by rfl) (pgs_cons (pg_name (i := 2) sc_check_water.nd rfl (by first | exact Or.inl rfl | exact Or.inr rfl)) (pgs_cons (pg_name (i := 3) sc_check_water.nd rfl (by first | exact Or.inl rfl | exact Or.inr rfl)) pgs_nil)))
    (pss_one (ps_if (pt_val (pe_call (G_above_z T) (hr.mono (by first | decide | omega)) (by rfl) T.g_above T.F_above.kp T.b_above .nil pass0 (pa_cons (pe_glob (v := .ref T.a_NOUGHT) (by rfl) T.g_NOUGHT rfl) (pa_cons (pv 3) pa_nil))))
    (pss_one ps_never) pss_nil))))),
    (rs_seq (rs_if (rt_test (re_op ro_ne (re_CB rc_len (ra_cons re_var ra_nil)) (re_CB rc_len (ra_cons re_var ra_nil))))
    rs_never rs_next)
    (rs_for (ri_enum (ra_cons re_var ra_nil)) (rg_tup (rgs_cons rg_name (rgs_cons rg_name rgs_nil)))
    (rs_if (rt_B (re_call0 (ra_cons (re_c T.d_NOUGHT) (ra_cons re_var ra_nil))))
    rs_never rs_next)))⟩
theorem G_check_floors_z (T : Txt K mg) : FnOk P w K mg base CX0 1 T.a_check_floors T.fd_check_floors ["floors"] (spF K mg 1 f_check_floors_z) :=
  fn_dl (k := 0) T.F_check_floors sc_check_floors rfl fun cdv A outer s H E hr => ⟨_, (pss_cons (ps_if (pt_cmpR (op_eqD hr.units) (pe_callB cr_len (by rfl) T.z_len (by decide +kernel) (pa_cons (pv 0) pa_nil)) pe_int (nomark _))
    (pss_one ps_never) pss_nil)
    (pss_one (ps_for PassesOwn.never rfl (pi_enum (by rfl) T.z_enumerate (pa_cons (pv 0) pa_nil)) (pg_tup (by rfl) (pgs_cons (pg_name (i := 1) sc_check_floors.nd rfl (by first | exact Or.inl rfl | exact Or.inr rfl)) (pgs_cons (pg_name (i := 2) sc_check_floors.nd rfl (by first | exact Or.inl rfl | exact Or.inr rfl)) pgs_nil)))
    (pss_one (ps_if (pt_cmpR op_lt (pv 2) pe_int (nomark _))
    (pss_one ps_never) pss_nil))))),
    (rs_seq (rs_if (rt_test (re_op ro_eq (re_CB rc_len (ra_cons re_var ra_nil)) re_int))
    rs_never rs_next)
    (rs_for (ri_enum (ra_cons re_var ra_nil)) (rg_tup (rgs_cons rg_name (rgs_cons rg_name rgs_nil)))
    (rs_if (rt_test (re_op ro_lt re_var re_int))
    rs_never rs_next)))⟩
theorem G_heaped_z (T : Txt K mg) : FnOk P w K mg base CX0 4 T.a_heaped T.fd_heaped ["floors", "water"] (spF K mg 2 f_heaped_z) :=
  fn_dl (k := 3) T.F_heaped sc_heaped rfl fun cdv A outer s H E hr => ⟨_, (pss_cons (ps_expr (pe_call (G_check_floors_z T) (hr.mono (by first | decide | omega)) (by rfl) T.g_check_floors T.F_check_floors.kp T.b_check_floors .nil pass0 (pa_cons (pv 0) pa_nil)))
    (pss_cons (ps_expr (pe_call (G_check_water_z T) (hr.mono (by first | decide | omega)) (by rfl) T.g_check_water T.F_check_water.kp T.b_check_water .nil pass0 (pa_cons (pv 0) (pa_cons (pv 1) pa_nil))))
    (pss_one (ps_ret (pe_call (G_sums_z T) (hr.mono (by first | decide | omega)) (by rfl) T.g_sums T.F_sums.kp T.b_sums .nil pass0 (pa_cons (pv 1) pa_nil)))))),
    (rs_seq (rs_drop (re_call0 (ra_cons re_var ra_nil)))
    (rs_seq (rs_drop (re_call0 (ra_cons re_var (ra_cons re_var ra_nil))))
    (rs_ret (re_call0 (ra_cons re_var ra_nil)))))⟩
theorem G_History_water_z (T : Txt K mg) : FnOk P w K mg base CX0 1 T.a_History_water T.fd_History_water ["self", "number"] (spF K mg 2 f_History_water_z) :=
  fn_dlD (k := 0) T.F_History_water sc_History_water rfl fun cdv A outer s H E hr => ⟨_, (pss_cons (ps_if (pt_cmp (pc_isN (pv 1)))
    (pss_one (ps_ret (pe_callTy cr_listOf (by rfl) T.z_list (by decide +kernel) (pa_cons (pe_ix ix_seq (pe_fld (pv 0) rfl) (pe_un un_neg pe_int) (fun _ _ => rfl)) pa_nil)))) pss_nil)
    (pss_cons (ps_if (pt_cmpR op_notInRg (pv 1) (pe_callTy cr_rg1 (by rfl) T.z_range (by decide +kernel) (pa_cons (pe_callB cr_len (by rfl) T.z_len (by decide +kernel) (pa_cons (pe_fld (pv 0) rfl) pa_nil)) pa_nil)) (by rfl))
    (pss_one ps_never) pss_nil)
    (pss_one (ps_ret (pe_callTy cr_listOf (by rfl) T.z_list (by decide +kernel) (pa_cons (pe_ix ix_seq (pe_fld (pv 0) rfl) (pv 1) (fun _ _ => rfl)) pa_nil)))))),
    (rs_seq (rs_if (rt_B (re_isN re_var))
    (rs_ret (re_CB (rc_list (m := false)) (ra_cons (re_op ro_ix (re_fld T.g_History T.cl_History T.n_History__waters re_var) (re_un ru_neg re_int)) ra_nil))) rs_next)
    (rs_seq (rs_if (rt_test (re_inRg1 (neg := true) re_var (ra_cons (re_CB rc_len (ra_cons (re_fld T.g_History T.cl_History T.n_History__waters re_var) ra_nil)) ra_nil)))
    rs_never rs_next)
    (rs_ret (re_CB (rc_list (m := false)) (ra_cons (re_op ro_ix (re_fld T.g_History T.cl_History T.n_History__waters re_var) re_var) ra_nil)))))⟩
theorem G_stretches_z (T : Txt K mg) : FnOk P w K mg base CX0 1 T.a_stretches T.fd_stretches ["floors", "bolted"] (spF K mg 2 f_stretches_z) :=
  fn_dl (k := 0) T.F_stretches sc_stretches rfl fun cdv A outer s H E hr => ⟨_, (pss_cons (ps_set (i := 2) sc_stretches.nd rfl (by first | exact Or.inl rfl | exact Or.inr rfl) (pe_op op_addG (pe_op op_addG (pe_lst (pa_cons pe_int pa_nil)) (pe_callB cr_sortB (by rfl) T.z_sorted (by decide +kernel) (pa_cons (pv 1) pa_nil))) (pe_lst (pa_cons (pe_callB cr_len (by rfl) T.z_len (by decide +kernel) (pa_cons (pv 0) pa_nil)) pa_nil))))
    (pss_one (ps_ret (DLZ.pe_listZip rfl (by rfl) T.z_list (by rfl) T.z_zip (pa_cons (pv 2) (pa_cons (pe_slice sl_list (pv 2) (po_some pe_int) po_none) pa_nil)))))),
    (rs_seq (rs_asg (re_op (ro_add (m := false)) (re_op (ro_add (m := false)) (re_lst (m := false) (ra_cons re_int ra_nil)) (re_CB (rc_sortB (m := false)) (ra_cons re_var ra_nil))) (re_lst (m := false) (ra_cons (re_CB rc_len (ra_cons re_var ra_nil)) ra_nil))) rg_name)
    (rs_ret (re_lz (m := false) (ra_cons re_var (ra_cons (re_slL (m := false) re_var (ro_some re_int) ro_none) ra_nil)))))⟩
theorem G_share_z (T : Txt K mg) : FnOk P w K mg base CX0 2 T.a_share T.fd_share ["amount", "part", "whole"] (spF K mg 3 f_share_z) :=
  fn_dl (k := 1) T.F_share sc_share rfl fun cdv A outer s H E hr => ⟨_, (pss_cons (ps_asg (pe_call (G_lowest_z T) (hr.mono (by first | decide | omega)) (by rfl) T.g_lowest T.F_lowest.kp T.b_lowest .nil pass0 (pa_cons (pv 1) (pa_cons (pv 2) pa_nil))) (pg_tup (by rfl) (pgs_cons (pg_name (i := 1) sc_share.nd rfl (by first | exact Or.inl rfl | exact Or.inr rfl)) (pgs_cons (pg_name (i := 2) sc_share.nd rfl (by first | exact Or.inl rfl | exact Or.inr rfl)) pgs_nil))))
    (pss_cons (ps_asg (pe_call (G_lowest_z T) (hr.mono (by first | decide | omega)) (by rfl) T.g_lowest T.F_lowest.kp T.b_lowest .nil pass0 (pa_cons (pe_ix ix_seq (pv 0) pe_int (fun _ _ => rfl)) (pa_cons (pv 2) pa_nil))) (pg_tup (by rfl) (pgs_cons (pg_name (i := 3) sc_share.nd rfl (by first | exact Or.inl rfl | exact Or.inr rfl)) (pgs_cons (pg_name (i := 2) sc_share.nd rfl (by first | exact Or.inl rfl | exact Or.inr rfl)) pgs_nil))))
    (pss_cons (ps_asg (pe_call (G_lowest_z T) (hr.mono (by first | decide | omega)) (by rfl) T.g_lowest T.F_lowest.kp T.b_lowest .nil pass0 (pa_cons (pv 1) (pa_cons (pe_ix ix_seq (pv 0) pe_int (fun _ _ => rfl)) pa_nil))) (pg_tup (by rfl) (pgs_cons (pg_name (i := 1) sc_share.nd rfl (by first | exact Or.inl rfl | exact Or.inr rfl)) (pgs_cons (pg_name (i := 4) sc_share.nd rfl (by first | exact Or.inl rfl | exact Or.inr rfl)) pgs_nil))))
    (pss_one (ps_ret (pe_tup (pa_cons (pe_op op_mulW (pv 3) (pv 1)) (pa_cons (pe_op op_mulW (pv 4) (pv 2)) pa_nil)))))))),
    (rs_seq (rs_asg (re_call0 (ra_cons re_var (ra_cons re_var ra_nil))) (rg_tup (rgs_cons rg_name (rgs_cons rg_name rgs_nil))))
    (rs_seq (rs_asg (re_call0 (ra_cons (re_op ro_ix re_var re_int) (ra_cons re_var ra_nil))) (rg_tup (rgs_cons rg_name (rgs_cons rg_name rgs_nil))))
    (rs_seq (rs_asg (re_call0 (ra_cons re_var (ra_cons (re_op ro_ix re_var re_int) ra_nil))) (rg_tup (rgs_cons rg_name (rgs_cons rg_name rgs_nil))))
    (rs_ret (re_tup (ra_cons (re_op ro_mul re_var re_var) (ra_cons (re_op ro_mul re_var re_var) ra_nil)))))))⟩
theorem G_pool_height_z (T : Txt K mg) : FnOk P w K mg base CX0 3 T.a_pool_height T.fd_pool_height ["pool"] (spF K mg 1 f_pool_height_z) :=
  fn_dl (k := 2) T.F_pool_height sc_pool_height rfl fun cdv A outer s H E hr => ⟨_, (pss_cons (ps_asg (pv 0) (pg_tup (by rfl) (pgs_cons (pg_name (i := 1) sc_pool_height.nd rfl (by first | exact Or.inl rfl | exact Or.inr rfl)) (pgs_cons (pg_name (i := 2) sc_pool_height.nd rfl (by first | exact Or.inl rfl | exact Or.inr rfl)) pgs_nil))))
    (pss_one (ps_ret (pe_call (G_share_z T) (hr.mono (by first | decide | omega)) (by rfl) T.g_share T.F_share.kp T.b_share .nil pass0 (pa_cons (pv 2) (pa_cons pe_int (pa_cons (pe_callB (cr_sum rfl) (by rfl) T.z_sum (by decide +kernel) (pa_cons (pv 1) pa_nil)) pa_nil))))))),
    (rs_seq (rs_asg re_var (rg_tup (rgs_cons rg_name (rgs_cons rg_name rgs_nil))))
    (rs_ret (re_call0 (ra_cons re_var (ra_cons re_int (ra_cons (re_CB rc_sum (ra_cons re_var ra_nil)) ra_nil))))))⟩
theorem G_pooled_z (T : Txt K mg) : FnOk P w K mg base CX0 4 T.a_pooled T.fd_pooled ["floors", "water"] (spF K mg 2 f_pooled_z) :=
  fn_dl (k := 3) T.F_pooled sc_pooled rfl fun cdv A outer s H E hr => ⟨_, (pss_cons (ps_set (i := 2) sc_pooled.nd rfl (by first | exact Or.inl rfl | exact Or.inr rfl) (pe_lst pa_nil))
    (pss_cons (ps_for PassesOwn.never rfl (pi_zip (by rfl) T.z_zip (pa_cons (pv 0) (pa_cons (pv 1) pa_nil))) (pg_tup (by rfl) (pgs_cons (pg_name (i := 3) sc_pooled.nd rfl (by first | exact Or.inl rfl | exact Or.inr rfl)) (pgs_cons (pg_name (i := 4) sc_pooled.nd rfl (by first | exact Or.inl rfl | exact Or.inr rfl)) pgs_nil)))
    (pss_cons (ps_set (i := 5) sc_pooled.nd rfl (by first | exact Or.inl rfl | exact Or.inr rfl) (pe_tup (pa_cons (pe_lst (pa_cons (pv 3) pa_nil)) (pa_cons (pv 4) pa_nil))))
    (pss_cons (ps_while PassesOwn.never (PW.pt (pw_and (pt_truth (pv 2) (by intro _; rfl)) (pw_and1 (pt_val (pe_call (G_above_z T) (hr.mono (by first | decide | omega)) (by rfl) T.g_above T.F_above.kp T.b_above .nil pass0 (pa_cons (pe_call (G_pool_height_z T) (hr.mono (by first | decide | omega)) (by rfl) T.g_pool_height T.F_pool_height.kp T.b_pool_height .nil pass0 (pa_cons (pe_ix ix_seq (pv 2) (pe_un un_neg pe_int) (fun _ _ => rfl)) pa_nil)) (pa_cons (pe_call (G_pool_height_z T) (hr.mono (by first | decide | omega)) (by rfl) T.g_pool_height T.F_pool_height.kp T.b_pool_height .nil pass0 (pa_cons (pv 5) pa_nil)) pa_nil)))))))
    (pss_cons (ps_asg (pe_bm0 PySem.F.plainAttrs_list PySem.F.slot_list_pop PySem.F.type_list_pop mt_pop (pv 2)) (pg_tup (by rfl) (pgs_cons (pg_name (i := 6) sc_pooled.nd rfl (by first | exact Or.inl rfl | exact Or.inr rfl)) (pgs_cons (pg_name (i := 7) sc_pooled.nd rfl (by first | exact Or.inl rfl | exact Or.inr rfl)) pgs_nil))))
    (pss_one (ps_set (i := 5) sc_pooled.nd rfl (by first | exact Or.inl rfl | exact Or.inr rfl) (pe_tup (pa_cons (pe_op op_addG (pv 6) (pe_ix ix_seq (pv 5) pe_int (fun _ _ => rfl))) (pa_cons (pe_call (G_plus_z T) (hr.mono (by first | decide | omega)) (by rfl) T.g_plus T.F_plus.kp T.b_plus .nil pass0 (pa_cons (pv 7) (pa_cons (pe_ix ix_seq (pv 5) pe_int (fun _ _ => rfl)) pa_nil))) pa_nil)))))))
    (pss_one (ps_expr (pe_bm PySem.F.plainAttrs_list PySem.F.slot_list_append PySem.F.type_list_append mt_append (pv 2) (pa_cons (pv 5) pa_nil)))))))
    (pss_one (ps_ret (pv 2))))),
    (rs_seq (rs_asg (re_lst (m := true) ra_nil) rg_name)
    (rs_seq (rs_for (ri_zip (ra_cons re_var (ra_cons re_var ra_nil))) (rg_tup (rgs_cons rg_name (rgs_cons rg_name rgs_nil)))
    (rs_seq (rs_asg (re_tup (ra_cons (re_lst (m := false) (ra_cons re_var ra_nil)) (ra_cons re_var ra_nil))) rg_name)
    (rs_seq (rs_while (rt_and (rt_tru re_var) (rt_B (re_call0 (ra_cons (re_call0 (ra_cons (re_op ro_ix re_var (re_un ru_neg re_int)) ra_nil)) (ra_cons (re_call0 (ra_cons re_var ra_nil)) ra_nil)))))
    (rs_seq (rs_asg (re_BM0 rm_pop re_var) (rg_tup (rgs_cons rg_name (rgs_cons rg_name rgs_nil))))
    (rs_asg (re_tup (ra_cons (re_op (ro_add (m := false)) re_var (re_op ro_ix re_var re_int)) (ra_cons (re_call0 (ra_cons re_var (ra_cons (re_op ro_ix re_var re_int) ra_nil))) ra_nil))) rg_name)))
    (rs_drop (re_BM rm_append re_var (ra_cons re_var ra_nil))))))
    (rs_ret re_var)))⟩
theorem G_at_rest_z (T : Txt K mg) : FnOk P w K mg base CX0 5 T.a_at_rest T.fd_at_rest ["floors", "water", "bolted"] (spF K mg 3 f_at_rest_z) :=
  fn_dl (k := 4) T.F_at_rest sc_at_rest rfl fun cdv A outer s H E hr => ⟨_, (pss_cons (ps_set (i := 3) sc_at_rest.nd rfl (by first | exact Or.inl rfl | exact Or.inr rfl) (pe_lst pa_nil))
    (pss_cons (ps_for PassesOwn.never rfl (pi_list (pe_call (G_stretches_z T) (hr.mono (by first | decide | omega)) (by rfl) T.g_stretches T.F_stretches.kp T.b_stretches .nil pass0 (pa_cons (pv 0) (pa_cons (pv 2) pa_nil)))) (pg_tup (by rfl) (pgs_cons (pg_name (i := 4) sc_at_rest.nd rfl (by first | exact Or.inl rfl | exact Or.inr rfl)) (pgs_cons (pg_name (i := 5) sc_at_rest.nd rfl (by first | exact Or.inl rfl | exact Or.inr rfl)) pgs_nil)))
    (pss_one (ps_for PassesOwn.never rfl (pi_list (pe_call (G_pooled_z T) (hr.mono (by first | decide | omega)) (by rfl) T.g_pooled T.F_pooled.kp T.b_pooled .nil pass0 (pa_cons (pe_slice sl_list (pv 0) (po_some (pv 4)) (po_some (pv 5))) (pa_cons (pe_slice sl_list (pv 1) (po_some (pv 4)) (po_some (pv 5))) pa_nil)))) (pg_tup (by rfl) (pgs_cons (pg_name (i := 6) sc_at_rest.nd rfl (by first | exact Or.inl rfl | exact Or.inr rfl)) (pgs_cons (pg_name (i := 7) sc_at_rest.nd rfl (by first | exact Or.inl rfl | exact Or.inr rfl)) pgs_nil)))
    (pss_cons (ps_set (i := 8) sc_at_rest.nd rfl (by first | exact Or.inl rfl | exact Or.inr rfl) (pe_callB (cr_sum rfl) (by rfl) T.z_sum (by decide +kernel) (pa_cons (pv 6) pa_nil)))
    (pss_one (ps_expr (pe_bm PySem.F.plainAttrs_list PySem.F.slot_list_extend PySem.F.type_list_extend mt_extend (pv 3) (pa_cons (pe_lc (own := [("floor", 9)]) (by rfl) sc_at_rest.nd (pi_list (pv 6)) (blkOk_by (own := [("floor", 9)]) (N := ns_at_rest) (sc := defScope s_at_rest) (by decide +kernel)) (fun _ _ _ _ _ => (pg_name (i := 9) sc_at_rest.nd rfl (by first | exact Or.inl rfl | exact Or.inr rfl))) (fun _ _ _ _ _ => pts_nil) (fun _ _ _ _ _ => (pe_call (G_share_z T) (hr.mono (by first | decide | omega)) (by rfl) T.g_share T.F_share.kp T.b_share .nil pass0 (pa_cons (pv 7) (pa_cons (pv 9) (pa_cons (pv 8) pa_nil)))))) pa_nil))))))))
    (pss_one (ps_ret (pv 3))))),
    (rs_seq (rs_asg (re_lst (m := true) ra_nil) rg_name)
    (rs_seq (rs_for (ri_list (re_call0 (ra_cons re_var (ra_cons re_var ra_nil)))) (rg_tup (rgs_cons rg_name (rgs_cons rg_name rgs_nil)))
    (rs_for (ri_list (re_call0 (ra_cons (re_slL (m := false) re_var (ro_some re_var) (ro_some re_var)) (ra_cons (re_slL (m := false) re_var (ro_some re_var) (ro_some re_var)) ra_nil)))) (rg_tup (rgs_cons rg_name (rgs_cons rg_name rgs_nil)))
    (rs_seq (rs_asg (re_CB rc_sum (ra_cons re_var ra_nil)) rg_name)
    (rs_drop (re_BM rm_extend re_var (ra_cons (re_lc (m := false) (vs := [9]) (ri_list re_var) (rgv_name (by decide)) rt_yes (re_call0 (ra_cons re_var (ra_cons re_var (ra_cons re_var ra_nil))))) ra_nil))))))
    (rs_ret re_var)))⟩
theorem G_check_bolted_z (T : Txt K mg) : FnOk P w K mg base CX0 1 T.a_check_bolted T.fd_check_bolted ["floors", "bolted"] (spF K mg 2 f_check_bolted_z) :=
  fn_dl (k := 0) T.F_check_bolted sc_check_bolted rfl fun cdv A outer s H E hr => ⟨_, (pss_one (ps_for PassesOwn.never rfl (pi_enumB (by rfl) T.z_enumerate (pa_cons (pv 1) pa_nil)) (pg_tup (by rfl) (pgs_cons (pg_name (i := 2) sc_check_bolted.nd rfl (by first | exact Or.inl rfl | exact Or.inr rfl)) (pgs_cons (pg_name (i := 3) sc_check_bolted.nd rfl (by first | exact Or.inl rfl | exact Or.inr rfl)) pgs_nil)))
    (pss_one (ps_if (PW.pt (pw_or (pt_cmpR op_notInRg (pv 3) (pe_callTy cr_rg2 (by rfl) T.z_range (by decide +kernel) (pa_cons pe_int (pa_cons (pe_callB cr_len (by rfl) T.z_len (by decide +kernel) (pa_cons (pv 0) pa_nil)) pa_nil))) (by rfl)) (pw_or1 (pt_cmpR op_in_seq (pv 3) (pe_slice sl_list (pv 1) po_none (po_some (pv 2))) (by rfl)))))
    (pss_one ps_never) pss_nil)))),
    (rs_for (ri_enumB (ra_cons re_var ra_nil)) (rg_tup (rgs_cons rg_name (rgs_cons rg_name rgs_nil)))
    (rs_if (rt_or (rt_test (re_inRg (neg := true) re_var (ra_cons re_int (ra_cons (re_CB rc_len (ra_cons re_var ra_nil)) ra_nil)))) (rt_test (re_op (ro_in (neg := false)) re_var (re_slL (m := false) re_var ro_none (ro_some re_var)))))
    rs_never rs_next))⟩
theorem G_settled_z (T : Txt K mg) : FnOk P w K mg base CX0 6 T.a_settled T.fd_settled ["floors", "water", "bolted"] (spF K mg 3 f_settled_z) :=
  fn_dlD (k := 5) T.F_settled sc_settled rfl fun cdv A outer s H E hr => ⟨_, (pss_cons (ps_expr (pe_call (G_check_floors_z T) (hr.mono (by first | decide | omega)) (by rfl) T.g_check_floors T.F_check_floors.kp T.b_check_floors .nil pass0 (pa_cons (pv 0) pa_nil)))
    (pss_cons (ps_expr (pe_call (G_check_water_z T) (hr.mono (by first | decide | omega)) (by rfl) T.g_check_water T.F_check_water.kp T.b_check_water .nil pass0 (pa_cons (pv 0) (pa_cons (pv 1) pa_nil))))
    (pss_cons (ps_expr (pe_call (G_check_bolted_z T) (hr.mono (by first | decide | omega)) (by rfl) T.g_check_bolted T.F_check_bolted.kp T.b_check_bolted .nil pass0 (pa_cons (pv 0) (pa_cons (pv 2) pa_nil))))
    (pss_one (ps_ret (pe_call (G_at_rest_z T) (hr.mono (by first | decide | omega)) (by rfl) T.g_at_rest T.F_at_rest.kp T.b_at_rest .nil pass0 (pa_cons (pv 0) (pa_cons (pv 1) (pa_cons (pv 2) pa_nil))))))))),
    (rs_seq (rs_drop (re_call0 (ra_cons re_var ra_nil)))
    (rs_seq (rs_drop (re_call0 (ra_cons re_var (ra_cons re_var ra_nil))))
    (rs_seq (rs_drop (re_call0 (ra_cons re_var (ra_cons re_var ra_nil))))
    (rs_ret (re_call0 (ra_cons re_var (ra_cons re_var (ra_cons re_var ra_nil))))))))⟩
theorem G_History_step_z (T : Txt K mg) : FnOk P w K mg base CX0 7 T.a_History_step T.fd_History_step ["self", "bolted", "rain"] (spF K mg 3 f_History_step_z) :=
  fn_dl (k := 6) T.F_History_step sc_History_step rfl fun cdv A outer s H E hr => ⟨_, (pss_cons (ps_expr (pe_call (G_check_bolted_z T) (hr.mono (by first | decide | omega)) (by rfl) T.g_check_bolted T.F_check_bolted.kp T.b_check_bolted .nil pass0 (pa_cons (pe_fld (pv 0) rfl) (pa_cons (pv 1) pa_nil))))
    (pss_cons (ps_expr (pe_call (G_check_water_z T) (hr.mono (by first | decide | omega)) (by rfl) T.g_check_water T.F_check_water.kp T.b_check_water .nil pass0 (pa_cons (pe_fld (pv 0) rfl) (pa_cons (pv 2) pa_nil))))
    (pss_cons (ps_setLc (i := 3) (own := [("amount", 4), ("more", 5)]) (by rfl) sc_History_step.nd (by rfl) (by rfl) (sw_true rfl rfl rfl (by decide +kernel)) (pi_zip (by rfl) T.z_zip (pa_cons (pe_ix ix_seq (pe_fld (pv 0) rfl) (pe_un un_neg pe_int) (fun _ _ => rfl)) (pa_cons (pv 2) pa_nil))) (blkOk_by (own := [("amount", 4), ("more", 5)]) (N := ns_History_step) (sc := defScope s_History_step) (by decide +kernel)) (fun _ _ _ _ _ => (pg_tup (by rfl) (pgs_cons (pg_name (i := 4) sc_History_step.nd rfl (by first | exact Or.inl rfl | exact Or.inr rfl)) (pgs_cons (pg_name (i := 5) sc_History_step.nd rfl (by first | exact Or.inl rfl | exact Or.inr rfl)) pgs_nil)))) (fun _ _ _ _ _ => pts_nil) (fun _ _ _ _ _ => (pe_call (G_plus_z T) (hr.mono (by first | decide | omega)) (by rfl) T.g_plus T.F_plus.kp T.b_plus .nil pass0 (pa_cons (pv 4) (pa_cons (pv 5) pa_nil)))))
    (pss_cons (ps_expr (pe_bm PySem.F.plainAttrs_list PySem.F.slot_list_append PySem.F.type_list_append mt_append (pe_fld (pv 0) rfl) (pa_cons (pe_call (G_settled_z T) (hr.mono (by first | decide | omega)) (by rfl) T.g_settled T.F_settled.kp T.b_settled .nil pass0 (pa_cons (pe_fld (pv 0) rfl) (pa_cons (pv 3) (pa_cons (pv 1) pa_nil)))) pa_nil)))
    (pss_one (ps_expr (pe_bm PySem.F.plainAttrs_list PySem.F.slot_list_append PySem.F.type_list_append mt_append (pe_fld (pv 0) rfl) (pa_cons (pe_tup (pa_cons (pe_callB cr_sortB (by rfl) T.z_sorted (by decide +kernel) (pa_cons (pv 1) pa_nil)) (pa_cons (pe_callTy cr_listOf (by rfl) T.z_list (by decide +kernel) (pa_cons (pv 2) pa_nil)) pa_nil))) pa_nil)))))))),
    (rs_seq (rs_drop (re_call0 (ra_cons (re_fld T.g_History T.cl_History T.n_History__floors re_var) (ra_cons re_var ra_nil))))
    (rs_seq (rs_drop (re_call0 (ra_cons (re_fld T.g_History T.cl_History T.n_History__floors re_var) (ra_cons re_var ra_nil))))
    (rs_seq (rs_asg (re_lc (m := false) (vs := [4, 5]) (ri_zip (ra_cons (re_op ro_ix (re_fld T.g_History T.cl_History T.n_History__waters re_var) (re_un ru_neg re_int)) (ra_cons re_var ra_nil))) (rgv_tup (rgsv_cons (rgv_name (by decide)) (rgsv_cons (rgv_name (by decide)) rgsv_nil))) rt_yes (re_call0 (ra_cons re_var (ra_cons re_var ra_nil)))) rg_name)
    (rs_seq (rs_drop (re_BM rm_append (re_fld T.g_History T.cl_History T.n_History__waters re_var) (ra_cons (re_call0 (ra_cons (re_fld T.g_History T.cl_History T.n_History__floors re_var) (ra_cons re_var (ra_cons re_var ra_nil)))) ra_nil)))
    (rs_drop (re_BM rm_append (re_fld T.g_History T.cl_History T.n_History__steps re_var) (ra_cons (re_tup (ra_cons (re_CB (rc_sortB (m := false)) (ra_cons re_var ra_nil)) (ra_cons (re_CB (rc_list (m := false)) (ra_cons re_var ra_nil)) ra_nil))) ra_nil)))))))⟩
theorem G_History_init_r (T : Txt K mg) : FnOk P w K mg base CX0 3 T.a_History_init T.fd_History_init ["self", "floors", "water"] (spF K mg 3 f_History_init_r) :=
  fn_dlD (k := 2) T.F_History_init sc_History_init rfl fun cdv A outer s H E hr => ⟨_, (pss_cons (ps_expr (pe_call (G_check_floors_z T) (hr.mono (by first | decide | omega)) (by rfl) T.g_check_floors T.F_check_floors.kp T.b_check_floors .nil pass0 (pa_cons (pv 1) pa_nil)))
    (pss_cons (ps_set (i := 3) sc_History_init.nd rfl (by first | exact Or.inl rfl | exact Or.inr rfl) (pe_ifExp (pt_cmp (pc_isN (pv 2))) (pe_op op_rep (pe_lst (pa_cons (pe_glob (v := .ref T.a_NOUGHT) (by rfl) T.g_NOUGHT rfl) pa_nil)) (pe_callB cr_len (by rfl) T.z_len (by decide +kernel) (pa_cons (pv 1) pa_nil))) (pe_callTy cr_listOf (by rfl) T.z_list (by decide +kernel) (pa_cons (pv 2) pa_nil))))
    (pss_cons (ps_expr (pe_call (G_check_water_z T) (hr.mono (by first | decide | omega)) (by rfl) T.g_check_water T.F_check_water.kp T.b_check_water .nil pass0 (pa_cons (pv 1) (pa_cons (pv 3) pa_nil))))
    (pss_cons (ps_fld (pv 0) (pe_callTy cr_listOf (by rfl) T.z_list (by decide +kernel) (pa_cons (pv 1) pa_nil)) rfl)
    (pss_cons (ps_fld (pv 0) (pe_lst pa_nil) rfl)
    (pss_one (ps_fld (pv 0) (pe_lst (pa_cons (pv 3) pa_nil)) rfl))))))),
    (rs_seq (rs_drop (re_call0 (ra_cons re_var ra_nil)))
    (rs_seq (rs_asg (re_if (rt_B (re_isN re_var)) (re_op (ro_rep (m := false)) (re_lst (m := false) (ra_cons (re_c T.d_NOUGHT) ra_nil)) (re_CB rc_len (ra_cons re_var ra_nil))) (re_CB (rc_list (m := false)) (ra_cons re_var ra_nil))) rg_name)
    (rs_seq (rs_drop (re_call0 (ra_cons re_var (ra_cons re_var ra_nil))))
    (rs_seq (rs_fld T.g_History T.cl_History T.n_History__floors re_var (re_CB (rc_list (m := false)) (ra_cons re_var ra_nil)))
    (rs_seq (rs_fld T.g_History T.cl_History T.n_History__steps re_var (re_lst (m := true) ra_nil))
    (rs_fld T.g_History T.cl_History T.n_History__waters re_var (re_lst (m := true) (ra_cons re_var ra_nil))))))))⟩
theorem G_fallen_z (T : Txt K mg) : FnOk P w K mg base CX0 8 T.a_fallen T.fd_fallen ["floors", "rains"] (spF K mg 2 f_fallen_z) :=
  fn_dl (k := 7) T.F_fallen sc_fallen rfl fun cdv A outer s H E hr => ⟨_, (pss_cons (ps_set (i := 2) sc_fallen.nd rfl (by first | exact Or.inl rfl | exact Or.inr rfl) (pe_make T.M_History (G_History_init_r T) (hr.mono (by first | decide | omega)) (by rfl) T.g_History T.bd_History_init T.rd_History_init pass0 (pa_cons (pv 0) pa_nil)))
    (pss_cons (ps_for PassesOwn.never rfl (pi_list (pv 1)) (pg_tup (by rfl) (pgs_cons (pg_name (i := 3) sc_fallen.nd rfl (by first | exact Or.inl rfl | exact Or.inr rfl)) (pgs_cons (pg_name (i := 4) sc_fallen.nd rfl (by first | exact Or.inl rfl | exact Or.inr rfl)) pgs_nil)))
    (pss_cons (ps_set (i := 5) sc_fallen.nd rfl (by first | exact Or.inl rfl | exact Or.inr rfl) (pe_op op_rep (pe_lst (pa_cons (pe_glob (v := .ref T.a_NOUGHT) (by rfl) T.g_NOUGHT rfl) pa_nil)) (pe_callB cr_len (by rfl) T.z_len (by decide +kernel) (pa_cons (pv 0) pa_nil))))
    (pss_cons (ps_asg (pv 4) (pg_sub (pv 5) (pe_op op_sub (pv 3) pe_int) set_list))
    (pss_one (ps_expr (pe_meth (pv 2) T.cl_History T.m_History_step (G_History_step_z T) (hr.mono (by first | decide | omega)) T.b_History_step .nil pass0 (pa_cons (pe_lst pa_nil) (pa_cons (pv 5) pa_nil))))))))
    (pss_one (ps_ret (pe_meth0 (pv 2) T.cl_History T.m_History_water (G_History_water_z T) (hr.mono (by first | decide | omega)) T.bd_History_water T.rd_History_water pass0))))),
    (rs_seq (rs_asg (re_make T.g_History (fun W => ⟨_, _, rfl, T.dv_History_init W, rfl⟩) (ra_cons re_var ra_nil)) rg_name)
    (rs_seq (rs_for (ri_list re_var) (rg_tup (rgs_cons rg_name (rgs_cons rg_name rgs_nil)))
    (rs_seq (rs_asg (re_op (ro_rep (m := true)) (re_lst (m := false) (ra_cons (re_c T.d_NOUGHT) ra_nil)) (re_CB rc_len (ra_cons re_var ra_nil))) rg_name)
    (rs_seq (rs_asg re_var (rg_sub re_var (re_op ro_sub re_var re_int)))
    (rs_drop (re_meth0 T.g_History re_var (ra_cons (re_lst (m := false) ra_nil) (ra_cons re_var ra_nil)))))))
    (rs_ret (re_meth T.g_History (fun W => ⟨_, _, rfl, T.dv_History_water W, rfl⟩) re_var ra_nil))))⟩
theorem G_check_rains_z (T : Txt K mg) : FnOk P w K mg base CX0 2 T.a_check_rains T.fd_check_rains ["floors", "rains"] (spF K mg 2 f_check_rains_z) :=
  fn_dl (k := 1) T.F_check_rains sc_check_rains rfl fun cdv A outer s H E hr => ⟨_, (pss_one (ps_for PassesOwn.never rfl (pi_enum (by rfl) T.z_enumerate (pa_cons (pv 1) pa_nil)) (pg_tup (by rfl) (pgs_cons (pg_name (i := 2) sc_check_rains.nd rfl (by first | exact Or.inl rfl | exact Or.inr rfl)) (pgs_cons (pg_tup (by rfl) (pgs_cons (pg_name (i := 3) sc_check_rains.nd rfl (by first | exact Or.inl rfl | exact Or.inr rfl)) (pgs_cons (pg_name (i := 4) sc_check_rains.nd rfl (by first | exact Or.inl rfl | exact Or.inr rfl)) pgs_nil))) pgs_nil)))
    (pss_one (ps_if (PW.pt (pw_or (pt_cmpR op_notInRg (pv 3) (pe_callTy cr_rg2 (by rfl) T.z_range (by decide +kernel) (pa_cons pe_int (pa_cons (pe_op op_addG (pe_callB cr_len (by rfl) T.z_len (by decide +kernel) (pa_cons (pv 0) pa_nil)) pe_int) pa_nil))) (by rfl)) (pw_or1 (pt_not (pt_val (pe_call (G_above_z T) (hr.mono (by first | decide | omega)) (by rfl) T.g_above T.F_above.kp T.b_above .nil pass0 (pa_cons (pv 4) (pa_cons (pe_glob (v := .ref T.a_NOUGHT) (by rfl) T.g_NOUGHT rfl) pa_nil))))))))
    (pss_one ps_never) pss_nil)))),
    (rs_for (ri_enum (ra_cons re_var ra_nil)) (rg_tup (rgs_cons rg_name (rgs_cons (rg_tup (rgs_cons rg_name (rgs_cons rg_name rgs_nil))) rgs_nil)))
    (rs_if (rt_or (rt_test (re_inRg (neg := true) re_var (ra_cons re_int (ra_cons (re_op (ro_add (m := false)) (re_CB rc_len (ra_cons re_var ra_nil)) re_int) ra_nil)))) (rt_not (rt_B (re_call0 (ra_cons re_var (ra_cons (re_c T.d_NOUGHT) ra_nil))))))
    rs_never rs_next))⟩
theorem G_bounds_z (T : Txt K mg) (B : LamX.TabB base mg T.c_B T.P_B) : FnOk P w K mg base CX0 9 T.a_bounds T.fd_bounds ["floors", "rains"] (spF K mg 2 f_bounds_z) :=
  fn_dlT (k := 8) T.F_bounds T.bnd.code sc_bounds rfl fun A outer s H E hr => ⟨_, (pss_cons (ps_expr (pe_call (G_check_floors_z T) (hr.mono (by first | decide | omega)) (by rfl) T.g_check_floors T.F_check_floors.kp T.b_check_floors .nil pass0 (pa_cons (pv 0) pa_nil)))
    (pss_cons (ps_expr (pe_call (G_check_rains_z T) (hr.mono (by first | decide | omega)) (by rfl) T.g_check_rains T.F_check_rains.kp T.b_check_rains .nil pass0 (pa_cons (pv 0) (pa_cons (pv 1) pa_nil))))
    (pss_cons (ps_set (i := 2) sc_bounds.nd rfl (by first | exact Or.inl rfl | exact Or.inr rfl) (LK.pe_sortKey (P := T.P_B) (by rfl) T.z_sorted (pv 1) B rfl ⟨rfl, rfl, rfl, rfl, fun _ _ _ _ _ => rfl, by decide⟩ rfl (dp4 hr) (un4 hr)))
    (pss_one (ps_ret (pe_tup (pa_cons (pe_call (G_heaped_z T) (hr.mono (by first | decide | omega)) (by rfl) T.g_heaped T.F_heaped.kp T.b_heaped .nil pass0 (pa_cons (pv 0) (pa_cons (pe_call (G_fallen_z T) (hr.mono (by first | decide | omega)) (by rfl) T.g_fallen T.F_fallen.kp T.b_fallen .nil pass0 (pa_cons (pv 0) (pa_cons (pv 2) pa_nil))) pa_nil))) (pa_cons (pe_call (G_heaped_z T) (hr.mono (by first | decide | omega)) (by rfl) T.g_heaped T.F_heaped.kp T.b_heaped .nil pass0 (pa_cons (pv 0) (pa_cons (pe_call (G_fallen_z T) (hr.mono (by first | decide | omega)) (by rfl) T.g_fallen T.F_fallen.kp T.b_fallen .nil pass0 (pa_cons (pv 0) (pa_cons (pe_revL (pv 2)) pa_nil))) pa_nil))) pa_nil)))))))),
    (rs_seq (rs_drop (re_call0 (ra_cons re_var ra_nil)))
    (rs_seq (rs_drop (re_call0 (ra_cons re_var (ra_cons re_var ra_nil))))
    (rs_seq (rs_asg (re_sortKey (m := false) T.bnd.tabs re_var) rg_name)
    (rs_ret (re_tup (ra_cons (re_call0 (ra_cons re_var (ra_cons (re_call0 (ra_cons re_var (ra_cons re_var ra_nil))) ra_nil))) (ra_cons (re_call0 (ra_cons re_var (ra_cons (re_call0 (ra_cons re_var (ra_cons (re_revL (m := false) re_var) ra_nil))) ra_nil))) ra_nil)))))))⟩
theorem G_check_order_z (T : Txt K mg) : FnOk P w K mg base CX0 1 T.a_check_order T.fd_check_order ["rains", "order"] (spF K mg 2 f_check_order_z) :=
  fn_dl (k := 0) T.F_check_order sc_check_order rfl fun cdv A outer s H E hr => ⟨_, (pss_one (ps_if (pt_cmpR (op_neD hr.units) (pe_callB cr_sortB (by rfl) T.z_sorted (by decide +kernel) (pa_cons (pv 1) pa_nil)) (pe_listRg rfl (by rfl) T.z_list (prg_1 (by rfl) T.z_range (pe_callB cr_len (by rfl) T.z_len (by decide +kernel) (pa_cons (pv 0) pa_nil)))) (nomark _))
    (pss_one ps_never) pss_nil)),
    (rs_if (rt_test (re_op ro_ne (re_CB (rc_sortB (m := false)) (ra_cons re_var ra_nil)) (re_lr1 (m := false) (re_CB rc_len (ra_cons re_var ra_nil)))))
    rs_never rs_next)⟩
theorem G_behind_z (T : Txt K mg) : FnOk P w K mg base CX0 9 T.a_behind T.fd_behind ["floors", "rains", "order"] (spF K mg 3 f_behind_z) :=
  fn_dl (k := 8) T.F_behind sc_behind rfl fun cdv A outer s H E hr => ⟨_, (pss_cons (ps_expr (pe_call (G_check_floors_z T) (hr.mono (by first | decide | omega)) (by rfl) T.g_check_floors T.F_check_floors.kp T.b_check_floors .nil pass0 (pa_cons (pv 0) pa_nil)))
    (pss_cons (ps_expr (pe_call (G_check_rains_z T) (hr.mono (by first | decide | omega)) (by rfl) T.g_check_rains T.F_check_rains.kp T.b_check_rains .nil pass0 (pa_cons (pv 0) (pa_cons (pv 1) pa_nil))))
    (pss_cons (ps_expr (pe_call (G_check_order_z T) (hr.mono (by first | decide | omega)) (by rfl) T.g_check_order T.F_check_order.kp T.b_check_order .nil pass0 (pa_cons (pv 1) (pa_cons (pv 2) pa_nil))))
    (pss_one (ps_ret (pe_call (G_fallen_z T) (hr.mono (by first | decide | omega)) (by rfl) T.g_fallen T.F_fallen.kp T.b_fallen .nil pass0 (pa_cons (pv 0) (pa_cons (pe_lc (own := [("number", 3)]) (by rfl) sc_behind.nd (pi_list (pv 2)) (blkOk_by (own := [("number", 3)]) (N := ns_behind) (sc := defScope s_behind) (by decide +kernel)) (fun _ _ _ _ _ => (pg_name (i := 3) sc_behind.nd rfl (by first | exact Or.inl rfl | exact Or.inr rfl))) (fun _ _ _ _ _ => pts_nil) (fun _ _ _ _ _ => (pe_ix ix_seq (pv 1) (pv 3) (fun _ _ => rfl)))) pa_nil)))))))),
    (rs_seq (rs_drop (re_call0 (ra_cons re_var ra_nil)))
    (rs_seq (rs_drop (re_call0 (ra_cons re_var (ra_cons re_var ra_nil))))
    (rs_seq (rs_drop (re_call0 (ra_cons re_var (ra_cons re_var ra_nil))))
    (rs_ret (re_call0 (ra_cons re_var (ra_cons (re_lc (m := false) (vs := [3]) (ri_list re_var) (rgv_name (by decide)) rt_yes (re_op ro_ix re_var re_var)) ra_nil)))))))⟩
theorem G_check_floors_x (T : Txt K mg)  (hx_NoFloors : PySem.ExS.ExT P K mg T.c_NoFloors T.i_NoFloors) (hx_NoRain : PySem.ExS.ExT P K mg T.c_NoRain T.i_NoRain) (hx_NoOrder : PySem.ExS.ExT P K mg T.c_NoOrder T.i_NoOrder) : FnOk P w K mg base (L2.CX P w) 3 T.a_check_floors T.fd_check_floors ["floors"] (spX K mg 1 f_check_floors_x) :=
  fn_dlX (k := 2) T.F_check_floors sc_check_floors rfl fun cdv A outer s H E hr tk => ⟨_, (pss_cons (ps_if (pt_cmpR (op_eqD hr.units) (pe_callB cr_len (by rfl) T.z_len (by decide +kernel) (pa_cons (pv 0) pa_nil)) pe_int (nomark _))
    (pss_one (ps_raise rfl tk (pmk_what (k := 0) hx_NoFloors (hr.mono (by first | decide | omega)) (pa_cons pe_non pa_nil) (by rfl) T.g_NoFloors)))
    pss_nil)
    (pss_one (ps_for (passes_of rfl) rfl (pi_enum (by rfl) T.z_enumerate (pa_cons (pv 0) pa_nil)) (pg_tup (by rfl) (pgs_cons (pg_name (i := 1) sc_check_floors.nd rfl (by first | exact Or.inl rfl | exact Or.inr rfl)) (pgs_cons (pg_name (i := 2) sc_check_floors.nd rfl (by first | exact Or.inl rfl | exact Or.inr rfl)) pgs_nil)))
    (pss_one (ps_if (pt_cmpR op_lt (pv 2) pe_int (nomark _))
    (pss_one (ps_raise rfl tk (pmk_what (k := 0) hx_NoFloors (hr.mono (by first | decide | omega)) (pa_cons (pv 1) pa_nil) (by rfl) T.g_NoFloors)))
    pss_nil))))),
    (rx_seq (rx_if (rt_test (re_op ro_eq (re_CB rc_len (ra_cons re_var ra_nil)) re_int))
    (rx_raise T.g_NoFloors re_non)
    (rx_ok rs_next))
    (rx_for (ri_enum (ra_cons re_var ra_nil)) (rg_tup (rgs_cons rg_name (rgs_cons rg_name rgs_nil)))
    (rx_if (rt_test (re_op ro_lt re_var re_int))
    (rx_raise T.g_NoFloors re_var)
    (rx_ok rs_next))))⟩
theorem G_check_rains_x (T : Txt K mg)  (hx_NoFloors : PySem.ExS.ExT P K mg T.c_NoFloors T.i_NoFloors) (hx_NoRain : PySem.ExS.ExT P K mg T.c_NoRain T.i_NoRain) (hx_NoOrder : PySem.ExS.ExT P K mg T.c_NoOrder T.i_NoOrder) : FnOk P w K mg base (L2.CX P w) 3 T.a_check_rains T.fd_check_rains ["floors", "rains"] (spX K mg 2 f_check_rains_x) :=
  fn_dlX (k := 2) T.F_check_rains sc_check_rains rfl fun cdv A outer s H E hr tk => ⟨_, (pss_one (ps_for (passes_of rfl) rfl (pi_enum (by rfl) T.z_enumerate (pa_cons (pv 1) pa_nil)) (pg_tup (by rfl) (pgs_cons (pg_name (i := 2) sc_check_rains.nd rfl (by first | exact Or.inl rfl | exact Or.inr rfl)) (pgs_cons (pg_tup (by rfl) (pgs_cons (pg_name (i := 3) sc_check_rains.nd rfl (by first | exact Or.inl rfl | exact Or.inr rfl)) (pgs_cons (pg_name (i := 4) sc_check_rains.nd rfl (by first | exact Or.inl rfl | exact Or.inr rfl)) pgs_nil))) pgs_nil)))
    (pss_one (ps_if (PW.pt (pw_or (pt_cmpR op_notInRg (pv 3) (pe_callTy cr_rg2 (by rfl) T.z_range (by decide +kernel) (pa_cons pe_int (pa_cons (pe_op op_addG (pe_callB cr_len (by rfl) T.z_len (by decide +kernel) (pa_cons (pv 0) pa_nil)) pe_int) pa_nil))) (by rfl)) (pw_or1 (pt_not (pt_val (pe_call (G_above_z T) (hr.mono (by first | decide | omega)) (by rfl) T.g_above T.F_above.kp T.b_above .nil pass0 (pa_cons (pv 4) (pa_cons (pe_glob (v := .ref T.a_NOUGHT) (by rfl) T.g_NOUGHT rfl) pa_nil))))))))
    (pss_one (ps_raise rfl tk (pmk_what (k := 0) hx_NoRain (hr.mono (by first | decide | omega)) (pa_cons (pv 2) pa_nil) (by rfl) T.g_NoRain)))
    pss_nil)))),
    (rx_for (ri_enum (ra_cons re_var ra_nil)) (rg_tup (rgs_cons rg_name (rgs_cons (rg_tup (rgs_cons rg_name (rgs_cons rg_name rgs_nil))) rgs_nil)))
    (rx_if (rt_or (rt_test (re_inRg (neg := true) re_var (ra_cons re_int (ra_cons (re_op (ro_add (m := false)) (re_CB rc_len (ra_cons re_var ra_nil)) re_int) ra_nil)))) (rt_not (rt_B (re_call0 (ra_cons re_var (ra_cons (re_c T.d_NOUGHT) ra_nil))))))
    (rx_raise T.g_NoRain re_var)
    (rx_ok rs_next)))⟩
theorem G_check_order_x (T : Txt K mg)  (hx_NoFloors : PySem.ExS.ExT P K mg T.c_NoFloors T.i_NoFloors) (hx_NoRain : PySem.ExS.ExT P K mg T.c_NoRain T.i_NoRain) (hx_NoOrder : PySem.ExS.ExT P K mg T.c_NoOrder T.i_NoOrder) : FnOk P w K mg base (L2.CX P w) 3 T.a_check_order T.fd_check_order ["rains", "order"] (spX K mg 2 f_check_order_x) :=
  fn_dlX (k := 2) T.F_check_order sc_check_order rfl fun cdv A outer s H E hr tk => ⟨_, (pss_one (ps_if (pt_cmpR (op_neD hr.units) (pe_callB cr_sortB (by rfl) T.z_sorted (by decide +kernel) (pa_cons (pv 1) pa_nil)) (pe_listRg rfl (by rfl) T.z_list (prg_1 (by rfl) T.z_range (pe_callB cr_len (by rfl) T.z_len (by decide +kernel) (pa_cons (pv 0) pa_nil)))) (nomark _))
    (pss_one (ps_raise rfl tk (pmk_what (k := 0) hx_NoOrder (hr.mono (by first | decide | omega)) (pa_cons pe_non pa_nil) (by rfl) T.g_NoOrder)))
    pss_nil)),
    (rx_if (rt_test (re_op ro_ne (re_CB (rc_sortB (m := false)) (ra_cons re_var ra_nil)) (re_lr1 (m := false) (re_CB rc_len (ra_cons re_var ra_nil)))))
    (rx_raise T.g_NoOrder re_non)
    (rx_ok rs_next))⟩
theorem G_bounds_x (T : Txt K mg)  (hx_NoFloors : PySem.ExS.ExT P K mg T.c_NoFloors T.i_NoFloors) (hx_NoRain : PySem.ExS.ExT P K mg T.c_NoRain T.i_NoRain) (hx_NoOrder : PySem.ExS.ExT P K mg T.c_NoOrder T.i_NoOrder) (B : LamX.TabB base mg T.c_B T.P_B) : FnOk P w K mg base (L2.CX P w) 10 T.a_bounds T.fd_bounds ["floors", "rains"] (spX K mg 2 f_bounds_x) :=
  fn_dlXT (k := 9) T.F_bounds T.bnd.code sc_bounds rfl fun A outer s H E hr tk => ⟨_, (pss_cons (ps_expr (pe_callS (G_check_floors_x T hx_NoFloors hx_NoRain hx_NoOrder) (hr.mono (by first | decide | omega)) (by rfl) T.g_check_floors T.F_check_floors.kp T.b_check_floors (fun σ => passAt tk σ) (pa_cons (pv 0) pa_nil)))
    (pss_cons (ps_expr (pe_callS (G_check_rains_x T hx_NoFloors hx_NoRain hx_NoOrder) (hr.mono (by first | decide | omega)) (by rfl) T.g_check_rains T.F_check_rains.kp T.b_check_rains (fun σ => passAt tk σ) (pa_cons (pv 0) (pa_cons (pv 1) pa_nil))))
    ((pss_cons (ps_set (i := 2) sc_bounds.nd rfl (by first | exact Or.inl rfl | exact Or.inr rfl) (LK.pe_sortKey (P := T.P_B) (by rfl) T.z_sorted (pv 1) B rfl ⟨rfl, rfl, rfl, rfl, fun _ _ _ _ _ => rfl, by decide⟩ rfl (dp4 hr) (un4 hr)))
    (pss_one (ps_ret (pe_tup (pa_cons (pe_call (G_heaped_z T) (hr.mono (by first | decide | omega)) (by rfl) T.g_heaped T.F_heaped.kp T.b_heaped .nil pass0 (pa_cons (pv 0) (pa_cons (pe_call (G_fallen_z T) (hr.mono (by first | decide | omega)) (by rfl) T.g_fallen T.F_fallen.kp T.b_fallen .nil pass0 (pa_cons (pv 0) (pa_cons (pv 2) pa_nil))) pa_nil))) (pa_cons (pe_call (G_heaped_z T) (hr.mono (by first | decide | omega)) (by rfl) T.g_heaped T.F_heaped.kp T.b_heaped .nil pass0 (pa_cons (pv 0) (pa_cons (pe_call (G_fallen_z T) (hr.mono (by first | decide | omega)) (by rfl) T.g_fallen T.F_fallen.kp T.b_fallen .nil pass0 (pa_cons (pv 0) (pa_cons (pe_revL (pv 2)) pa_nil))) pa_nil))) pa_nil))))))).nox)),
    (rx_seq (rx_call (ra_cons re_var ra_nil))
    (rx_seq (rx_call (ra_cons re_var (ra_cons re_var ra_nil)))
    (rx_ok (rs_seq (rs_asg (re_sortKey (m := false) T.bnd.tabs re_var) rg_name)
    (rs_ret (re_tup (ra_cons (re_call0 (ra_cons re_var (ra_cons (re_call0 (ra_cons re_var (ra_cons re_var ra_nil))) ra_nil))) (ra_cons (re_call0 (ra_cons re_var (ra_cons (re_call0 (ra_cons re_var (ra_cons (re_revL (m := false) re_var) ra_nil))) ra_nil))) ra_nil))))))))⟩
theorem G_behind_x (T : Txt K mg)  (hx_NoFloors : PySem.ExS.ExT P K mg T.c_NoFloors T.i_NoFloors) (hx_NoRain : PySem.ExS.ExT P K mg T.c_NoRain T.i_NoRain) (hx_NoOrder : PySem.ExS.ExT P K mg T.c_NoOrder T.i_NoOrder) : FnOk P w K mg base (L2.CX P w) 10 T.a_behind T.fd_behind ["floors", "rains", "order"] (spX K mg 3 f_behind_x) :=
  fn_dlX (k := 9) T.F_behind sc_behind rfl fun cdv A outer s H E hr tk => ⟨_, (pss_cons (ps_expr (pe_callS (G_check_floors_x T hx_NoFloors hx_NoRain hx_NoOrder) (hr.mono (by first | decide | omega)) (by rfl) T.g_check_floors T.F_check_floors.kp T.b_check_floors (fun σ => passAt tk σ) (pa_cons (pv 0) pa_nil)))
    (pss_cons (ps_expr (pe_callS (G_check_rains_x T hx_NoFloors hx_NoRain hx_NoOrder) (hr.mono (by first | decide | omega)) (by rfl) T.g_check_rains T.F_check_rains.kp T.b_check_rains (fun σ => passAt tk σ) (pa_cons (pv 0) (pa_cons (pv 1) pa_nil))))
    (pss_cons (ps_expr (pe_callS (G_check_order_x T hx_NoFloors hx_NoRain hx_NoOrder) (hr.mono (by first | decide | omega)) (by rfl) T.g_check_order T.F_check_order.kp T.b_check_order (fun σ => passAt tk σ) (pa_cons (pv 1) (pa_cons (pv 2) pa_nil))))
    ((pss_one (ps_ret (pe_call (G_fallen_z T) (hr.mono (by first | decide | omega)) (by rfl) T.g_fallen T.F_fallen.kp T.b_fallen .nil pass0 (pa_cons (pv 0) (pa_cons (pe_lc (own := [("number", 3)]) (by rfl) sc_behind.nd (pi_list (pv 2)) (blkOk_by (own := [("number", 3)]) (N := ns_behind) (sc := defScope s_behind) (by decide +kernel)) (fun _ _ _ _ _ => (pg_name (i := 3) sc_behind.nd rfl (by first | exact Or.inl rfl | exact Or.inr rfl))) (fun _ _ _ _ _ => pts_nil) (fun _ _ _ _ _ => (pe_ix ix_seq (pv 1) (pv 3) (fun _ _ => rfl)))) pa_nil)))))).nox))),
    (rx_seq (rx_call (ra_cons re_var ra_nil))
    (rx_seq (rx_call (ra_cons re_var (ra_cons re_var ra_nil)))
    (rx_seq (rx_call (ra_cons re_var (ra_cons re_var ra_nil)))
    (rx_ok (rs_ret (re_call0 (ra_cons re_var (ra_cons (re_lc (m := false) (vs := [3]) (ri_list re_var) (rgv_name (by decide)) rt_yes (re_op ro_ix re_var re_var)) ra_nil))))))))⟩
theorem G_law_refusal_z (T : Txt K mg)  (hx_NoFloors : PySem.ExS.ExT P K mg T.c_NoFloors T.i_NoFloors) (hx_NoRain : PySem.ExS.ExT P K mg T.c_NoRain T.i_NoRain) (hx_NoOrder : PySem.ExS.ExT P K mg T.c_NoOrder T.i_NoOrder) (B : LamX.TabB base mg T.c_B T.P_B) : FnOk P w K mg base CX0 13 T.a_law_refusal T.fd_law_refusal ["tanks", "some", "row"] (spF K mg 3 f_law_refusal_z) :=
  T.F_law_refusal.ok (k := 12) sc_law_refusal (fun vs H Q E h => h.1) fun cdv A outer s H vs Q E hr h => ⟨_, (pss_cons (ps_set (i := 3) sc_law_refusal.nd rfl (by first | exact Or.inl rfl | exact Or.inr rfl) pe_non) (pss_cons (ps_try_keep2 (i := 4) (j := 3) rfl rfl sc_law_refusal.nd rfl rfl (by decide) rfl (by first | exact Or.inl rfl | exact Or.inr rfl) (.inr rfl) (by first | exact Or.inl rfl | exact Or.inr rfl) ⟨by rfl, by decide, .inl T.g_FlapError⟩ takes0 rfl (by decide) (by decide) (fun Y h => by rw [h]; rfl) (fun W pn xe tk _ => (pss_one (ps_if (pt_cmp (pc_isN (pv 2)))
    (pss_one (ps_expr (pe_callS (G_bounds_x T hx_NoFloors hx_NoRain hx_NoOrder B) (hr.mono (by first | decide | omega)) (by rfl) T.g_bounds T.F_bounds.kp T.b_bounds (fun σ => passAt tk σ) (pa_cons (pv 0) (pa_cons (pv 1) pa_nil)))))
    (pss_one (ps_expr (pe_callS (G_behind_x T hx_NoFloors hx_NoRain hx_NoOrder) (hr.mono (by first | decide | omega)) (by rfl) T.g_behind T.F_behind.kp T.b_behind (fun σ => passAt tk σ) (pa_cons (pv 0) (pa_cons (pv 1) (pa_cons (pv 2) pa_nil))))))))))
    (pss_cons (ps_if (pt_cmp (pc_isN (pv 3)))
    (pss_one (ps_ret (pe_tup (pa_cons pe_str (pa_cons pe_non pa_nil))))) pss_nil)
    (pss_cons (ps_if (PW.pt (pw_or (pt_not (pt_val (pe_callB call_isK (by rfl) T.z_isinstance (by decide +kernel) (pa_cons (pv 3) (pa_cons (pe_bltn (v := .ty "ValueError") (u := .type "ValueError") (by rfl) T.z_ValueError (by decide +kernel) rfl) pa_nil))))) (pw_or1 (pt_val (pe_callB call_isKT (by rfl) T.z_isinstance (by decide +kernel) (pa_cons (pv 3) (pa_cons (pe_tup (pa_cons (pe_glob (v := .ref T.c_NoDrop) (by rfl) T.g_NoDrop rfl) (pa_cons (pe_glob (v := .ref T.c_NoFlap) (by rfl) T.g_NoFlap rfl) (pa_cons (pe_glob (v := .ref T.c_NoRows) (by rfl) T.g_NoRows rfl) (pa_cons (pe_glob (v := .ref T.c_NoStep) (by rfl) T.g_NoStep rfl) (pa_cons (pe_glob (v := .ref T.c_NoTable) (by rfl) T.g_NoTable rfl) pa_nil)))))) pa_nil)))))))
    (pss_one (ps_ret (pe_tup (pa_cons pe_str (pa_cons pe_non pa_nil))))) pss_nil)
    (pss_cons (ps_if (pt_val (pe_callB call_isKT (by rfl) T.z_isinstance (by decide +kernel) (pa_cons (pv 3) (pa_cons (pe_tup (pa_cons (pe_glob (v := .ref T.c_NoTank) (by rfl) T.g_NoTank rfl) (pa_cons (pe_glob (v := .ref T.c_NoText) (by rfl) T.g_NoText rfl) (pa_cons (pe_glob (v := .ref T.c_NoWater) (by rfl) T.g_NoWater rfl) pa_nil)))) pa_nil))))
    (pss_one (ps_ret (pe_tup (pa_cons pe_str (pa_cons pe_non pa_nil))))) pss_nil)
    (pss_cons (ps_set (i := 1) sc_law_refusal.nd rfl (by first | exact Or.inl rfl | exact Or.inr rfl) (pe_lst (pa_cons (pe_callB call_isK (by rfl) T.z_isinstance (by decide +kernel) (pa_cons (pv 3) (pa_cons (pe_glob (v := .ref T.c_NoFloors) (by rfl) T.g_NoFloors rfl) pa_nil))) (pa_cons (pe_callB call_isK (by rfl) T.z_isinstance (by decide +kernel) (pa_cons (pv 3) (pa_cons (pe_glob (v := .ref T.c_NoRain) (by rfl) T.g_NoRain rfl) pa_nil))) (pa_cons (pe_callB call_isK (by rfl) T.z_isinstance (by decide +kernel) (pa_cons (pv 3) (pa_cons (pe_glob (v := .ref T.c_NoOrder) (by rfl) T.g_NoOrder rfl) pa_nil))) pa_nil)))))
    (pss_one (ps_ret (pe_ifExp (pt_cmpR (op_eqD hr.units) (pe_bm PySem.F.plainAttrs_list PySem.F.slot_list_count PySem.F.type_list_count mt_countF (pv 1) (pa_cons pe_bl pa_nil)) pe_int (nomark _)) (pe_tup (pa_cons (pe_ix ix_seq (pe_lst (pa_cons pe_str (pa_cons pe_str (pa_cons pe_str pa_nil)))) (pe_bm PySem.F.plainAttrs_list PySem.F.slot_list_index PySem.F.type_list_index mt_index (pv 1) (pa_cons pe_bl pa_nil)) (fun _ _ => rfl)) (pa_cons (pe_whK (pv 3)) pa_nil))) (pe_tup (pa_cons pe_str (pa_cons pe_non pa_nil)))))))))))),
    kept_ok (N := ns_law_refusal) (cs := [("NoFloors", t_law_refusal_NoFloors), ("NoRain", t_law_refusal_NoRain), ("NoOrder", t_law_refusal_NoOrder)]) (by decide) (rs_asg re_non rg_name) (fun Wx => (rx_if (rt_B (re_isN re_var))
    (rx_call (ra_cons re_var (ra_cons re_var ra_nil)))
    (rx_call (ra_cons re_var (ra_cons re_var (ra_cons re_var ra_nil)))))) (rs_seq (rs_if (rt_B (re_isN re_var))
    (rs_ret (re_tup (ra_cons re_str (ra_cons re_non ra_nil)))) rs_next)
    (rs_seq (rs_if (rt_or (rt_not (rt_B re_none)) (rt_B re_none))
    (rs_ret (re_tup (ra_cons re_str (ra_cons re_non ra_nil)))) rs_next)
    (rs_seq (rs_if (rt_B re_none)
    (rs_ret (re_tup (ra_cons re_str (ra_cons re_non ra_nil)))) rs_next)
    (rs_seq (rs_asg (re_lst (m := false) (ra_cons re_none (ra_cons re_none (ra_cons re_none (ra_nil))))) rg_name)
    (rs_ret (re_if (rt_test (re_op ro_eq (re_BM rm_count re_var (ra_cons re_bl ra_nil)) re_int)) (re_tup (ra_cons (re_op ro_ix (re_lst (m := false) (ra_cons re_str (ra_cons re_str (ra_cons re_str ra_nil)))) (re_BM rm_index re_var (ra_cons re_bl ra_nil))) (ra_cons re_none (ra_nil)))) (re_tup (ra_cons re_str (ra_cons re_non ra_nil))))))))) (List.forall_mem_cons.mpr ⟨fun C hC => by
      have e := hC.symm.trans T.g_NoFloors
      cases e
      exact ⟨T.n_FlapError_NoFloors.exm T.s_FlapError, fun a dx v w => by
        show KS K mg _ _ (t_law_refusal_NoFloors w)
        unfold t_law_refusal_NoFloors
        exact (ks_seq (ks_if kt_isN
    (ks_ret (ke (re_tup (ra_cons re_str (ra_cons re_non ra_nil))))) ks_next)
    (ks_seq (ks_if (kt_or (kt_not (kt_B (ke_is T.xc_NoFloors (ClsV.ty _) (kit_VE T.ve_NoFloors)))) (kt_B (ke_isT (Cs := [T.c_NoDrop, T.c_NoFlap, T.c_NoRows, T.c_NoStep, T.c_NoTable]) T.xc_NoFloors (by simp) (kitA_f (T.n_NoDrop_NoFloors.kit T.me_NoFloors) (kitA_f (T.n_NoFlap_NoFloors.kit T.me_NoFloors) (kitA_f (T.n_NoRows_NoFloors.kit T.me_NoFloors) (kitA_f (T.n_NoStep_NoFloors.kit T.me_NoFloors) (kitA_f (T.n_NoTable_NoFloors.kit T.me_NoFloors) kitA_nil))))))))
    (ks_ret (ke (re_tup (ra_cons re_str (ra_cons re_non ra_nil))))) ks_next)
    (ks_seq (ks_if (kt_B (ke_isT (Cs := [T.c_NoTank, T.c_NoText, T.c_NoWater]) T.xc_NoFloors (by simp) (kitA_f (T.n_NoTank_NoFloors.kit T.me_NoFloors) (kitA_f (T.n_NoText_NoFloors.kit T.me_NoFloors) (kitA_f (T.n_NoWater_NoFloors.kit T.me_NoFloors) kitA_nil)))))
    (ks_ret (ke (re_tup (ra_cons re_str (ra_cons re_non ra_nil))))) ks_next)
    (ks_seq (ks_asg (k := ⟨3, a, T.c_NoFloors, dx, v, w⟩) (j := 1) (ke_lst (m := false) (ka_cons (ke_is T.xc_NoFloors (.own _) kit_self) (ka_cons (ke_is T.xc_NoFloors (.own _) (T.n_NoRain_NoFloors.kit T.me_NoFloors)) (ka_cons (ke_is T.xc_NoFloors (.own _) (T.n_NoOrder_NoFloors.kit T.me_NoFloors)) (ka ra_nil))))) (by show (1 : Nat) ≠ 3; decide))
    (ks_ret (ke_if (kt (rt_test (re_op ro_eq (re_BM rm_count re_var (ra_cons re_bl ra_nil)) re_int))) (ke_tup (ka_cons (ke (re_op ro_ix (re_lst (m := false) (ra_cons re_str (ra_cons re_str (ra_cons re_str ra_nil)))) (re_BM rm_index re_var (ra_cons re_bl ra_nil)))) (ka_cons (ke_what T.xf_NoFloors T.wh_NoFloors) (ka ra_nil)))) (ke (re_tup (ra_cons re_str (ra_cons re_non ra_nil))))))))))⟩, List.forall_mem_cons.mpr ⟨fun C hC => by
      have e := hC.symm.trans T.g_NoRain
      cases e
      exact ⟨T.n_FlapError_NoRain.exm T.s_FlapError, fun a dx v w => by
        show KS K mg _ _ (t_law_refusal_NoRain w)
        unfold t_law_refusal_NoRain
        exact (ks_seq (ks_if kt_isN
    (ks_ret (ke (re_tup (ra_cons re_str (ra_cons re_non ra_nil))))) ks_next)
    (ks_seq (ks_if (kt_or (kt_not (kt_B (ke_is T.xc_NoRain (ClsV.ty _) (kit_VE T.ve_NoRain)))) (kt_B (ke_isT (Cs := [T.c_NoDrop, T.c_NoFlap, T.c_NoRows, T.c_NoStep, T.c_NoTable]) T.xc_NoRain (by simp) (kitA_f (T.n_NoDrop_NoRain.kit T.me_NoRain) (kitA_f (T.n_NoFlap_NoRain.kit T.me_NoRain) (kitA_f (T.n_NoRows_NoRain.kit T.me_NoRain) (kitA_f (T.n_NoStep_NoRain.kit T.me_NoRain) (kitA_f (T.n_NoTable_NoRain.kit T.me_NoRain) kitA_nil))))))))
    (ks_ret (ke (re_tup (ra_cons re_str (ra_cons re_non ra_nil))))) ks_next)
    (ks_seq (ks_if (kt_B (ke_isT (Cs := [T.c_NoTank, T.c_NoText, T.c_NoWater]) T.xc_NoRain (by simp) (kitA_f (T.n_NoTank_NoRain.kit T.me_NoRain) (kitA_f (T.n_NoText_NoRain.kit T.me_NoRain) (kitA_f (T.n_NoWater_NoRain.kit T.me_NoRain) kitA_nil)))))
    (ks_ret (ke (re_tup (ra_cons re_str (ra_cons re_non ra_nil))))) ks_next)
    (ks_seq (ks_asg (k := ⟨3, a, T.c_NoRain, dx, v, w⟩) (j := 1) (ke_lst (m := false) (ka_cons (ke_is T.xc_NoRain (.own _) (T.n_NoFloors_NoRain.kit T.me_NoRain)) (ka_cons (ke_is T.xc_NoRain (.own _) kit_self) (ka_cons (ke_is T.xc_NoRain (.own _) (T.n_NoOrder_NoRain.kit T.me_NoRain)) (ka ra_nil))))) (by show (1 : Nat) ≠ 3; decide))
    (ks_ret (ke_if (kt (rt_test (re_op ro_eq (re_BM rm_count re_var (ra_cons re_bl ra_nil)) re_int))) (ke_tup (ka_cons (ke (re_op ro_ix (re_lst (m := false) (ra_cons re_str (ra_cons re_str (ra_cons re_str ra_nil)))) (re_BM rm_index re_var (ra_cons re_bl ra_nil)))) (ka_cons (ke_what T.xf_NoRain T.wh_NoRain) (ka ra_nil)))) (ke (re_tup (ra_cons re_str (ra_cons re_non ra_nil))))))))))⟩, List.forall_mem_cons.mpr ⟨fun C hC => by
      have e := hC.symm.trans T.g_NoOrder
      cases e
      exact ⟨T.n_FlapError_NoOrder.exm T.s_FlapError, fun a dx v w => by
        show KS K mg _ _ (t_law_refusal_NoOrder w)
        unfold t_law_refusal_NoOrder
        exact (ks_seq (ks_if kt_isN
    (ks_ret (ke (re_tup (ra_cons re_str (ra_cons re_non ra_nil))))) ks_next)
    (ks_seq (ks_if (kt_or (kt_not (kt_B (ke_is T.xc_NoOrder (ClsV.ty _) (kit_VE T.ve_NoOrder)))) (kt_B (ke_isT (Cs := [T.c_NoDrop, T.c_NoFlap, T.c_NoRows, T.c_NoStep, T.c_NoTable]) T.xc_NoOrder (by simp) (kitA_f (T.n_NoDrop_NoOrder.kit T.me_NoOrder) (kitA_f (T.n_NoFlap_NoOrder.kit T.me_NoOrder) (kitA_f (T.n_NoRows_NoOrder.kit T.me_NoOrder) (kitA_f (T.n_NoStep_NoOrder.kit T.me_NoOrder) (kitA_f (T.n_NoTable_NoOrder.kit T.me_NoOrder) kitA_nil))))))))
    (ks_ret (ke (re_tup (ra_cons re_str (ra_cons re_non ra_nil))))) ks_next)
    (ks_seq (ks_if (kt_B (ke_isT (Cs := [T.c_NoTank, T.c_NoText, T.c_NoWater]) T.xc_NoOrder (by simp) (kitA_f (T.n_NoTank_NoOrder.kit T.me_NoOrder) (kitA_f (T.n_NoText_NoOrder.kit T.me_NoOrder) (kitA_f (T.n_NoWater_NoOrder.kit T.me_NoOrder) kitA_nil)))))
    (ks_ret (ke (re_tup (ra_cons re_str (ra_cons re_non ra_nil))))) ks_next)
    (ks_seq (ks_asg (k := ⟨3, a, T.c_NoOrder, dx, v, w⟩) (j := 1) (ke_lst (m := false) (ka_cons (ke_is T.xc_NoOrder (.own _) (T.n_NoFloors_NoOrder.kit T.me_NoOrder)) (ka_cons (ke_is T.xc_NoOrder (.own _) (T.n_NoRain_NoOrder.kit T.me_NoOrder)) (ka_cons (ke_is T.xc_NoOrder (.own _) kit_self) (ka ra_nil))))) (by show (1 : Nat) ≠ 3; decide))
    (ks_ret (ke_if (kt (rt_test (re_op ro_eq (re_BM rm_count re_var (ra_cons re_bl ra_nil)) re_int))) (ke_tup (ka_cons (ke (re_op ro_ix (re_lst (m := false) (ra_cons re_str (ra_cons re_str (ra_cons re_str ra_nil)))) (re_BM rm_index re_var (ra_cons re_bl ra_nil)))) (ka_cons (ke_what T.xf_NoOrder T.wh_NoOrder) (ka ra_nil)))) (ke (re_tup (ra_cons re_str (ra_cons re_non ra_nil))))))))))⟩, fun _ h => by cases h⟩⟩⟩) h⟩
theorem G_law_take_z (T : Txt K mg) : FnOk P w K mg base CX0 1 T.a_law_take T.fd_law_take ["deck", "many"] (spF K mg 2 f_law_take_z) :=
  fn_dl (k := 0) T.F_law_take sc_law_take rfl fun cdv A outer s H E hr => ⟨_, (pss_cons (ps_while PassesOwn.never (PW.pt (pw_and (pt_cmpR (op_neD hr.units) (pe_ix ix_seq (pv 0) pe_int (fun _ _ => rfl)) (pe_lst pa_nil) (nomark _)) (pw_and1 (pt_cmpR op_lt (pe_ix ix_seq (pe_ix ix_seq (pv 0) pe_int (fun _ _ => rfl)) (pe_un un_neg pe_int) (fun _ _ => rfl)) pe_int (nomark _)))))
    (pss_one (ps_expr (pe_bm0 PySem.F.plainAttrs_list PySem.F.slot_list_pop PySem.F.type_list_pop mt_pop (pe_ix ix_seq (pv 0) pe_int (fun _ _ => rfl))))))
    (pss_cons (ps_if (pt_cmpR (op_neD hr.units) (pe_ix ix_seq (pv 0) pe_int (fun _ _ => rfl)) (pe_lst pa_nil) (nomark _))
    (pss_cons (ps_set (i := 2) sc_law_take.nd rfl (by first | exact Or.inl rfl | exact Or.inr rfl) (pe_op op_mod (pe_ix ix_seq (pe_ix ix_seq (pv 0) pe_int (fun _ _ => rfl)) (pe_un un_neg pe_int) (fun _ _ => rfl)) (pv 1)))
    (pss_cons (ps_asg (pe_op op_fdivW (pe_ix ix_seq (pe_ix ix_seq (pv 0) pe_int (fun _ _ => rfl)) (pe_un un_neg pe_int) (fun _ _ => rfl)) (pv 1)) (pg_sub (pe_ix ix_seq (pv 0) pe_int (fun _ _ => rfl)) (pe_un un_neg pe_int) set_list))
    (pss_one (ps_ret (pv 2))))) pss_nil)
    (pss_cons (ps_asg (pe_op op_addG (pe_ix ix_seq (pv 0) pe_int (fun _ _ => rfl)) pe_int) (pg_sub (pv 0) pe_int set_list))
    (pss_cons (ps_set (i := 3) sc_law_take.nd rfl (by first | exact Or.inl rfl | exact Or.inr rfl) (pe_ix ix_seq (pv 0) pe_int (fun _ _ => rfl)))
    (pss_cons (ps_set (i := 4) sc_law_take.nd rfl (by first | exact Or.inl rfl | exact Or.inr rfl) (pe_op op_addG (pe_op op_mulW (pe_op op_addG (pe_ix ix_seq (pv 0) pe_int (fun _ _ => rfl)) pe_int) (pe_op op_pow (pe_op op_addG (pv 3) pe_int) pe_int)) (pe_op op_mulW pe_int (pv 3))))
    (pss_one (ps_ret (pe_op op_mod (pe_op op_fdivW (pe_op op_mod (pe_op op_pow (pe_op op_mod (pv 4) pe_int) pe_int) pe_int) pe_int) (pv 1))))))))),
    (rs_seq (rs_while (rt_and (rt_test (re_op ro_ne (re_op ro_ix re_var re_int) (re_lst (m := false) ra_nil))) (rt_test (re_op ro_lt (re_op ro_ix (re_op ro_ix re_var re_int) (re_un ru_neg re_int)) re_int)))
    (rs_drop (re_BM0 rm_pop (re_op ro_ix re_var re_int))))
    (rs_seq (rs_if (rt_test (re_op ro_ne (re_op ro_ix re_var re_int) (re_lst (m := false) ra_nil)))
    (rs_seq (rs_asg (re_op ro_mod (re_op ro_ix (re_op ro_ix re_var re_int) (re_un ru_neg re_int)) re_var) rg_name)
    (rs_seq (rs_asg (re_op ro_fdiv (re_op ro_ix (re_op ro_ix re_var re_int) (re_un ru_neg re_int)) re_var) (rg_sub (re_op ro_ix re_var re_int) (re_un ru_neg re_int)))
    (rs_ret re_var))) rs_next)
    (rs_seq (rs_asg (re_op (ro_add (m := false)) (re_op ro_ix re_var re_int) re_int) (rg_sub re_var re_int))
    (rs_seq (rs_asg (re_op ro_ix re_var re_int) rg_name)
    (rs_seq (rs_asg (re_op (ro_add (m := false)) (re_op ro_mul (re_op (ro_add (m := false)) (re_op ro_ix re_var re_int) re_int) (re_op ro_pow (re_op (ro_add (m := false)) re_var re_int) re_int)) (re_op ro_mul re_int re_var)) rg_name)
    (rs_ret (re_op ro_mod (re_op ro_fdiv (re_op ro_mod (re_op ro_pow (re_op ro_mod re_var re_int) re_int) re_int) re_int) re_var)))))))⟩
theorem G_law_bad_row_z (T : Txt K mg) : FnOk P w K mg base CX0 2 T.a_law_bad_row T.fd_law_bad_row ["deck", "row"] (spF K mg 2 f_law_bad_row_z) :=
  fn_dl (k := 1) T.F_law_bad_row sc_law_bad_row rfl fun cdv A outer s H E hr => ⟨_, (pss_cons (ps_set (i := 2) sc_law_bad_row.nd rfl (by first | exact Or.inl rfl | exact Or.inr rfl) (pe_call (G_law_take_z T) (hr.mono (by first | decide | omega)) (by rfl) T.g_law_take T.F_law_take.kp T.b_law_take .nil pass0 (pa_cons (pv 0) (pa_cons (pe_op op_addG (pe_callB cr_len (by rfl) T.z_len (by decide +kernel) (pa_cons (pv 1) pa_nil)) pe_int) pa_nil))))
    (pss_cons (ps_set (i := 3) sc_law_bad_row.nd rfl (by first | exact Or.inl rfl | exact Or.inr rfl) (pe_lst (pa_cons (pe_op op_addG (pe_op op_addG (pe_slice sl_list (pv 1) po_none (po_some (pv 2))) (pe_lst (pa_cons (pe_op op_addG (pe_callB cr_len (by rfl) T.z_len (by decide +kernel) (pa_cons (pv 1) pa_nil)) pe_int) pa_nil))) (pe_slice sl_list (pv 1) (po_some (pv 2)) po_none)) (pa_cons (pe_op op_addG (pe_op op_addG (pv 1) (pe_op op_rep (pe_lst (pa_cons pe_int pa_nil)) (pe_callTy cr_int1 (by rfl) T.z_int (by decide +kernel) (pa_cons (pe_cmpR (op_neD hr.units) (pv 1) (pe_lst pa_nil) (nomark _)) pa_nil)))) (pe_op op_rep (pe_lst (pa_cons pe_int pa_nil)) (pe_callTy cr_int1 (by rfl) T.z_int (by decide +kernel) (pa_cons (pe_cmpR (op_eqD hr.units) (pv 1) (pe_lst pa_nil) (nomark _)) pa_nil)))) pa_nil))))
    (pss_cons (ps_set (i := 3) sc_law_bad_row.nd rfl (by first | exact Or.inl rfl | exact Or.inr rfl) (pe_op op_addG (pv 3) (pe_lst (pa_cons (pe_op op_addG (pe_op op_addG (pe_slice sl_list (pv 1) po_none (po_some (pv 2))) (pe_lst (pa_cons (pe_un un_neg pe_int) pa_nil))) (pe_slice sl_list (pv 1) (po_some (pe_op op_addG (pv 2) pe_int)) po_none)) (pa_cons (pe_ifExp (pt_cmpR (op_neD hr.units) (pv 1) (pe_lst pa_nil) (nomark _)) (pe_slice sl_list (pv 1) (po_some pe_int) po_none) (pe_lst (pa_cons pe_int pa_nil))) pa_nil)))))
    (pss_one (ps_ret (pe_ix ix_seq (pv 3) (pe_call (G_law_take_z T) (hr.mono (by first | decide | omega)) (by rfl) T.g_law_take T.F_law_take.kp T.b_law_take .nil pass0 (pa_cons (pv 0) (pa_cons pe_int pa_nil))) (fun _ _ => rfl))))))),
    (rs_seq (rs_asg (re_call0 (ra_cons re_var (ra_cons (re_op (ro_add (m := false)) (re_CB rc_len (ra_cons re_var ra_nil)) re_int) ra_nil))) rg_name)
    (rs_seq (rs_asg (re_lst (m := false) (ra_cons (re_op (ro_add (m := false)) (re_op (ro_add (m := false)) (re_slL (m := false) re_var ro_none (ro_some re_var)) (re_lst (m := false) (ra_cons (re_op (ro_add (m := false)) (re_CB rc_len (ra_cons re_var ra_nil)) re_int) ra_nil))) (re_slL (m := false) re_var (ro_some re_var) ro_none)) (ra_cons (re_op (ro_add (m := false)) (re_op (ro_add (m := false)) re_var (re_op (ro_rep (m := false)) (re_lst (m := false) (ra_cons re_int ra_nil)) (re_CB rc_int1 (ra_cons (re_op ro_ne re_var (re_lst (m := false) ra_nil)) ra_nil)))) (re_op (ro_rep (m := false)) (re_lst (m := false) (ra_cons re_int ra_nil)) (re_CB rc_int1 (ra_cons (re_op ro_eq re_var (re_lst (m := false) ra_nil)) ra_nil)))) ra_nil))) rg_name)
    (rs_seq (rs_asg (re_op (ro_add (m := false)) re_var (re_lst (m := false) (ra_cons (re_op (ro_add (m := false)) (re_op (ro_add (m := false)) (re_slL (m := false) re_var ro_none (ro_some re_var)) (re_lst (m := false) (ra_cons (re_un ru_neg re_int) ra_nil))) (re_slL (m := false) re_var (ro_some (re_op (ro_add (m := false)) re_var re_int)) ro_none)) (ra_cons (re_if (rt_test (re_op ro_ne re_var (re_lst (m := false) ra_nil))) (re_slL (m := false) re_var (ro_some re_int) ro_none) (re_lst (m := false) (ra_cons re_int ra_nil))) ra_nil)))) rg_name)
    (rs_ret (re_op ro_ix re_var (re_call0 (ra_cons re_var (ra_cons re_int ra_nil))))))))⟩
theorem G_law_low_z (T : Txt K mg) : FnOk P w K mg base CX0 1 T.a_law_low T.fd_law_low ["top", "bottom"] (spF K mg 2 f_law_low_z) :=
  fn_dl (k := 0) T.F_law_low sc_law_low rfl fun cdv A outer s H E hr => ⟨_, (pss_cons (ps_par (i := 2) (j := 3) (by rfl) sc_law_low.nd rfl rfl (by decide) (by rfl) (by rfl) (pa_cons (pe_callB cr_abs (by rfl) T.z_abs (by decide +kernel) (pa_cons (pv 0) pa_nil)) (pa_cons (pv 1) pa_nil)) (by rfl))
    (pss_cons (ps_while PassesOwn.never (pt_cmpR (op_neD hr.units) (pv 3) pe_int (nomark _))
    (pss_one (ps_par (i := 2) (j := 3) (by rfl) sc_law_low.nd rfl rfl (by decide) (by rfl) (by rfl) (pa_cons (pv 3) (pa_cons (pe_op op_mod (pv 2) (pv 3)) pa_nil)) (by rfl))))
    (pss_one (ps_ret (pe_tup (pa_cons (pe_op op_fdivW (pv 0) (pv 2)) (pa_cons (pe_op op_fdivW (pv 1) (pv 2)) pa_nil))))))),
    (rs_seq (rs_par (ra_cons (re_CB rc_abs (ra_cons re_var ra_nil)) (ra_cons re_var ra_nil)))
    (rs_seq (rs_while (rt_test (re_op ro_ne re_var re_int))
    (rs_par (ra_cons re_var (ra_cons (re_op ro_mod re_var re_var) ra_nil))))
    (rs_ret (re_tup (ra_cons (re_op ro_fdiv re_var re_var) (ra_cons (re_op ro_fdiv re_var re_var) ra_nil))))))⟩
theorem G_law_bad_rains_z (T : Txt K mg) : FnOk P w K mg base CX0 2 T.a_law_bad_rains T.fd_law_bad_rains ["deck", "tanks", "some"] (spF K mg 3 f_law_bad_rains_z) :=
  fn_dl (k := 1) T.F_law_bad_rains sc_law_bad_rains rfl fun cdv A outer s H E hr => ⟨_, (pss_cons (ps_set (i := 3) sc_law_bad_rains.nd rfl (by first | exact Or.inl rfl | exact Or.inr rfl) (pe_call (G_law_take_z T) (hr.mono (by first | decide | omega)) (by rfl) T.g_law_take T.F_law_take.kp T.b_law_take .nil pass0 (pa_cons (pv 0) (pa_cons (pe_op op_addG (pe_callB cr_len (by rfl) T.z_len (by decide +kernel) (pa_cons (pv 2) pa_nil)) pe_int) pa_nil))))
    (pss_cons (ps_set (i := 4) sc_law_bad_rains.nd rfl (by first | exact Or.inl rfl | exact Or.inr rfl) (pe_ix ix_seq (pe_lst (pa_cons pe_int (pa_cons (pe_un un_neg pe_int) (pa_cons (pe_op op_addG (pe_callB cr_len (by rfl) T.z_len (by decide +kernel) (pa_cons (pv 1) pa_nil)) pe_int) (pa_cons (pe_op op_addG (pe_op op_addG (pe_callB cr_len (by rfl) T.z_len (by decide +kernel) (pa_cons (pv 1) pa_nil)) pe_int) (pe_call (G_law_take_z T) (hr.mono (by first | decide | omega)) (by rfl) T.g_law_take T.F_law_take.kp T.b_law_take .nil pass0 (pa_cons (pv 0) (pa_cons pe_int pa_nil)))) pa_nil))))) (pe_call (G_law_take_z T) (hr.mono (by first | decide | omega)) (by rfl) T.g_law_take T.F_law_take.kp T.b_law_take .nil pass0 (pa_cons (pv 0) (pa_cons pe_int pa_nil))) (fun _ _ => rfl)))
    (pss_cons (ps_set (i := 5) sc_law_bad_rains.nd rfl (by first | exact Or.inl rfl | exact Or.inr rfl) (pe_ix ix_seq (pe_lst (pa_cons (pe_tup (pa_cons (pv 4) (pa_cons (pe_tup (pa_cons pe_int (pa_cons pe_int pa_nil))) pa_nil))) (pa_cons (pe_tup (pa_cons pe_int (pa_cons (pe_tup (pa_cons pe_int (pa_cons pe_int pa_nil))) pa_nil))) (pa_cons (pe_tup (pa_cons pe_int (pa_cons (pe_call (G_law_low_z T) (hr.mono (by first | decide | omega)) (by rfl) T.g_law_low T.F_law_low.kp T.b_law_low .nil pass0 (pa_cons (pe_op op_sub (pe_un un_neg pe_int) (pe_call (G_law_take_z T) (hr.mono (by first | decide | omega)) (by rfl) T.g_law_take T.F_law_take.kp T.b_law_take .nil pass0 (pa_cons (pv 0) (pa_cons pe_int pa_nil)))) (pa_cons pe_int pa_nil))) pa_nil))) (pa_cons (pe_tup (pa_cons (pv 4) (pa_cons (pe_tup (pa_cons pe_int (pa_cons pe_int pa_nil))) pa_nil))) pa_nil))))) (pe_call (G_law_take_z T) (hr.mono (by first | decide | omega)) (by rfl) T.g_law_take T.F_law_take.kp T.b_law_take .nil pass0 (pa_cons (pv 0) (pa_cons pe_int pa_nil))) (fun _ _ => rfl)))
    (pss_one (ps_ret (pe_tup (pa_cons (pe_op op_addG (pe_op op_addG (pe_op op_addG (pe_slice sl_list (pv 2) po_none (po_some (pv 3))) (pe_lst (pa_cons (pv 5) pa_nil))) (pe_slice sl_list (pv 2) (po_some (pv 3)) po_none)) (pe_lst (pa_cons (pe_tup (pa_cons pe_int (pa_cons (pe_tup (pa_cons pe_int (pa_cons pe_int pa_nil))) pa_nil))) pa_nil))) (pa_cons (pv 3) pa_nil)))))))),
    (rs_seq (rs_asg (re_call0 (ra_cons re_var (ra_cons (re_op (ro_add (m := false)) (re_CB rc_len (ra_cons re_var ra_nil)) re_int) ra_nil))) rg_name)
    (rs_seq (rs_asg (re_op ro_ix (re_lst (m := false) (ra_cons re_int (ra_cons (re_un ru_neg re_int) (ra_cons (re_op (ro_add (m := false)) (re_CB rc_len (ra_cons re_var ra_nil)) re_int) (ra_cons (re_op (ro_add (m := false)) (re_op (ro_add (m := false)) (re_CB rc_len (ra_cons re_var ra_nil)) re_int) (re_call0 (ra_cons re_var (ra_cons re_int ra_nil)))) ra_nil))))) (re_call0 (ra_cons re_var (ra_cons re_int ra_nil)))) rg_name)
    (rs_seq (rs_asg (re_op ro_ix (re_lst (m := false) (ra_cons (re_tup (ra_cons re_var (ra_cons (re_tup (ra_cons re_int (ra_cons re_int ra_nil))) ra_nil))) (ra_cons (re_tup (ra_cons re_int (ra_cons (re_tup (ra_cons re_int (ra_cons re_int ra_nil))) ra_nil))) (ra_cons (re_tup (ra_cons re_int (ra_cons (re_call0 (ra_cons (re_op ro_sub (re_un ru_neg re_int) (re_call0 (ra_cons re_var (ra_cons re_int ra_nil)))) (ra_cons re_int ra_nil))) ra_nil))) (ra_cons (re_tup (ra_cons re_var (ra_cons (re_tup (ra_cons re_int (ra_cons re_int ra_nil))) ra_nil))) ra_nil))))) (re_call0 (ra_cons re_var (ra_cons re_int ra_nil)))) rg_name)
    (rs_ret (re_tup (ra_cons (re_op (ro_add (m := false)) (re_op (ro_add (m := false)) (re_op (ro_add (m := false)) (re_slL (m := false) re_var ro_none (ro_some re_var)) (re_lst (m := false) (ra_cons re_var ra_nil))) (re_slL (m := false) re_var (ro_some re_var) ro_none)) (re_lst (m := false) (ra_cons (re_tup (ra_cons re_int (ra_cons (re_tup (ra_cons re_int (ra_cons re_int ra_nil))) ra_nil))) ra_nil))) (ra_cons re_var ra_nil)))))))⟩
theorem G_law_amount_z (T : Txt K mg) : FnOk P w K mg base CX0 2 T.a_law_amount T.fd_law_amount ["deck"] (spF K mg 1 f_law_amount_z) :=
  fn_dl (k := 1) T.F_law_amount sc_law_amount rfl fun cdv A outer s H E hr => ⟨_, (pss_cons (ps_set (i := 1) sc_law_amount.nd rfl (by first | exact Or.inl rfl | exact Or.inr rfl) (pe_lst (pa_cons pe_int (pa_cons (pe_call (G_law_take_z T) (hr.mono (by first | decide | omega)) (by rfl) T.g_law_take T.F_law_take.kp T.b_law_take .nil pass0 (pa_cons (pv 0) (pa_cons pe_int pa_nil))) (pa_cons (pe_call (G_law_take_z T) (hr.mono (by first | decide | omega)) (by rfl) T.g_law_take T.F_law_take.kp T.b_law_take .nil pass0 (pa_cons (pv 0) (pa_cons pe_int pa_nil))) (pa_cons (pe_op op_addG (pe_op op_mulW (pe_call (G_law_take_z T) (hr.mono (by first | decide | omega)) (by rfl) T.g_law_take T.F_law_take.kp T.b_law_take .nil pass0 (pa_cons (pv 0) (pa_cons (pe_op op_pow pe_int pe_int) pa_nil))) (pe_op op_pow pe_int pe_int)) (pe_call (G_law_take_z T) (hr.mono (by first | decide | omega)) (by rfl) T.g_law_take T.F_law_take.kp T.b_law_take .nil pass0 (pa_cons (pv 0) (pa_cons (pe_op op_pow pe_int pe_int) pa_nil)))) pa_nil))))))
    (pss_cons (ps_set (i := 2) sc_law_amount.nd rfl (by first | exact Or.inl rfl | exact Or.inr rfl) (pe_call (G_law_take_z T) (hr.mono (by first | decide | omega)) (by rfl) T.g_law_take T.F_law_take.kp T.b_law_take .nil pass0 (pa_cons (pv 0) (pa_cons pe_int pa_nil))))
    (pss_one (ps_ret (pe_call (G_law_low_z T) (hr.mono (by first | decide | omega)) (by rfl) T.g_law_low T.F_law_low.kp T.b_law_low .nil pass0 (pa_cons (pe_ix ix_seq (pv 1) (pv 2) (fun _ _ => rfl)) (pa_cons (pe_ix ix_seq (pe_lst (pa_cons pe_int (pa_cons pe_int (pa_cons (pe_op op_addG pe_int (pe_call (G_law_take_z T) (hr.mono (by first | decide | omega)) (by rfl) T.g_law_take T.F_law_take.kp T.b_law_take .nil pass0 (pa_cons (pv 0) (pa_cons pe_int pa_nil)))) (pa_cons (pe_op op_addG pe_int (pe_call (G_law_take_z T) (hr.mono (by first | decide | omega)) (by rfl) T.g_law_take T.F_law_take.kp T.b_law_take .nil pass0 (pa_cons (pv 0) (pa_cons pe_int pa_nil)))) pa_nil))))) (pv 2) (fun _ _ => rfl)) pa_nil))))))),
    (rs_seq (rs_asg (re_lst (m := false) (ra_cons re_int (ra_cons (re_call0 (ra_cons re_var (ra_cons re_int ra_nil))) (ra_cons (re_call0 (ra_cons re_var (ra_cons re_int ra_nil))) (ra_cons (re_op (ro_add (m := false)) (re_op ro_mul (re_call0 (ra_cons re_var (ra_cons (re_op ro_pow re_int re_int) ra_nil))) (re_op ro_pow re_int re_int)) (re_call0 (ra_cons re_var (ra_cons (re_op ro_pow re_int re_int) ra_nil)))) ra_nil))))) rg_name)
    (rs_seq (rs_asg (re_call0 (ra_cons re_var (ra_cons re_int ra_nil))) rg_name)
    (rs_ret (re_call0 (ra_cons (re_op ro_ix re_var re_var) (ra_cons (re_op ro_ix (re_lst (m := false) (ra_cons re_int (ra_cons re_int (ra_cons (re_op (ro_add (m := false)) re_int (re_call0 (ra_cons re_var (ra_cons re_int ra_nil)))) (ra_cons (re_op (ro_add (m := false)) re_int (re_call0 (ra_cons re_var (ra_cons re_int ra_nil)))) ra_nil))))) re_var) ra_nil))))))⟩
theorem G_law_rains_z (T : Txt K mg) : FnOk P w K mg base CX0 3 T.a_law_rains T.fd_law_rains ["deck", "tanks", "most"] (spF K mg 3 f_law_rains_z) :=
  fn_dl (k := 2) T.F_law_rains sc_law_rains rfl fun cdv A outer s H E hr => ⟨_, (pss_cons (ps_set (i := 3) sc_law_rains.nd rfl (by first | exact Or.inl rfl | exact Or.inr rfl) (pe_lst pa_nil))
    (pss_cons (ps_for PassesOwn.never rfl (pi_range1 (by rfl) T.z_range (pa_cons (pe_call (G_law_take_z T) (hr.mono (by first | decide | omega)) (by rfl) T.g_law_take T.F_law_take.kp T.b_law_take .nil pass0 (pa_cons (pv 0) (pa_cons (pe_op op_addG (pv 2) pe_int) pa_nil))) pa_nil)) (pg_name (i := 4) sc_law_rains.nd rfl (by first | exact Or.inl rfl | exact Or.inr rfl))
    (pss_cons (ps_set (i := 5) sc_law_rains.nd rfl (by first | exact Or.inl rfl | exact Or.inr rfl) (pe_call (G_law_amount_z T) (hr.mono (by first | decide | omega)) (by rfl) T.g_law_amount T.F_law_amount.kp T.b_law_amount .nil pass0 (pa_cons (pv 0) pa_nil)))
    (pss_one (ps_expr (pe_bm PySem.F.plainAttrs_list PySem.F.slot_list_append PySem.F.type_list_append mt_append (pv 3) (pa_cons (pe_tup (pa_cons (pe_op op_addG pe_int (pe_call (G_law_take_z T) (hr.mono (by first | decide | omega)) (by rfl) T.g_law_take T.F_law_take.kp T.b_law_take .nil pass0 (pa_cons (pv 0) (pa_cons (pe_callB cr_len (by rfl) T.z_len (by decide +kernel) (pa_cons (pv 1) pa_nil)) pa_nil)))) (pa_cons (pe_ifExp (pt_cmpR op_gt (pe_ix ix_seq (pv 5) pe_int (fun _ _ => rfl)) pe_int (nomark _)) (pv 5) (pe_tup (pa_cons (pe_op op_addG pe_int (pe_call (G_law_take_z T) (hr.mono (by first | decide | omega)) (by rfl) T.g_law_take T.F_law_take.kp T.b_law_take .nil pass0 (pa_cons (pv 0) (pa_cons pe_int pa_nil)))) (pa_cons pe_int pa_nil)))) pa_nil))) pa_nil))))))
    (pss_one (ps_ret (pv 3))))),
    (rs_seq (rs_asg (re_lst (m := true) ra_nil) rg_name)
    (rs_seq (rs_for (ri_rng1 (ra_cons (re_call0 (ra_cons re_var (ra_cons (re_op (ro_add (m := false)) re_var re_int) ra_nil))) ra_nil)) rg_name
    (rs_seq (rs_asg (re_call0 (ra_cons re_var ra_nil)) rg_name)
    (rs_drop (re_BM rm_append re_var (ra_cons (re_tup (ra_cons (re_op (ro_add (m := false)) re_int (re_call0 (ra_cons re_var (ra_cons (re_CB rc_len (ra_cons re_var ra_nil)) ra_nil)))) (ra_cons (re_if (rt_test (re_op ro_gt (re_op ro_ix re_var re_int) re_int)) re_var (re_tup (ra_cons (re_op (ro_add (m := false)) re_int (re_call0 (ra_cons re_var (ra_cons re_int ra_nil)))) (ra_cons re_int ra_nil)))) ra_nil))) ra_nil)))))
    (rs_ret re_var)))⟩
theorem G_law_tanks_z (T : Txt K mg) : FnOk P w K mg base CX0 2 T.a_law_tanks T.fd_law_tanks ["deck", "most"] (spF K mg 2 f_law_tanks_z) :=
  fn_dl (k := 1) T.F_law_tanks sc_law_tanks rfl fun cdv A outer s H E hr => ⟨_, (pss_cons (ps_asg (pe_tup (pa_cons (pe_op op_addG pe_int (pe_call (G_law_take_z T) (hr.mono (by first | decide | omega)) (by rfl) T.g_law_take T.F_law_take.kp T.b_law_take .nil pass0 (pa_cons (pv 0) (pa_cons (pv 1) pa_nil)))) (pa_cons (pe_call (G_law_take_z T) (hr.mono (by first | decide | omega)) (by rfl) T.g_law_take T.F_law_take.kp T.b_law_take .nil pass0 (pa_cons (pv 0) (pa_cons pe_int pa_nil))) pa_nil))) (pg_tup (by rfl) (pgs_cons (pg_name (i := 2) sc_law_tanks.nd rfl (by first | exact Or.inl rfl | exact Or.inr rfl)) (pgs_cons (pg_name (i := 3) sc_law_tanks.nd rfl (by first | exact Or.inl rfl | exact Or.inr rfl)) pgs_nil))))
    (pss_one (ps_ret (pe_lc (own := [("tank", 4)]) (by rfl) sc_law_tanks.nd (pi_range1 (by rfl) T.z_range (pa_cons (pv 2) pa_nil)) (blkOk_by (own := [("tank", 4)]) (N := ns_law_tanks) (sc := defScope s_law_tanks) (by decide +kernel)) (fun _ _ _ _ _ => (pg_name (i := 4) sc_law_tanks.nd rfl (by first | exact Or.inl rfl | exact Or.inr rfl))) (fun _ _ _ _ _ => pts_nil) (fun _ _ _ _ _ => (pe_op op_addG pe_int (pe_call (G_law_take_z T) (hr.mono (by first | decide | omega)) (by rfl) T.g_law_take T.F_law_take.kp T.b_law_take .nil pass0 (pa_cons (pv 0) (pa_cons (pe_ix ix_seq (pe_lst (pa_cons pe_int (pa_cons pe_int (pa_cons pe_int pa_nil)))) (pv 3) (fun _ _ => rfl)) pa_nil))))))))),
    (rs_seq (rs_asg (re_tup (ra_cons (re_op (ro_add (m := false)) re_int (re_call0 (ra_cons re_var (ra_cons re_var ra_nil)))) (ra_cons (re_call0 (ra_cons re_var (ra_cons re_int ra_nil))) ra_nil))) (rg_tup (rgs_cons rg_name (rgs_cons rg_name rgs_nil))))
    (rs_ret (re_lc (m := false) (vs := [4]) (ri_rng1 (ra_cons re_var ra_nil)) (rgv_name (by decide)) rt_yes (re_op (ro_add (m := false)) re_int (re_call0 (ra_cons re_var (ra_cons (re_op ro_ix (re_lst (m := false) (ra_cons re_int (ra_cons re_int (ra_cons re_int ra_nil)))) re_var) ra_nil)))))))⟩
theorem G_law_deck_r (T : Txt K mg) : FnOk P w K mg base CX0 1 T.a_law_deck T.fd_law_deck ["script"] (spF K mg 1 f_law_deck_r) :=
  fn_dl (k := 0) T.F_law_deck sc_law_deck rfl fun cdv A outer s H E hr => ⟨_, (pss_cons (ps_set (i := 1) sc_law_deck.nd rfl (by first | exact Or.inl rfl | exact Or.inr rfl) (pe_lst pa_nil))
    (pss_cons (ps_set (i := 2) sc_law_deck.nd rfl (by first | exact Or.inl rfl | exact Or.inr rfl) pe_int)
    (pss_cons (ps_for PassesOwn.never rfl (pi_list (pv 0)) (pg_name (i := 3) sc_law_deck.nd rfl (by first | exact Or.inl rfl | exact Or.inr rfl))
    (pss_cons (ps_set (i := 2) sc_law_deck.nd rfl (by first | exact Or.inl rfl | exact Or.inr rfl) (pe_op op_mod (pe_op op_addG (pe_op op_mulW (pv 2) pe_int) (pv 3)) pe_int))
    (pss_one (ps_if (pt_cmpR op_ge (pe_callB cr_abs (by rfl) T.z_abs (by decide +kernel) (pa_cons (pv 3) pa_nil)) (pe_op op_pow pe_int pe_int) (nomark _))
    (pss_one (ps_expr (pe_bm PySem.F.plainAttrs_list PySem.F.slot_list_insert PySem.F.type_list_insert mt_insertG (pv 1) (pa_cons pe_int (pa_cons (pe_op op_sub (pe_callB cr_abs (by rfl) T.z_abs (by decide +kernel) (pa_cons (pv 3) pa_nil)) (pe_op op_pow pe_int pe_int)) pa_nil))))) pss_nil))))
    (pss_one (ps_ret (pe_lst (pa_cons (pv 1) (pa_cons (pv 2) (pa_cons pe_int pa_nil))))))))),
    (rs_seq (rs_asg (re_lst (m := true) ra_nil) rg_name)
    (rs_seq (rs_asg re_int rg_name)
    (rs_seq (rs_for (ri_list re_var) rg_name
    (rs_seq (rs_asg (re_op ro_mod (re_op (ro_add (m := false)) (re_op ro_mul re_var re_int) re_var) re_int) rg_name)
    (rs_if (rt_test (re_op ro_ge (re_CB rc_abs (ra_cons re_var ra_nil)) (re_op ro_pow re_int re_int)))
    (rs_drop (re_BM rm_insert re_var (ra_cons re_int (ra_cons (re_op ro_sub (re_CB rc_abs (ra_cons re_var ra_nil)) (re_op ro_pow re_int re_int)) ra_nil)))) rs_next)))
    (rs_ret (re_lst (m := true) (ra_cons re_var (ra_cons re_var (ra_cons re_int ra_nil))))))))⟩
theorem G_law_z (T : Txt K mg) (hx_NoFloors : PySem.ExS.ExT P K mg T.c_NoFloors T.i_NoFloors) (hx_NoRain : PySem.ExS.ExT P K mg T.c_NoRain T.i_NoRain) (hx_NoOrder : PySem.ExS.ExT P K mg T.c_NoOrder T.i_NoOrder) (B : LamX.TabB base mg T.c_B T.P_B) : Quiet P w K mg base CX0 14 T.a_law T.fd_law ["script"] (spF K mg 1 f_law_z) :=
  fn_dlQ (k := 13) T.F_law sc_law rfl fun cdv A outer s H E hr hg => ⟨_, (pss_cons (ps_set (i := 1) sc_law.nd rfl (by first | exact Or.inl rfl | exact Or.inr rfl) (pe_call (G_law_deck_r T) (hr.mono (by first | decide | omega)) (by rfl) T.g_law_deck T.F_law_deck.kp T.b_law_deck .nil pass0 (pa_cons (pv 0) pa_nil)))
    (pss_cons (ps_for PassesOwn.never rfl (pi_range1 (by rfl) T.z_range (pa_cons (pe_op op_addG pe_int (pe_callB (cr_minG rfl) (by rfl) T.z_min (by decide +kernel) (pa_cons pe_int (pa_cons (pe_callB cr_len (by rfl) T.z_len (by decide +kernel) (pa_cons (pv 0) pa_nil)) pa_nil)))) pa_nil)) (pg_name (i := 2) sc_law.nd rfl (by first | exact Or.inl rfl | exact Or.inr rfl))
    (pss_cons (ps_set (i := 3) sc_law.nd rfl (by first | exact Or.inl rfl | exact Or.inr rfl) (pe_call (G_law_tanks_z T) (hr.mono (by first | decide | omega)) (by rfl) T.g_law_tanks T.F_law_tanks.kp T.b_law_tanks .nil pass0 (pa_cons (pv 1) (pa_cons pe_int pa_nil))))
    (pss_cons (ps_set (i := 4) sc_law.nd rfl (by first | exact Or.inl rfl | exact Or.inr rfl) (pe_call (G_law_rains_z T) (hr.mono (by first | decide | omega)) (by rfl) T.g_law_rains T.F_law_rains.kp T.b_law_rains .nil pass0 (pa_cons (pv 1) (pa_cons (pv 3) (pa_cons pe_int pa_nil)))))
    (pss_cons (ps_set (i := 5) sc_law.nd rfl (by first | exact Or.inl rfl | exact Or.inr rfl) (pe_revL (pe_listRg rfl (by rfl) T.z_list (prg_1 (by rfl) T.z_range (pe_callB cr_len (by rfl) T.z_len (by decide +kernel) (pa_cons (pv 4) pa_nil))))))
    (pss_cons (ps_set (i := 6) sc_law.nd rfl (by first | exact Or.inl rfl | exact Or.inr rfl) (pe_call (G_law_take_z T) (hr.mono (by first | decide | omega)) (by rfl) T.g_law_take T.F_law_take.kp T.b_law_take .nil pass0 (pa_cons (pv 1) (pa_cons (pe_callB cr_len (by rfl) T.z_len (by decide +kernel) (pa_cons (pv 3) pa_nil)) pa_nil))))
    (pss_cons (ps_set (i := 7) sc_law.nd rfl (by first | exact Or.inl rfl | exact Or.inr rfl) (pe_op op_addG (pe_op op_addG (pe_slice sl_list (pv 3) po_none (po_some (pv 6))) (pe_lst (pa_cons (pe_ix ix_seq (pe_lst (pa_cons pe_int (pa_cons (pe_un un_neg pe_int) (pa_cons (pe_un un_neg pe_int) pa_nil)))) (pe_call (G_law_take_z T) (hr.mono (by first | decide | omega)) (by rfl) T.g_law_take T.F_law_take.kp T.b_law_take .nil pass0 (pa_cons (pv 1) (pa_cons pe_int pa_nil))) (fun _ _ => rfl)) pa_nil))) (pe_slice sl_list (pv 3) (po_some (pe_op op_addG (pv 6) pe_int)) po_none)))
    (pss_cons (ps_asg (pe_call (G_law_bad_rains_z T) (hr.mono (by first | decide | omega)) (by rfl) T.g_law_bad_rains T.F_law_bad_rains.kp T.b_law_bad_rains .nil pass0 (pa_cons (pv 1) (pa_cons (pv 3) (pa_cons (pv 4) pa_nil)))) (pg_tup (by rfl) (pgs_cons (pg_name (i := 8) sc_law.nd rfl (by first | exact Or.inl rfl | exact Or.inr rfl)) (pgs_cons (pg_name (i := 9) sc_law.nd rfl (by first | exact Or.inl rfl | exact Or.inr rfl)) pgs_nil))))
    (pss_cons (ps_set (i := 10) sc_law.nd rfl (by first | exact Or.inl rfl | exact Or.inr rfl) (pe_call (G_law_bad_row_z T) (hr.mono (by first | decide | omega)) (by rfl) T.g_law_bad_row T.F_law_bad_row.kp T.b_law_bad_row .nil pass0 (pa_cons (pv 1) (pa_cons (pv 5) pa_nil))))
    (pss_cons (ps_set (i := 11) sc_law.nd rfl (by first | exact Or.inl rfl | exact Or.inr rfl) (pe_callB (cr_repr hg (un80 hr)) (by rfl) T.z_repr (by decide +kernel) (pa_cons (pe_lst (pa_cons (pv 3) (pa_cons (pv 4) (pa_cons (pv 8) (pa_cons (pv 10) pa_nil))))) pa_nil)))
    (pss_cons (ps_for PassesOwn.never rfl (pi_list (pe_lst (pa_cons pe_non (pa_cons (pv 5) (pa_cons (pv 10) pa_nil))))) (pg_name (i := 12) sc_law.nd rfl (by first | exact Or.inl rfl | exact Or.inr rfl))
    (pss_cons (ps_if (PW.pt (pw_or (pt_cmpR (op_neD hr.units) (pe_call (G_law_refusal_z T hx_NoFloors hx_NoRain hx_NoOrder B) (hr.mono (by first | decide | omega)) (by rfl) T.g_law_refusal T.F_law_refusal.kp T.b_law_refusal .nil pass0 (pa_cons (pe_lst pa_nil) (pa_cons (pv 8) (pa_cons (pv 12) pa_nil)))) (pe_tup (pa_cons pe_str (pa_cons pe_non pa_nil))) (nomark _)) (pw_or1 (pt_cmpR (op_neD hr.units) (pe_call (G_law_refusal_z T hx_NoFloors hx_NoRain hx_NoOrder B) (hr.mono (by first | decide | omega)) (by rfl) T.g_law_refusal T.F_law_refusal.kp T.b_law_refusal .nil pass0 (pa_cons (pv 7) (pa_cons (pv 8) (pa_cons (pv 12) pa_nil)))) (pe_tup (pa_cons pe_str (pa_cons (pv 6) pa_nil))) (nomark _)))))
    (pss_one (ps_ret pe_bl)) pss_nil)
    (pss_one (ps_if (pt_cmpR (op_neD hr.units) (pe_call (G_law_refusal_z T hx_NoFloors hx_NoRain hx_NoOrder B) (hr.mono (by first | decide | omega)) (by rfl) T.g_law_refusal T.F_law_refusal.kp T.b_law_refusal .nil pass0 (pa_cons (pv 3) (pa_cons (pv 8) (pa_cons (pv 12) pa_nil)))) (pe_tup (pa_cons pe_str (pa_cons (pv 9) pa_nil))) (nomark _))
    (pss_one (ps_ret pe_bl)) pss_nil))))
    (pss_cons (ps_setLc (i := 13) (own := [("asked", 12)]) (by rfl) sc_law.nd (by rfl) (by rfl) (sw_true rfl rfl rfl (by decide +kernel)) (pi_list (pe_lst (pa_cons pe_non (pa_cons (pv 5) (pa_cons (pv 10) pa_nil))))) (blkOk_by (own := [("asked", 12)]) (N := ns_law) (sc := defScope s_law) (by decide +kernel)) (fun _ _ _ _ _ => (pg_name (i := 12) sc_law.nd rfl (by first | exact Or.inl rfl | exact Or.inr rfl))) (fun _ _ _ _ _ => pts_nil) (fun _ _ _ _ _ => (pe_call (G_law_refusal_z T hx_NoFloors hx_NoRain hx_NoOrder B) (hr.mono (by first | decide | omega)) (by rfl) T.g_law_refusal T.F_law_refusal.kp T.b_law_refusal .nil pass0 (pa_cons (pv 3) (pa_cons (pv 4) (pa_cons (pv 12) pa_nil))))))
    (pss_one (ps_if (PW.pt (pw_or (pt_cmpR (op_neD hr.units) (pv 13) (pe_lst (pa_cons (pe_tup (pa_cons pe_str (pa_cons pe_non pa_nil))) (pa_cons (pe_tup (pa_cons pe_str (pa_cons pe_non pa_nil))) (pa_cons (pe_tup (pa_cons pe_str (pa_cons pe_non pa_nil))) pa_nil)))) (nomark _)) (pw_or1 (pt_cmpR (op_neD hr.units) (pe_callB (cr_repr hg (un80 hr)) (by rfl) T.z_repr (by decide +kernel) (pa_cons (pe_lst (pa_cons (pv 3) (pa_cons (pv 4) (pa_cons (pv 8) (pa_cons (pv 10) pa_nil))))) pa_nil)) (pv 11) (nomark _)))))
    (pss_one (ps_ret pe_bl)) pss_nil)))))))))))))
    (pss_one (ps_ret pe_bl)))),
    (rs_seq (rs_asg (re_call0 (ra_cons re_var ra_nil)) rg_name)
    (rs_seq (rs_for (ri_rng1 (ra_cons (re_op (ro_add (m := false)) re_int (re_CB rc_min (ra_cons re_int (ra_cons (re_CB rc_len (ra_cons re_var ra_nil)) ra_nil)))) ra_nil)) rg_name
    (rs_seq (rs_asg (re_call0 (ra_cons re_var (ra_cons re_int ra_nil))) rg_name)
    (rs_seq (rs_asg (re_call0 (ra_cons re_var (ra_cons re_var (ra_cons re_int ra_nil)))) rg_name)
    (rs_seq (rs_asg (re_revL (m := false) (re_lr1 (m := false) (re_CB rc_len (ra_cons re_var ra_nil)))) rg_name)
    (rs_seq (rs_asg (re_call0 (ra_cons re_var (ra_cons (re_CB rc_len (ra_cons re_var ra_nil)) ra_nil))) rg_name)
    (rs_seq (rs_asg (re_op (ro_add (m := false)) (re_op (ro_add (m := false)) (re_slL (m := false) re_var ro_none (ro_some re_var)) (re_lst (m := false) (ra_cons (re_op ro_ix (re_lst (m := false) (ra_cons re_int (ra_cons (re_un ru_neg re_int) (ra_cons (re_un ru_neg re_int) ra_nil)))) (re_call0 (ra_cons re_var (ra_cons re_int ra_nil)))) ra_nil))) (re_slL (m := false) re_var (ro_some (re_op (ro_add (m := false)) re_var re_int)) ro_none)) rg_name)
    (rs_seq (rs_asg (re_call0 (ra_cons re_var (ra_cons re_var (ra_cons re_var ra_nil)))) (rg_tup (rgs_cons rg_name (rgs_cons rg_name rgs_nil))))
    (rs_seq (rs_asg (re_call0 (ra_cons re_var (ra_cons re_var ra_nil))) rg_name)
    (rs_seq (rs_asg (re_CB rc_repr (ra_cons (re_lst (m := false) (ra_cons re_var (ra_cons re_var (ra_cons re_var (ra_cons re_var ra_nil))))) ra_nil)) rg_name)
    (rs_seq (rs_for (ri_list (re_lst (m := false) (ra_cons re_non (ra_cons re_var (ra_cons re_var ra_nil))))) rg_name
    (rs_seq (rs_if (rt_or (rt_test (re_op ro_ne (re_call0 (ra_cons (re_lst (m := false) ra_nil) (ra_cons re_var (ra_cons re_var ra_nil)))) (re_tup (ra_cons re_str (ra_cons re_non ra_nil))))) (rt_test (re_op ro_ne (re_call0 (ra_cons re_var (ra_cons re_var (ra_cons re_var ra_nil)))) (re_tup (ra_cons re_str (ra_cons re_var ra_nil))))))
    (rs_ret re_bl) rs_next)
    (rs_if (rt_test (re_op ro_ne (re_call0 (ra_cons re_var (ra_cons re_var (ra_cons re_var ra_nil)))) (re_tup (ra_cons re_str (ra_cons re_var ra_nil)))))
    (rs_ret re_bl) rs_next)))
    (rs_seq (rs_asg (re_lc (m := false) (vs := [12]) (ri_list (re_lst (m := false) (ra_cons re_non (ra_cons re_var (ra_cons re_var ra_nil))))) (rgv_name (by decide)) rt_yes (re_call0 (ra_cons re_var (ra_cons re_var (ra_cons re_var ra_nil))))) rg_name)
    (rs_if (rt_or (rt_test (re_op ro_ne re_var (re_lst (m := false) (ra_cons (re_tup (ra_cons re_str (ra_cons re_non ra_nil))) (ra_cons (re_tup (ra_cons re_str (ra_cons re_non ra_nil))) (ra_cons (re_tup (ra_cons re_str (ra_cons re_non ra_nil))) ra_nil)))))) (rt_test (re_op ro_ne (re_CB rc_repr (ra_cons (re_lst (m := false) (ra_cons re_var (ra_cons re_var (ra_cons re_var (ra_cons re_var ra_nil))))) ra_nil)) re_var)))
    (rs_ret re_bl) rs_next))))))))))))
    (rs_ret re_bl)))⟩
end
/-! ### the head -/
theorem all_mk {l : PySem.W.OpenLaw} {w : World} {K : PySem.W.Frag} {h : Heap} {mg : Str → Option Value} {fa : Addr} (X : K.In h) (G : h.Ns mainGlobals mg) (hfa : mg "law" = some (.ref fa)) (tab : DL.BndTab K mg h)
    {C0 : Addr}
    {f0 : Addr} {od0 an0 : Option Addr} {sl0 : Array (Option Value)} {oc0 kV0 dc0 pm0 cd0 ct0 : Value}
    {f1 : Addr} {od1 an1 : Option Addr} {sl1 : Array (Option Value)} {oc1 kV1 dc1 pm1 cd1 ct1 : Value}
    {f2 : Addr} {od2 an2 : Option Addr} {sl2 : Array (Option Value)} {oc2 kV2 dc2 pm2 cd2 ct2 : Value}
    {f3 : Addr} {od3 an3 : Option Addr} {sl3 : Array (Option Value)} {oc3 kV3 dc3 pm3 cd3 ct3 : Value}
    {f4 : Addr} {od4 an4 : Option Addr} {sl4 : Array (Option Value)} {oc4 kV4 dc4 pm4 cd4 ct4 : Value}
    {f5 : Addr} {od5 an5 : Option Addr} {sl5 : Array (Option Value)} {oc5 kV5 dc5 pm5 cd5 ct5 : Value}
    {f6 : Addr} {od6 an6 : Option Addr} {sl6 : Array (Option Value)} {oc6 kV6 dc6 pm6 cd6 ct6 : Value}
    {f7 : Addr} {od7 an7 : Option Addr} {sl7 : Array (Option Value)} {oc7 kV7 dc7 pm7 cd7 ct7 : Value}
    {T7 : Addr} {eT7 : Option Addr} {iT7 : Array Value} {nT7 : Nat} {yT7 : Array (Option Value)}
    {f8 : Addr} {od8 an8 : Option Addr} {sl8 : Array (Option Value)} {oc8 kV8 dc8 pm8 cd8 ct8 : Value}
    {f9 : Addr} {od9 an9 : Option Addr} {sl9 : Array (Option Value)} {oc9 kV9 dc9 pm9 cd9 ct9 : Value}
    {f10 : Addr} {od10 an10 : Option Addr} {sl10 : Array (Option Value)} {oc10 kV10 dc10 pm10 cd10 ct10 : Value}
    {f11 : Addr} {od11 an11 : Option Addr} {sl11 : Array (Option Value)} {oc11 kV11 dc11 pm11 cd11 ct11 : Value}
    {f12 : Addr} {od12 an12 : Option Addr} {sl12 : Array (Option Value)} {oc12 kV12 dc12 pm12 cd12 ct12 : Value}
    {f13 : Addr} {od13 an13 : Option Addr} {sl13 : Array (Option Value)} {oc13 kV13 dc13 pm13 cd13 ct13 : Value}
    {f14 : Addr} {od14 an14 : Option Addr} {sl14 : Array (Option Value)} {oc14 kV14 dc14 pm14 cd14 ct14 : Value}
    {T14 : Addr} {eT14 : Option Addr} {iT14 : Array Value} {nT14 : Nat} {yT14 : Array (Option Value)}
    {E14 : Addr} {eE14 : Option Addr} {iE14 : Array Value} {nE14 : Nat} {yE14 : Array (Option Value)}
    {f15 : Addr} {od15 an15 : Option Addr} {sl15 : Array (Option Value)} {oc15 kV15 dc15 pm15 cd15 ct15 : Value}
    {f16 : Addr} {od16 an16 : Option Addr} {sl16 : Array (Option Value)} {oc16 kV16 dc16 pm16 cd16 ct16 : Value}
    {T16 : Addr} {eT16 : Option Addr} {iT16 : Array Value} {nT16 : Nat} {yT16 : Array (Option Value)}
    {f17 : Addr} {od17 an17 : Option Addr} {sl17 : Array (Option Value)} {oc17 kV17 dc17 pm17 cd17 ct17 : Value}
    {f18 : Addr} {od18 an18 : Option Addr} {sl18 : Array (Option Value)} {oc18 kV18 dc18 pm18 cd18 ct18 : Value}
    {f19 : Addr} {od19 an19 : Option Addr} {sl19 : Array (Option Value)} {oc19 kV19 dc19 pm19 cd19 ct19 : Value}
    {f20 : Addr} {od20 an20 : Option Addr} {sl20 : Array (Option Value)} {oc20 kV20 dc20 pm20 cd20 ct20 : Value}
    {f21 : Addr} {od21 an21 : Option Addr} {sl21 : Array (Option Value)} {oc21 kV21 dc21 pm21 cd21 ct21 : Value}
    {f22 : Addr} {od22 an22 : Option Addr} {sl22 : Array (Option Value)} {oc22 kV22 dc22 pm22 cd22 ct22 : Value}
    {f23 : Addr} {od23 an23 : Option Addr} {sl23 : Array (Option Value)} {oc23 kV23 dc23 pm23 cd23 ct23 : Value}
    {f24 : Addr} {od24 an24 : Option Addr} {sl24 : Array (Option Value)} {oc24 kV24 dc24 pm24 cd24 ct24 : Value}
    {f25 : Addr} {od25 an25 : Option Addr} {sl25 : Array (Option Value)} {oc25 kV25 dc25 pm25 cd25 ct25 : Value}
    {f26 : Addr} {od26 an26 : Option Addr} {sl26 : Array (Option Value)} {oc26 kV26 dc26 pm26 cd26 ct26 : Value}
    {f27 : Addr} {od27 an27 : Option Addr} {sl27 : Array (Option Value)} {oc27 kV27 dc27 pm27 cd27 ct27 : Value}
    {f28 : Addr} {od28 an28 : Option Addr} {sl28 : Array (Option Value)} {oc28 kV28 dc28 pm28 cd28 ct28 : Value}
    {f29 : Addr} {od29 an29 : Option Addr} {sl29 : Array (Option Value)} {oc29 kV29 dc29 pm29 cd29 ct29 : Value}
    {f30 : Addr} {od30 an30 : Option Addr} {sl30 : Array (Option Value)} {oc30 kV30 dc30 pm30 cd30 ct30 : Value}
    {f31 : Addr} {od31 an31 : Option Addr} {sl31 : Array (Option Value)} {oc31 kV31 dc31 pm31 cd31 ct31 : Value}
    {cB PB : Addr} {dbB : Option Addr} {sbB : Array (Option Value)} {vsB : Array Value} {flB : Str} {tfB tgB ttB : Tok} {fgB txB : Int} {inB : Bool}
    {cS : Addr}
    {cENoFloors iENoFloors cdaENoFloors ccENoFloors NENoFloors : Addr} {nmENoFloors qENoFloors : Str} {bsENoFloors subENoFloors : List Value} {snENoFloors : List Str} {abENoFloors : Bool} {colENoFloors : Option Bool} {ddENoFloors anENoFloors odENoFloors cddENoFloors cldENoFloors : Option Addr} {m0ENoFloors m1ENoFloors m2ENoFloors m3ENoFloors m5ENoFloors : Option Value} {ocENoFloors dcENoFloors pmENoFloors ctENoFloors cclENoFloors clENoFloors : Value} {slENoFloors ccsENoFloors cslENoFloors : Array (Option Value)} {vsENoFloors : Array Value} {flENoFloors : Str} {tfENoFloors : Tok}
    {cENoRain iENoRain cdaENoRain ccENoRain NENoRain : Addr} {nmENoRain qENoRain : Str} {bsENoRain subENoRain : List Value} {snENoRain : List Str} {abENoRain : Bool} {colENoRain : Option Bool} {ddENoRain anENoRain odENoRain cddENoRain cldENoRain : Option Addr} {m0ENoRain m1ENoRain m2ENoRain m3ENoRain m5ENoRain : Option Value} {ocENoRain dcENoRain pmENoRain ctENoRain cclENoRain clENoRain : Value} {slENoRain ccsENoRain cslENoRain : Array (Option Value)} {vsENoRain : Array Value} {flENoRain : Str} {tfENoRain : Tok}
    {cENoOrder iENoOrder cdaENoOrder ccENoOrder NENoOrder : Addr} {nmENoOrder qENoOrder : Str} {bsENoOrder subENoOrder : List Value} {snENoOrder : List Str} {abENoOrder : Bool} {colENoOrder : Option Bool} {ddENoOrder anENoOrder odENoOrder cddENoOrder cldENoOrder : Option Addr} {m0ENoOrder m1ENoOrder m2ENoOrder m3ENoOrder m5ENoOrder : Option Value} {ocENoOrder dcENoOrder pmENoOrder ctENoOrder cclENoOrder clENoOrder : Value} {slENoOrder ccsENoOrder cslENoOrder : Array (Option Value)} {vsENoOrder : Array Value} {flENoOrder : Str} {tfENoOrder : Tok}
    {cENoDrop : Addr}
    {cENoFlap : Addr}
    {cENoRows : Addr}
    {cENoStep : Addr}
    {cENoTable : Addr}
    {cENoTank : Addr}
    {cENoText : Addr}
    {cENoWater : Addr}
    {c_NOUGHT : Addr} {e_NOUGHT : Option Addr} {i_NOUGHT : Array Value} {n_NOUGHT : Nat} {y_NOUGHT : Array (Option Value)}
    (oa0 : PySem.W.nsIn K mainGlobals "History" = some (some (.ref C0)))
    (og0 : PySem.W.plainGet K C0 Str.empty = true) (oh0 : PySem.W.hasDictIn K C0 = true) (op0 : PySem.W.plainOver K C0 = true) (os0 : PySem.W.findIn K (.ref C0) "__setattr__" = some (some (.builtin "object.__setattr__")))
    (om0 : PySem.W.makesIn K C0 = true) (ok0 : PySem.W.keepIn K (.ref C0) = true)
    (on0_floors : PySem.W.findIn K (.ref C0) "_floors" = some none)
    (on0_steps : PySem.W.findIn K (.ref C0) "_steps" = some none)
    (on0_waters : PySem.W.findIn K (.ref C0) "_waters" = some none)
    (a0 : PySem.W.nsIn K mainGlobals "lowest" = some (some (.ref f0)))
    (l0 : K.lookup f0 = some ⟨oc0, od0, .func (PySem.W.fnOf "lowest" "lowest" (defArgs s_lowest) (defBody s_lowest) (defScope s_lowest) .none kV0 dc0 pm0 an0 cd0 ct0), sl0⟩)
    (c0 : PySem.W.codeIn K cd0 "lowest" = true) (k0 : PySem.W.keepIn K (.ref f0) = true)
    (a1 : PySem.W.nsIn K mainGlobals "plus" = some (some (.ref f1)))
    (l1 : K.lookup f1 = some ⟨oc1, od1, .func (PySem.W.fnOf "plus" "plus" (defArgs s_plus) (defBody s_plus) (defScope s_plus) .none kV1 dc1 pm1 an1 cd1 ct1), sl1⟩)
    (c1 : PySem.W.codeIn K cd1 "plus" = true) (k1 : PySem.W.keepIn K (.ref f1) = true)
    (a2 : PySem.W.nsIn K mainGlobals "sums" = some (some (.ref f2)))
    (l2 : K.lookup f2 = some ⟨oc2, od2, .func (PySem.W.fnOf "sums" "sums" (defArgs s_sums) (defBody s_sums) (defScope s_sums) .none kV2 dc2 pm2 an2 cd2 ct2), sl2⟩)
    (c2 : PySem.W.codeIn K cd2 "sums" = true) (k2 : PySem.W.keepIn K (.ref f2) = true)
    (a3 : PySem.W.nsIn K mainGlobals "above" = some (some (.ref f3)))
    (l3 : K.lookup f3 = some ⟨oc3, od3, .func (PySem.W.fnOf "above" "above" (defArgs s_above) (defBody s_above) (defScope s_above) .none kV3 dc3 pm3 an3 cd3 ct3), sl3⟩)
    (c3 : PySem.W.codeIn K cd3 "above" = true) (k3 : PySem.W.keepIn K (.ref f3) = true)
    (a4 : PySem.W.nsIn K mainGlobals "check_water" = some (some (.ref f4)))
    (l4 : K.lookup f4 = some ⟨oc4, od4, .func (PySem.W.fnOf "check_water" "check_water" (defArgs s_check_water) (defBody s_check_water) (defScope s_check_water) .none kV4 dc4 pm4 an4 cd4 ct4), sl4⟩)
    (c4 : PySem.W.codeIn K cd4 "check_water" = true) (k4 : PySem.W.keepIn K (.ref f4) = true)
    (a5 : PySem.W.nsIn K mainGlobals "check_floors" = some (some (.ref f5)))
    (l5 : K.lookup f5 = some ⟨oc5, od5, .func (PySem.W.fnOf "check_floors" "check_floors" (defArgs s_check_floors) (defBody s_check_floors) (defScope s_check_floors) .none kV5 dc5 pm5 an5 cd5 ct5), sl5⟩)
    (c5 : PySem.W.codeIn K cd5 "check_floors" = true) (k5 : PySem.W.keepIn K (.ref f5) = true)
    (a6 : PySem.W.nsIn K mainGlobals "heaped" = some (some (.ref f6)))
    (l6 : K.lookup f6 = some ⟨oc6, od6, .func (PySem.W.fnOf "heaped" "heaped" (defArgs s_heaped) (defBody s_heaped) (defScope s_heaped) .none kV6 dc6 pm6 an6 cd6 ct6), sl6⟩)
    (c6 : PySem.W.codeIn K cd6 "heaped" = true) (k6 : PySem.W.keepIn K (.ref f6) = true)
    (a7 : PySem.W.findIn K (.ref C0) "water" = some (some (.ref f7))) (i7 : PySem.W.isFn K (.ref f7) = true)
    (l7 : K.lookup f7 = some ⟨oc7, od7, .func (PySem.W.fnOf "water" "History.water" (defArgs s_History_water) (defBody s_History_water) (defScope s_History_water) (.ref T7) kV7 dc7 pm7 an7 cd7 ct7), sl7⟩)
    (c7 : PySem.W.codeIn K cd7 "History.water" = true) (k7 : PySem.W.keepIn K (.ref f7) = true)
    (t7 : K.lookup T7 = some ⟨.type "tuple", eT7, .seq iT7 nT7, yT7⟩)
    (u7 : iT7.toList = [.none])
    (a8 : PySem.W.nsIn K mainGlobals "stretches" = some (some (.ref f8)))
    (l8 : K.lookup f8 = some ⟨oc8, od8, .func (PySem.W.fnOf "stretches" "stretches" (defArgs s_stretches) (defBody s_stretches) (defScope s_stretches) .none kV8 dc8 pm8 an8 cd8 ct8), sl8⟩)
    (c8 : PySem.W.codeIn K cd8 "stretches" = true) (k8 : PySem.W.keepIn K (.ref f8) = true)
    (a9 : PySem.W.nsIn K mainGlobals "share" = some (some (.ref f9)))
    (l9 : K.lookup f9 = some ⟨oc9, od9, .func (PySem.W.fnOf "share" "share" (defArgs s_share) (defBody s_share) (defScope s_share) .none kV9 dc9 pm9 an9 cd9 ct9), sl9⟩)
    (c9 : PySem.W.codeIn K cd9 "share" = true) (k9 : PySem.W.keepIn K (.ref f9) = true)
    (a10 : PySem.W.nsIn K mainGlobals "pool_height" = some (some (.ref f10)))
    (l10 : K.lookup f10 = some ⟨oc10, od10, .func (PySem.W.fnOf "pool_height" "pool_height" (defArgs s_pool_height) (defBody s_pool_height) (defScope s_pool_height) .none kV10 dc10 pm10 an10 cd10 ct10), sl10⟩)
    (c10 : PySem.W.codeIn K cd10 "pool_height" = true) (k10 : PySem.W.keepIn K (.ref f10) = true)
    (a11 : PySem.W.nsIn K mainGlobals "pooled" = some (some (.ref f11)))
    (l11 : K.lookup f11 = some ⟨oc11, od11, .func (PySem.W.fnOf "pooled" "pooled" (defArgs s_pooled) (defBody s_pooled) (defScope s_pooled) .none kV11 dc11 pm11 an11 cd11 ct11), sl11⟩)
    (c11 : PySem.W.codeIn K cd11 "pooled" = true) (k11 : PySem.W.keepIn K (.ref f11) = true)
    (a12 : PySem.W.nsIn K mainGlobals "at_rest" = some (some (.ref f12)))
    (l12 : K.lookup f12 = some ⟨oc12, od12, .func (PySem.W.fnOf "at_rest" "at_rest" (defArgs s_at_rest) (defBody s_at_rest) (defScope s_at_rest) .none kV12 dc12 pm12 an12 cd12 ct12), sl12⟩)
    (c12 : PySem.W.codeIn K cd12 "at_rest" = true) (k12 : PySem.W.keepIn K (.ref f12) = true)
    (a13 : PySem.W.nsIn K mainGlobals "check_bolted" = some (some (.ref f13)))
    (l13 : K.lookup f13 = some ⟨oc13, od13, .func (PySem.W.fnOf "check_bolted" "check_bolted" (defArgs s_check_bolted) (defBody s_check_bolted) (defScope s_check_bolted) .none kV13 dc13 pm13 an13 cd13 ct13), sl13⟩)
    (c13 : PySem.W.codeIn K cd13 "check_bolted" = true) (k13 : PySem.W.keepIn K (.ref f13) = true)
    (a14 : PySem.W.nsIn K mainGlobals "settled" = some (some (.ref f14)))
    (l14 : K.lookup f14 = some ⟨oc14, od14, .func (PySem.W.fnOf "settled" "settled" (defArgs s_settled) (defBody s_settled) (defScope s_settled) (.ref T14) kV14 dc14 pm14 an14 cd14 ct14), sl14⟩)
    (c14 : PySem.W.codeIn K cd14 "settled" = true) (k14 : PySem.W.keepIn K (.ref f14) = true)
    (t14 : K.lookup T14 = some ⟨.type "tuple", eT14, .seq iT14 nT14, yT14⟩)
    (u14 : iT14.toList = [.ref E14]) (w14 : K.lookup E14 = some ⟨.type "tuple", eE14, .seq iE14 nE14, yE14⟩) (x14 : iE14.toList = [])
    (a15 : PySem.W.findIn K (.ref C0) "step" = some (some (.ref f15))) (i15 : PySem.W.isFn K (.ref f15) = true)
    (l15 : K.lookup f15 = some ⟨oc15, od15, .func (PySem.W.fnOf "step" "History.step" (defArgs s_History_step) (defBody s_History_step) (defScope s_History_step) .none kV15 dc15 pm15 an15 cd15 ct15), sl15⟩)
    (c15 : PySem.W.codeIn K cd15 "History.step" = true) (k15 : PySem.W.keepIn K (.ref f15) = true)
    (a16 : PySem.W.findIn K (.ref C0) "__init__" = some (some (.ref f16))) (i16 : PySem.W.isFn K (.ref f16) = true)
    (l16 : K.lookup f16 = some ⟨oc16, od16, .func (PySem.W.fnOf "__init__" "History.__init__" (defArgs s_History_init) (defBody s_History_init) (defScope s_History_init) (.ref T16) kV16 dc16 pm16 an16 cd16 ct16), sl16⟩)
    (c16 : PySem.W.codeIn K cd16 "History.__init__" = true) (k16 : PySem.W.keepIn K (.ref f16) = true)
    (t16 : K.lookup T16 = some ⟨.type "tuple", eT16, .seq iT16 nT16, yT16⟩)
    (u16 : iT16.toList = [.none])
    (a17 : PySem.W.nsIn K mainGlobals "fallen" = some (some (.ref f17)))
    (l17 : K.lookup f17 = some ⟨oc17, od17, .func (PySem.W.fnOf "fallen" "fallen" (defArgs s_fallen) (defBody s_fallen) (defScope s_fallen) .none kV17 dc17 pm17 an17 cd17 ct17), sl17⟩)
    (c17 : PySem.W.codeIn K cd17 "fallen" = true) (k17 : PySem.W.keepIn K (.ref f17) = true)
    (a18 : PySem.W.nsIn K mainGlobals "check_rains" = some (some (.ref f18)))
    (l18 : K.lookup f18 = some ⟨oc18, od18, .func (PySem.W.fnOf "check_rains" "check_rains" (defArgs s_check_rains) (defBody s_check_rains) (defScope s_check_rains) .none kV18 dc18 pm18 an18 cd18 ct18), sl18⟩)
    (c18 : PySem.W.codeIn K cd18 "check_rains" = true) (k18 : PySem.W.keepIn K (.ref f18) = true)
    (a19 : PySem.W.nsIn K mainGlobals "bounds" = some (some (.ref f19)))
    (l19 : K.lookup f19 = some ⟨oc19, od19, .func (PySem.W.fnOf "bounds" "bounds" (defArgs s_bounds) (defBody s_bounds) (defScope s_bounds) .none kV19 dc19 pm19 an19 cd19 ct19), sl19⟩)
    (c19 : PySem.W.codeIn K cd19 "bounds" = true) (k19 : PySem.W.keepIn K (.ref f19) = true)
    (a20 : PySem.W.nsIn K mainGlobals "check_order" = some (some (.ref f20)))
    (l20 : K.lookup f20 = some ⟨oc20, od20, .func (PySem.W.fnOf "check_order" "check_order" (defArgs s_check_order) (defBody s_check_order) (defScope s_check_order) .none kV20 dc20 pm20 an20 cd20 ct20), sl20⟩)
    (c20 : PySem.W.codeIn K cd20 "check_order" = true) (k20 : PySem.W.keepIn K (.ref f20) = true)
    (a21 : PySem.W.nsIn K mainGlobals "behind" = some (some (.ref f21)))
    (l21 : K.lookup f21 = some ⟨oc21, od21, .func (PySem.W.fnOf "behind" "behind" (defArgs s_behind) (defBody s_behind) (defScope s_behind) .none kV21 dc21 pm21 an21 cd21 ct21), sl21⟩)
    (c21 : PySem.W.codeIn K cd21 "behind" = true) (k21 : PySem.W.keepIn K (.ref f21) = true)
    (a22 : PySem.W.nsIn K mainGlobals "_law_refusal" = some (some (.ref f22)))
    (l22 : K.lookup f22 = some ⟨oc22, od22, .func (PySem.W.fnOf "_law_refusal" "_law_refusal" (defArgs s_law_refusal) (defBody s_law_refusal) (defScope s_law_refusal) .none kV22 dc22 pm22 an22 cd22 ct22), sl22⟩)
    (c22 : PySem.W.codeIn K cd22 "_law_refusal" = true) (k22 : PySem.W.keepIn K (.ref f22) = true)
    (a23 : PySem.W.nsIn K mainGlobals "_law_take" = some (some (.ref f23)))
    (l23 : K.lookup f23 = some ⟨oc23, od23, .func (PySem.W.fnOf "_law_take" "_law_take" (defArgs s_law_take) (defBody s_law_take) (defScope s_law_take) .none kV23 dc23 pm23 an23 cd23 ct23), sl23⟩)
    (c23 : PySem.W.codeIn K cd23 "_law_take" = true) (k23 : PySem.W.keepIn K (.ref f23) = true)
    (a24 : PySem.W.nsIn K mainGlobals "_law_bad_row" = some (some (.ref f24)))
    (l24 : K.lookup f24 = some ⟨oc24, od24, .func (PySem.W.fnOf "_law_bad_row" "_law_bad_row" (defArgs s_law_bad_row) (defBody s_law_bad_row) (defScope s_law_bad_row) .none kV24 dc24 pm24 an24 cd24 ct24), sl24⟩)
    (c24 : PySem.W.codeIn K cd24 "_law_bad_row" = true) (k24 : PySem.W.keepIn K (.ref f24) = true)
    (a25 : PySem.W.nsIn K mainGlobals "_law_low" = some (some (.ref f25)))
    (l25 : K.lookup f25 = some ⟨oc25, od25, .func (PySem.W.fnOf "_law_low" "_law_low" (defArgs s_law_low) (defBody s_law_low) (defScope s_law_low) .none kV25 dc25 pm25 an25 cd25 ct25), sl25⟩)
    (c25 : PySem.W.codeIn K cd25 "_law_low" = true) (k25 : PySem.W.keepIn K (.ref f25) = true)
    (a26 : PySem.W.nsIn K mainGlobals "_law_bad_rains" = some (some (.ref f26)))
    (l26 : K.lookup f26 = some ⟨oc26, od26, .func (PySem.W.fnOf "_law_bad_rains" "_law_bad_rains" (defArgs s_law_bad_rains) (defBody s_law_bad_rains) (defScope s_law_bad_rains) .none kV26 dc26 pm26 an26 cd26 ct26), sl26⟩)
    (c26 : PySem.W.codeIn K cd26 "_law_bad_rains" = true) (k26 : PySem.W.keepIn K (.ref f26) = true)
    (a27 : PySem.W.nsIn K mainGlobals "_law_amount" = some (some (.ref f27)))
    (l27 : K.lookup f27 = some ⟨oc27, od27, .func (PySem.W.fnOf "_law_amount" "_law_amount" (defArgs s_law_amount) (defBody s_law_amount) (defScope s_law_amount) .none kV27 dc27 pm27 an27 cd27 ct27), sl27⟩)
    (c27 : PySem.W.codeIn K cd27 "_law_amount" = true) (k27 : PySem.W.keepIn K (.ref f27) = true)
    (a28 : PySem.W.nsIn K mainGlobals "_law_rains" = some (some (.ref f28)))
    (l28 : K.lookup f28 = some ⟨oc28, od28, .func (PySem.W.fnOf "_law_rains" "_law_rains" (defArgs s_law_rains) (defBody s_law_rains) (defScope s_law_rains) .none kV28 dc28 pm28 an28 cd28 ct28), sl28⟩)
    (c28 : PySem.W.codeIn K cd28 "_law_rains" = true) (k28 : PySem.W.keepIn K (.ref f28) = true)
    (a29 : PySem.W.nsIn K mainGlobals "_law_tanks" = some (some (.ref f29)))
    (l29 : K.lookup f29 = some ⟨oc29, od29, .func (PySem.W.fnOf "_law_tanks" "_law_tanks" (defArgs s_law_tanks) (defBody s_law_tanks) (defScope s_law_tanks) .none kV29 dc29 pm29 an29 cd29 ct29), sl29⟩)
    (c29 : PySem.W.codeIn K cd29 "_law_tanks" = true) (k29 : PySem.W.keepIn K (.ref f29) = true)
    (a30 : PySem.W.nsIn K mainGlobals "_law_deck" = some (some (.ref f30)))
    (l30 : K.lookup f30 = some ⟨oc30, od30, .func (PySem.W.fnOf "_law_deck" "_law_deck" (defArgs s_law_deck) (defBody s_law_deck) (defScope s_law_deck) .none kV30 dc30 pm30 an30 cd30 ct30), sl30⟩)
    (c30 : PySem.W.codeIn K cd30 "_law_deck" = true) (k30 : PySem.W.keepIn K (.ref f30) = true)
    (a31 : PySem.W.nsIn K mainGlobals "law" = some (some (.ref f31)))
    (l31 : K.lookup f31 = some ⟨oc31, od31, .func (PySem.W.fnOf "law" "law" (defArgs s_law) (defBody s_law) (defScope s_law) .none kV31 dc31 pm31 an31 cd31 ct31), sl31⟩)
    (c31 : PySem.W.codeIn K cd31 "law" = true) (k31 : PySem.W.keepIn K (.ref f31) = true)
    (kB : cd19 = .ref cB) (lB : K.lookup cB = some ⟨.type "code", dbB, .fields vsB, sbB⟩) (vB : vsB[11]? = some (.ref PB)) (nB : K.lookup PB = none)
    (wc11 : vsB.getD 11 .none = .ref PB) (wc18 : vsB.getD 18 .none = .str flB tfB) (wc7 : vsB.getD 7 .none = .int fgB tgB) (wc9 : vsB.getD 9 .none = .bool inB) (wc10 : vsB.getD 10 .none = .int txB ttB)
    (eS : PySem.W.nsIn K mainGlobals "FlapError" = some (some (.ref cS)))
    (eO : PySem.W.nsIn K PySem.cStatics "thirdparty.any" = some none) (eZ : PySem.W.nsIn K mainGlobals "super" = some none) (eQ : (l.prog.main.scope.names.lookup ("super" : Str)).isSome = false)
    (e2 : PySem.W.specialIn K (.builtin "object.__class__") "__get__" = some (some (.builtin "getset_descriptor.__get__"))) (e3 : PySem.W.takesIn K (.builtin "object.__class__") = some true) (e5 : PySem.W.hasDictIn K cS = true) (e6 : PySem.W.typeIn K (.ref cS) = some (.type "type")) (e8 : PySem.W.subIn K (.ref cS) (.type "BaseException") = some true)
    (eANoFloors : PySem.W.nsIn K mainGlobals "NoFloors" = some (some (.ref cENoFloors)))
    (eLNoFloors : K.lookup cENoFloors = some (excClassObj nmENoFloors qENoFloors cENoFloors NENoFloors bsENoFloors [.ref cS, .type "ValueError", .type "Exception", .type "BaseException", .type "object"] true snENoFloors subENoFloors abENoFloors colENoFloors ddENoFloors m0ENoFloors m1ENoFloors m2ENoFloors m3ENoFloors m5ENoFloors "ValueError.__new__"))
    (eBNoFloors : PySem.W.findIn K (.ref cENoFloors) "__setattr__" = some (some (.builtin "object.__setattr__"))) (eGNoFloors : PySem.W.findIn K (.ref cENoFloors) "__getattribute__" = some (some (.builtin "BaseException.__getattribute__"))) (eHNoFloors : PySem.W.findIn K (.ref cENoFloors) "__getattr__" = some none) (eWNoFloors : PySem.W.findIn K (.ref cENoFloors) "what" = some none)
    (eINoFloors : PySem.W.findIn K (.ref cENoFloors) "__init__" = some (some (.ref iENoFloors))) (eTNoFloors : PySem.W.typeIn K (.ref iENoFloors) = some (.type "function")) (eKNoFloors : PySem.W.keepIn K (.ref cENoFloors) = true) (eXNoFloors : PySem.W.subIn K (.ref cENoFloors) (.type "BaseException") = some true) (eVNoFloors : PySem.W.subIn K (.ref cENoFloors) (.type "ValueError") = some true)
    (eMNoFloors : PySem.W.mroIn K cENoFloors (.ref cENoFloors) = some true) (eYNoFloors : PySem.W.typeIn K (.ref cENoFloors) = some (.type "type")) (eDNoFloors : PySem.W.hasDictIn K cENoFloors = true) (eUNoFloors : PySem.W.ks_superIn K cENoFloors cENoFloors "__init__" = some (some (.builtin "ValueError.__init__")))
    (eFNoFloors : K.lookup iENoFloors = some ⟨ocENoFloors, odENoFloors, .func (PySem.W.ksFn "__init__" "NoFloors.__init__" (defArgs s_xinitNoFloors) (defBody s_xinitNoFloors) (defScope s_xinitNoFloors) .none .none dcENoFloors pmENoFloors anENoFloors (.ref cdaENoFloors) ctENoFloors ccENoFloors), slENoFloors⟩) (eCNoFloors : PySem.W.codeIn K (.ref cdaENoFloors) "NoFloors.__init__" = true)
    (eENoFloors : K.lookup cdaENoFloors = some ⟨cclENoFloors, cddENoFloors, .fields vsENoFloors, ccsENoFloors⟩) (eNNoFloors : vsENoFloors[2]? = some (.str flENoFloors tfENoFloors)) (ePNoFloors : ((l.prog.main.file : Str) == flENoFloors) = true) (eRNoFloors : K.lookup ccENoFloors = some ⟨clENoFloors, cldENoFloors, .cell (some (.ref cENoFloors)), cslENoFloors⟩)
    (e1NoFloors : PySem.W.findIn K (.ref cENoFloors) "__class__" = some (some (.builtin "object.__class__"))) (e4NoFloors : PySem.W.mroIn K cENoFloors (.type "object") = some true) (e7NoFloors : PySem.W.mroIn K cENoFloors (.ref cS) = some true)
    (eANoRain : PySem.W.nsIn K mainGlobals "NoRain" = some (some (.ref cENoRain)))
    (eLNoRain : K.lookup cENoRain = some (excClassObj nmENoRain qENoRain cENoRain NENoRain bsENoRain [.ref cS, .type "ValueError", .type "Exception", .type "BaseException", .type "object"] true snENoRain subENoRain abENoRain colENoRain ddENoRain m0ENoRain m1ENoRain m2ENoRain m3ENoRain m5ENoRain "ValueError.__new__"))
    (eBNoRain : PySem.W.findIn K (.ref cENoRain) "__setattr__" = some (some (.builtin "object.__setattr__"))) (eGNoRain : PySem.W.findIn K (.ref cENoRain) "__getattribute__" = some (some (.builtin "BaseException.__getattribute__"))) (eHNoRain : PySem.W.findIn K (.ref cENoRain) "__getattr__" = some none) (eWNoRain : PySem.W.findIn K (.ref cENoRain) "what" = some none)
    (eINoRain : PySem.W.findIn K (.ref cENoRain) "__init__" = some (some (.ref iENoRain))) (eTNoRain : PySem.W.typeIn K (.ref iENoRain) = some (.type "function")) (eKNoRain : PySem.W.keepIn K (.ref cENoRain) = true) (eXNoRain : PySem.W.subIn K (.ref cENoRain) (.type "BaseException") = some true) (eVNoRain : PySem.W.subIn K (.ref cENoRain) (.type "ValueError") = some true)
    (eMNoRain : PySem.W.mroIn K cENoRain (.ref cENoRain) = some true) (eYNoRain : PySem.W.typeIn K (.ref cENoRain) = some (.type "type")) (eDNoRain : PySem.W.hasDictIn K cENoRain = true) (eUNoRain : PySem.W.ks_superIn K cENoRain cENoRain "__init__" = some (some (.builtin "ValueError.__init__")))
    (eFNoRain : K.lookup iENoRain = some ⟨ocENoRain, odENoRain, .func (PySem.W.ksFn "__init__" "NoRain.__init__" (defArgs s_xinitNoRain) (defBody s_xinitNoRain) (defScope s_xinitNoRain) .none .none dcENoRain pmENoRain anENoRain (.ref cdaENoRain) ctENoRain ccENoRain), slENoRain⟩) (eCNoRain : PySem.W.codeIn K (.ref cdaENoRain) "NoRain.__init__" = true)
    (eENoRain : K.lookup cdaENoRain = some ⟨cclENoRain, cddENoRain, .fields vsENoRain, ccsENoRain⟩) (eNNoRain : vsENoRain[2]? = some (.str flENoRain tfENoRain)) (ePNoRain : ((l.prog.main.file : Str) == flENoRain) = true) (eRNoRain : K.lookup ccENoRain = some ⟨clENoRain, cldENoRain, .cell (some (.ref cENoRain)), cslENoRain⟩)
    (e1NoRain : PySem.W.findIn K (.ref cENoRain) "__class__" = some (some (.builtin "object.__class__"))) (e4NoRain : PySem.W.mroIn K cENoRain (.type "object") = some true) (e7NoRain : PySem.W.mroIn K cENoRain (.ref cS) = some true)
    (eANoOrder : PySem.W.nsIn K mainGlobals "NoOrder" = some (some (.ref cENoOrder)))
    (eLNoOrder : K.lookup cENoOrder = some (excClassObj nmENoOrder qENoOrder cENoOrder NENoOrder bsENoOrder [.ref cS, .type "ValueError", .type "Exception", .type "BaseException", .type "object"] true snENoOrder subENoOrder abENoOrder colENoOrder ddENoOrder m0ENoOrder m1ENoOrder m2ENoOrder m3ENoOrder m5ENoOrder "ValueError.__new__"))
    (eBNoOrder : PySem.W.findIn K (.ref cENoOrder) "__setattr__" = some (some (.builtin "object.__setattr__"))) (eGNoOrder : PySem.W.findIn K (.ref cENoOrder) "__getattribute__" = some (some (.builtin "BaseException.__getattribute__"))) (eHNoOrder : PySem.W.findIn K (.ref cENoOrder) "__getattr__" = some none) (eWNoOrder : PySem.W.findIn K (.ref cENoOrder) "what" = some none)
    (eINoOrder : PySem.W.findIn K (.ref cENoOrder) "__init__" = some (some (.ref iENoOrder))) (eTNoOrder : PySem.W.typeIn K (.ref iENoOrder) = some (.type "function")) (eKNoOrder : PySem.W.keepIn K (.ref cENoOrder) = true) (eXNoOrder : PySem.W.subIn K (.ref cENoOrder) (.type "BaseException") = some true) (eVNoOrder : PySem.W.subIn K (.ref cENoOrder) (.type "ValueError") = some true)
    (eMNoOrder : PySem.W.mroIn K cENoOrder (.ref cENoOrder) = some true) (eYNoOrder : PySem.W.typeIn K (.ref cENoOrder) = some (.type "type")) (eDNoOrder : PySem.W.hasDictIn K cENoOrder = true) (eUNoOrder : PySem.W.ks_superIn K cENoOrder cENoOrder "__init__" = some (some (.builtin "ValueError.__init__")))
    (eFNoOrder : K.lookup iENoOrder = some ⟨ocENoOrder, odENoOrder, .func (PySem.W.ksFn "__init__" "NoOrder.__init__" (defArgs s_xinitNoOrder) (defBody s_xinitNoOrder) (defScope s_xinitNoOrder) .none .none dcENoOrder pmENoOrder anENoOrder (.ref cdaENoOrder) ctENoOrder ccENoOrder), slENoOrder⟩) (eCNoOrder : PySem.W.codeIn K (.ref cdaENoOrder) "NoOrder.__init__" = true)
    (eENoOrder : K.lookup cdaENoOrder = some ⟨cclENoOrder, cddENoOrder, .fields vsENoOrder, ccsENoOrder⟩) (eNNoOrder : vsENoOrder[2]? = some (.str flENoOrder tfENoOrder)) (ePNoOrder : ((l.prog.main.file : Str) == flENoOrder) = true) (eRNoOrder : K.lookup ccENoOrder = some ⟨clENoOrder, cldENoOrder, .cell (some (.ref cENoOrder)), cslENoOrder⟩)
    (e1NoOrder : PySem.W.findIn K (.ref cENoOrder) "__class__" = some (some (.builtin "object.__class__"))) (e4NoOrder : PySem.W.mroIn K cENoOrder (.type "object") = some true) (e7NoOrder : PySem.W.mroIn K cENoOrder (.ref cS) = some true)
    (eANoDrop : PySem.W.nsIn K mainGlobals "NoDrop" = some (some (.ref cENoDrop))) (eDNoDrop : PySem.W.hasDictIn K cENoDrop = true) (eYNoDrop : PySem.W.typeIn K (.ref cENoDrop) = some (.type "type"))
    (eANoFlap : PySem.W.nsIn K mainGlobals "NoFlap" = some (some (.ref cENoFlap))) (eDNoFlap : PySem.W.hasDictIn K cENoFlap = true) (eYNoFlap : PySem.W.typeIn K (.ref cENoFlap) = some (.type "type"))
    (eANoRows : PySem.W.nsIn K mainGlobals "NoRows" = some (some (.ref cENoRows))) (eDNoRows : PySem.W.hasDictIn K cENoRows = true) (eYNoRows : PySem.W.typeIn K (.ref cENoRows) = some (.type "type"))
    (eANoStep : PySem.W.nsIn K mainGlobals "NoStep" = some (some (.ref cENoStep))) (eDNoStep : PySem.W.hasDictIn K cENoStep = true) (eYNoStep : PySem.W.typeIn K (.ref cENoStep) = some (.type "type"))
    (eANoTable : PySem.W.nsIn K mainGlobals "NoTable" = some (some (.ref cENoTable))) (eDNoTable : PySem.W.hasDictIn K cENoTable = true) (eYNoTable : PySem.W.typeIn K (.ref cENoTable) = some (.type "type"))
    (eANoTank : PySem.W.nsIn K mainGlobals "NoTank" = some (some (.ref cENoTank))) (eDNoTank : PySem.W.hasDictIn K cENoTank = true) (eYNoTank : PySem.W.typeIn K (.ref cENoTank) = some (.type "type"))
    (eANoText : PySem.W.nsIn K mainGlobals "NoText" = some (some (.ref cENoText))) (eDNoText : PySem.W.hasDictIn K cENoText = true) (eYNoText : PySem.W.typeIn K (.ref cENoText) = some (.type "type"))
    (eANoWater : PySem.W.nsIn K mainGlobals "NoWater" = some (some (.ref cENoWater))) (eDNoWater : PySem.W.hasDictIn K cENoWater = true) (eYNoWater : PySem.W.typeIn K (.ref cENoWater) = some (.type "type"))
    (eMNoDropNoFloors : PySem.W.mroIn K cENoFloors (.ref cENoDrop) = some false)
    (eMNoDropNoRain : PySem.W.mroIn K cENoRain (.ref cENoDrop) = some false)
    (eMNoDropNoOrder : PySem.W.mroIn K cENoOrder (.ref cENoDrop) = some false)
    (eMNoFlapNoFloors : PySem.W.mroIn K cENoFloors (.ref cENoFlap) = some false)
    (eMNoFlapNoRain : PySem.W.mroIn K cENoRain (.ref cENoFlap) = some false)
    (eMNoFlapNoOrder : PySem.W.mroIn K cENoOrder (.ref cENoFlap) = some false)
    (eMNoRowsNoFloors : PySem.W.mroIn K cENoFloors (.ref cENoRows) = some false)
    (eMNoRowsNoRain : PySem.W.mroIn K cENoRain (.ref cENoRows) = some false)
    (eMNoRowsNoOrder : PySem.W.mroIn K cENoOrder (.ref cENoRows) = some false)
    (eMNoStepNoFloors : PySem.W.mroIn K cENoFloors (.ref cENoStep) = some false)
    (eMNoStepNoRain : PySem.W.mroIn K cENoRain (.ref cENoStep) = some false)
    (eMNoStepNoOrder : PySem.W.mroIn K cENoOrder (.ref cENoStep) = some false)
    (eMNoTableNoFloors : PySem.W.mroIn K cENoFloors (.ref cENoTable) = some false)
    (eMNoTableNoRain : PySem.W.mroIn K cENoRain (.ref cENoTable) = some false)
    (eMNoTableNoOrder : PySem.W.mroIn K cENoOrder (.ref cENoTable) = some false)
    (eMNoTankNoFloors : PySem.W.mroIn K cENoFloors (.ref cENoTank) = some false)
    (eMNoTankNoRain : PySem.W.mroIn K cENoRain (.ref cENoTank) = some false)
    (eMNoTankNoOrder : PySem.W.mroIn K cENoOrder (.ref cENoTank) = some false)
    (eMNoTextNoFloors : PySem.W.mroIn K cENoFloors (.ref cENoText) = some false)
    (eMNoTextNoRain : PySem.W.mroIn K cENoRain (.ref cENoText) = some false)
    (eMNoTextNoOrder : PySem.W.mroIn K cENoOrder (.ref cENoText) = some false)
    (eMNoWaterNoFloors : PySem.W.mroIn K cENoFloors (.ref cENoWater) = some false)
    (eMNoWaterNoRain : PySem.W.mroIn K cENoRain (.ref cENoWater) = some false)
    (eMNoWaterNoOrder : PySem.W.mroIn K cENoOrder (.ref cENoWater) = some false)
    (eMNoFloorsNoRain : PySem.W.mroIn K cENoRain (.ref cENoFloors) = some false)
    (eMNoFloorsNoOrder : PySem.W.mroIn K cENoOrder (.ref cENoFloors) = some false)
    (eMNoRainNoFloors : PySem.W.mroIn K cENoFloors (.ref cENoRain) = some false)
    (eMNoRainNoOrder : PySem.W.mroIn K cENoOrder (.ref cENoRain) = some false)
    (eMNoOrderNoFloors : PySem.W.mroIn K cENoFloors (.ref cENoOrder) = some false)
    (eMNoOrderNoRain : PySem.W.mroIn K cENoRain (.ref cENoOrder) = some false)
    (z_ValueError : PySem.W.nsIn K mainGlobals "ValueError" = some none)
    (z_abs : PySem.W.nsIn K mainGlobals "abs" = some none)
    (z_enumerate : PySem.W.nsIn K mainGlobals "enumerate" = some none)
    (z_int : PySem.W.nsIn K mainGlobals "int" = some none)
    (z_isinstance : PySem.W.nsIn K mainGlobals "isinstance" = some none)
    (z_len : PySem.W.nsIn K mainGlobals "len" = some none)
    (z_list : PySem.W.nsIn K mainGlobals "list" = some none)
    (z_min : PySem.W.nsIn K mainGlobals "min" = some none)
    (z_range : PySem.W.nsIn K mainGlobals "range" = some none)
    (z_repr : PySem.W.nsIn K mainGlobals "repr" = some none)
    (z_sorted : PySem.W.nsIn K mainGlobals "sorted" = some none)
    (z_sum : PySem.W.nsIn K mainGlobals "sum" = some none)
    (z_zip : PySem.W.nsIn K mainGlobals "zip" = some none)
    (h_NOUGHT : PySem.W.nsIn K mainGlobals "NOUGHT" = some (some (.ref c_NOUGHT))) (l_NOUGHT : K.lookup c_NOUGHT = some ⟨.type "tuple", e_NOUGHT, .seq i_NOUGHT n_NOUGHT, y_NOUGHT⟩) (s_NOUGHT : i_NOUGHT.size ≤ sizeLine) (v_NOUGHT : L2.Vals (([0, 1] : List Int).map V.int) i_NOUGHT.toList)
    (h_gcd : PySem.W.nsIn K mainGlobals "gcd" = some (some (.builtin "math.gcd")))
    (true_ : ∀ ns : List Int, ns.length ≤ 63 → ∃ S', f_law_z [.rls (ns.map DV.int)] [] = some (.bl true, S')) :
    LawQ l w K CX0 14 63 "script" mg fa h := by
  have e := hfa.symm.trans (PySem.W.mg_of X G a31)
  cases e
  have F0 := fun_mk (st := s_lowest) l0 c0 k0
  have b0 := F0.binds (ps := ["top", "bottom"]) fun _ _ _ _ _ _ us hl => match us, hl with | [_, _], _ => rfl
  have F1 := fun_mk (st := s_plus) l1 c1 k1
  have b1 := F1.binds (ps := ["one", "other"]) fun _ _ _ _ _ _ us hl => match us, hl with | [_, _], _ => rfl
  have F2 := fun_mk (st := s_sums) l2 c2 k2
  have b2 := F2.binds (ps := ["amounts"]) fun _ _ _ _ _ _ us hl => match us, hl with | [_], _ => rfl
  have F3 := fun_mk (st := s_above) l3 c3 k3
  have b3 := F3.binds (ps := ["one", "other"]) fun _ _ _ _ _ _ us hl => match us, hl with | [_, _], _ => rfl
  have F4 := fun_mk (st := s_check_water) l4 c4 k4
  have b4 := F4.binds (ps := ["floors", "water"]) fun _ _ _ _ _ _ us hl => match us, hl with | [_, _], _ => rfl
  have F5 := fun_mk (st := s_check_floors) l5 c5 k5
  have b5 := F5.binds (ps := ["floors"]) fun _ _ _ _ _ _ us hl => match us, hl with | [_], _ => rfl
  have F6 := fun_mk (st := s_heaped) l6 c6 k6
  have b6 := F6.binds (ps := ["floors", "water"]) fun _ _ _ _ _ _ us hl => match us, hl with | [_, _], _ => rfl
  have F7 := funB_mk (st := s_History_water) (x := "water") (qual := "History.water") (dvs := [V.non]) (its := iT7.toList) (n := nT7) (by simp) l7 c7 k7 t7 (by rw [Array.toArray_toList]) (by rw [u7]; exact .cons rfl .nil)
  obtain ⟨dz7, rz7, bz7⟩ := FunD.binds1 (ps := ["self", "number"]) F7 2 1 (by simp) rfl fun _ _ _ _ _ _ _ us its hl hi => match us, its, hl, hi with | [_, _], [_], _, _ => ⟨_, rfl, rfl⟩
  cases (show dz7 = [] from by cases rz7; rfl)
  obtain ⟨dd7, rd7, bd7⟩ := FunD.binds1 (ps := ["self", "number"]) F7 1 0 (by simp) rfl fun _ _ _ _ _ _ _ us its hl hi => match us, its, hl, hi with | [_], [_], _, _ => ⟨_, rfl, rfl⟩
  have F8 := fun_mk (st := s_stretches) l8 c8 k8
  have b8 := F8.binds (ps := ["floors", "bolted"]) fun _ _ _ _ _ _ us hl => match us, hl with | [_, _], _ => rfl
  have F9 := fun_mk (st := s_share) l9 c9 k9
  have b9 := F9.binds (ps := ["amount", "part", "whole"]) fun _ _ _ _ _ _ us hl => match us, hl with | [_, _, _], _ => rfl
  have F10 := fun_mk (st := s_pool_height) l10 c10 k10
  have b10 := F10.binds (ps := ["pool"]) fun _ _ _ _ _ _ us hl => match us, hl with | [_], _ => rfl
  have F11 := fun_mk (st := s_pooled) l11 c11 k11
  have b11 := F11.binds (ps := ["floors", "water"]) fun _ _ _ _ _ _ us hl => match us, hl with | [_, _], _ => rfl
  have F12 := fun_mk (st := s_at_rest) l12 c12 k12
  have b12 := F12.binds (ps := ["floors", "water", "bolted"]) fun _ _ _ _ _ _ us hl => match us, hl with | [_, _, _], _ => rfl
  have F13 := fun_mk (st := s_check_bolted) l13 c13 k13
  have b13 := F13.binds (ps := ["floors", "bolted"]) fun _ _ _ _ _ _ us hl => match us, hl with | [_, _], _ => rfl
  have F14 := funB_mk (st := s_settled) (x := "settled") (qual := "settled") (dvs := [V.ref E14]) (its := iT14.toList) (n := nT14) (by simp) l14 c14 k14 t14 (by rw [Array.toArray_toList]) (by rw [u14]; exact .cons rfl .nil)
  obtain ⟨dz14, rz14, bz14⟩ := FunD.binds1 (ps := ["floors", "water", "bolted"]) F14 3 1 (by simp) rfl fun _ _ _ _ _ _ _ us its hl hi => match us, its, hl, hi with | [_, _, _], [_], _, _ => ⟨_, rfl, rfl⟩
  cases (show dz14 = [] from by cases rz14; rfl)
  obtain ⟨dd14, rd14, bd14⟩ := FunD.binds1 (ps := ["floors", "water", "bolted"]) F14 2 0 (by simp) rfl fun _ _ _ _ _ _ _ us its hl hi => match us, its, hl, hi with | [_, _], [_], _, _ => ⟨_, rfl, rfl⟩
  have F15 := fun_mk (st := s_History_step) l15 c15 k15
  have b15 := F15.binds (ps := ["self", "bolted", "rain"]) fun _ _ _ _ _ _ us hl => match us, hl with | [_, _, _], _ => rfl
  have F16 := funB_mk (st := s_History_init) (x := "__init__") (qual := "History.__init__") (dvs := [V.non]) (its := iT16.toList) (n := nT16) (by simp) l16 c16 k16 t16 (by rw [Array.toArray_toList]) (by rw [u16]; exact .cons rfl .nil)
  obtain ⟨dz16, rz16, bz16⟩ := FunD.binds1 (ps := ["self", "floors", "water"]) F16 3 1 (by simp) rfl fun _ _ _ _ _ _ _ us its hl hi => match us, its, hl, hi with | [_, _, _], [_], _, _ => ⟨_, rfl, rfl⟩
  cases (show dz16 = [] from by cases rz16; rfl)
  obtain ⟨dd16, rd16, bd16⟩ := FunD.binds1 (ps := ["self", "floors", "water"]) F16 2 0 (by simp) rfl fun _ _ _ _ _ _ _ us its hl hi => match us, its, hl, hi with | [_, _], [_], _, _ => ⟨_, rfl, rfl⟩
  have F17 := fun_mk (st := s_fallen) l17 c17 k17
  have b17 := F17.binds (ps := ["floors", "rains"]) fun _ _ _ _ _ _ us hl => match us, hl with | [_, _], _ => rfl
  have F18 := fun_mk (st := s_check_rains) l18 c18 k18
  have b18 := F18.binds (ps := ["floors", "rains"]) fun _ _ _ _ _ _ us hl => match us, hl with | [_, _], _ => rfl
  have F19 := fun_mk (st := s_bounds) l19 c19 k19
  have b19 := F19.binds (ps := ["floors", "rains"]) fun _ _ _ _ _ _ us hl => match us, hl with | [_, _], _ => rfl
  have F20 := fun_mk (st := s_check_order) l20 c20 k20
  have b20 := F20.binds (ps := ["rains", "order"]) fun _ _ _ _ _ _ us hl => match us, hl with | [_, _], _ => rfl
  have F21 := fun_mk (st := s_behind) l21 c21 k21
  have b21 := F21.binds (ps := ["floors", "rains", "order"]) fun _ _ _ _ _ _ us hl => match us, hl with | [_, _, _], _ => rfl
  have F22 := fun_mk (st := s_law_refusal) l22 c22 k22
  have b22 := F22.binds (ps := ["tanks", "some", "row"]) fun _ _ _ _ _ _ us hl => match us, hl with | [_, _, _], _ => rfl
  have F23 := fun_mk (st := s_law_take) l23 c23 k23
  have b23 := F23.binds (ps := ["deck", "many"]) fun _ _ _ _ _ _ us hl => match us, hl with | [_, _], _ => rfl
  have F24 := fun_mk (st := s_law_bad_row) l24 c24 k24
  have b24 := F24.binds (ps := ["deck", "row"]) fun _ _ _ _ _ _ us hl => match us, hl with | [_, _], _ => rfl
  have F25 := fun_mk (st := s_law_low) l25 c25 k25
  have b25 := F25.binds (ps := ["top", "bottom"]) fun _ _ _ _ _ _ us hl => match us, hl with | [_, _], _ => rfl
  have F26 := fun_mk (st := s_law_bad_rains) l26 c26 k26
  have b26 := F26.binds (ps := ["deck", "tanks", "some"]) fun _ _ _ _ _ _ us hl => match us, hl with | [_, _, _], _ => rfl
  have F27 := fun_mk (st := s_law_amount) l27 c27 k27
  have b27 := F27.binds (ps := ["deck"]) fun _ _ _ _ _ _ us hl => match us, hl with | [_], _ => rfl
  have F28 := fun_mk (st := s_law_rains) l28 c28 k28
  have b28 := F28.binds (ps := ["deck", "tanks", "most"]) fun _ _ _ _ _ _ us hl => match us, hl with | [_, _, _], _ => rfl
  have F29 := fun_mk (st := s_law_tanks) l29 c29 k29
  have b29 := F29.binds (ps := ["deck", "most"]) fun _ _ _ _ _ _ us hl => match us, hl with | [_, _], _ => rfl
  have F30 := fun_mk (st := s_law_deck) l30 c30 k30
  have b30 := F30.binds (ps := ["script"]) fun _ _ _ _ _ _ us hl => match us, hl with | [_], _ => rfl
  have F31 := fun_mk (st := s_law) l31 c31 k31
  have b31 := F31.binds (ps := ["script"]) fun _ _ _ _ _ _ us hl => match us, hl with | [_], _ => rfl
  have hx_NoFloors : PySem.ExS.ExT l.prog K mg cENoFloors iENoFloors := ⟨⟨_, _, _, _, _, _, _, _, _, _, _, _, _, _, _, eLNoFloors, (show PySem.HandSPX.refsVE [.type "ValueError", .type "Exception", .type "BaseException", .type "object"] = true from by decide +kernel)⟩, eBNoFloors, eGNoFloors, eHNoFloors, eWNoFloors, eINoFloors, eTNoFloors, eKNoFloors, eXNoFloors, eVNoFloors, eMNoFloors, eYNoFloors, eDNoFloors, eUNoFloors, eO, PySem.W.mg_none_of X G eZ, ⟨_, _, _, _, _, _, _, _, _, _, _, _, _, _, _, _, _, _, _, _, _, _, _, _, _, _, _, _, _, _, _, _, _, _, eFNoFloors, eCNoFloors, fun s x v => .of_eq rfl, rfl, rfl, eENoFloors, eNNoFloors, ePNoFloors, eQ, eRNoFloors, by decide +kernel, by decide +kernel, by decide +kernel, by decide +kernel, rfl, by decide +kernel, rfl, rfl, by decide +kernel⟩⟩
  have hx_NoRain : PySem.ExS.ExT l.prog K mg cENoRain iENoRain := ⟨⟨_, _, _, _, _, _, _, _, _, _, _, _, _, _, _, eLNoRain, (show PySem.HandSPX.refsVE [.type "ValueError", .type "Exception", .type "BaseException", .type "object"] = true from by decide +kernel)⟩, eBNoRain, eGNoRain, eHNoRain, eWNoRain, eINoRain, eTNoRain, eKNoRain, eXNoRain, eVNoRain, eMNoRain, eYNoRain, eDNoRain, eUNoRain, eO, PySem.W.mg_none_of X G eZ, ⟨_, _, _, _, _, _, _, _, _, _, _, _, _, _, _, _, _, _, _, _, _, _, _, _, _, _, _, _, _, _, _, _, _, _, eFNoRain, eCNoRain, fun s x v => .of_eq rfl, rfl, rfl, eENoRain, eNNoRain, ePNoRain, eQ, eRNoRain, by decide +kernel, by decide +kernel, by decide +kernel, by decide +kernel, rfl, by decide +kernel, rfl, rfl, by decide +kernel⟩⟩
  have hx_NoOrder : PySem.ExS.ExT l.prog K mg cENoOrder iENoOrder := ⟨⟨_, _, _, _, _, _, _, _, _, _, _, _, _, _, _, eLNoOrder, (show PySem.HandSPX.refsVE [.type "ValueError", .type "Exception", .type "BaseException", .type "object"] = true from by decide +kernel)⟩, eBNoOrder, eGNoOrder, eHNoOrder, eWNoOrder, eINoOrder, eTNoOrder, eKNoOrder, eXNoOrder, eVNoOrder, eMNoOrder, eYNoOrder, eDNoOrder, eUNoOrder, eO, PySem.W.mg_none_of X G eZ, ⟨_, _, _, _, _, _, _, _, _, _, _, _, _, _, _, _, _, _, _, _, _, _, _, _, _, _, _, _, _, _, _, _, _, _, eFNoOrder, eCNoOrder, fun s x v => .of_eq rfl, rfl, rfl, eENoOrder, eNNoOrder, ePNoOrder, eQ, eRNoOrder, by decide +kernel, by decide +kernel, by decide +kernel, by decide +kernel, rfl, by decide +kernel, rfl, rfl, by decide +kernel⟩⟩
  have hd : PySem.W.CodeHd h cB PB := ⟨_, vsB, flB, tfB, fgB, tgB, inB, txB, ttB, X _ _ lB, rfl, rfl, vB, wc11, wc18, wc7, wc9, wc10, fun z => by rw [z, nB] at lB; cases lB⟩
  refine DL.law_atQ (fd := PySem.W.fnOf "law" "law" (defArgs s_law) (defBody s_law) (defScope s_law) .none kV31 dc31 pm31 an31 cd31 ct31) X (PySem.W.mg_of X G a19) l19 kB rfl lB vB nB hd tab (fun s v => .of_eq rfl) fun bb base hK hn hB => ?_
  let T : Txt K mg := ⟨f0, _, F0, PySem.W.mg_of X G a0, b0,
    f1, _, F1, PySem.W.mg_of X G a1, b1,
    f2, _, F2, PySem.W.mg_of X G a2, b2,
    f3, _, F3, PySem.W.mg_of X G a3, b3,
    f4, _, F4, PySem.W.mg_of X G a4, b4,
    f5, _, F5, PySem.W.mg_of X G a5, b5,
    f6, _, F6, PySem.W.mg_of X G a6, b6,
    f7, _, V.non, (fun _ => rfl), F7, bz7, dd7, rd7, bd7,
    f8, _, F8, PySem.W.mg_of X G a8, b8,
    f9, _, F9, PySem.W.mg_of X G a9, b9,
    f10, _, F10, PySem.W.mg_of X G a10, b10,
    f11, _, F11, PySem.W.mg_of X G a11, b11,
    f12, _, F12, PySem.W.mg_of X G a12, b12,
    f13, _, F13, PySem.W.mg_of X G a13, b13,
    f14, _, V.ref E14, (den_ktup (ns := []) w14 rfl rfl (by rw [← Array.length_toList, x14]; exact Nat.zero_le _) (by rw [x14]; exact .nil)), F14, PySem.W.mg_of X G a14, bz14, dd14, rd14, bd14,
    f15, _, F15, b15,
    f16, _, V.non, (fun _ => rfl), F16, bz16, dd16, rd16, bd16,
    f17, _, F17, PySem.W.mg_of X G a17, b17,
    f18, _, F18, PySem.W.mg_of X G a18, b18,
    f19, _, F19, PySem.W.mg_of X G a19, b19,
    f20, _, F20, PySem.W.mg_of X G a20, b20,
    f21, _, F21, PySem.W.mg_of X G a21, b21,
    f22, _, F22, PySem.W.mg_of X G a22, b22,
    f23, _, F23, PySem.W.mg_of X G a23, b23,
    f24, _, F24, PySem.W.mg_of X G a24, b24,
    f25, _, F25, PySem.W.mg_of X G a25, b25,
    f26, _, F26, PySem.W.mg_of X G a26, b26,
    f27, _, F27, PySem.W.mg_of X G a27, b27,
    f28, _, F28, PySem.W.mg_of X G a28, b28,
    f29, _, F29, PySem.W.mg_of X G a29, b29,
    f30, _, F30, PySem.W.mg_of X G a30, b30,
    fa, _, F31, PySem.W.mg_of X G a31, b31,
    C0, PySem.W.mg_of X G oa0, ⟨og0, oh0, op0, os0⟩, ⟨a7, i7, k7⟩, ⟨a15, i15, k15⟩, ⟨om0, a16, i16, ok0⟩, on0_floors, on0_steps, on0_waters,
    cB, PB, bb,
    cS, PySem.W.mg_of X G eS, e8,
    cENoFloors, iENoFloors, PySem.W.mg_of X G eANoFloors, ⟨eGNoFloors, eHNoFloors, eXNoFloors, eDNoFloors, e1NoFloors, e2, e3, e4NoFloors⟩, ⟨eGNoFloors, eHNoFloors, eXNoFloors, eDNoFloors⟩, eWNoFloors, eMNoFloors, eVNoFloors, ⟨e5, e6, e7NoFloors⟩,
    cENoRain, iENoRain, PySem.W.mg_of X G eANoRain, ⟨eGNoRain, eHNoRain, eXNoRain, eDNoRain, e1NoRain, e2, e3, e4NoRain⟩, ⟨eGNoRain, eHNoRain, eXNoRain, eDNoRain⟩, eWNoRain, eMNoRain, eVNoRain, ⟨e5, e6, e7NoRain⟩,
    cENoOrder, iENoOrder, PySem.W.mg_of X G eANoOrder, ⟨eGNoOrder, eHNoOrder, eXNoOrder, eDNoOrder, e1NoOrder, e2, e3, e4NoOrder⟩, ⟨eGNoOrder, eHNoOrder, eXNoOrder, eDNoOrder⟩, eWNoOrder, eMNoOrder, eVNoOrder, ⟨e5, e6, e7NoOrder⟩,
    cENoDrop, PySem.W.mg_of X G eANoDrop,
    cENoFlap, PySem.W.mg_of X G eANoFlap,
    cENoRows, PySem.W.mg_of X G eANoRows,
    cENoStep, PySem.W.mg_of X G eANoStep,
    cENoTable, PySem.W.mg_of X G eANoTable,
    cENoTank, PySem.W.mg_of X G eANoTank,
    cENoText, PySem.W.mg_of X G eANoText,
    cENoWater, PySem.W.mg_of X G eANoWater,
    ⟨eDNoDrop, eYNoDrop, eMNoDropNoFloors⟩,
    ⟨eDNoDrop, eYNoDrop, eMNoDropNoRain⟩,
    ⟨eDNoDrop, eYNoDrop, eMNoDropNoOrder⟩,
    ⟨eDNoFlap, eYNoFlap, eMNoFlapNoFloors⟩,
    ⟨eDNoFlap, eYNoFlap, eMNoFlapNoRain⟩,
    ⟨eDNoFlap, eYNoFlap, eMNoFlapNoOrder⟩,
    ⟨eDNoRows, eYNoRows, eMNoRowsNoFloors⟩,
    ⟨eDNoRows, eYNoRows, eMNoRowsNoRain⟩,
    ⟨eDNoRows, eYNoRows, eMNoRowsNoOrder⟩,
    ⟨eDNoStep, eYNoStep, eMNoStepNoFloors⟩,
    ⟨eDNoStep, eYNoStep, eMNoStepNoRain⟩,
    ⟨eDNoStep, eYNoStep, eMNoStepNoOrder⟩,
    ⟨eDNoTable, eYNoTable, eMNoTableNoFloors⟩,
    ⟨eDNoTable, eYNoTable, eMNoTableNoRain⟩,
    ⟨eDNoTable, eYNoTable, eMNoTableNoOrder⟩,
    ⟨eDNoTank, eYNoTank, eMNoTankNoFloors⟩,
    ⟨eDNoTank, eYNoTank, eMNoTankNoRain⟩,
    ⟨eDNoTank, eYNoTank, eMNoTankNoOrder⟩,
    ⟨eDNoText, eYNoText, eMNoTextNoFloors⟩,
    ⟨eDNoText, eYNoText, eMNoTextNoRain⟩,
    ⟨eDNoText, eYNoText, eMNoTextNoOrder⟩,
    ⟨eDNoWater, eYNoWater, eMNoWaterNoFloors⟩,
    ⟨eDNoWater, eYNoWater, eMNoWaterNoRain⟩,
    ⟨eDNoWater, eYNoWater, eMNoWaterNoOrder⟩,
    ⟨eDNoFloors, eYNoFloors, eMNoFloorsNoRain⟩,
    ⟨eDNoFloors, eYNoFloors, eMNoFloorsNoOrder⟩,
    ⟨eDNoRain, eYNoRain, eMNoRainNoFloors⟩,
    ⟨eDNoRain, eYNoRain, eMNoRainNoOrder⟩,
    ⟨eDNoOrder, eYNoOrder, eMNoOrderNoFloors⟩,
    ⟨eDNoOrder, eYNoOrder, eMNoOrderNoRain⟩,
    PySem.W.mg_none_of X G z_ValueError,
    PySem.W.mg_none_of X G z_abs,
    PySem.W.mg_none_of X G z_enumerate,
    PySem.W.mg_none_of X G z_int,
    PySem.W.mg_none_of X G z_isinstance,
    PySem.W.mg_none_of X G z_len,
    PySem.W.mg_none_of X G z_list,
    PySem.W.mg_none_of X G z_min,
    PySem.W.mg_none_of X G z_range,
    PySem.W.mg_none_of X G z_repr,
    PySem.W.mg_none_of X G z_sorted,
    PySem.W.mg_none_of X G z_sum,
    PySem.W.mg_none_of X G z_zip,
    c_NOUGHT, PySem.W.mg_of X G h_NOUGHT, den_ktup l_NOUGHT rfl rfl s_NOUGHT v_NOUGHT,
    PySem.W.mg_of X G h_gcd⟩
  exact law_ofQ (G_law_z T hx_NoFloors hx_NoRain hx_NoOrder hB) true_
end FB.K39
end
section
/-! k39: the law -/
namespace FB.K39
open PySem PyProof.Rows PySem.Spec L2 DL FW
open Od
section
variable {S : Sto}
theorem floors_nil : f_check_floors_x [.lst []] S = some (.exc "NoFloors" .non S) := by
  refine xfn_exc (s := [some (.lst []), none, none]) (xseq_ex (xif_t (S1 := S) ?_ (x_raise rfl)))
  simp
theorem floors_bad {A Z : List Int} {x : Int} (hA : ∀ n ∈ A, 1 ≤ n) (hx : x < 1) : f_check_floors_x [dI (A ++ x :: Z)] S = some (.exc "NoFloors" (.int (A.length : Nat)) S) := by
  obtain ⟨X, hX⟩ : ∃ X, X = dI (A ++ x :: Z) := ⟨_, rfl⟩
  have rX : rdL S X = some ((A ++ x :: Z).map DV.int) := by rw [hX]; rfl
  obtain ⟨s', e⟩ := xfor_ex (c := "NoFloors") (w := .int (A.length : Nat)) (tgt := (dGTup 2 (dGCons (dName 1) (dGCons (dName 2) dGNil)))) (body := (dIfX (dTest (dOp ltD (dVar 2) (dC (.int 1)))) (dRaise "NoFloors" (dVar 1)) (dOkX dNext))) (it := .en X) (S := S)
    (xs := ((A ++ x :: Z).map DV.int).mapIdx fun i x => DV.tup [.int (i : Nat), x]) (A := (A.map DV.int).mapIdx fun i x => DV.tup [.int (i : Nat), x]) (b := .tup [.int (A.length : Nat), .int x]) (Z := (Z.map DV.int).mapIdx fun i x => DV.tup [.int ((i + 1 + A.length : Nat) : Int), x])
    (enum_at rX) (by
      rw [List.map_append, List.mapIdx_append, List.map_cons, List.mapIdx_cons, List.length_map, Nat.zero_add])
    (fun s => ∃ a b, s = [some X, a, b]) (fun y hy s hs => by
      rw [List.mem_mapIdx] at hy
      obtain ⟨i, hi, rfl⟩ := hy
      obtain ⟨a, b, rfl⟩ := hs
      have hi' : i < A.length := by simpa using hi
      have h1 := hA A[i] (List.getElem_mem hi')
      refine ⟨[some X, some (.int (i : Nat)), some (.int A[i])], [some X, some (.int (i : Nat)), some (.int A[i])], by simp, ?_, _, _, rfl⟩
      refine xif_f (S1 := S) ?_ (x_ok rfl)
      have : ¬ A[i] < 1 := by omega
      simp [this]) (fun s hs => by
      obtain ⟨a, b, rfl⟩ := hs
      refine ⟨[some X, some (.int (A.length : Nat)), some (.int x)], [some X, some (.int (A.length : Nat)), some (.int x)], by simp, ?_⟩
      refine xif_t (S1 := S) ?_ (x_raise rfl)
      simp [hx]) (itLen (.en X) S + 1) 0 [some X, none, none] (by simp [itLen, rX]; omega) (Nat.zero_le _) ⟨_, _, rfl⟩
  rw [← hX]
  refine xfn_exc (s := s') (xseq_nx (s1 := [some X, none, none]) (S1 := S) (xif_f (S1 := S) ?_ (x_ok rfl)) ?_)
  · have l1 := lenD_rd rX
    have hne : ¬ (((A ++ x :: Z).map DV.int).length : Int) = 0 := by simp; omega
    simp [l1, hne]
    omega
  · unfold dForX
    rw [enD_of (fe := dVar 0) (bd := X) rX rfl, bnd_some']
    exact e
/-- a rain, its tank any number -/
def rD (p : Int × Rat) : DV := .tup [.int p.1, fr p.2]
theorem rn_rD (p : Rn) : rnD p = rD (((p.1 + 1 : Nat) : Int), p.2) := rfl
theorem rains_bad {ws : List Int} {A : List Rn} {Z : List DV} {t : Int} {q : Rat} (f : Flo ws) (hA : RnOk ws A) (hz : Sz 1400 q) (hb : t < 1 ∨ (ws.length : Int) < t ∨ ¬ 0 < q) :
    f_check_rains_x [dI ws, .lst (A.map rnD ++ rD (t, q) :: Z)] S = some (.exc "NoRain" (.int (A.length : Nat)) S) := by
  have f8 := f.n
  have lw : ∀ S, lenD [dI ws] S = some (.int (ws.length : Nat), S) := fun S => by simp [dI]
  have hr : RgS ((ws.length : Int) + 1) := rgS_of (by omega) (by omega)
  have hr1 : RgS (1 : Int) := rgS_of (by decide) (by decide)
  have e0 : fr 0 = DV.tup [(.int 0), (.int 1)] := rfl
  obtain ⟨X, hX⟩ : ∃ X, X = DV.lst (A.map rnD ++ rD (t, q) :: Z) := ⟨_, rfl⟩
  have rX : rdL S X = some (A.map rnD ++ rD (t, q) :: Z) := by rw [hX]; rfl
  obtain ⟨s', e⟩ := xfor_ex (c := "NoRain") (w := .int (A.length : Nat)) (tgt := dGTup 2 (dGCons (dName 2) (dGCons (dGTup 2 (dGCons (dName 3) (dGCons (dName 4) dGNil))) dGNil))) (body := (dIfX (dOr (dTest (dInRg true (dVar 3) (dCons (dC (.int 1)) (dCons (dOp (addD false) (dCB lenD (dCons (dVar 0) dNil)) (dC (.int 1))) dNil)))) (dNot (dTest (dCall 2 f_above_z [] (dCons (dVar 4) (dCons (dC (.tup [(.int 0), (.int 1)])) dNil))))))
    (dRaise "NoRain" (dVar 2)) (dOkX dNext))) (it := .en X) (S := S)
    (xs := (A.map rnD ++ rD (t, q) :: Z).mapIdx fun i x => DV.tup [.int (i : Nat), x]) (A := (A.map rnD).mapIdx fun i x => DV.tup [.int (i : Nat), x]) (b := .tup [.int (A.length : Nat), rD (t, q)]) (Z := Z.mapIdx fun i x => DV.tup [.int ((i + 1 + A.length : Nat) : Int), x])
    (enum_at rX) (by
      rw [List.mapIdx_append, List.mapIdx_cons, List.length_map, Nat.zero_add])
    (fun s => ∃ a b c, s = [some (dI ws), some X, a, b, c]) (fun y hy s hs => by
      rw [List.mem_mapIdx] at hy
      obtain ⟨i, hi, rfl⟩ := hy
      obtain ⟨a, b, c, rfl⟩ := hs
      have hi' : i < A.length := by simpa using hi
      obtain ⟨p, hp⟩ : ∃ p, p = A[i] := ⟨_, rfl⟩
      have pm : p ∈ A := hp ▸ List.getElem_mem hi'
      have ht := hA.t p pm
      have ab := above_ok (S := S) (sz_am (hA.a p pm)) (sz_zero (n := 1400)) (by decide) (by decide)
      rw [decide_eq_true (hA.pos p pm), e0] at ab
      refine ⟨[some (dI ws), some X, some (.int (i : Nat)), some (.int ((p.1 + 1 : Nat) : Int)), some (fr p.2)], [some (dI ws), some X, some (.int (i : Nat)), some (.int ((p.1 + 1 : Nat) : Int)), some (fr p.2)], ?_, ?_, _, _, _, rfl⟩
      · simp [rnD, ← hp]
      · refine xif_f (S1 := S) ?_ (x_ok rfl)
        have c1 : (1 : Int) ≤ ((p.1 + 1 : Nat) : Int) := by omega
        have c2 : ((p.1 + 1 : Nat) : Int) < (ws.length : Int) + 1 := by omega
        simp [lw, hr, hr1, ab, ht]
        try omega) (fun s hs => by
      obtain ⟨a, b, c, rfl⟩ := hs
      refine ⟨[some (dI ws), some X, some (.int (A.length : Nat)), some (.int t), some (fr q)], [some (dI ws), some X, some (.int (A.length : Nat)), some (.int t), some (fr q)], by simp [rD], ?_⟩
      refine xif_t (S1 := S) ?_ (x_raise rfl)
      have ab := above_ok (S := S) hz (sz_zero (n := 1400)) (by decide) (by decide)
      rw [e0] at ab
      by_cases hin : (1 : Int) ≤ t ∧ t < (ws.length : Int) + 1
      · have hq : ¬ 0 < q := by
          rcases hb with h | h | h
          · omega
          · omega
          · exact h
        rw [decide_eq_false hq] at ab
        simp [lw, hr, hr1, ab, hin.1, hin.2]
      · have : ((1 : Int) ≤ t → ¬ t < (ws.length : Int) + 1) := fun h1 h2 => hin ⟨h1, h2⟩
        simp [lw, hr, hr1]
        try (intro h1 h2; exact absurd ⟨h1, by omega⟩ hin)) (itLen (.en X) S + 1) 0 [some (dI ws), some X, none, none, none] (by simp [itLen, rX]; omega) (Nat.zero_le _) ⟨_, _, _, rfl⟩
  rw [← hX]
  refine xfn_exc (s := s') ?_
  show dForX _ _ _ [some (dI ws), some X, none, none, none] S = _
  unfold dForX
  rw [enD_of (fe := dVar 1) (bd := X) rX rfl, bnd_some']
  exact e
theorem order_bad {rs : List Rn} {l : List Int} (hn : rs.length ≤ 1000) (hb : sortI l ≠ (List.range rs.length).map fun (i : Nat) => (i : Int)) : f_check_order_x [.lst (rs.map rnD), dI l] S = some (.exc "NoOrder" .non S) := by
  have so : sortBD false [dI l] S = some (dI (sortI l), S) := by
    have h2 := toIs_map l
    simp [sortBD, dI, h2]
  have ln : lenD [.lst (rs.map rnD)] S = some (.int (rs.length : Nat), S) := by simp
  have rg : dLr1' false (dCB lenD (dCons (dVar 0) dNil)) [some (.lst (rs.map rnD)), some (dI l)] S = some (dI ((List.range rs.length).map fun (i : Nat) => (i : Int)), S) := by
    simp only [dLr1', dCB, dCons, dNil, dVar, List.getElem?_cons_zero, bnd_some', ln]
    rw [gate_ok (by omega), newL_f]
    unfold rgD dI
    rw [List.map_map]
    congr 3
    simp
  have ne : neD (dI (sortI l)) (dI ((List.range rs.length).map fun (i : Nat) => (i : Int))) S = some (.bl true, S) := by
    rw [ne_dI, decide_eq_false hb]
    rfl
  refine xfn_exc (s := [some (.lst (rs.map rnD)), some (dI l)]) (xif_t (S1 := S) ?_ (x_raise rfl))
  show dTest _ [some (.lst (rs.map rnD)), some (dI l)] S = _
  revert rg
  generalize dLr1' false (dCB lenD (dCons (dVar 0) dNil)) = F
  intro rg
  simp only [dTest, dOp, dCB, dCons, dNil, dVar, List.getElem?_cons_succ, List.getElem?_cons_zero, bnd_some', so, rg, ne]
/-- such an order is none -/
theorem sort_bad {n : Nat} {l : List Int} (h : l.length ≠ n ∨ -1 ∈ l) : sortI l ≠ (List.range n).map fun (i : Nat) => (i : Int) := by
  intro e
  have p := sortI_perm l
  rw [e] at p
  rcases h with h | h
  · have := p.length_eq
    simp at this
    omega
  · have := p.mem_iff.mpr h
    rw [List.mem_map] at this
    obtain ⟨i, _, hi⟩ := this
    omega
end
section
variable {S : Sto} {T R row w : DV} {c nm : Str}
theorem bounds_fl (h : f_check_floors_x [T] S = some (.exc c w S)) : f_bounds_x [T, R] S = some (.exc c w S) :=
  xfn_exc (s := [some T, some R, none]) (xseq_ex (xcall_exc (xs := [T]) (S1 := S) rfl rfl h))
theorem bounds_rn (h0 : f_check_floors_x [T] S = some (.val .non S)) (h : f_check_rains_x [T, R] S = some (.exc c w S)) : f_bounds_x [T, R] S = some (.exc c w S) :=
  xfn_exc (s := [some T, some R, none]) (xseq_nx (s1 := [some T, some R, none]) (S1 := S) (xcall_val (xs := [T]) (S1 := S) rfl rfl h0) (xseq_ex (xcall_exc (xs := [T, R]) (S1 := S) rfl rfl h)))
theorem behind_fl (h : f_check_floors_x [T] S = some (.exc c w S)) : f_behind_x [T, R, row] S = some (.exc c w S) :=
  xfn_exc (s := [some T, some R, some row, none]) (xseq_ex (xcall_exc (xs := [T]) (S1 := S) rfl rfl h))
theorem behind_rn (h0 : f_check_floors_x [T] S = some (.val .non S)) (h : f_check_rains_x [T, R] S = some (.exc c w S)) : f_behind_x [T, R, row] S = some (.exc c w S) :=
  xfn_exc (s := [some T, some R, some row, none]) (xseq_nx (s1 := [some T, some R, some row, none]) (S1 := S) (xcall_val (xs := [T]) (S1 := S) rfl rfl h0) (xseq_ex (xcall_exc (xs := [T, R]) (S1 := S) rfl rfl h)))
theorem behind_or (h0 : f_check_floors_x [T] S = some (.val .non S)) (h1 : f_check_rains_x [T, R] S = some (.val .non S)) (h : f_check_order_x [R, row] S = some (.exc c w S)) : f_behind_x [T, R, row] S = some (.exc c w S) :=
  xfn_exc (s := [some T, some R, some row, none]) (xseq_nx (s1 := [some T, some R, some row, none]) (S1 := S) (xcall_val (xs := [T]) (S1 := S) rfl rfl h0) (xseq_nx (s1 := [some T, some R, some row, none]) (S1 := S) (xcall_val (xs := [T, R]) (S1 := S) rfl rfl h1)
    (xseq_ex (xcall_exc (xs := [R, row]) (S1 := S) rfl rfl h))))
/-- what is told of a refusal -/
theorem tx_fl : t_law_refusal_NoFloors w [some T, some R, some row, none, none] S = some (.rt (.tup [.str "floors", w]) S) := by
  have g2 : ∀ (x y : DV) (S : Sto), gate (2 ≤ 100000) (some (DV.tup [x, y], S)) = some (DV.tup [x, y], S) := fun x y S => gate_ok (by decide)
  have g3 : ∀ (x y z : DV) (S : Sto), gate (3 ≤ 100000) (some (DV.lst [x, y, z], S)) = some (DV.lst [x, y, z], S) := fun x y z S => gate_ok (by decide)
  have c1 : countD (.lst [.bl true, .bl false, .bl false]) [.bl true] S = some (.int 1, S) := rfl
  have i1 : indexD (.lst [.bl true, .bl false, .bl false]) [.bl true] S = some (.int 0, S) := rfl
  simp [t_law_refusal_NoFloors, dNo, dIs, dKw, dSeq, kNx, g2, g3, c1, i1, ixD]
theorem tx_rn : t_law_refusal_NoRain w [some T, some R, some row, none, none] S = some (.rt (.tup [.str "rain", w]) S) := by
  have g2 : ∀ (x y : DV) (S : Sto), gate (2 ≤ 100000) (some (DV.tup [x, y], S)) = some (DV.tup [x, y], S) := fun x y S => gate_ok (by decide)
  have g3 : ∀ (x y z : DV) (S : Sto), gate (3 ≤ 100000) (some (DV.lst [x, y, z], S)) = some (DV.lst [x, y, z], S) := fun x y z S => gate_ok (by decide)
  have c1 : countD (.lst [.bl false, .bl true, .bl false]) [.bl true] S = some (.int 1, S) := rfl
  have i1 : indexD (.lst [.bl false, .bl true, .bl false]) [.bl true] S = some (.int 1, S) := rfl
  simp [t_law_refusal_NoRain, dNo, dIs, dKw, dSeq, kNx, g2, g3, c1, i1, ixD]
theorem tx_or : t_law_refusal_NoOrder w [some T, some R, some row, none, none] S = some (.rt (.tup [.str "order", w]) S) := by
  have g2 : ∀ (x y : DV) (S : Sto), gate (2 ≤ 100000) (some (DV.tup [x, y], S)) = some (DV.tup [x, y], S) := fun x y S => gate_ok (by decide)
  have g3 : ∀ (x y z : DV) (S : Sto), gate (3 ≤ 100000) (some (DV.lst [x, y, z], S)) = some (DV.lst [x, y, z], S) := fun x y z S => gate_ok (by decide)
  have c1 : countD (.lst [.bl false, .bl false, .bl true]) [.bl true] S = some (.int 1, S) := rfl
  have i1 : indexD (.lst [.bl false, .bl false, .bl true]) [.bl true] S = some (.int 2, S) := rfl
  simp [t_law_refusal_NoOrder, dNo, dIs, dKw, dSeq, kNx, g2, g3, c1, i1, ixD]
theorem ref_ex {t : DV → DS} {d : DV} (hx : x_law_refusal [some T, some R, some row, some .non, none] S = some (.ex c w [some T, some R, some row, some .non, none] S)) (ht : [(("NoFloors" : Str), t_law_refusal_NoFloors), ("NoRain", t_law_refusal_NoRain), ("NoOrder", t_law_refusal_NoOrder)].find? (fun p => decide (p.1 = c)) = some (c, t))
    (h2 : t w [some T, some R, some row, none, none] S = some (.rt d S)) : f_law_refusal_z [T, R, row] S = some (d, S) := by
  unfold f_law_refusal_z fKept
  rw [show p_law_refusal (startD 5 [T, R, row]) S = some (.nx [some T, some R, some row, some .non, none] S) from rfl]
  simp only [hx, ht]
  rw [if_pos (by simp), show (([some T, some R, some row, some DV.non, none] : Sl).set 3 none).set 4 none = [some T, some R, some row, none, none] from rfl, h2]
  simp
theorem ref_val (hx : x_law_refusal [some T, some R, some row, some .non, none] S = some (.ok (.nx [some T, some R, some row, some .non, none] S))) : f_law_refusal_z [T, R, row] S = some (.tup [.str "none", .non], S) := by
  have g2 : ∀ (x y : DV) (S : Sto), gate (2 ≤ 100000) (some (DV.tup [x, y], S)) = some (DV.tup [x, y], S) := fun x y S => gate_ok (by decide)
  unfold f_law_refusal_z fKept
  rw [show p_law_refusal (startD 5 [T, R, row]) S = some (.nx [some T, some R, some row, some .non, none] S) from rfl]
  simp only [hx]
  rw [show t_law_refusal [some T, some R, some row, some .non, none] S = some (.rt (.tup [.str "none", .non]) S) from seq_rt (if_t (S1 := S) (by simp) (ret_of (by simp [g2])))]
  simp
theorem x_non {r : Option XRes} (h : dCallX 2 f_bounds_x (dCons (dVar 0) (dCons (dVar 1) dNil)) [some T, some R, some .non, some .non, none] S = r) : x_law_refusal [some T, some R, some .non, some .non, none] S = r :=
  xif_t (S1 := S) (by simp) h
theorem x_row {r : Option XRes} (hn : nonB row = false) (h : dCallX 3 f_behind_x (dCons (dVar 0) (dCons (dVar 1) (dCons (dVar 2) dNil))) [some T, some R, some row, some .non, none] S = r) : x_law_refusal [some T, some R, some row, some .non, none] S = r :=
  xif_f (S1 := S) (by simp only [dTest, dIsN, dVar, List.getElem?_cons_succ, List.getElem?_cons_zero, bnd_some', hn]; rfl) h
theorem non_of (h : nonB row = true) : row = .non := by
  cases row with
  | non => rfl
  | _ => cases h
theorem x_exc (h1 : f_bounds_x [T, R] S = some (.exc c w S)) (h2 : f_behind_x [T, R, row] S = some (.exc c w S)) : x_law_refusal [some T, some R, some row, some .non, none] S = some (.ex c w [some T, some R, some row, some .non, none] S) := by
  cases hn : nonB row with
  | true =>
    cases non_of hn
    exact x_non (xcall_exc (xs := [T, R]) (S1 := S) rfl rfl h1)
  | false => exact x_row hn (xcall_exc (xs := [T, R, row]) (S1 := S) rfl rfl h2)
theorem ref_fl (h : f_check_floors_x [T] S = some (.exc "NoFloors" w S)) : f_law_refusal_z [T, R, row] S = some (.tup [.str "floors", w], S) :=
  ref_ex (x_exc (bounds_fl h) (behind_fl h)) (by rfl) tx_fl
theorem ref_rn (h0 : f_check_floors_z [T] S = some (.non, S)) (h : f_check_rains_x [T, R] S = some (.exc "NoRain" w S)) : f_law_refusal_z [T, R, row] S = some (.tup [.str "rain", w], S) :=
  ref_ex (x_exc (bounds_rn (sim_check_floors _ _ _ _ h0) h) (behind_rn (sim_check_floors _ _ _ _ h0) h)) (by rfl) tx_rn
theorem ref_or (hn : nonB row = false) (h0 : f_check_floors_z [T] S = some (.non, S)) (h1 : f_check_rains_z [T, R] S = some (.non, S)) (h : f_check_order_x [R, row] S = some (.exc "NoOrder" w S)) : f_law_refusal_z [T, R, row] S = some (.tup [.str "order", w], S) :=
  ref_ex (x_row hn (xcall_exc (xs := [T, R, row]) (S1 := S) rfl rfl (behind_or (sim_check_floors _ _ _ _ h0) (sim_check_rains _ _ _ _ h1) h))) (by rfl) tx_or
theorem ref_ok0 {d : DV} (h : f_bounds_z [T, R] S = some (d, S)) : f_law_refusal_z [T, R, .non] S = some (.tup [.str "none", .non], S) :=
  ref_val (x_non (xcall_val (xs := [T, R]) (S1 := S) rfl rfl (sim_bounds _ _ _ _ h)))
theorem ref_ok1 {d : DV} (hn : nonB row = false) (h : f_behind_z [T, R, row] S = some (d, S)) : f_law_refusal_z [T, R, row] S = some (.tup [.str "none", .non], S) :=
  ref_val (x_row hn (xcall_val (xs := [T, R, row]) (S1 := S) rfl rfl (sim_behind _ _ _ _ h)))
end
/-! ### what the law draws -/
section
variable {S S1 S2 S3 S4 : Sto} {s : Sl} {fe fg fh fk : DE}
theorem add3 {a b c : List DV} (h1 : fe s S = some (.lst a, S)) (h2 : fg s S = some (.lst b, S)) (h3 : fh s S = some (.lst c, S)) (hl : a.length + b.length + c.length ≤ 10000) : dOp (addD false) (dOp (addD false) fe fg) fh s S = some (.lst (a ++ b ++ c), S) := by
  rw [dOp, dOp, h1, bnd_some', h2, bnd_some', addD_lst, gate_ok (by omega), newL_f, bnd_some', h3, bnd_some', addD_lst, gate_ok (by rw [List.length_append]; omega), newL_f]
theorem add4 {a b c d : List DV} (h1 : fe s S = some (.lst a, S)) (h2 : fg s S = some (.lst b, S)) (h3 : fh s S = some (.lst c, S)) (h4 : fk s S = some (.lst d, S)) (hl : a.length + b.length + c.length + d.length ≤ 10000) : dOp (addD false) (dOp (addD false) (dOp (addD false) fe fg) fh) fk s S = some (.lst (a ++ b ++ c ++ d), S) := by
  have := add3 h1 h2 h3 (by omega)
  rw [dOp, this, bnd_some', h4, bnd_some', addD_lst]
  rw [gate_ok (by simp only [List.length_append]; omega), newL_f]
theorem lst1 {d : DV} (h : fe s S = some (d, S1)) : dLst false (dCons fe dNil) s S = some (.lst [d], S1) := by
  have g : ∀ (x : DV) (S : Sto), gate (0 + 1 ≤ 100000) (some (DV.lst [x], S)) = some (DV.lst [x], S) := fun x S => gate_ok (by decide)
  simp only [dLst, dCons, dNil, h, bnd_some', List.length_cons, List.length_nil, newL_f, g]
theorem lst2 {d e : DV} (h : fe s S = some (d, S1)) (h2 : fg s S1 = some (e, S2)) : dLst false (dCons fe (dCons fg dNil)) s S = some (.lst [d, e], S2) := by
  have g : ∀ (x y : DV) (S : Sto), gate (0 + 1 + 1 ≤ 100000) (some (DV.lst [x, y], S)) = some (DV.lst [x, y], S) := fun x y S => gate_ok (by decide)
  simp only [dLst, dCons, dNil, h, h2, bnd_some', List.length_cons, List.length_nil, newL_f, g]
theorem lst3 {d e f : DV} (h : fe s S = some (d, S1)) (h2 : fg s S1 = some (e, S2)) (h3 : fh s S2 = some (f, S3)) : dLst false (dCons fe (dCons fg (dCons fh dNil))) s S = some (.lst [d, e, f], S3) := by
  have g : ∀ (x y z : DV) (S : Sto), gate (0 + 1 + 1 + 1 ≤ 100000) (some (DV.lst [x, y, z], S)) = some (DV.lst [x, y, z], S) := fun x y z S => gate_ok (by decide)
  simp only [dLst, dCons, dNil, h, h2, h3, bnd_some', List.length_cons, List.length_nil, newL_f, g]
theorem lst4 {d e f k : DV} (h : fe s S = some (d, S1)) (h2 : fg s S1 = some (e, S2)) (h3 : fh s S2 = some (f, S3)) (h4 : fk s S3 = some (k, S4)) : dLst false (dCons fe (dCons fg (dCons fh (dCons fk dNil)))) s S = some (.lst [d, e, f, k], S4) := by
  have g : ∀ (x y z w : DV) (S : Sto), gate (0 + 1 + 1 + 1 + 1 ≤ 100000) (some (DV.lst [x, y, z, w], S)) = some (DV.lst [x, y, z, w], S) := fun x y z w S => gate_ok (by decide)
  simp only [dLst, dCons, dNil, h, h2, h3, h4, bnd_some', List.length_cons, List.length_nil, newL_f, g]
theorem tup2 {d e : DV} (h : fe s S = some (d, S1)) (h2 : fg s S1 = some (e, S2)) : dTup (dCons fe (dCons fg dNil)) s S = some (.tup [d, e], S2) := by
  have g : ∀ (x y : DV) (S : Sto), gate (0 + 1 + 1 ≤ 100000) (some (DV.tup [x, y], S)) = some (DV.tup [x, y], S) := fun x y S => gate_ok (by decide)
  simp only [dTup, dCons, dNil, h, h2, bnd_some', List.length_cons, List.length_nil, g]
theorem ix_of {l : List DV} {i : Int} {d : DV} (h : fe s S = some (.lst l, S1)) (h2 : fg s S1 = some (.int i, S2)) (hd : L2.atI l i = some d) : dOp ixD fe fg s S = some (d, S2) := by
  simp only [dOp, h, h2, bnd_some', ixD, rdL_lst, Option.some_or, hd]
theorem c_of {d : DV} : dC d s S = some (d, S) := rfl
theorem call2 {g : List DV → Sto → Option (DV × Sto)} {x y d : DV} (h : fe s S = some (x, S1)) (h2 : fg s S1 = some (y, S2)) (h3 : g [x, y] S2 = some (d, S3)) : dCall 2 g [] (dCons fe (dCons fg dNil)) s S = some (d, S3) := by
  simp only [dCall, dCons, dNil, h, h2, bnd_some', List.append_nil, List.length_cons, List.length_nil, if_true, h3]
theorem call3 {g : List DV → Sto → Option (DV × Sto)} {x y z d : DV} (h : fe s S = some (x, S1)) (h2 : fg s S1 = some (y, S2)) (h3 : fh s S2 = some (z, S3)) (h4 : g [x, y, z] S3 = some (d, S4)) : dCall 3 g [] (dCons fe (dCons fg (dCons fh dNil))) s S = some (d, S4) := by
  simp only [dCall, dCons, dNil, h, h2, h3, bnd_some', List.append_nil, List.length_cons, List.length_nil, if_true, h4]
end
section
variable {t : Dk} {G S : Sto} {N : Int} {r : List Int} {sp : Nat} {o3 : Option DV}
theorem sl_t {s : Sl} {r : List DV} {i : Nat} {fe fh : DE} (h1 : fe s S = some (.lst r, S)) (h2 : fh s S = some (.int (i : Nat), S)) (hi : i ≤ r.length) : dSlL false fe doN (doS fh) s S = some (.lst (r.take i), S) := by
  have := slD_take (m := false) (f := fun x : DV => x) (xs := r) (fe := fe) (fh := fh) (s := s) (S := S) (by rw [List.map_id']; exact h1) h2 hi
  rw [List.map_id', newL_f] at this
  exact this
theorem sl_d {s : Sl} {r : List DV} {i : Nat} {fe fh : DE} (h1 : fe s S = some (.lst r, S)) (h2 : fh s S = some (.int (i : Nat), S)) : dSlL false fe (doS fh) doN s S = some (.lst (r.drop i), S) := by
  have := slD_drop (m := false) (f := fun x : DV => x) (xs := r) (fe := fe) (fh := fh) (s := s) (S := S) (by rw [List.map_id']; exact h1) h2
  rw [List.map_id', newL_f] at this
  exact this
def BadRow (n : Nat) (l : List Int) : Prop := (l.length ≠ n ∨ -1 ∈ l) ∧ l.length ≤ n + 1 ∧ ∀ x ∈ l, -1 ≤ x ∧ x ≤ 100
theorem rep1 {s : Sl} {fe : DE} {b : Bool} {x : Int} (h : fe s S = some (.bl b, S)) : (dOp (repD false) (dLst false (dCons (dC (.int x)) dNil)) (dCB intD (dCons fe dNil))) s S = some (.lst (if b then [.int x] else []), S) := by
  have h1 := lst1 (s := s) (S := S) (S1 := S) (fe := dC (.int x)) rfl
  cases b with
  | true =>
    simp only [dOp, h1, bnd_some', dCB, dCons, dNil, h, DL.intD, repD, trL_lst, if_true]
    rw [gate_ok (by simp), newL_f]
    rfl
  | false =>
    simp only [dOp, h1, bnd_some', dCB, dCons, dNil, h, DL.intD, repD, trL_lst, Bool.false_eq_true, if_false]
    rw [gate_ok (by simp), newL_f]
    rfl
theorem mem_take {l : List Int} {k : Nat} {x : Int} (h : x ∈ l.take k) : x ∈ l := List.mem_of_mem_take h
theorem mem_drop {l : List Int} {k : Nat} {x : Int} (h : x ∈ l.drop k) : x ∈ l := List.mem_of_mem_drop h
theorem bad_row_ok (h : t.ok N) (hN : N < 2 ^ 40) (hr : r.length ≤ 20) (hx : ∀ x ∈ r, 0 ≤ x ∧ x ≤ 100) : ∃ (l : List Int) (t' : Dk), f_law_bad_row_z [.ptr 1, dI r] (t.st G) = some (dI l, t'.st G) ∧ BadRow r.length l ∧ t'.ok (N + 2) := by
  obtain ⟨r1, t1, e1, a1, b1, k1⟩ := take_ok (G := G) (m := (r.length : Nat) + 1) h (by omega) (by omega) (by omega)
  obtain ⟨sp, rfl⟩ : ∃ n : Nat, r1 = (n : Int) := ⟨r1.toNat, by omega⟩
  obtain ⟨r2, t2, e2, a2, b2, k2⟩ := take_ok (G := G) (m := 4) k1 (by omega) (by decide) (by decide)
  obtain ⟨R, hR⟩ : ∃ R, R = r.map DV.int := ⟨_, rfl⟩
  have dr : dI r = .lst R := by rw [hR]; rfl
  have lR : R.length = r.length := by rw [hR]; simp
  have ln : ∀ S, lenD [.lst R] S = some (.int (r.length : Nat), S) := fun S => by simp [lR]
  have ne0 : ∀ S, neD (.lst R) (.lst []) S = some (.bl (!decide (r = [])), S) := fun S => by rw [← dr]; exact ne_dI r []
  have eq0 : ∀ S, eqD (.lst R) (.lst []) S = some (.bl (decide (r = [])), S) := fun S => by rw [← dr]; exact eq_dI r []
  have bx : ∀ x ∈ r, -1 ≤ x ∧ x ≤ 100 := fun x h => ⟨by have := hx x h; omega, (hx x h).2⟩
  have E1 : (dOp (addD false) (dOp (addD false) (dSlL false (dVar 1) doN (doS (dVar 2))) (dLst false (dCons (dOp (addD false) (dCB lenD (dCons (dVar 1) dNil)) (dC (.int 1))) dNil))) (dSlL false (dVar 1) (doS (dVar 2)) doN)) [some (.ptr 1), some (.lst R), some (.int (sp : Nat)), none] (t1.st G) = some (.lst (R.take sp ++ [.int ((r.length : Nat) + 1)] ++ R.drop sp), t1.st G) :=
    add3 (sl_t (r := R) rfl rfl (by omega)) (lst1 (by simp [ln])) (sl_d (r := R) rfl rfl) (by simp; omega)
  have E2 : (dOp (addD false) (dOp (addD false) (dVar 1) (dOp (repD false) (dLst false (dCons (dC (.int 0)) dNil)) (dCB intD (dCons (dOp neD (dVar 1) (dLst false dNil)) dNil)))) (dOp (repD false) (dLst false (dCons (dC (.int 7)) dNil)) (dCB intD (dCons (dOp eqD (dVar 1) (dLst false dNil)) dNil)))) [some (.ptr 1), some (.lst R), some (.int (sp : Nat)), none] (t1.st G) = some (.lst (R ++ (if (!decide (r = [])) = true then [.int 0] else []) ++ (if decide (r = []) = true then [.int 7] else [])), t1.st G) := by
    have g0 : ∀ S : Sto, gate (0 ≤ 100000) (some (DV.lst [], S)) = some (DV.lst [], S) := fun S => gate_ok (by decide)
    refine add3 (a := R) rfl (rep1 (b := !decide (r = [])) ?_) (rep1 (b := decide (r = [])) ?_) (by split <;> split <;> simp <;> omega)
    · simp only [dOp, dVar, dLst, dNil, List.getElem?_cons_succ, List.getElem?_cons_zero, bnd_some', List.length_nil, newL_f, g0, ne0]
    · simp only [dOp, dVar, dLst, dNil, List.getElem?_cons_succ, List.getElem?_cons_zero, bnd_some', List.length_nil, newL_f, g0, eq0]
  obtain ⟨o3, ho3⟩ : ∃ o3 : List DV, o3 = [.lst (R.take sp ++ [.int ((r.length : Nat) + 1)] ++ R.drop sp), .lst (R ++ (if (!decide (r = [])) = true then [.int 0] else []) ++ (if decide (r = []) = true then [.int 7] else []))] := ⟨_, rfl⟩
  have E3 : (dOp (addD false) (dOp (addD false) (dSlL false (dVar 1) doN (doS (dVar 2))) (dLst false (dCons (dUn negD (dC (.int 1))) dNil))) (dSlL false (dVar 1) (doS (dOp (addD false) (dVar 2) (dC (.int 1)))) doN)) [some (.ptr 1), some (.lst R), some (.int (sp : Nat)), some (.lst o3)] (t1.st G) = some (.lst (R.take sp ++ [.int (-1)] ++ R.drop (sp + 1)), t1.st G) :=
    add3 (sl_t (r := R) rfl rfl (by omega)) (lst1 (by simp)) (sl_d (r := R) rfl (by simp)) (by simp; omega)
  have E4 : (dIf (dTest (dOp neD (dVar 1) (dLst false dNil))) (dSlL false (dVar 1) (doS (dC (.int 1))) doN) (dLst false (dCons (dC (.int 0)) dNil))) [some (.ptr 1), some (.lst R), some (.int (sp : Nat)), some (.lst o3)] (t1.st G) = some (.lst (if r = [] then [.int 0] else R.drop 1), t1.st G) := by
    have g0 : ∀ S : Sto, gate (0 ≤ 100000) (some (DV.lst [], S)) = some (DV.lst [], S) := fun S => gate_ok (by decide)
    have h1 := sl_d (s := [some (.ptr 1), some (.lst R), some (.int (sp : Nat)), some (.lst o3)]) (S := t1.st G) (r := R) (i := 1) (fe := dVar 1) (fh := dC (.int 1)) rfl rfl
    have h2 := lst1 (s := [some (.ptr 1), some (.lst R), some (.int (sp : Nat)), some (.lst o3)]) (S := t1.st G) (S1 := t1.st G) (fe := dC (.int 0)) rfl
    revert h1 h2
    generalize dSlL false (dVar 1) (doS (dC (.int 1))) doN = F1
    generalize (dLst false (dCons (dC (.int 0)) dNil)) = F2
    intro h1 h2
    by_cases hr0 : r = []
    · simp only [dIf, dTest, dOp, dVar, dLst, dNil, List.getElem?_cons_succ, List.getElem?_cons_zero, bnd_some', List.length_nil, newL_f, g0, ne0, hr0, decide_true, Bool.not_true, Bool.false_eq_true, if_false, if_true, h2]
    · simp only [dIf, dTest, dOp, dVar, dLst, dNil, List.getElem?_cons_succ, List.getElem?_cons_zero, bnd_some', List.length_nil, newL_f, g0, ne0, hr0, decide_false, Bool.not_false, if_false, if_true, h1]
  obtain ⟨d, hd, hd2⟩ := pick4 (a := .lst (R.take sp ++ [.int ((r.length : Nat) + 1)] ++ R.drop sp)) (b := .lst (R ++ (if (!decide (r = [])) = true then [.int 0] else []) ++ (if decide (r = []) = true then [.int 7] else []))) (c := .lst (R.take sp ++ [.int (-1)] ++ R.drop (sp + 1))) (e := .lst (if r = [] then [.int 0] else R.drop 1)) a2 b2
  have key : ∃ l : List Int, d = dI l ∧ BadRow r.length l := by
    rcases hd2 with rfl | rfl | rfl | rfl
    · refine ⟨r.take sp ++ [((r.length : Nat) + 1 : Int)] ++ r.drop sp, by simp [hR, dI], .inl (by simp; omega), by simp; omega, fun x hx1 => ?_⟩
      simp only [List.mem_append, List.mem_singleton] at hx1
      rcases hx1 with (h1 | h1) | h1
      · exact bx x (mem_take h1)
      · omega
      · exact bx x (mem_drop h1)
    · by_cases hr0 : r = []
      · exact ⟨[7], by simp [hR, dI, hr0], .inl (by simp [hr0]), by simp, by simp⟩
      · refine ⟨r ++ [0], by simp [hR, dI, hr0], .inl (by simp), by simp, fun x hx1 => ?_⟩
        simp only [List.mem_append, List.mem_singleton] at hx1
        rcases hx1 with h1 | h1
        · exact bx x h1
        · omega
    · refine ⟨r.take sp ++ [-1] ++ r.drop (sp + 1), by simp [hR, dI], .inr (by simp), by simp; omega, fun x hx1 => ?_⟩
      simp only [List.mem_append, List.mem_singleton] at hx1
      rcases hx1 with (h1 | h1) | h1
      · exact bx x (mem_take h1)
      · omega
      · exact bx x (mem_drop h1)
    · by_cases hr0 : r = []
      · exact ⟨[0], by simp [dI, hr0], .inl (by simp [hr0]), by simp, by simp⟩
      · have := List.length_pos_iff.mpr hr0
        exact ⟨r.drop 1, by simp [hR, dI, hr0], .inl (by simp; omega), by simp; omega, fun x hx1 => bx x (mem_drop hx1)⟩
  obtain ⟨l, rfl, hl⟩ := key
  refine ⟨l, t2, ?_, hl, k2.mono (by omega)⟩
  rw [dr]
  refine fn_rt (d := dI l) (S1 := t2.st G) ?_ (exF_len rfl)
  have e1' : f_law_take_z [.ptr 1, .int (((r.length : Nat) : Int) + 1)] (t.st G) = some (.int (sp : Nat), t1.st G) := e1
  refine seq_nx (s1 := [some (.ptr 1), some (.lst R), some (.int (sp : Nat)), none]) (S1 := t1.st G) (asg_name (by simp [startD, ln, e1'])) ?_
  refine seq_nx (s1 := [some (.ptr 1), some (.lst R), some (.int (sp : Nat)), some (.lst o3)]) (S1 := t1.st G) (asg_name (Eq.trans (lst2 E1 E2) (by rw [ho3]))) ?_
  refine seq_nx (s1 := [some (.ptr 1), some (.lst R), some (.int (sp : Nat)), some (.lst (o3 ++ [.lst (R.take sp ++ [.int (-1)] ++ R.drop (sp + 1)), .lst (if r = [] then [.int 0] else R.drop 1)]))]) (S1 := t1.st G) (asg_name ?_) ?_
  · rw [dOp, show dVar 3 [some (.ptr 1), some (.lst R), some (.int (sp : Nat)), some (.lst o3)] (t1.st G) = some (.lst o3, t1.st G) from rfl, bnd_some', lst2 E3 E4, bnd_some', addD_lst, gate_ok (by rw [ho3]; simp), newL_f]
  · refine ret_of (ix_of (l := o3 ++ [.lst (R.take sp ++ [.int (-1)] ++ R.drop (sp + 1)), .lst (if r = [] then [.int 0] else R.drop 1)]) (S1 := t1.st G) rfl (call2 (x := .ptr 1) (y := .int 4) rfl rfl e2) ?_)
    rw [ho3]
    exact hd
end
section
variable {t : Dk} {G S : Sto} {N : Int} {ws : List Int} {rs : List Rn}
theorem neg_mk {k : Int} (h : 0 ≤ k) : ¬ 0 < mkRat (-1 - k) 7 := by
  intro g
  have := num_pos_iff.mpr g
  have h2 : mkRat (-1 - k) 7 = -mkRat (1 + k) 7 := by
    rw [Rat.neg_mkRat]
    congr 1
    omega
  rw [h2, Rat.neg_num] at this
  have h3 : (0 : Rat) ≤ mkRat (1 + k) 7 := by
    exact nonneg_mkRat (by omega)
  have := Rat.num_nonneg.mpr h3
  omega
theorem half_fr : DV.tup [.int 1, .int 2] = fr (mkRat 1 2) := by
  rw [← mkRat_fr (by decide)]
  rfl
/-- rains one of which there can't be -/
def oddL (rs : List Rn) (at_ : Nat) (p : Int × Rat) : List (Int × Rat) := ((rs.take at_).map fun p => (((p.1 + 1 : Nat) : Int), p.2)) ++ p :: (((rs.drop at_).map fun p => (((p.1 + 1 : Nat) : Int), p.2)) ++ [(0, mkRat 1 2)])
theorem odd_map {at_ : Nat} {p : Int × Rat} : (oddL rs at_ p).map rD = (rs.take at_).map rnD ++ rD p :: ((rs.drop at_).map rnD ++ [rD (0, mkRat 1 2)]) := by
  unfold oddL
  simp only [List.map_append, List.map_cons, List.map_map, List.map_nil]
  rfl
structure Odd (ws : List Int) (p : Int × Rat) : Prop where
  z : Sz 1400 p.2
  b : p.1 < 1 ∨ (ws.length : Int) < p.1 ∨ ¬ 0 < p.2
  t : -200 ≤ p.1 ∧ p.1 ≤ 200
theorem sz_one : Sz 1400 (1 : Rat) := by
  have := sz_mkRat (a := 1) (b := 1) (n := 1400) (by decide) (Nat.one_lt_two_pow (by decide)) (Nat.one_lt_two_pow (by decide))
  exact this
theorem lt1400 {n : Nat} (h : n < 2 ^ 10) : n < 2 ^ 1400 := Nat.lt_of_lt_of_le h (Nat.pow_le_pow_right (by decide) (by decide))
theorem bad_rains_ok (f : Flo ws) (hr : RnOk ws rs) (h : t.ok N) (hN : N < 2 ^ 40) : ∃ (at_ : Nat) (p : Int × Rat) (t' : Dk), f_law_bad_rains_z [.ptr 1, dI ws, .lst (rs.map rnD)] (t.st G) = some (.tup [.lst ((oddL rs at_ p).map rD), .int (at_ : Nat)], t'.st G) ∧ at_ ≤ rs.length ∧ Odd ws p ∧ t'.ok (N + 10) := by
  have f8 := f.n
  have hn := hr.n
  obtain ⟨r1, t1, e1, a1, b1, k1⟩ := take_ok (G := G) (m := (rs.length : Nat) + 1) h (by omega) (by omega) (by omega)
  obtain ⟨at_, rfl⟩ : ∃ n : Nat, r1 = (n : Int) := ⟨r1.toNat, by omega⟩
  obtain ⟨r2, t2, e2, a2, b2, k2⟩ := take_ok (G := G) (m := 99) k1 (by omega) (by decide) (by decide)
  obtain ⟨r3, t3, e3, a3, b3, k3⟩ := take_ok (G := G) (m := 4) k2 (by omega) (by decide) (by decide)
  obtain ⟨r4, t4, e4, a4, b4, k4⟩ := take_ok (G := G) (m := 99) k3 (by omega) (by decide) (by decide)
  obtain ⟨r5, t5, e5, a5, b5, k5⟩ := take_ok (G := G) (m := 4) k4 (by omega) (by decide) (by decide)
  obtain ⟨T, hT⟩ : ∃ T, T = dI ws := ⟨_, rfl⟩
  obtain ⟨R, hR⟩ : ∃ R, R = rs.map rnD := ⟨_, rfl⟩
  have lR : R.length = rs.length := by rw [hR]; simp
  have lw : ∀ S, lenD [T] S = some (.int (ws.length : Nat), S) := fun S => by rw [hT]; simp [dI]
  have lr : ∀ S, lenD [.lst R] S = some (.int (rs.length : Nat), S) := fun S => by simp [lR]
  obtain ⟨td, htd, htd2⟩ := pick4 (a := .int 0) (b := .int (-1)) (c := .int ((ws.length : Nat) + 1)) (e := .int ((ws.length : Nat) + 1 + r2)) a3 b3
  obtain ⟨tk, rfl, tb, tl⟩ : ∃ tk : Int, td = .int tk ∧ (tk < 1 ∨ (ws.length : Int) < tk) ∧ (-200 ≤ tk ∧ tk ≤ 200) := by
    rcases htd2 with rfl | rfl | rfl | rfl
    · exact ⟨_, rfl, .inl (by omega), by omega⟩
    · exact ⟨_, rfl, .inl (by omega), by omega⟩
    · exact ⟨_, rfl, .inr (by omega), by omega⟩
    · exact ⟨_, rfl, .inr (by omega), by omega⟩
  have lo := law_low_ok (a := -1 - r4) (b := 7) (S := t4.st G) (by decide) (Nat.lt_of_lt_of_le (show 7 < 2 ^ 3 by decide) (Nat.pow_le_pow_right (by decide) (by decide)))
  obtain ⟨od, hod, hod2⟩ := pick4 (a := rD (tk, 1)) (b := rD (1, 0)) (c := rD (1, mkRat (-1 - r4) 7)) (e := rD (tk, 0)) a5 b5
  obtain ⟨p, rfl, hp⟩ : ∃ p, od = rD p ∧ Odd ws p := by
    rcases hod2 with rfl | rfl | rfl | rfl
    · exact ⟨_, rfl, sz_one, by rcases tb with h | h; exact .inl h; exact .inr (.inl h), tl⟩
    · exact ⟨_, rfl, sz_zero, .inr (.inr (Rat.lt_irrefl)), by decide⟩
    · exact ⟨_, rfl, sz_mkRat (by decide) (lt1400 (by omega)) (lt1400 (by decide)), .inr (.inr (neg_mk a4)), ⟨show (-200 : Int) ≤ 1 by decide, show (1 : Int) ≤ 200 by decide⟩⟩
    · exact ⟨_, rfl, sz_zero, .inr (.inr (Rat.lt_irrefl)), tl⟩
  refine ⟨at_, p, t5, ?_, by omega, hp, k5.mono (by omega)⟩
  have e1' : f_law_take_z [.ptr 1, .int (((rs.length : Nat) : Int) + 1)] (t.st G) = some (.int (at_ : Nat), t1.st G) := e1
  have e99 : f_law_take_z [.ptr 1, .int 99] (t1.st G) = some (.int r2, t2.st G) := e2
  rw [← hT, ← hR]
  refine fn_rt (d := .tup [.lst ((oddL rs at_ p).map rD), .int (at_ : Nat)]) (S1 := t5.st G) ?_ (exF_len rfl)
  refine seq_nx (s1 := [some (.ptr 1), some T, some (.lst R), some (.int (at_ : Nat)), none, none]) (S1 := t1.st G) (asg_name (by simp [startD, lr, e1'])) ?_
  refine seq_nx (s1 := [some (.ptr 1), some T, some (.lst R), some (.int (at_ : Nat)), some (.int tk), none]) (S1 := t3.st G) (asg_name ?_) ?_
  · refine ix_of (S1 := t2.st G) (lst4 (S1 := t1.st G) (S2 := t1.st G) (S3 := t1.st G) rfl (by simp) (e := .int (-1)) (f := .int ((ws.length : Nat) + 1)) (k := .int ((ws.length : Nat) + 1 + r2)) (by simp [lw]) ?_) (call2 (x := .ptr 1) (y := .int 4) rfl rfl e3) htd
    have c := call2 (s := [some (.ptr 1), some T, some (.lst R), some (.int (at_ : Nat)), none, none]) (S := t1.st G) (fe := dVar 0) (fg := dC (.int 99)) (x := .ptr 1) (y := .int 99) rfl rfl e99
    simp only [dOp, dCB, dCons, dNil, dVar, dC, List.getElem?_cons_succ, List.getElem?_cons_zero, bnd_some', lw, addD_int] at c ⊢
    rw [c]
    rfl
  refine seq_nx (s1 := [some (.ptr 1), some T, some (.lst R), some (.int (at_ : Nat)), some (.int tk), some (rD p)]) (S1 := t5.st G) (asg_name ?_) ?_
  · refine ix_of (S1 := t4.st G) (lst4 (S1 := t3.st G) (S2 := t3.st G) (S3 := t4.st G) (d := rD (tk, 1)) (e := rD (1, 0)) (f := rD (1, mkRat (-1 - r4) 7)) (k := rD (tk, 0)) ?_ ?_ ?_ ?_) (call2 (x := .ptr 1) (y := .int 4) rfl rfl e5) hod
    · exact tup2 (S1 := t3.st G) (d := .int tk) (e := fr 1) rfl (tup2 (S1 := t3.st G) rfl rfl)
    · exact tup2 (S1 := t3.st G) (d := .int 1) (e := fr 0) rfl (tup2 (S1 := t3.st G) rfl rfl)
    · refine tup2 (S1 := t3.st G) (d := .int 1) (e := fr (mkRat (-1 - r4) 7)) rfl (call2 (S1 := t4.st G) (S2 := t4.st G) (x := .int (-1 - r4)) (y := .int 7) ?_ rfl lo)
      have c := call2 (s := [some (.ptr 1), some T, some (.lst R), some (.int (at_ : Nat)), some (.int tk), none]) (S := t3.st G) (fe := dVar 0) (fg := dC (.int 99)) (x := .ptr 1) (y := .int 99) rfl rfl e4
      rw [dOp, show dUn negD (dC (.int 1)) [some (.ptr 1), some T, some (.lst R), some (.int (at_ : Nat)), some (.int tk), none] (t3.st G) = some (.int (-1), t3.st G) from by simp, bnd_some', c, bnd_some']
      simp
    · exact tup2 (S1 := t4.st G) (d := .int tk) (e := fr 0) rfl (tup2 (S1 := t4.st G) rfl rfl)
  · refine ret_of (tup2 (S1 := t5.st G) ?_ rfl)
    rw [odd_map]
    have := add4 (s := [some (.ptr 1), some T, some (.lst R), some (.int (at_ : Nat)), some (.int tk), some (rD p)]) (S := t5.st G) (fe := dSlL false (dVar 2) doN (doS (dVar 3))) (fg := dLst false (dCons (dVar 5) dNil)) (fh := dSlL false (dVar 2) (doS (dVar 3)) doN) (fk := dLst false (dCons (dTup (dCons (dC (.int 0)) (dCons (dTup (dCons (dC (.int 1)) (dCons (dC (.int 2)) dNil))) dNil))) dNil))
      (sl_t (r := R) rfl rfl (by omega)) (lst1 rfl) (sl_d (r := R) rfl rfl) (lst1 (tup2 (S1 := t5.st G) rfl (tup2 (S1 := t5.st G) rfl rfl))) (by simp; omega)
    refine this.trans ?_
    rw [hR, half_fr, List.map_take, List.map_drop]
    simp [rD]
/-! ### shown -/
def prD (p : Int × Rat) : PyData := .tuple [.int p.1, pfr p.2]
theorem four_of {α : Type} {P : α → Prop} {a b c d : α} (h : P a) (g : P b) (k : P c) (m : P d) : ∀ x ∈ [a, b, c, d], P x := fun x hx => by
  rcases List.mem_cons.mp hx with rfl | hx
  · exact h
  · exact three_of g k m x hx
theorem shw_ints' {l : List Int} (h : ∀ x ∈ l, -1 ≤ x ∧ x ≤ 100) (hl : l.length ≤ 13) : Shw 110000 (.list (l.map PyData.int)) :=
  shw_uptoG (N := 1921) (m := 13) (fun x hx => shw_int (n := 10) (by have := h x hx; omega) (by decide)) hl (by decide)
theorem shown4 {ws : List Int} {rs : List Rn} {l : List Int} {os : List (Int × Rat)} (f : Flo ws) (h : RnOk ws rs) (ho : os.length ≤ 13) (hz : ∀ p ∈ os, Sz 1400 p.2 ∧ -200 ≤ p.1 ∧ p.1 ≤ 200) (hl : l.length ≤ 13) (hb : ∀ x ∈ l, -1 ≤ x ∧ x ≤ 100) :
    ∃ T : Str, Asc T ∧ ∀ S : Sto, reprD [.lst [dI ws, .lst (rs.map rnD), .lst (os.map rD), dI l]] S = some (.str T, S) := by
  have po : ∀ r, py r (.lst (os.map rD)) = some (.list (os.map prD)) := fun r => py_lstG (f := rD) fun p _ => rfl
  have so : ShN 3 (.list (os.map prD)) := shN_list fun p hp => by
    obtain ⟨x, _, rfl⟩ := List.mem_map.mp hp
    exact shN_tuple (n := 1) (two_ofG shN_int (sh_pfr x.2))
  have wo : Shw 110000 (.list (os.map prD)) := shw_uptoG (N := 7705) (m := 13) (fun p hp => by
    have t := hz p hp
    have := shw_tup (N := 3849) (two_ofG ((shw_int (n := 10) (i := p.1) (by omega) (by decide)).up (by decide)) (shw_frG (t.1.mono (by decide))))
    exact this.up (by simp)) ho (by decide)
  refine ⟨PyData.shown (.list [.list (ws.map PyData.int), .list (rs.map prn), .list (os.map prD), .list (l.map PyData.int)]), asc_list (four_of (P := fun p => Asc (PyData.shown p)) (asc_ints _) (asc_rns _) (asc_mapG fun p _ => asc_tup (two_ofG (P := fun p => Asc (PyData.shown p)) (asc_int _) (asc_frG p.2))) (asc_ints _)), fun S => ?_⟩
  refine repr_ok (n := 4) (N := 500000) ?_ (shN_list (n := 3) (four_of (sh_ints _) (sh_rns _) so (sh_ints _))) (by decide) ?_ (by decide) (.inl ⟨_, rfl⟩)
  · have a : ∀ r, pys r [dI ws, .lst (rs.map rnD), .lst (os.map rD), dI l] = some [.list (ws.map PyData.int), .list (rs.map prn), .list (os.map prD), .list (l.map PyData.int)] := fun r => by
      rw [pys, py_ints, pys, py_rns, pys, po, pys, py_ints, pys]
    show (pys _ [dI ws, .lst (rs.map rnD), .lst (os.map rD), dI l]).map PyData.list = _
    rw [a]
    rfl
  · have f8 := f.n
    have := shw_list (N := 110000) (four_of ((shw_intsG (fun x hx => by have := f.fl x hx; omega) (by omega)).up (by decide)) ((shw_rns f h).up (by decide)) wo (shw_ints' hb hl))
    exact this.up (by simp)
end
noncomputable def askB : DS :=
    (dSeq (dIfS (dOr (dTest (dOp neD (dCall 3 f_law_refusal_z [] (dCons (dLst false dNil) (dCons (dVar 8) (dCons (dVar 12) dNil)))) (dTup (dCons (dC (.str "floors")) (dCons (dC .non) dNil))))) (dTest (dOp neD (dCall 3 f_law_refusal_z [] (dCons (dVar 7) (dCons (dVar 8) (dCons (dVar 12) dNil)))) (dTup (dCons (dC (.str "floors")) (dCons (dVar 6) dNil))))))
    (dRet (dC (.bl false))) dNext)
    (dIfS (dTest (dOp neD (dCall 3 f_law_refusal_z [] (dCons (dVar 3) (dCons (dVar 8) (dCons (dVar 12) dNil)))) (dTup (dCons (dC (.str "rain")) (dCons (dVar 9) dNil)))))
    (dRet (dC (.bl false))) dNext))
noncomputable def bodyL : DS :=
    (dSeq (dAsg (dCall 2 f_law_tanks_z [] (dCons (dVar 1) (dCons (dC (.int 8)) dNil))) (dName 3))
    (dSeq (dAsg (dCall 3 f_law_rains_z [] (dCons (dVar 1) (dCons (dVar 3) (dCons (dC (.int 8)) dNil)))) (dName 4))
    (dSeq (dAsg (dRevL false (dLr1' false (dCB lenD (dCons (dVar 4) dNil)))) (dName 5))
    (dSeq (dAsg (dCall 2 f_law_take_z [] (dCons (dVar 1) (dCons (dCB lenD (dCons (dVar 3) dNil)) dNil))) (dName 6))
    (dSeq (dAsg (dOp (addD false) (dOp (addD false) (dSlL false (dVar 3) doN (doS (dVar 6))) (dLst false (dCons (dOp ixD (dLst false (dCons (dC (.int 0)) (dCons (dUn negD (dC (.int 1))) (dCons (dUn negD (dC (.int 99))) dNil)))) (dCall 2 f_law_take_z [] (dCons (dVar 1) (dCons (dC (.int 3)) dNil)))) dNil))) (dSlL false (dVar 3) (doS (dOp (addD false) (dVar 6) (dC (.int 1)))) doN)) (dName 7))
    (dSeq (dAsg (dCall 3 f_law_bad_rains_z [] (dCons (dVar 1) (dCons (dVar 3) (dCons (dVar 4) dNil)))) (dGTup 2 (dGCons (dName 8) (dGCons (dName 9) dGNil))))
    (dSeq (dAsg (dCall 2 f_law_bad_row_z [] (dCons (dVar 1) (dCons (dVar 5) dNil))) (dName 10))
    (dSeq (dAsg (dCB reprD (dCons (dLst false (dCons (dVar 3) (dCons (dVar 4) (dCons (dVar 8) (dCons (dVar 10) dNil))))) dNil)) (dName 11))
    (dSeq (dFor (diL (dLst false (dCons (dC .non) (dCons (dVar 5) (dCons (dVar 10) dNil))))) (dName 12)
    askB)
    (dSeq (dAsg (dLc false (diL (dLst false (dCons (dC .non) (dCons (dVar 5) (dCons (dVar 10) dNil))))) (dName 12) dYes (dCall 3 f_law_refusal_z [] (dCons (dVar 3) (dCons (dVar 4) (dCons (dVar 12) dNil)))) [12]) (dName 13))
    (dIfS (dOr (dTest (dOp neD (dVar 13) (dLst false (dCons (dTup (dCons (dC (.str "none")) (dCons (dC .non) dNil))) (dCons (dTup (dCons (dC (.str "none")) (dCons (dC .non) dNil))) (dCons (dTup (dCons (dC (.str "order")) (dCons (dC .non) dNil))) dNil)))))) (dTest (dOp neD (dCB reprD (dCons (dLst false (dCons (dVar 3) (dCons (dVar 4) (dCons (dVar 8) (dCons (dVar 10) dNil))))) dNil)) (dVar 11))))
    (dRet (dC (.bl false))) dNext)))))))))))
section
variable {S : Sto} {o0 o1 o2 o3 o4 o5 o9 o10 o11 o12 o13 : Option DV} {ws : List Int} {rs : List Rn}
theorem asc_fl : Asc ("floors" : Str) := asc_lit (by decide +kernel)
theorem asc_rn : Asc ("rain" : Str) := asc_lit (by decide +kernel)
theorem asc_or : Asc ("order" : Str) := asc_lit (by decide +kernel)
theorem asc_no : Asc ("none" : Str) := asc_lit (by decide +kernel)
theorem ne_non {x : Str} (h : Asc x) : neD (.tup [.str x, .non]) (.tup [.str x, .non]) S = some (.bl false, S) :=
  ne_self (n := 2) (p := .tuple [.str x, .none]) rfl rfl (shN_tuple (n := 1) (two_ofG ⟨h.sh.1, Nat.le_trans h.sh.2 (Nat.zero_le _)⟩ shN_non)) (by decide)
theorem ne_int {x : Str} {i : Int} (h : Asc x) : neD (.tup [.str x, .int i]) (.tup [.str x, .int i]) S = some (.bl false, S) :=
  ne_self (n := 2) (p := .tuple [.str x, .int i]) rfl rfl (shN_tuple (n := 1) (two_ofG ⟨h.sh.1, Nat.le_trans h.sh.2 (Nat.zero_le _)⟩ shN_int)) (by decide)
theorem ask_ok {B R T x : DV} {sp due : Int} (h1 : f_law_refusal_z [.lst [], R, x] S = some (.tup [.str "floors", .non], S)) (h2 : f_law_refusal_z [B, R, x] S = some (.tup [.str "floors", .int sp], S)) (h3 : f_law_refusal_z [T, R, x] S = some (.tup [.str "rain", .int due], S)) :
    askB [o0, o1, o2, some T, o4, o5, some (.int sp), some B, some R, some (.int due), o10, o11, some x, o13] S = some (.nx [o0, o1, o2, some T, o4, o5, some (.int sp), some B, some R, some (.int due), o10, o11, some x, o13] S) := by
  obtain ⟨s, hs⟩ : ∃ s : Sl, s = [o0, o1, o2, some T, o4, o5, some (.int sp), some B, some R, some (.int due), o10, o11, some x, o13] := ⟨_, rfl⟩
  have v3 : dVar 3 s S = some (T, S) := by rw [hs]; rfl
  have v6 : dVar 6 s S = some (.int sp, S) := by rw [hs]; rfl
  have v7 : dVar 7 s S = some (B, S) := by rw [hs]; rfl
  have v8 : dVar 8 s S = some (R, S) := by rw [hs]; rfl
  have v9 : dVar 9 s S = some (.int due, S) := by rw [hs]; rfl
  have v12 : dVar 12 s S = some (x, S) := by rw [hs]; rfl
  have l0 : dLst false dNil s S = some (.lst [], S) := by
    simp only [dLst, dNil, bnd_some', List.length_nil]
    rw [gate_ok (by decide), newL_f]
  rw [← hs]
  have c1 := call3 l0 v8 v12 h1
  have c2 := call3 v7 v8 v12 h2
  have c3 := call3 v3 v8 v12 h3
  have t1 := tup2 (s := s) (S := S) (S1 := S) (S2 := S) (fe := dC (.str "floors")) (fg := dC .non) rfl rfl
  have t2 := tup2 (s := s) (S := S) (S1 := S) (S2 := S) (fe := dC (.str "floors")) (fg := dVar 6) rfl v6
  have t3 := tup2 (s := s) (S := S) (S1 := S) (S2 := S) (fe := dC (.str "rain")) (fg := dVar 9) rfl v9
  have n1 := ne_non (S := S) asc_fl
  have n2 := ne_int (S := S) (i := sp) asc_fl
  have n3 := ne_int (S := S) (i := due) asc_rn
  refine seq_nx (s1 := s) (S1 := S) (if_f (S1 := S) ?_ rfl) (if_f (S1 := S) ?_ rfl)
  · rw [dOr, dTest, dOp, c1, bnd_some', t1, bnd_some', n1, bnd_some']
    simp only [bnd_some']
    rw [if_neg (by decide), dTest, dOp, c2, bnd_some', t2, bnd_some', n2, bnd_some']
  · rw [dTest, dOp, c3, bnd_some', t3, bnd_some', n3, bnd_some']
end
section
variable {S : Sto} {d0 o2 o3 o4 o5 o6 o7 o8 o9 o10 o11 o12 o13 : Option DV}
theorem lap_ok {t : Dk} {G : Sto} {N : Int} (hk : t.ok N) (hN : N < 2 ^ 30) :
    ∃ (p3 p4 p5 p6 p7 p8 p9 p10 p11 p12 p13 : Option DV) (t' : Dk), bodyL [d0, some (.ptr 1), o2, o3, o4, o5, o6, o7, o8, o9, o10, o11, o12, o13] (t.st G) = some (.nx [d0, some (.ptr 1), o2, p3, p4, p5, p6, p7, p8, p9, p10, p11, p12, p13] (t'.st G)) ∧ t'.ok (N + 300) := by
  obtain ⟨ws, t1, e1, n1, l1, w1, k1⟩ := law_tanks_ok (G := G) (m := 8) hk (by omega) (by decide) (by decide)
  have f : Flo ws := ⟨n1, w1, by omega⟩
  have f8 := f.n
  have fpos : 0 < ws.length := List.length_pos_iff.mpr f.ne
  have fl : ∀ x ∈ ws, 1 ≤ x := fun x hx => (f.fl x hx).1
  obtain ⟨rs, t2, e2, ok, r8, k2⟩ := law_rains_okM (M := 8) (by decide) (G := G) f k1 (by omega)
  obtain ⟨r3, t3, e3, a3, b3, k3⟩ := take_ok (G := G) (m := (ws.length : Nat)) k2 (by omega) (by omega) (by omega)
  obtain ⟨sp, rfl⟩ : ∃ n : Nat, r3 = (n : Int) := ⟨r3.toNat, by omega⟩
  obtain ⟨r4, t4, e4, a4, b4, k4⟩ := take_ok (G := G) (m := 3) k3 (by omega) (by decide) (by decide)
  obtain ⟨xd, hxd, hxd2⟩ := pick3 (a := .int 0) (b := .int (-1)) (c := .int (-99)) a4 b4
  obtain ⟨x, rfl, hx⟩ : ∃ x : Int, xd = .int x ∧ x < 1 := by
    rcases hxd2 with rfl | rfl | rfl
    · exact ⟨_, rfl, by decide⟩
    · exact ⟨_, rfl, by decide⟩
    · exact ⟨_, rfl, by decide⟩
  obtain ⟨at_, p, t5, e5, al, odd, k5⟩ := bad_rains_ok (G := G) f ok k4 (by omega)
  obtain ⟨idx, hidx⟩ : ∃ idx, idx = (List.range rs.length).reverse := ⟨_, rfl⟩
  have hp : idx.Perm (List.range rs.length) := by rw [hidx]; exact List.reverse_perm _
  have il : idx.length = rs.length := by simpa using hp.length_eq
  have ox : ∀ y ∈ oI idx, 0 ≤ y ∧ y ≤ 100 := fun y hy => by
    obtain ⟨i, hi, rfl⟩ := List.mem_map.mp hy
    have := List.mem_range.mp (hp.mem_iff.mp hi)
    omega
  obtain ⟨l, t6, e6, bad, k6⟩ := bad_row_ok (r := oI idx) (G := G) k5 (by omega) (by simp [oI]; omega) ox
  rw [show (oI idx).length = rs.length by simp [oI, il]] at bad
  obtain ⟨Tx, asc, sh⟩ := shown4 (os := oddL rs at_ p) (l := l) f ok (by simp [oddL]; omega) (fun q hq => by
    unfold oddL at hq
    have cv : ∀ p ∈ rs, Sz 1400 p.2 ∧ (-200 : Int) ≤ ((p.1 + 1 : Nat) : Int) ∧ ((p.1 + 1 : Nat) : Int) ≤ 200 := fun p hp => ⟨sz_am (ok.a p hp), by have := ok.t p hp; omega⟩
    rcases List.mem_append.mp hq with h | h
    · obtain ⟨y, hy, rfl⟩ := List.mem_map.mp h
      exact cv y (List.mem_of_mem_take hy)
    · rcases List.mem_cons.mp h with rfl | h
      · exact ⟨odd.z, odd.t⟩
      · rcases List.mem_append.mp h with h | h
        · obtain ⟨y, hy, rfl⟩ := List.mem_map.mp h
          exact cv y (List.mem_of_mem_drop hy)
        · rw [List.mem_singleton.mp h]
          exact ⟨sz_mkRat (by decide) (lt1400 (by decide)) (lt1400 (by decide)), by decide⟩) (by have := bad.2.1; omega) bad.2.2
  obtain ⟨R, hR⟩ : ∃ R, R = DV.lst ((oddL rs at_ p).map rD) := ⟨_, rfl⟩
  obtain ⟨B, hB⟩ : ∃ B, B = dI (ws.take sp ++ x :: ws.drop (sp + 1)) := ⟨_, rfl⟩
  obtain ⟨S, hS⟩ : ∃ S, S = t6.st G := ⟨_, rfl⟩
  have q1 : ∀ y, f_law_refusal_z [.lst [], R, y] S = some (.tup [.str "floors", .non], S) := fun y => ref_fl floors_nil
  have q2 : ∀ y, f_law_refusal_z [B, R, y] S = some (.tup [.str "floors", .int (sp : Nat)], S) := fun y => ref_fl (by
    rw [hB]
    have := floors_bad (S := S) (A := ws.take sp) (Z := ws.drop (sp + 1)) (x := x) (fun n hn => fl n (List.mem_of_mem_take hn)) hx
    rw [List.length_take, Nat.min_eq_left (by omega)] at this
    exact this)
  have cf := check_floors_ok (S := S) f.ne fl
  have cr := check_rains_ok (S := S) f ok
  have okA : RnOk ws (rs.take at_) := tk_ok' ok at_
  have q3 : ∀ y, f_law_refusal_z [dI ws, R, y] S = some (.tup [.str "rain", .int (at_ : Nat)], S) := fun y => ref_rn cf (by
    rw [hR, odd_map]
    have := rains_bad (S := S) (ws := ws) (A := rs.take at_) (Z := (rs.drop at_).map rnD ++ [rD (0, mkRat 1 2)]) (t := p.1) (q := p.2) f okA odd.z odd.b
    rw [List.length_take, Nat.min_eq_left (by omega)] at this
    exact this)
  have q4 : f_law_refusal_z [dI ws, .lst (rs.map rnD), .non] S = some (.tup [.str "none", .non], S) := ref_ok0 (bounds_ok f ok)
  have q5 : f_law_refusal_z [dI ws, .lst (rs.map rnD), dI (oI idx)] S = some (.tup [.str "none", .non], S) := ref_ok1 rfl (behind_ok f ok hp)
  have q6 : f_law_refusal_z [dI ws, .lst (rs.map rnD), dI l] S = some (.tup [.str "order", .non], S) := ref_or rfl cf cr (order_bad (by omega) (sort_bad bad.1))
  have lr : ∀ S, lenD [.lst (rs.map rnD)] S = some (.int (rs.length : Nat), S) := fun S => by simp
  have lw : ∀ S, lenD [dI ws] S = some (.int (ws.length : Nat), S) := fun S => by simp [dI]
  have rw1 : dRevL false (dLr1' false (dCB lenD (dCons (dVar 4) dNil))) [d0, some (.ptr 1), o2, some (dI ws), some (.lst (rs.map rnD)), o5, o6, o7, o8, o9, o10, o11, o12, o13] (t2.st G) = some (dI (oI idx), t2.st G) := by
    have rg : dLr1' false (dCB lenD (dCons (dVar 4) dNil)) [d0, some (.ptr 1), o2, some (dI ws), some (.lst (rs.map rnD)), o5, o6, o7, o8, o9, o10, o11, o12, o13] (t2.st G) = some (.lst ((List.range rs.length).map fun (i : Nat) => DV.int (i : Int)), t2.st G) := by
      simp only [dLr1', dCB, dCons, dNil, dVar, List.getElem?_cons_succ, List.getElem?_cons_zero, bnd_some', lr]
      rw [gate_ok (by omega), newL_f]
      unfold rgD
      congr 3
      simp
    unfold dRevL
    rw [rg, bnd_some']
    simp only [rdL_lst, newL_f]
    rw [hidx]
    simp only [dI, oI, List.map_reverse, List.map_map]
    rfl
  obtain ⟨s, hs⟩ : ∃ s : Sl, s = [d0, some (.ptr 1), o2, some (dI ws), some (.lst (rs.map rnD)), some (dI (oI idx)), some (.int (sp : Nat)), some B, some R, some (.int (at_ : Nat)), some (dI l), some (.str Tx), o12, o13] := ⟨_, rfl⟩
  have dsp : ∀ (s : Sl) (S : Sto), s[5]? = some (some (dI (oI idx))) → s[10]? = some (some (dI l)) → diL (dLst false (dCons (dC .non) (dCons (dVar 5) (dCons (dVar 10) dNil)))) s S = some (.li (.lst [.non, dI (oI idx), dI l]), S) := fun s S h1 h2 => by
    have := lst3 (s := s) (S := S) (S1 := S) (S2 := S) (S3 := S) (fe := dC .non) (fg := dVar 5) (fh := dVar 10) (d := .non) (e := dI (oI idx)) (f := dI l) rfl (by simp only [dVar, h1]) (by simp only [dVar, h2])
    unfold diL
    rw [this, bnd_some']
    rfl
  obtain ⟨s', S', e7, oq, hs', hS'⟩ := forL_inv (tgt := dName 12) (body := askB) (fun k s S1 => ∃ oq, s = [d0, some (.ptr 1), o2, some (dI ws), some (.lst (rs.map rnD)), some (dI (oI idx)), some (.int (sp : Nat)), some B, some R, some (.int (at_ : Nat)), some (dI l), some (.str Tx), oq, o13] ∧ S1 = S)
    (xs := [.non, dI (oI idx), dI l]) (s := s) (S := S) (k := 0) ⟨_, hs, rfl⟩ (by
      rintro i y s S1 hy ⟨oq, rfl, rfl⟩
      exact ⟨_, _, _, _, rfl, .inl (ask_ok (q1 y) (q2 y) (q3 y)), _, rfl, rfl⟩)
  subst hS'
  have told := lcL_ofB (φ := fun p : DV × DV => p.1) (γ := fun p : DV × DV => p.2) (tgt := dName 12) (te := dCall 3 f_law_refusal_z [] (dCons (dVar 3) (dCons (dVar 4) (dCons (dVar 12) dNil)))) (vs := [12]) (s := s') (S := S')
    (l := [(.non, .tup [.str "none", .non]), (dI (oI idx), .tup [.str "none", .non]), (dI l, .tup [.str "order", .non])]) (acc := []) (fun q hq => by
      refine ⟨_, rfl, ?_⟩
      have v3 : ∀ y, dVar 3 ((wipeD s' [12]).set 12 (some y)) S' = some (dI ws, S') := fun y => by rw [hs']; rfl
      have v4 : ∀ y, dVar 4 ((wipeD s' [12]).set 12 (some y)) S' = some (.lst (rs.map rnD), S') := fun y => by rw [hs']; rfl
      have v12 : ∀ y, dVar 12 ((wipeD s' [12]).set 12 (some y)) S' = some (y, S') := fun y => by rw [hs']; rfl
      refine call3 (v3 _) (v4 _) (v12 _) ?_
      simp only [List.mem_cons, List.not_mem_nil, or_false] at hq
      rcases hq with rfl | rfl | rfl
      · exact q4
      · exact q5
      · exact q6)
  have tell := lc_of (m := false) (it := .li (.lst [.non, dI (oI idx), dI l])) (S1 := S') (fi := diL (dLst false (dCons (dC .non) (dCons (dVar 5) (dCons (dVar 10) dNil))))) (tgt := dName 12) (tt := dYes) (te := dCall 3 f_law_refusal_z [] (dCons (dVar 3) (dCons (dVar 4) (dCons (dVar 12) dNil)))) (vs := [12]) (s := s') (S := S') (dsp s' S' (by rw [hs']; rfl) (by rw [hs']; rfl)) rfl told (by simp)
  rw [List.nil_append, newL_f] at tell
  have tell : dLc false (diL (dLst false (dCons (dC .non) (dCons (dVar 5) (dCons (dVar 10) dNil))))) (dName 12) dYes (dCall 3 f_law_refusal_z [] (dCons (dVar 3) (dCons (dVar 4) (dCons (dVar 12) dNil)))) [12] s' S' = some (.lst [.tup [.str "none", .non], .tup [.str "none", .non], .tup [.str "order", .non]], S') := tell
  have sw : ∀ {x : Str}, Asc x → ShN 2 (.tuple [.str x, .none]) := fun {x} h => shN_tuple (n := 1) (two_ofG ⟨h.sh.1, Nat.le_trans h.sh.2 (Nat.zero_le _)⟩ shN_non)
  have neL : neD (.lst [.tup [.str "none", .non], .tup [.str "none", .non], .tup [.str "order", .non]]) (.lst [.tup [.str "none", .non], .tup [.str "none", .non], .tup [.str "order", .non]]) S' = some (.bl false, S') :=
    ne_self (n := 3) (p := .list [.tuple [.str "none", .none], .tuple [.str "none", .none], .tuple [.str "order", .none]]) rfl rfl (shN_list (n := 2) (three_of (sw asc_no) (sw asc_no) (sw asc_or))) (by decide)
  have neT : neD (.str Tx) (.str Tx) S' = some (.bl false, S') := by
    rw [neD_str asc asc]
    simp
  have rp : ∀ (s : Sl) (S : Sto), s[3]? = some (some (dI ws)) → s[4]? = some (some (.lst (rs.map rnD))) → s[8]? = some (some R) → s[10]? = some (some (dI l)) → dCB reprD (dCons (dLst false (dCons (dVar 3) (dCons (dVar 4) (dCons (dVar 8) (dCons (dVar 10) dNil))))) dNil) s S = some (.str Tx, S) := fun s S h1 h2 h3 h4 => by
    have := lst4 (s := s) (S := S) (S1 := S) (S2 := S) (S3 := S) (S4 := S) (fe := dVar 3) (fg := dVar 4) (fh := dVar 8) (fk := dVar 10) (d := dI ws) (e := .lst (rs.map rnD)) (f := R) (k := dI l) (by simp only [dVar, h1]) (by simp only [dVar, h2]) (by simp only [dVar, h3]) (by simp only [dVar, h4])
    rw [dCB, dCons, this, bnd_some', dNil, bnd_some', bnd_some', hR]
    exact sh S
  refine ⟨some (dI ws), some (.lst (rs.map rnD)), some (dI (oI idx)), some (.int (sp : Nat)), some B, some R, some (.int (at_ : Nat)), some (dI l), some (.str Tx), oq, some (.lst [.tup [.str "none", .non], .tup [.str "none", .non], .tup [.str "order", .non]]), t6, ?_, k6.mono (by omega)⟩
  rw [← hS]
  refine seq_nx (s1 := [d0, some (.ptr 1), o2, some (dI ws), o4, o5, o6, o7, o8, o9, o10, o11, o12, o13]) (S1 := t1.st G) (asg_name (by simp [e1])) ?_
  refine seq_nx (s1 := [d0, some (.ptr 1), o2, some (dI ws), some (.lst (rs.map rnD)), o5, o6, o7, o8, o9, o10, o11, o12, o13]) (S1 := t2.st G) (asg_name (call3 (x := .ptr 1) (y := dI ws) (z := .int 8) rfl rfl rfl e2)) ?_
  refine seq_nx (s1 := [d0, some (.ptr 1), o2, some (dI ws), some (.lst (rs.map rnD)), some (dI (oI idx)), o6, o7, o8, o9, o10, o11, o12, o13]) (S1 := t2.st G) (asg_name rw1) ?_
  refine seq_nx (s1 := [d0, some (.ptr 1), o2, some (dI ws), some (.lst (rs.map rnD)), some (dI (oI idx)), some (.int (sp : Nat)), o7, o8, o9, o10, o11, o12, o13]) (S1 := t3.st G) (asg_name (call2 (S1 := t2.st G) (S2 := t2.st G) (x := .ptr 1) (y := .int (ws.length : Nat)) rfl (by simp [lw]) e3)) ?_
  refine seq_nx (s1 := [d0, some (.ptr 1), o2, some (dI ws), some (.lst (rs.map rnD)), some (dI (oI idx)), some (.int (sp : Nat)), some B, o8, o9, o10, o11, o12, o13]) (S1 := t4.st G) (asg_name ?_) ?_
  · have a1 := sl_t (s := [d0, some (.ptr 1), o2, some (dI ws), some (.lst (rs.map rnD)), some (dI (oI idx)), some (.int (sp : Nat)), o7, o8, o9, o10, o11, o12, o13]) (S := t3.st G) (r := ws.map DV.int) (i := sp) (fe := dVar 3) (fh := dVar 6) rfl rfl (by simp; omega)
    have a2 : (dLst false (dCons (dOp ixD (dLst false (dCons (dC (.int 0)) (dCons (dUn negD (dC (.int 1))) (dCons (dUn negD (dC (.int 99))) dNil)))) (dCall 2 f_law_take_z [] (dCons (dVar 1) (dCons (dC (.int 3)) dNil)))) dNil)) [d0, some (.ptr 1), o2, some (dI ws), some (.lst (rs.map rnD)), some (dI (oI idx)), some (.int (sp : Nat)), o7, o8, o9, o10, o11, o12, o13] (t3.st G) = some (.lst [.int x], t4.st G) :=
      lst1 (ix_of (S1 := t3.st G) (lst3 (S1 := t3.st G) (S2 := t3.st G) (S3 := t3.st G) (d := .int 0) (e := .int (-1)) (f := .int (-99)) rfl (by simp) (by simp)) (call2 (x := .ptr 1) (y := .int 3) rfl rfl e4) hxd)
    have a3 := sl_d (s := [d0, some (.ptr 1), o2, some (dI ws), some (.lst (rs.map rnD)), some (dI (oI idx)), some (.int (sp : Nat)), o7, o8, o9, o10, o11, o12, o13]) (S := t4.st G) (r := ws.map DV.int) (i := sp + 1) (fe := dVar 3) (fh := (dOp (addD false) (dVar 6) (dC (.int 1)))) rfl (by simp)
    rw [dOp, dOp, a1, bnd_some', a2, bnd_some', addD_lst, gate_ok (by simp; omega), newL_f, bnd_some', a3, bnd_some', addD_lst, gate_ok (by simp; omega), newL_f, hB]
    simp [dI]
  refine seq_nx (s1 := [d0, some (.ptr 1), o2, some (dI ws), some (.lst (rs.map rnD)), some (dI (oI idx)), some (.int (sp : Nat)), some B, some R, some (.int (at_ : Nat)), o10, o11, o12, o13]) (S1 := t5.st G) ?_ ?_
  · have := call3 (s := [d0, some (.ptr 1), o2, some (dI ws), some (.lst (rs.map rnD)), some (dI (oI idx)), some (.int (sp : Nat)), some B, o8, o9, o10, o11, o12, o13]) (S := t4.st G) (fe := dVar 1) (fg := dVar 3) (fh := dVar 4) (x := .ptr 1) (y := dI ws) (z := .lst (rs.map rnD)) rfl rfl rfl e5
    rw [dAsg, this, bnd_some', ← hR]
    rfl
  refine seq_nx (s1 := [d0, some (.ptr 1), o2, some (dI ws), some (.lst (rs.map rnD)), some (dI (oI idx)), some (.int (sp : Nat)), some B, some R, some (.int (at_ : Nat)), some (dI l), o11, o12, o13]) (S1 := S') (asg_name (by rw [hS]; exact call2 (x := .ptr 1) (y := dI (oI idx)) rfl rfl e6)) ?_
  refine seq_nx (s1 := s) (S1 := S') (by rw [hs]; exact asg_name (rp _ _ rfl rfl rfl rfl)) ?_
  refine seq_nx (s1 := s') (S1 := S') (for_of (it := .li (.lst [.non, dI (oI idx), dI l])) (S1 := S') (dsp s S' (by rw [hs]; rfl) (by rw [hs]; rfl)) rfl e7) ?_
  refine seq_nx (s1 := [d0, some (.ptr 1), o2, some (dI ws), some (.lst (rs.map rnD)), some (dI (oI idx)), some (.int (sp : Nat)), some B, some R, some (.int (at_ : Nat)), some (dI l), some (.str Tx), oq, some (.lst [.tup [.str "none", .non], .tup [.str "none", .non], .tup [.str "order", .non]])]) (S1 := S') (Eq.trans (asg_name tell) (by rw [hs']; rfl)) ?_
  refine if_f (S1 := S') ?_ rfl
  have rq := rp [d0, some (.ptr 1), o2, some (dI ws), some (.lst (rs.map rnD)), some (dI (oI idx)), some (.int (sp : Nat)), some B, some R, some (.int (at_ : Nat)), some (dI l), some (.str Tx), oq, some (.lst [.tup [.str "none", .non], .tup [.str "none", .non], .tup [.str "order", .non]])] S' rfl rfl rfl rfl
  have tn : ∀ (x : Str) (s : Sl), dTup (dCons (dC (.str x)) (dCons (dC .non) dNil)) s S' = some (.tup [.str x, .non], S') := fun x s => tup2 (S1 := S') rfl rfl
  have tl3 := lst3 (s := [d0, some (.ptr 1), o2, some (dI ws), some (.lst (rs.map rnD)), some (dI (oI idx)), some (.int (sp : Nat)), some B, some R, some (.int (at_ : Nat)), some (dI l), some (.str Tx), oq, some (.lst [.tup [.str "none", .non], .tup [.str "none", .non], .tup [.str "order", .non]])]) (S := S') (tn "none" _) (tn "none" _) (tn "order" _)
  rw [dOr, dTest, dOp, show dVar 13 _ S' = some (.lst [.tup [.str "none", .non], .tup [.str "none", .non], .tup [.str "order", .non]], S') from rfl, bnd_some', tl3, bnd_some', neL, bnd_some']
  simp only [bnd_some']
  rw [if_neg (by decide), dTest, dOp, rq, bnd_some', show dVar 11 _ S' = some (.str Tx, S') from rfl, bnd_some', neT, bnd_some']
end
theorem law_true : ∀ ns : List Int, ns.length ≤ 63 → ∃ S', f_law_z [.rls (ns.map DL.DV.int)] [] = some (.bl true, S') := by
  intro ns hns
  obtain ⟨t0, e0, k0⟩ := law_deck_ok hns
  obtain ⟨n, hn, hn2⟩ : ∃ n : Nat, 3 + (if (ns.length : Int) < 5 then (ns.length : Int) else 5) = (n : Int) ∧ n ≤ 8 := ⟨(3 + (if (ns.length : Int) < 5 then (ns.length : Int) else 5)).toNat, by split <;> omega, by split <;> omega⟩
  obtain ⟨s', S', e, _⟩ := forL_inv (tgt := dName 2) (body := bodyL) (fun k s S => ∃ o2 o3 o4 o5 o6 o7 o8 o9 o10 o11 o12 o13 t, s = [some (.rls (ns.map DV.int)), some (.ptr 1), o2, o3, o4, o5, o6, o7, o8, o9, o10, o11, o12, o13] ∧ S = Dk.st t [] ∧ t.ok (300 * k))
    (xs := (List.range n).map fun i => DV.int (0 + (i : Nat))) (s := [some (.rls (ns.map DV.int)), some (.ptr 1), none, none, none, none, none, none, none, none, none, none, none, none]) (S := t0.st []) (k := 0)
    ⟨_, _, _, _, _, _, _, _, _, _, _, _, _, rfl, rfl, k0⟩ (by
      rintro i x s S hx ⟨o2, o3, o4, o5, o6, o7, o8, o9, o10, o11, o12, o13, t, rfl, rfl, hk⟩
      have hi : i < n := by simpa using (List.getElem?_eq_some_iff.mp hx).1
      obtain ⟨p3, p4, p5, p6, p7, p8, p9, p10, p11, p12, p13, t', e, k⟩ := lap_ok (d0 := some (.rls (ns.map DV.int))) (G := []) (o2 := some x) (o3 := o3) (o4 := o4) (o5 := o5) (o6 := o6) (o7 := o7) (o8 := o8) (o9 := o9) (o10 := o10) (o11 := o11) (o12 := o12) (o13 := o13) hk (by omega)
      exact ⟨_, _, _, _, rfl, .inl e, _, p3, p4, p5, p6, p7, p8, p9, p10, p11, p12, p13, t', rfl, rfl, k.mono (by omega)⟩)
  have hr : RgS (n : Int) := rgS_of (by omega) (by omega)
  refine ⟨[], fn_rt (d := .bl true) (S1 := S') ?_ exF_bl⟩
  refine seq_nx (asg_name (d := .ptr 1) (S1 := t0.st []) (by simp [e0])) (seq_nx (for_of (it := .rg 0 n) (S1 := t0.st []) ?_ rfl e) (ret_of rfl))
  simp [hn, hr]
end FB.K39
end
section
open DL FW
open PySem PySem.W PyProof.Rows
set_option maxHeartbeats 0 in
set_option maxRecDepth 100000 in
theorem PySem.Challenge.cw_flapwater_k39_rains_refused_holds : PySem.Challenge.rw_flapwater_k39_rains_refused.Holds := by
  w_on; o_law; k_head; (case hw => w_witness2)
  k_fill
  refine DL.walk_boundsQ (l := PySem.Challenge.rw_flapwater_k39_rains_refused) (n := 63) (k := 14) (x := "script") (CX := fun _ => L2.CX0) rfl (by decide) rfl ⟨rfl, by decide, by decide⟩ ?has (fun w h Y => PySem.W.km_in_of Y) ?F (fun _ _ _ _ _ h => h)
  case has => first | decide +kernel | exact ⟨_, List.mem_of_getElem? (i := 0) rfl, rfl⟩
  case F =>
    intro w mg fa h Y G hmg tab
    refine' FB.K39.all_mk (PySem.W.km_in_of Y) G hmg tab ?oa0 ?og0 ?oh0 ?op0 ?os0 ?om0 ?ok0 ?on0_floors ?on0_steps ?on0_waters ?a0 ?l0 ?c0 ?k0 ?a1 ?l1 ?c1 ?k1 ?a2 ?l2 ?c2 ?k2 ?a3 ?l3 ?c3 ?k3 ?a4 ?l4 ?c4 ?k4 ?a5 ?l5 ?c5 ?k5 ?a6 ?l6 ?c6 ?k6 ?a7 ?i7 ?l7 ?c7 ?k7 ?t7 ?u7 ?a8 ?l8 ?c8 ?k8 ?a9 ?l9 ?c9 ?k9 ?a10 ?l10 ?c10 ?k10 ?a11 ?l11 ?c11 ?k11 ?a12 ?l12 ?c12 ?k12 ?a13 ?l13 ?c13 ?k13 ?a14 ?l14 ?c14 ?k14 ?t14 ?u14 ?w14 ?x14 ?a15 ?i15 ?l15 ?c15 ?k15 ?a16 ?i16 ?l16 ?c16 ?k16 ?t16 ?u16 ?a17 ?l17 ?c17 ?k17 ?a18 ?l18 ?c18 ?k18 ?a19 ?l19 ?c19 ?k19 ?a20 ?l20 ?c20 ?k20 ?a21 ?l21 ?c21 ?k21 ?a22 ?l22 ?c22 ?k22 ?a23 ?l23 ?c23 ?k23 ?a24 ?l24 ?c24 ?k24 ?a25 ?l25 ?c25 ?k25 ?a26 ?l26 ?c26 ?k26 ?a27 ?l27 ?c27 ?k27 ?a28 ?l28 ?c28 ?k28 ?a29 ?l29 ?c29 ?k29 ?a30 ?l30 ?c30 ?k30 ?a31 ?l31 ?c31 ?k31 ?kB ?lB ?vB ?nB ?wc11 ?wc18 ?wc7 ?wc9 ?wc10 ?eS ?eO ?eZ ?eQ ?e2 ?e3 ?e5 ?e6 ?e8 ?eANoFloors ?eLNoFloors ?eBNoFloors ?eGNoFloors ?eHNoFloors ?eWNoFloors ?eINoFloors ?eTNoFloors ?eKNoFloors ?eXNoFloors ?eVNoFloors ?eMNoFloors ?eYNoFloors ?eDNoFloors ?eUNoFloors ?eFNoFloors ?eCNoFloors ?eENoFloors ?eNNoFloors ?ePNoFloors ?eRNoFloors ?e1NoFloors ?e4NoFloors ?e7NoFloors ?eANoRain ?eLNoRain ?eBNoRain ?eGNoRain ?eHNoRain ?eWNoRain ?eINoRain ?eTNoRain ?eKNoRain ?eXNoRain ?eVNoRain ?eMNoRain ?eYNoRain ?eDNoRain ?eUNoRain ?eFNoRain ?eCNoRain ?eENoRain ?eNNoRain ?ePNoRain ?eRNoRain ?e1NoRain ?e4NoRain ?e7NoRain ?eANoOrder ?eLNoOrder ?eBNoOrder ?eGNoOrder ?eHNoOrder ?eWNoOrder ?eINoOrder ?eTNoOrder ?eKNoOrder ?eXNoOrder ?eVNoOrder ?eMNoOrder ?eYNoOrder ?eDNoOrder ?eUNoOrder ?eFNoOrder ?eCNoOrder ?eENoOrder ?eNNoOrder ?ePNoOrder ?eRNoOrder ?e1NoOrder ?e4NoOrder ?e7NoOrder ?eANoDrop ?eDNoDrop ?eYNoDrop ?eANoFlap ?eDNoFlap ?eYNoFlap ?eANoRows ?eDNoRows ?eYNoRows ?eANoStep ?eDNoStep ?eYNoStep ?eANoTable ?eDNoTable ?eYNoTable ?eANoTank ?eDNoTank ?eYNoTank ?eANoText ?eDNoText ?eYNoText ?eANoWater ?eDNoWater ?eYNoWater ?eMNoDropNoFloors ?eMNoDropNoRain ?eMNoDropNoOrder ?eMNoFlapNoFloors ?eMNoFlapNoRain ?eMNoFlapNoOrder ?eMNoRowsNoFloors ?eMNoRowsNoRain ?eMNoRowsNoOrder ?eMNoStepNoFloors ?eMNoStepNoRain ?eMNoStepNoOrder ?eMNoTableNoFloors ?eMNoTableNoRain ?eMNoTableNoOrder ?eMNoTankNoFloors ?eMNoTankNoRain ?eMNoTankNoOrder ?eMNoTextNoFloors ?eMNoTextNoRain ?eMNoTextNoOrder ?eMNoWaterNoFloors ?eMNoWaterNoRain ?eMNoWaterNoOrder ?eMNoFloorsNoRain ?eMNoFloorsNoOrder ?eMNoRainNoFloors ?eMNoRainNoOrder ?eMNoOrderNoFloors ?eMNoOrderNoRain ?z_ValueError ?z_abs ?z_enumerate ?z_int ?z_isinstance ?z_len ?z_list ?z_min ?z_range ?z_repr ?z_sorted ?z_sum ?z_zip ?h_NOUGHT ?l_NOUGHT ?s_NOUGHT ?v_NOUGHT ?h_gcd FB.K39.law_true
    (case oa0 => k_is)
    (case og0 => k_is)
    (case oh0 => k_is)
    (case op0 => k_is)
    (case os0 => k_is)
    (case om0 => k_is)
    (case ok0 => k_is)
    (case on0_floors => k_is)
    (case on0_steps => k_is)
    (case on0_waters => k_is)
    (case a0 => k_is)
    (case l0 => k_is)
    (case c0 => k_is)
    (case k0 => k_is)
    (case a1 => k_is)
    (case l1 => k_is)
    (case c1 => k_is)
    (case k1 => k_is)
    (case a2 => k_is)
    (case l2 => k_is)
    (case c2 => k_is)
    (case k2 => k_is)
    (case a3 => k_is)
    (case l3 => k_is)
    (case c3 => k_is)
    (case k3 => k_is)
    (case a4 => k_is)
    (case l4 => k_is)
    (case c4 => k_is)
    (case k4 => k_is)
    (case a5 => k_is)
    (case l5 => k_is)
    (case c5 => k_is)
    (case k5 => k_is)
    (case a6 => k_is)
    (case l6 => k_is)
    (case c6 => k_is)
    (case k6 => k_is)
    (case a7 => k_is)
    (case i7 => k_is)
    (case l7 => k_is)
    (case c7 => k_is)
    (case k7 => k_is)
    (case t7 => k_is)
    (case u7 => rfl)
    (case a8 => k_is)
    (case l8 => k_is)
    (case c8 => k_is)
    (case k8 => k_is)
    (case a9 => k_is)
    (case l9 => k_is)
    (case c9 => k_is)
    (case k9 => k_is)
    (case a10 => k_is)
    (case l10 => k_is)
    (case c10 => k_is)
    (case k10 => k_is)
    (case a11 => k_is)
    (case l11 => k_is)
    (case c11 => k_is)
    (case k11 => k_is)
    (case a12 => k_is)
    (case l12 => k_is)
    (case c12 => k_is)
    (case k12 => k_is)
    (case a13 => k_is)
    (case l13 => k_is)
    (case c13 => k_is)
    (case k13 => k_is)
    (case a14 => k_is)
    (case l14 => k_is)
    (case c14 => k_is)
    (case k14 => k_is)
    (case t14 => k_is)
    (case u14 => rfl)
    (case w14 => k_is)
    (case x14 => rfl)
    (case a15 => k_is)
    (case i15 => k_is)
    (case l15 => k_is)
    (case c15 => k_is)
    (case k15 => k_is)
    (case a16 => k_is)
    (case i16 => k_is)
    (case l16 => k_is)
    (case c16 => k_is)
    (case k16 => k_is)
    (case t16 => k_is)
    (case u16 => rfl)
    (case a17 => k_is)
    (case l17 => k_is)
    (case c17 => k_is)
    (case k17 => k_is)
    (case a18 => k_is)
    (case l18 => k_is)
    (case c18 => k_is)
    (case k18 => k_is)
    (case a19 => k_is)
    (case l19 => k_is)
    (case c19 => k_is)
    (case k19 => k_is)
    (case a20 => k_is)
    (case l20 => k_is)
    (case c20 => k_is)
    (case k20 => k_is)
    (case a21 => k_is)
    (case l21 => k_is)
    (case c21 => k_is)
    (case k21 => k_is)
    (case a22 => k_is)
    (case l22 => k_is)
    (case c22 => k_is)
    (case k22 => k_is)
    (case a23 => k_is)
    (case l23 => k_is)
    (case c23 => k_is)
    (case k23 => k_is)
    (case a24 => k_is)
    (case l24 => k_is)
    (case c24 => k_is)
    (case k24 => k_is)
    (case a25 => k_is)
    (case l25 => k_is)
    (case c25 => k_is)
    (case k25 => k_is)
    (case a26 => k_is)
    (case l26 => k_is)
    (case c26 => k_is)
    (case k26 => k_is)
    (case a27 => k_is)
    (case l27 => k_is)
    (case c27 => k_is)
    (case k27 => k_is)
    (case a28 => k_is)
    (case l28 => k_is)
    (case c28 => k_is)
    (case k28 => k_is)
    (case a29 => k_is)
    (case l29 => k_is)
    (case c29 => k_is)
    (case k29 => k_is)
    (case a30 => k_is)
    (case l30 => k_is)
    (case c30 => k_is)
    (case k30 => k_is)
    (case a31 => k_is)
    (case l31 => k_is)
    (case c31 => k_is)
    (case k31 => k_is)
    (case kB => rfl)
    (case lB => k_is)
    (case vB => rfl)
    (case nB => first | rfl | exact Option.isNone_iff_eq_none.mp rfl)
    (case wc11 => rfl)
    (case wc18 => rfl)
    (case wc7 => rfl)
    (case wc9 => rfl)
    (case wc10 => rfl)
    (case eS => k_is)
    (case eO => k_is)
    (case eZ => k_is)
    (case eQ => decide +kernel)
    (case e2 => k_is)
    (case e3 => k_is)
    (case e5 => k_is)
    (case e6 => k_is)
    (case e8 => k_is)
    (case eANoFloors => k_is)
    (case eLNoFloors => k_is)
    (case eBNoFloors => k_is)
    (case eGNoFloors => k_is)
    (case eHNoFloors => k_is)
    (case eWNoFloors => k_is)
    (case eINoFloors => k_is)
    (case eTNoFloors => k_is)
    (case eKNoFloors => k_is)
    (case eXNoFloors => k_is)
    (case eVNoFloors => k_is)
    (case eMNoFloors => k_is)
    (case eYNoFloors => k_is)
    (case eDNoFloors => k_is)
    (case eUNoFloors => ks_is)
    (case eFNoFloors => k_is)
    (case eCNoFloors => k_is)
    (case eENoFloors => k_is)
    (case eNNoFloors => rfl)
    (case ePNoFloors => decide +kernel)
    (case eRNoFloors => k_is)
    (case e1NoFloors => k_is)
    (case e4NoFloors => k_is)
    (case e7NoFloors => k_is)
    (case eANoRain => k_is)
    (case eLNoRain => k_is)
    (case eBNoRain => k_is)
    (case eGNoRain => k_is)
    (case eHNoRain => k_is)
    (case eWNoRain => k_is)
    (case eINoRain => k_is)
    (case eTNoRain => k_is)
    (case eKNoRain => k_is)
    (case eXNoRain => k_is)
    (case eVNoRain => k_is)
    (case eMNoRain => k_is)
    (case eYNoRain => k_is)
    (case eDNoRain => k_is)
    (case eUNoRain => ks_is)
    (case eFNoRain => k_is)
    (case eCNoRain => k_is)
    (case eENoRain => k_is)
    (case eNNoRain => rfl)
    (case ePNoRain => decide +kernel)
    (case eRNoRain => k_is)
    (case e1NoRain => k_is)
    (case e4NoRain => k_is)
    (case e7NoRain => k_is)
    (case eANoOrder => k_is)
    (case eLNoOrder => k_is)
    (case eBNoOrder => k_is)
    (case eGNoOrder => k_is)
    (case eHNoOrder => k_is)
    (case eWNoOrder => k_is)
    (case eINoOrder => k_is)
    (case eTNoOrder => k_is)
    (case eKNoOrder => k_is)
    (case eXNoOrder => k_is)
    (case eVNoOrder => k_is)
    (case eMNoOrder => k_is)
    (case eYNoOrder => k_is)
    (case eDNoOrder => k_is)
    (case eUNoOrder => ks_is)
    (case eFNoOrder => k_is)
    (case eCNoOrder => k_is)
    (case eENoOrder => k_is)
    (case eNNoOrder => rfl)
    (case ePNoOrder => decide +kernel)
    (case eRNoOrder => k_is)
    (case e1NoOrder => k_is)
    (case e4NoOrder => k_is)
    (case e7NoOrder => k_is)
    (case eANoDrop => k_is)
    (case eDNoDrop => k_is)
    (case eYNoDrop => k_is)
    (case eANoFlap => k_is)
    (case eDNoFlap => k_is)
    (case eYNoFlap => k_is)
    (case eANoRows => k_is)
    (case eDNoRows => k_is)
    (case eYNoRows => k_is)
    (case eANoStep => k_is)
    (case eDNoStep => k_is)
    (case eYNoStep => k_is)
    (case eANoTable => k_is)
    (case eDNoTable => k_is)
    (case eYNoTable => k_is)
    (case eANoTank => k_is)
    (case eDNoTank => k_is)
    (case eYNoTank => k_is)
    (case eANoText => k_is)
    (case eDNoText => k_is)
    (case eYNoText => k_is)
    (case eANoWater => k_is)
    (case eDNoWater => k_is)
    (case eYNoWater => k_is)
    (case eMNoDropNoFloors => k_is)
    (case eMNoDropNoRain => k_is)
    (case eMNoDropNoOrder => k_is)
    (case eMNoFlapNoFloors => k_is)
    (case eMNoFlapNoRain => k_is)
    (case eMNoFlapNoOrder => k_is)
    (case eMNoRowsNoFloors => k_is)
    (case eMNoRowsNoRain => k_is)
    (case eMNoRowsNoOrder => k_is)
    (case eMNoStepNoFloors => k_is)
    (case eMNoStepNoRain => k_is)
    (case eMNoStepNoOrder => k_is)
    (case eMNoTableNoFloors => k_is)
    (case eMNoTableNoRain => k_is)
    (case eMNoTableNoOrder => k_is)
    (case eMNoTankNoFloors => k_is)
    (case eMNoTankNoRain => k_is)
    (case eMNoTankNoOrder => k_is)
    (case eMNoTextNoFloors => k_is)
    (case eMNoTextNoRain => k_is)
    (case eMNoTextNoOrder => k_is)
    (case eMNoWaterNoFloors => k_is)
    (case eMNoWaterNoRain => k_is)
    (case eMNoWaterNoOrder => k_is)
    (case eMNoFloorsNoRain => k_is)
    (case eMNoFloorsNoOrder => k_is)
    (case eMNoRainNoFloors => k_is)
    (case eMNoRainNoOrder => k_is)
    (case eMNoOrderNoFloors => k_is)
    (case eMNoOrderNoRain => k_is)
    (case z_ValueError => k_is)
    (case z_abs => k_is)
    (case z_enumerate => k_is)
    (case z_int => k_is)
    (case z_isinstance => k_is)
    (case z_len => k_is)
    (case z_list => k_is)
    (case z_min => k_is)
    (case z_range => k_is)
    (case z_repr => k_is)
    (case z_sorted => k_is)
    (case z_sum => k_is)
    (case z_zip => k_is)
    (case h_NOUGHT => k_is)
    (case l_NOUGHT => k_is)
    (case s_NOUGHT => decide)
    (case v_NOUGHT => exact (.cons ⟨_, rfl⟩ (.cons ⟨_, rfl⟩ .nil)))
    (case h_gcd => k_is)
end
