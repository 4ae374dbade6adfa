import PyProof.Rows.All
import Wide.All
import OpenK.AllK
import Wide.FinOn
import HandS.ForMost
import HandS.Wide
import HandS.Gcd
import HandS.IsInst
import HandS.Lambda
import HandS.More
import HandS.Conv
import HandS.SetFor
import HandS.Zip
import KE.GoesMore
import KE.GoesZip
import KE.KDictZip
import HandS.Sort
import HandS.Defaults
import PyProof.EnumMake
import HandS.SortInts
import HandS.MakeKwOnly
import HandS.OwnEq
import HandS.Codes
import PyProof.InstNe
import PyProof.FactsAll.dict
import HandS.Dict
import PySem.Challenge.RW_flapwater_k10_undone_and_equal
set_option Elab.async false
set_option linter.all false
set_option maxRecDepth 100000
set_option maxHeartbeats 16000000
section
/-! a layer of data over the hand layer: lists that may change stand in a store, all else are plain trees -/
namespace DL
open PySem L2

inductive DV where
  | non
  | bl (b : Bool)
  | int (i : Int)
  | str (s : Str)
  | ty (n : String)
  | tup (ds : List DV)
  | lst (ds : List DV)
  | rls (ds : List DV)
  | ptr (n : Nat)
inductive MO where
  | ml (ds : List DV)
  | ins (c : Str) (fs : List (Str × DV))
  | dct (fs : List (Str × DV))
  | dci (fs : List (Int × DV))
abbrev Sto := List MO
abbrev Sl := List (Option DV)
/-- the tables of code objects that a law may write: that of the def bounds -/
noncomputable def tabAt (K : PySem.W.Frag) (fd : FuncData) : Value → List (Addr × Str)
  | Value.ref c => (match K.lookup c with
    | some ⟨_, _, Data.fields vs, _⟩ => (match (vs[11]? : Option Value) with
      | some (Value.ref P) => [(P, (fd.qualname ++ ".<locals>.") ++ "<lambda>")]
      | _ => [])
    | _ => [])
  | _ => []
noncomputable def tabsOf (K : PySem.W.Frag) (mg : Str → Option Value) : List (Addr × Str) := match mg "bounds" with
  | some (Value.ref f) => (match K.lookup f with
    | some ⟨_, _, Data.func fd, _⟩ => tabAt K fd fd.code
    | _ => [])
  | _ => []
structure Wd where
  P : Addr → Prop
  α : List Addr
  H : Hp

section
variable (K : PySem.W.Frag) (W : Wd)
mutual
def Den : DV → V → Prop
  | .non, v => v = .non
  | .bl b, v => v = .bl b
  | .int i, v => v = .int i
  | .str s, v => v = .str s
  | .ty n, v => v = .ty n
  | .tup ds, v => ∃ a vs, v = .ref a ∧ (SqT K W.H a vs ∧ (W.P a ∨ ∀ H', SqT K H' a vs)) ∧ Dens ds vs
  | .lst ds, v => ∃ a vs, v = .ref a ∧ (W.P a ∧ W.H a = some (.lst vs)) ∧ Dens ds vs
  | .rls ds, v => ∃ a vs, v = .ref a ∧ (SqL K W.H a vs ∧ (W.P a ∨ ∀ H', SqL K H' a vs)) ∧ Dens ds vs
  | .ptr n, v => ∃ a, W.α[n]? = some a ∧ v = .ref a
def Dens : List DV → List V → Prop
  | [], vs => vs = []
  | d :: ds, vs => ∃ v r, vs = v :: r ∧ Den d v ∧ Dens ds r
end
end

/-- what data leans on stands -/
structure Ex0 (W W' : Wd) : Prop where
  p : ∀ a, W.P a → W'.P a
  al : W.α <+: W'.α
  hp : ∀ a o, W.P a → W.H a = some o → W'.H a = some o
structure Ext (W W' : Wd) : Prop extends Ex0 W W' where
  pn : ∀ a, W'.P a → W.P a ∨ W.H a = none
  an : ∀ a, a ∈ W'.α → a ∈ W.α ∨ W.H a = none
  h : ∀ a o, a ∉ W.α → (∀ ps, o ≠ .tbl ps) → W.H a = some o → W'.H a = some o
  dom : ∀ a, W'.H a = none → W.H a = none
theorem Ext.refl (W : Wd) : Ext W W where
  p := fun _ h => h
  pn := fun _ h => .inl h
  al := List.prefix_refl _
  an := fun _ h => .inl h
  hp := fun _ _ _ h => h
  h := fun _ _ _ _ h => h
  dom := fun _ h => h
theorem Ext.trans {W W1 W2 : Wd} (a : Ext W W1) (b : Ext W1 W2) : Ext W W2 where
  p := fun x h => b.p x (a.p x h)
  pn := fun x h => by
    rcases b.pn x h with h | h
    · exact a.pn x h
    · exact .inr (a.dom x h)
  al := a.al.trans b.al
  an := fun x h => by
    rcases b.an x h with h | h
    · exact a.an x h
    · exact .inr (a.dom x h)
  hp := fun x o h e => b.hp x o (a.p x h) (a.hp x o h e)
  h := fun x o h n e => b.h x o (fun z => by
    rcases a.an x z with z | z
    · exact h z
    · rw [e] at z; cases z) n (a.h x o h n e)
  dom := fun x h => a.dom x (b.dom x h)
/-- the tables stay where what is no table and no code is changed -/
theorem tabs_upd {T : List (Addr × Str)} {H : Hp} {a : Addr} {o : HO} (t : LamX.Tabs T H) (h1 : ∀ ps, H a ≠ some (.tbl ps)) (h2 : ∀ c q, H a ≠ some (LamX.CodeO c q)) : LamX.Tabs T (upd H a o) := by
  intro p hp
  obtain ⟨ps, e1, e2, e3⟩ := t p hp
  refine ⟨ps, (upd_ne fun z => h1 ps (by rw [← z]; exact e1)).trans e1, e2, fun pos cv hc => ?_⟩
  obtain ⟨c, e4, e5⟩ := e3 pos cv hc
  exact ⟨c, e4, (upd_ne fun z => h2 c p.2 (by rw [← z]; exact e5)).trans e5⟩
theorem tabs_new {T : List (Addr × Str)} {H : Hp} {a : Addr} {o : HO} (t : LamX.Tabs T H) (h : H a = none) : LamX.Tabs T (upd H a o) :=
  tabs_upd t (fun ps z => by rw [h] at z; cases z) fun c q z => by rw [h] at z; cases z

section
variable {K : PySem.W.Frag} {W W' : Wd}
theorem rd_ext0 {a : Addr} {u : HO} (e : Ex0 W W') (p : W.P a) (h : Rd W.H a u) : Rd W'.H a u := by
  rcases h with h | ⟨o, h⟩
  · exact .inl (e.hp a _ p h)
  · exact .inr ⟨o, e.hp a _ p h⟩
theorem sql_ext0 {a : Addr} {vs : List V} (e : Ex0 W W') (h : SqL K W.H a vs ∧ (W.P a ∨ ∀ H', SqL K H' a vs)) : SqL K W'.H a vs ∧ (W'.P a ∨ ∀ H', SqL K H' a vs) := by
  obtain ⟨h, p | p⟩ := h
  · refine ⟨?_, .inl (e.p a p)⟩
    rcases h with h | h
    · exact .inl (rd_ext0 e p h)
    · exact .inr h
  · exact ⟨p _, .inr p⟩
theorem sqt_ext0 {a : Addr} {vs : List V} (e : Ex0 W W') (h : SqT K W.H a vs ∧ (W.P a ∨ ∀ H', SqT K H' a vs)) : SqT K W'.H a vs ∧ (W'.P a ∨ ∀ H', SqT K H' a vs) := by
  obtain ⟨h, p | p⟩ := h
  · refine ⟨?_, .inl (e.p a p)⟩
    rcases h with h | h
    · exact .inl (rd_ext0 e p h)
    · exact .inr h
  · exact ⟨p _, .inr p⟩
mutual
theorem Den.ext0 (e : Ex0 W W') : ∀ (d : DV) (v : V), Den K W d v → Den K W' d v
  | .non, _, h => h
  | .bl _, _, h => h
  | .int _, _, h => h
  | .str _, _, h => h
  | .ty _, _, h => h
  | .tup ds, _, h => by
    obtain ⟨a, vs, rfl, s, h⟩ := h
    exact ⟨a, vs, rfl, sqt_ext0 e s, Dens.ext0 e ds vs h⟩
  | .lst ds, _, h => by
    obtain ⟨a, vs, rfl, s, h⟩ := h
    exact ⟨a, vs, rfl, ⟨e.p a s.1, e.hp a _ s.1 s.2⟩, Dens.ext0 e ds vs h⟩
  | .rls ds, _, h => by
    obtain ⟨a, vs, rfl, s, h⟩ := h
    exact ⟨a, vs, rfl, sql_ext0 e s, Dens.ext0 e ds vs h⟩
  | .ptr n, _, h => by
    obtain ⟨a, h, rfl⟩ := h
    obtain ⟨t, ht⟩ := e.al
    refine ⟨a, ?_, rfl⟩
    rw [← ht, List.getElem?_append_left (List.getElem?_eq_some_iff.mp h).1]
    exact h
theorem Dens.ext0 (e : Ex0 W W') : ∀ (ds : List DV) (vs : List V), Dens K W ds vs → Dens K W' ds vs
  | [], _, h => h
  | d :: ds, _, h => by
    obtain ⟨v, r, rfl, h1, h2⟩ := h
    exact ⟨v, r, rfl, Den.ext0 e d v h1, Dens.ext0 e ds r h2⟩
end
theorem Den.ext (e : Ext W W') (d : DV) (v : V) (h : Den K W d v) : Den K W' d v := Den.ext0 e.toEx0 d v h
theorem Dens.ext (e : Ext W W') (ds : List DV) (vs : List V) (h : Dens K W ds vs) : Dens K W' ds vs := Dens.ext0 e.toEx0 ds vs h
theorem Dens.len : ∀ {ds : List DV} {vs : List V}, Dens K W ds vs → vs.length = ds.length
  | [], _, h => by
    cases (show _ = [] from h)
    rfl
  | d :: ds, _, h => by
    obtain ⟨v, r, rfl, _, h2⟩ := h
    simp [Dens.len h2]
theorem Dens.get : ∀ {ds : List DV} {vs : List V} {i : Nat} {d : DV}, Dens K W ds vs → ds[i]? = some d → ∃ v, vs[i]? = some v ∧ Den K W d v
  | [], _, _, _, _, e => by simp at e
  | d :: ds, _, 0, _, h, e => by
    obtain ⟨v, r, rfl, h1, _⟩ := h
    simp at e
    subst e
    exact ⟨v, rfl, h1⟩
  | d :: ds, _, i + 1, x, h, e => by
    obtain ⟨v, r, rfl, _, h2⟩ := h
    obtain ⟨u, e1, e2⟩ := Dens.get (i := i) (d := x) h2 (by simpa using e)
    exact ⟨u, by simpa using e1, e2⟩
theorem Dens.getV : ∀ {ds : List DV} {vs : List V} {i : Nat} {v : V}, Dens K W ds vs → vs[i]? = some v → ∃ d, ds[i]? = some d ∧ Den K W d v
  | [], _, _, _, h, e => by
    cases (show _ = [] from h)
    simp at e
  | d :: ds, _, 0, _, h, e => by
    obtain ⟨v, r, rfl, h1, _⟩ := h
    simp at e
    subst e
    exact ⟨d, rfl, h1⟩
  | d :: ds, _, i + 1, x, h, e => by
    obtain ⟨v, r, rfl, _, h2⟩ := h
    obtain ⟨u, e1, e2⟩ := Dens.getV (i := i) (v := x) h2 (by simpa using e)
    exact ⟨u, by simpa using e1, e2⟩
theorem Dens.app : ∀ {ds es : List DV} {vs us : List V}, Dens K W ds vs → Dens K W es us → Dens K W (ds ++ es) (vs ++ us)
  | [], _, _, _, h, h' => by
    cases (show _ = [] from h)
    exact h'
  | d :: ds, _, _, _, h, h' => by
    obtain ⟨v, r, rfl, h1, h2⟩ := h
    exact ⟨v, _, rfl, h1, Dens.app h2 h'⟩
theorem Dens.one {d : DV} {v : V} (h : Den K W d v) : Dens K W [d] [v] := ⟨v, [], rfl, h, rfl⟩
theorem Dens.set : ∀ {ds : List DV} {vs : List V} {d : DV} {v : V} (i : Nat), Dens K W ds vs → Den K W d v → Dens K W (ds.set i d) (vs.set i v)
  | [], _, _, _, _, h, _ => by
    cases (show _ = [] from h)
    simp [Dens]
  | d :: ds, _, _, _, 0, h, h' => by
    obtain ⟨v, r, rfl, h1, h2⟩ := h
    exact ⟨_, r, rfl, h', h2⟩
  | d :: ds, _, _, _, i + 1, h, h' => by
    obtain ⟨v, r, rfl, h1, h2⟩ := h
    exact ⟨v, _, rfl, h1, Dens.set i h2 h'⟩
theorem Dens.take : ∀ {ds : List DV} {vs : List V} (n : Nat), Dens K W ds vs → Dens K W (ds.take n) (vs.take n)
  | _, _, 0, _ => by simp [Dens]
  | [], _, _ + 1, h => by
    cases (show _ = [] from h)
    simp [Dens]
  | d :: ds, _, n + 1, h => by
    obtain ⟨v, r, rfl, h1, h2⟩ := h
    exact ⟨v, _, rfl, h1, Dens.take n h2⟩
theorem Dens.drop : ∀ {ds : List DV} {vs : List V} (n : Nat), Dens K W ds vs → Dens K W (ds.drop n) (vs.drop n)
  | _, _, 0, h => h
  | [], _, _ + 1, h => by
    cases (show _ = [] from h)
    simp [Dens]
  | d :: ds, _, n + 1, h => by
    obtain ⟨v, r, rfl, h1, h2⟩ := h
    exact Dens.drop n h2
theorem Dens.erase : ∀ {ds : List DV} {vs : List V} (i : Nat), Dens K W ds vs → Dens K W (ds.eraseIdx i) (vs.eraseIdx i)
  | [], _, _, h => by
    cases (show _ = [] from h)
    simp [Dens]
  | d :: ds, _, 0, h => by
    obtain ⟨v, r, rfl, h1, h2⟩ := h
    exact h2
  | d :: ds, _, i + 1, h => by
    obtain ⟨v, r, rfl, h1, h2⟩ := h
    exact ⟨v, _, rfl, h1, Dens.erase i h2⟩
theorem Dens.rev : ∀ {ds : List DV} {vs : List V}, Dens K W ds vs → Dens K W ds.reverse vs.reverse
  | [], _, h => by
    cases (show _ = [] from h)
    simp [Dens]
  | d :: ds, _, h => by
    obtain ⟨v, r, rfl, h1, h2⟩ := h
    rw [List.reverse_cons, List.reverse_cons]
    exact (Dens.rev h2).app (Dens.one h1)
theorem Dens.ints : ∀ {ns : List Int} {vs : List V}, Dens K W (ns.map DV.int) vs → vs = ns.map V.int
  | [], _, h => h
  | n :: ns, _, h => by
    obtain ⟨v, r, rfl, h1, h2⟩ := h
    rw [Dens.ints h2]
    cases (show v = V.int n from h1)
    rfl
theorem dens_ints : ∀ (ns : List Int), Dens K W (ns.map DV.int) (ns.map V.int)
  | [] => rfl
  | n :: ns => ⟨_, _, rfl, rfl, dens_ints ns⟩
theorem dens_bls : ∀ {bs : List Bool} {vs : List V}, Dens K W (bs.map DV.bl) vs → vs = bs.map V.bl
  | [], _, h => h
  | n :: ns, _, h => by
    obtain ⟨v, r, rfl, h1, h2⟩ := h
    rw [dens_bls h2]
    cases (show v = V.bl n from h1)
    rfl
end

/-! ### the store is held -/
section
variable (K : PySem.W.Frag) (mg : Str → Option Value)
def FsR (W : Wd) : List (Str × DV) → List (Str × V) → Prop
  | [], vs => vs = []
  | p :: fs, vs => ∃ v r, vs = (p.1, v) :: r ∧ Den K W p.2 v ∧ FsR W fs r
def DkR (W : Wd) : List (Str × DV) → List (Key × V) → Prop
  | [], vs => vs = []
  | p :: fs, vs => ∃ v r, vs = ((Sum.inr p.1 : Key), v) :: r ∧ Den K W p.2 v ∧ DkR W fs r
def DiR (W : Wd) : List (Int × DV) → List (Key × V) → Prop
  | [], vs => vs = []
  | p :: fs, vs => ∃ v r, vs = ((Sum.inl p.1 : Key), v) :: r ∧ Den K W p.2 v ∧ DiR W fs r
def ObjR (W : Wd) (a : Addr) : MO → Prop
  | .ml ds => ∃ vs, W.H a = some (.lst vs) ∧ Dens K W ds vs
  | .ins c fs => ∃ C dx vfs, mg c = some (.ref C) ∧ W.H a = some (.ins C dx vfs) ∧ FsR K W fs vfs
  | .dct fs => ∃ kvs, W.H a = some (.dK kvs) ∧ DkR K W fs kvs
  | .dci fs => ∃ kvs, W.H a = some (.dK kvs) ∧ DiR K W fs kvs
structure Rep (W : Wd) (S : Sto) : Prop where
  len : W.α.length = S.length
  nd : W.α.Nodup
  dj : ∀ a, a ∈ W.α → ¬ W.P a
  al : ∀ a, W.P a → W.H a ≠ none
  ob : ∀ (n : Nat) (mo : MO) (a : Addr), S[n]? = some mo → W.α[n]? = some a → ObjR K mg W a mo
  tb : LamX.Tabs (tabsOf K mg) W.H
  tp : ∀ p ∈ tabsOf K mg, ¬ W.P p.1
def Slo (W : Wd) (σ : St) (s : Sl) : Prop := σ.length = s.length ∧ ∀ (i : Nat) (d : DV), s[i]? = some (some d) → ∃ v, σ[i]? = some (some v) ∧ Den K W d v
end
section
variable {K : PySem.W.Frag} {mg : Str → Option Value} {W W' : Wd} {S : Sto}
theorem FsR.ext0 (e : Ex0 W W') : ∀ {fs : List (Str × DV)} {vs : List (Str × V)}, FsR K W fs vs → FsR K W' fs vs
  | [], _, h => h
  | p :: fs, _, h => by
    obtain ⟨v, r, rfl, h1, h2⟩ := h
    exact ⟨v, r, rfl, Den.ext0 e _ _ h1, FsR.ext0 e h2⟩
theorem DkR.ext0 (e : Ex0 W W') : ∀ {fs : List (Str × DV)} {vs : List (Key × V)}, DkR K W fs vs → DkR K W' fs vs
  | [], _, h => h
  | p :: fs, _, h => by
    obtain ⟨v, r, rfl, h1, h2⟩ := h
    exact ⟨v, r, rfl, Den.ext0 e _ _ h1, DkR.ext0 e h2⟩
theorem DiR.ext0 (e : Ex0 W W') : ∀ {fs : List (Int × DV)} {vs : List (Key × V)}, DiR K W fs vs → DiR K W' fs vs
  | [], _, h => h
  | p :: fs, _, h => by
    obtain ⟨v, r, rfl, h1, h2⟩ := h
    exact ⟨v, r, rfl, Den.ext0 e _ _ h1, DiR.ext0 e h2⟩
theorem Slo.ext {σ : St} {s : Sl} (e : Ext W W') (h : Slo K W σ s) : Slo K W' σ s := ⟨h.1, fun i d q => by
  obtain ⟨v, h1, h2⟩ := h.2 i d q
  exact ⟨v, h1, Den.ext e d v h2⟩⟩
theorem Slo.set {σ : St} {s : Sl} {d : DV} {v : V} (i : Nat) (h : Slo K W σ s) (hd : Den K W d v) : Slo K W (σ.set i (some v)) (s.set i (some d)) := by
  refine ⟨by simp [h.1], fun j e q => ?_⟩
  by_cases hj : i = j
  · subst hj
    rw [List.getElem?_set] at q
    rw [List.getElem?_set]
    by_cases hl : i < s.length
    · rw [if_pos rfl, if_pos hl] at q
      cases q
      exact ⟨v, by rw [if_pos rfl, if_pos (by rw [h.1]; exact hl)], hd⟩
    · rw [if_pos rfl, if_neg hl] at q
      cases q
  · rw [List.getElem?_set_ne hj] at q ⊢
    exact h.2 j e q
theorem Rep.there (R : Rep K mg W S) {a : Addr} (h : a ∈ W.α) : W.H a ≠ none := by
  obtain ⟨n, hn, rfl⟩ := List.getElem_of_mem h
  have hl : n < S.length := by rw [← R.len]; exact hn
  have o := R.ob n S[n] W.α[n] (List.getElem?_eq_getElem hl) (List.getElem?_eq_getElem hn)
  intro z
  cases q : S[n] with
  | ml ds =>
    rw [q] at o
    obtain ⟨vs, e, _⟩ := o
    rw [z] at e
    cases e
  | ins c fs =>
    rw [q] at o
    obtain ⟨C, dx, vfs, _, e, _⟩ := o
    rw [z] at e
    cases e
  | dct fs =>
    rw [q] at o
    obtain ⟨kvs, e, _⟩ := o
    rw [z] at e
    cases e
  | dci fs =>
    rw [q] at o
    obtain ⟨kvs, e, _⟩ := o
    rw [z] at e
    cases e
theorem Rep.some (R : Rep K mg W S) {n : Nat} {mo : MO} (h : S[n]? = some mo) : ∃ a, W.α[n]? = .some a ∧ a ∈ W.α ∧ ObjR K mg W a mo := by
  have hl : n < W.α.length := by rw [R.len]; exact (List.getElem?_eq_some_iff.mp h).1
  exact ⟨W.α[n], List.getElem?_eq_getElem hl, List.getElem_mem hl, R.ob n mo _ h (List.getElem?_eq_getElem hl)⟩
theorem ObjR.ext0 (e : Ex0 W W') {a : Addr} {mo : MO} (h : ObjR K mg W a mo) (hk : W'.H a = W.H a) : ObjR K mg W' a mo := by
  cases mo with
  | ml ds =>
    obtain ⟨vs, h1, h2⟩ := h
    exact ⟨vs, hk.trans h1, Dens.ext0 e _ _ h2⟩
  | ins c fs =>
    obtain ⟨C, dx, vfs, h0, h1, h2⟩ := h
    exact ⟨C, dx, vfs, h0, hk.trans h1, FsR.ext0 e h2⟩
  | dct fs =>
    obtain ⟨kvs, h1, h2⟩ := h
    exact ⟨kvs, hk.trans h1, DkR.ext0 e h2⟩
  | dci fs =>
    obtain ⟨kvs, h1, h2⟩ := h
    exact ⟨kvs, hk.trans h1, DiR.ext0 e h2⟩
theorem ObjR.ext (e : Ext W W') {a : Addr} {mo : MO} (h : ObjR K mg W a mo) (hk : W'.H a = W.H a) : ObjR K mg W' a mo := ObjR.ext0 e.toEx0 h hk
/-- a new object, never changed -/
def Wd.froz (W : Wd) (p : Addr) (o : HO) : Wd := ⟨fun a => W.P a ∨ a = p, W.α, upd W.H p o⟩
theorem ext_froz {p : Addr} {o : HO} (hp : W.H p = none) : Ext W (W.froz p o) where
  p := fun a h => .inl h
  pn := fun a h => by
    rcases h with h | rfl
    · exact .inl h
    · exact .inr hp
  al := List.prefix_refl _
  an := fun _ h => .inl h
  hp := fun a u _ e => (upd_ne (ne_of_none e hp)).trans e
  h := fun a u _ _ e => (upd_ne (ne_of_none e hp)).trans e
  dom := fun a h => by
    by_cases e : a = p
    · subst e; exact hp
    · have z : upd W.H p o a = none := h
      rw [upd_ne e] at z
      exact z
theorem rep_froz {p : Addr} {o : HO} (R : Rep K mg W S) (hp : W.H p = none) : Rep K mg (W.froz p o) S where
  len := R.len
  nd := R.nd
  dj := fun a h q => by
    rcases q with q | rfl
    · exact R.dj a h q
    · exact R.there h hp
  al := fun a h => by
    show upd W.H p o a ≠ none
    by_cases e : a = p
    · subst e; rw [upd_same]; exact fun z => by cases z
    · rw [upd_ne e]
      rcases h with h | h
      · exact R.al a h
      · exact absurd h e
  ob := fun n mo a h1 h2 => by
    have ha : a ≠ p := fun z => by
      subst z
      exact R.there (List.mem_of_getElem? h2) hp
    exact (R.ob n mo a h1 h2).ext (ext_froz hp) (upd_ne ha)
  tb := tabs_new R.tb hp
  tp := fun t ht q => by
    rcases q with q | q
    · exact R.tp t ht q
    · obtain ⟨ps, e, _⟩ := R.tb t ht
      rw [q, hp] at e
      cases e
/-- a new object of the store -/
def Wd.more (W : Wd) (p : Addr) (o : HO) : Wd := ⟨W.P, W.α ++ [p], upd W.H p o⟩
theorem ext_more {p : Addr} {o : HO} (hp : W.H p = none) : Ext W (W.more p o) where
  p := fun a h => h
  pn := fun a h => .inl h
  al := List.prefix_append _ _
  an := fun a h => by
    rcases List.mem_append.mp h with h | h
    · exact .inl h
    · cases List.mem_singleton.mp h
      exact .inr hp
  hp := fun a u _ e => (upd_ne (ne_of_none e hp)).trans e
  h := fun a u _ _ e => (upd_ne (ne_of_none e hp)).trans e
  dom := fun a h => by
    by_cases e : a = p
    · subst e; exact hp
    · have z : upd W.H p o a = none := h
      rw [upd_ne e] at z
      exact z
theorem rep_more {p : Addr} {o : HO} {mo : MO} (R : Rep K mg W S) (hp : W.H p = none) (new : ObjR K mg (W.more p o) p mo) : Rep K mg (W.more p o) (S ++ [mo]) where
  len := by
    show (W.α ++ [p]).length = _
    simp [R.len]
  nd := by
    show (W.α ++ [p]).Nodup
    refine List.nodup_append.mpr ⟨R.nd, by simp, fun a ha b hb => ?_⟩
    cases List.mem_singleton.mp hb
    exact fun z => R.there ha (by rw [z]; exact hp)
  dj := fun a h q => by
    rcases List.mem_append.mp h with h | h
    · exact R.dj a h q
    · cases List.mem_singleton.mp h
      exact R.al p q hp
  al := fun a h => by
    show upd W.H p o a ≠ none
    by_cases e : a = p
    · subst e; rw [upd_same]; exact fun z => by cases z
    · rw [upd_ne e]
      exact R.al a h
  ob := fun n m a h1 h2 => by
    have h2 : (W.α ++ [p])[n]? = some a := h2
    by_cases hn : n < S.length
    · rw [List.getElem?_append_left hn] at h1
      rw [List.getElem?_append_left (by rw [R.len]; exact hn)] at h2
      have h3 : W.α[n]? = some a := h2
      have ha : a ≠ p := fun z => R.there (List.mem_of_getElem? h3) (z ▸ hp)
      exact (R.ob n m a h1 h3).ext (ext_more hp) (upd_ne ha)
    · have hl : n < (S ++ [mo]).length := (List.getElem?_eq_some_iff.mp h1).1
      have e : n = S.length := by
        rw [List.length_append, List.length_singleton] at hl
        omega
      subst e
      rw [List.getElem?_concat_length] at h1
      rw [← R.len, List.getElem?_concat_length] at h2
      cases h1
      cases h2
      exact new
  tb := tabs_new R.tb hp
  tp := R.tp
/-- an object of the store is changed -/
def Wd.put (W : Wd) (a : Addr) (o : HO) : Wd := ⟨W.P, W.α, upd W.H a o⟩
theorem ext_put {a : Addr} {o : HO} (R : Rep K mg W S) (ha : a ∈ W.α) : Ext W (W.put a o) where
  p := fun _ h => h
  pn := fun _ h => .inl h
  al := List.prefix_refl _
  an := fun _ h => .inl h
  hp := fun b u h e => (upd_ne (fun z => R.dj a ha (by rw [← z]; exact h))).trans e
  h := fun b u h _ e => (upd_ne (fun z => h (by rw [z]; exact ha))).trans e
  dom := fun b h => by
    have z : upd W.H a o b = none := h
    by_cases e : b = a
    · subst e; rw [upd_same] at z; cases z
    · rw [upd_ne e] at z
      exact z
theorem ObjR.plain {a : Addr} {mo : MO} (h : ObjR K mg W a mo) : (∀ ps, W.H a ≠ some (.tbl ps)) ∧ ∀ c q, W.H a ≠ some (LamX.CodeO c q) := by
  cases mo with
  | ml ds =>
    obtain ⟨vs, e, _⟩ := h
    rw [e]
    exact ⟨fun ps z => (by cases z), fun c q z => (by unfold LamX.CodeO at z; cases z)⟩
  | ins c fs =>
    obtain ⟨C, dx, vfs, _, e, _⟩ := h
    rw [e]
    exact ⟨fun ps z => (by cases z), fun c q z => (by unfold LamX.CodeO at z; cases z)⟩
  | dct fs =>
    obtain ⟨kvs, e, _⟩ := h
    rw [e]
    exact ⟨fun ps z => (by cases z), fun c q z => (by unfold LamX.CodeO at z; cases z)⟩
  | dci fs =>
    obtain ⟨kvs, e, _⟩ := h
    rw [e]
    exact ⟨fun ps z => (by cases z), fun c q z => (by unfold LamX.CodeO at z; cases z)⟩
theorem rep_put {a : Addr} {o : HO} {n : Nat} {mo : MO} (R : Rep K mg W S) (hn : W.α[n]? = some a) (new : ObjR K mg (W.put a o) a mo) : Rep K mg (W.put a o) (S.set n mo) where
  len := by
    show W.α.length = _
    simp [R.len]
  nd := R.nd
  dj := R.dj
  al := fun b h => by
    show upd W.H a o b ≠ none
    by_cases e : b = a
    · subst e; rw [upd_same]; exact fun z => by cases z
    · rw [upd_ne e]
      exact R.al b h
  ob := fun m mo' b h1 h2 => by
    by_cases hm : n = m
    · subst hm
      have hl : n < S.length := by rw [← R.len]; exact (List.getElem?_eq_some_iff.mp hn).1
      rw [List.getElem?_set_self hl] at h1
      cases h1
      have h3 : W.α[n]? = some b := h2
      rw [hn] at h3
      cases h3
      exact new
    · rw [List.getElem?_set_ne hm] at h1
      have hb : b ≠ a := fun z => by
        subst z
        exact hm (nd_ix R.nd hn h2)
      exact (R.ob m mo' b h1 h2).ext (ext_put R (List.mem_of_getElem? hn)) (upd_ne hb)
  tb := by
    have hl : n < S.length := by rw [← R.len]; exact (List.getElem?_eq_some_iff.mp hn).1
    have o1 := (R.ob n S[n] a (List.getElem?_eq_getElem hl) hn).plain
    exact tabs_upd R.tb o1.1 o1.2
  tp := R.tp
end

/-! ### making and reading lists -/
/-- m: a list that may change -/
def newL (m : Bool) (ds : List DV) (S : Sto) : DV × Sto := if m then (.ptr S.length, S ++ [.ml ds]) else (.lst ds, S)
/-- what list is it (any that can be read; one that is tracked) -/
def rdL (S : Sto) : DV → Option (List DV)
  | .lst ds => some ds
  | .rls ds => some ds
  | .ptr n => match S[n]? with
    | some (.ml ds) => some ds
    | _ => none
  | _ => none
def trL (S : Sto) : DV → Option (List DV)
  | .lst ds => some ds
  | .ptr n => match S[n]? with
    | some (.ml ds) => some ds
    | _ => none
  | _ => none
def rdT : DV → Option (List DV)
  | .tup ds => some ds
  | _ => none
section
variable {K : PySem.W.Frag} {mg : Str → Option Value} {W W' : Wd} {S : Sto}
theorem newL_ok {m : Bool} {ds : List DV} {vs : List V} {d : DV} {S' : Sto} {p : Addr} (R : Rep K mg W S) (hp : W.H p = none) (h : Dens K W ds vs) (e : newL m ds S = (d, S')) :
    ∃ W', W'.H = upd W.H p (.lst vs) ∧ Ext W W' ∧ Rep K mg W' S' ∧ Den K W' d (.ref p) := by
  unfold newL at e
  cases m with
  | true =>
    cases e
    exact ⟨W.more p (.lst vs), rfl, ext_more hp, rep_more R hp ⟨vs, upd_same, Dens.ext (ext_more hp) _ _ h⟩, p, by
      show (W.α ++ [p])[S.length]? = some p
      rw [← R.len, List.getElem?_concat_length], rfl⟩
  | false =>
    cases e
    exact ⟨W.froz p (.lst vs), rfl, ext_froz hp, rep_froz R hp, p, vs, rfl, ⟨.inr rfl, upd_same⟩, Dens.ext (ext_froz hp) _ _ h⟩
theorem newT_ok {ds : List DV} {vs : List V} {p : Addr} (R : Rep K mg W S) (hp : W.H p = none) (h : Dens K W ds vs) :
    ∃ W', W'.H = upd W.H p (.tup vs) ∧ Ext W W' ∧ Rep K mg W' S ∧ Den K W' (.tup ds) (.ref p) :=
  ⟨W.froz p (.tup vs), rfl, ext_froz hp, rep_froz R hp, p, vs, rfl, ⟨SqT.of upd_same, .inl (.inr rfl)⟩, Dens.ext (ext_froz hp) _ _ h⟩
theorem rdL_ok {d : DV} {v : V} {ds : List DV} (R : Rep K mg W S) (h : Den K W d v) (e : rdL S d = some ds) : ∃ a vs, v = .ref a ∧ SqL K W.H a vs ∧ Dens K W ds vs := by
  cases d with
  | lst es =>
    obtain ⟨a, vs, rfl, s, h⟩ := h
    cases e
    exact ⟨a, vs, rfl, SqL.of s.2, h⟩
  | rls es =>
    obtain ⟨a, vs, rfl, s, h⟩ := h
    cases e
    exact ⟨a, vs, rfl, s.1, h⟩
  | ptr n =>
    obtain ⟨a, ha, rfl⟩ := h
    unfold rdL at e
    simp only at e
    split at e
    · rename_i es q
      cases e
      obtain ⟨vs, h1, h2⟩ := R.ob n _ a q ha
      exact ⟨a, vs, rfl, SqL.of h1, h2⟩
    · cases e
  | _ => cases e
theorem trL_ok {d : DV} {v : V} {ds : List DV} (R : Rep K mg W S) (h : Den K W d v) (e : trL S d = some ds) : ∃ a vs, v = .ref a ∧ W.H a = some (.lst vs) ∧ Dens K W ds vs := by
  cases d with
  | lst es =>
    obtain ⟨a, vs, rfl, s, h⟩ := h
    cases e
    exact ⟨a, vs, rfl, s.2, h⟩
  | ptr n =>
    obtain ⟨a, ha, rfl⟩ := h
    unfold trL at e
    simp only at e
    split at e
    · rename_i es q
      cases e
      obtain ⟨vs, h1, h2⟩ := R.ob n _ a q ha
      exact ⟨a, vs, rfl, h1, h2⟩
    · cases e
  | _ => cases e
theorem rdT_ok {d : DV} {v : V} {ds : List DV} (h : Den K W d v) (e : rdT d = some ds) : ∃ a vs, v = .ref a ∧ SqT K W.H a vs ∧ Dens K W ds vs := by
  cases d with
  | tup es =>
    obtain ⟨a, vs, rfl, s, h⟩ := h
    cases e
    exact ⟨a, vs, rfl, s.1, h⟩
  | _ => cases e
theorem ptr_ok {n : Nat} {v : V} {mo : MO} (R : Rep K mg W S) (h : Den K W (.ptr n) v) (e : S[n]? = some mo) : ∃ a, v = .ref a ∧ W.α[n]? = some a ∧ a ∈ W.α ∧ ObjR K mg W a mo := by
  obtain ⟨a, ha, rfl⟩ := h
  exact ⟨a, rfl, ha, List.mem_of_getElem? ha, R.ob n _ a e ha⟩
end
end DL
end
section
namespace DL
open PySem L2

/-! ### what a reading does to data -/
abbrev DE := Sl → Sto → Option (DV × Sto)
abbrev DA := Sl → Sto → Option (List DV × Sto)
abbrev DT := Sl → Sto → Option (Bool × Sto)
abbrev DG := DV → Sl → Sto → Option (Sl × Sto)
abbrev DGs := List DV → Sl → Sto → Option (Sl × Sto)
inductive Res where
  | nx (s : Sl) (S : Sto)
  | rt (d : DV) (S : Sto)
  | bk (s : Sl) (S : Sto)
  | ct (s : Sl) (S : Sto)
abbrev DS := Sl → Sto → Option Res
def bnd {α β : Type} (o : Option (α × Sto)) (k : α → Sto → Option β) : Option β := match o with
  | none => none
  | some p => k p.1 p.2
theorem bnd_some {α β : Type} {a : α} {S : Sto} {k : α → Sto → Option β} : bnd (some (a, S)) k = k a S := rfl
theorem bnd_inv {α β : Type} {o : Option (α × Sto)} {k : α → Sto → Option β} {r : β} (h : bnd o k = some r) : ∃ a S, o = some (a, S) ∧ k a S = some r := by
  cases o with
  | none => cases h
  | some p => exact ⟨p.1, p.2, rfl, h⟩
section
variable (K : PySem.W.Frag) (mg : Str → Option Value)
def RE (te : TE) (f : DE) : Prop := ∀ (W : Wd) (σ : St) (s : Sl) (S : Sto) (d : DV) (S' : Sto) (Q : VK), Rep K mg W S → Slo K W σ s → f s S = some (d, S') →
  (∀ v W', Ext W W' → Rep K mg W' S' → Den K W' d v → Q v W'.H) → te σ W.H Q
def RA (ta : TA) (f : DA) : Prop := ∀ (W : Wd) (σ : St) (s : Sl) (S : Sto) (ds : List DV) (S' : Sto) (Q : List V → Hp → Prop), Rep K mg W S → Slo K W σ s → f s S = some (ds, S') →
  (∀ vs W', Ext W W' → Rep K mg W' S' → Dens K W' ds vs → Q vs W'.H) → ta σ W.H Q
def RT (tt : TT) (f : DT) : Prop := ∀ (W : Wd) (σ : St) (s : Sl) (S : Sto) (b : Bool) (S' : Sto) (Q : Bool → Hp → Prop), Rep K mg W S → Slo K W σ s → f s S = some (b, S') →
  (∀ W', Ext W W' → Rep K mg W' S' → Q b W'.H) → tt σ W.H Q
def RG (g : TG) (f : DG) : Prop := ∀ (W : Wd) (σ : St) (s : Sl) (S : Sto) (d : DV) (v : V) (s' : Sl) (S' : Sto) (Q : St → Hp → Prop), Rep K mg W S → Slo K W σ s → Den K W d v → f d s S = some (s', S') →
  (∀ σ' W', Ext W W' → Rep K mg W' S' → Slo K W' σ' s' → Q σ' W'.H) → g v σ W.H Q
def RGs (g : TGs) (f : DGs) : Prop := ∀ (W : Wd) (σ : St) (s : Sl) (S : Sto) (ds : List DV) (vs : List V) (s' : Sl) (S' : Sto) (Q : St → Hp → Prop), Rep K mg W S → Slo K W σ s → Dens K W ds vs → f ds s S = some (s', S') →
  (∀ σ' W', Ext W W' → Rep K mg W' S' → Slo K W' σ' s' → Q σ' W'.H) → g vs σ W.H Q
/-- two places, one place, an argument list: by values -/
def RO (r : R2) (g : DV → DV → Sto → Option (DV × Sto)) : Prop := ∀ (W : Wd) (S : Sto) (x y : DV) (v u : V) (d : DV) (S' : Sto) (Q : VK), Rep K mg W S → Den K W x v → Den K W y u → g x y S = some (d, S') →
  (∀ z W', Ext W W' → Rep K mg W' S' → Den K W' d z → Q z W'.H) → r v u W.H Q
def RU (r : V → Hp → VK → Prop) (g : DV → Sto → Option (DV × Sto)) : Prop := ∀ (W : Wd) (S : Sto) (x : DV) (v : V) (d : DV) (S' : Sto) (Q : VK), Rep K mg W S → Den K W x v → g x S = some (d, S') →
  (∀ z W', Ext W W' → Rep K mg W' S' → Den K W' d z → Q z W'.H) → r v W.H Q
def RC (r : List V → Hp → VK → Prop) (g : List DV → Sto → Option (DV × Sto)) : Prop := ∀ (W : Wd) (S : Sto) (xs : List DV) (vs : List V) (d : DV) (S' : Sto) (Q : VK), Rep K mg W S → Dens K W xs vs → g xs S = some (d, S') →
  (∀ z W', Ext W W' → Rep K mg W' S' → Den K W' d z → Q z W'.H) → r vs W.H Q
def RM (r : V → List V → Hp → VK → Prop) (g : DV → List DV → Sto → Option (DV × Sto)) : Prop := ∀ (W : Wd) (S : Sto) (x : DV) (xs : List DV) (v : V) (vs : List V) (d : DV) (S' : Sto) (Q : VK), Rep K mg W S → Den K W x v → Dens K W xs vs → g x xs S = some (d, S') →
  (∀ z W', Ext W W' → Rep K mg W' S' → Den K W' d z → Q z W'.H) → r v vs W.H Q
def Post (W : Wd) (D : Ends) : Res → Prop
  | .nx s S => ∀ σ' W', Ext W W' → Rep K mg W' S → Slo K W' σ' s → D.nx σ' W'.H
  | .rt d S => ∀ v W', Ext W W' → Rep K mg W' S → Den K W' d v → D.rt v W'.H
  | .bk s S => ∀ σ' W', Ext W W' → Rep K mg W' S → Slo K W' σ' s → D.bk σ' W'.H
  | .ct s S => ∀ σ' W', Ext W W' → Rep K mg W' S → Slo K W' σ' s → D.ct σ' W'.H
def RS (ts : TS) (f : DS) : Prop := ∀ (W : Wd) (σ : St) (s : Sl) (S : Sto) (r : Res) (D : Ends), Rep K mg W S → Slo K W σ s → f s S = some r → Post K mg W D r → ts D σ W.H
end
section
variable {K : PySem.W.Frag} {mg : Str → Option Value}
theorem Post.ext {W W' : Wd} {D : Ends} {r : Res} (e : Ext W W') (h : Post K mg W D r) : Post K mg W' D r := by
  cases r with
  | nx s S => exact fun σ' W'' e' => h σ' W'' (e.trans e')
  | rt d S => exact fun v W'' e' => h v W'' (e.trans e')
  | bk s S => exact fun σ' W'' e' => h σ' W'' (e.trans e')
  | ct s S => exact fun σ' W'' e' => h σ' W'' (e.trans e')

/-! ### expressions -/
variable {ta tb te tc : TE} {fa fb fc : DE} {taa : TA} {faa : DA} {tt tu : TT} {ft fu : DT} {i : Nat}
@[simp] def dVar (i : Nat) : DE := fun s S => match s[i]? with
  | some (some d) => some (d, S)
  | _ => none
theorem re_var : RE K mg (tVar i) (dVar i) := by
  intro W σ s S d S' Q R L h q
  unfold dVar at h
  split at h
  · rename_i d' e
    cases h
    obtain ⟨v, e1, e2⟩ := L.2 i _ e
    exact ⟨v, e1, q v W (Ext.refl W) R e2⟩
  · cases h
@[simp] def dC (d : DV) : DE := fun _ S => some (d, S)
theorem re_c {d : DV} {v : V} (hd : ∀ W, Den K W d v) : RE K mg (tC v) (dC d) := by
  intro W σ s S d S' Q R L h q
  cases h
  exact q v W (Ext.refl W) R (hd W)
theorem re_int {i : Int} : RE K mg (tC (.int i)) (dC (.int i)) := re_c fun _ => rfl
theorem re_bl {b : Bool} : RE K mg (tC (.bl b)) (dC (.bl b)) := re_c fun _ => rfl
theorem re_non : RE K mg (tC .non) (dC .non) := re_c fun _ => rfl
theorem re_str {x : Str} : RE K mg (tC (.str x)) (dC (.str x)) := re_c fun _ => rfl
@[simp] def dOp (g : DV → DV → Sto → Option (DV × Sto)) (f1 f2 : DE) : DE := fun s S => bnd (f1 s S) fun x S1 => bnd (f2 s S1) fun y S2 => g x y S2
theorem re_op {r : R2} {g : DV → DV → Sto → Option (DV × Sto)} (hr : RO K mg r g) (ha : RE K mg ta fa) (hb : RE K mg tb fb) : RE K mg (tOp r ta tb) (dOp g fa fb) := by
  intro W σ s S d S' Q R L h q
  obtain ⟨x, S1, e1, h⟩ := bnd_inv h
  obtain ⟨y, S2, e2, h⟩ := bnd_inv h
  refine ha W σ s S x S1 _ R L e1 fun v W1 x1 R1 d1 => ?_
  refine hb W1 σ s S1 y S2 _ R1 (L.ext x1) e2 fun u W2 x2 R2 d2 => ?_
  exact hr W2 S2 x y v u d S' Q R2 (d1.ext x2) d2 h fun z W3 x3 R3 d3 => q z W3 ((x1.trans x2).trans x3) R3 d3
@[simp] def dUn (g : DV → Sto → Option (DV × Sto)) (f : DE) : DE := fun s S => bnd (f s S) g
theorem re_un {r : V → Hp → VK → Prop} {g : DV → Sto → Option (DV × Sto)} (hr : RU K mg r g) (ha : RE K mg ta fa) : RE K mg (tUn r ta) (dUn g fa) := by
  intro W σ s S d S' Q R L h q
  obtain ⟨x, S1, e1, h⟩ := bnd_inv h
  refine ha W σ s S x S1 _ R L e1 fun v W1 x1 R1 d1 => ?_
  exact hr W1 S1 x v d S' Q R1 d1 h fun z W3 x3 R3 d3 => q z W3 (x1.trans x3) R3 d3
@[simp] def dNil : DA := fun _ S => some ([], S)
@[simp] def dCons (f : DE) (g : DA) : DA := fun s S => bnd (f s S) fun x S1 => bnd (g s S1) fun xs S2 => some (x :: xs, S2)
theorem ra_nil : RA K mg tNil dNil := by
  intro W σ s S ds S' Q R L h q
  cases h
  exact q [] W (Ext.refl W) R rfl
theorem ra_cons (ha : RE K mg ta fa) (hr : RA K mg taa faa) : RA K mg (tCons ta taa) (dCons fa faa) := by
  intro W σ s S ds S' Q R L h q
  obtain ⟨x, S1, e1, h⟩ := bnd_inv h
  obtain ⟨xs, S2, e2, h⟩ := bnd_inv h
  cases h
  refine ha W σ s S x S1 _ R L e1 fun v W1 x1 R1 d1 => ?_
  refine hr W1 σ s _ xs _ _ R1 (L.ext x1) e2 fun vs W2 x2 R2 d2 => ?_
  exact q (v :: vs) W2 (x1.trans x2) R2 ⟨v, vs, rfl, d1.ext x2, d2⟩
theorem lim_le {n : Nat} (h : n ≤ 100000) : n ≤ sizeLine := by rw [sizeLine_eq]; omega
theorem lim_lt {n : Nat} (h : n < 100000) : n < sizeLine := by rw [sizeLine_eq]; omega
open Classical in
/-- only where p holds -/
@[irreducible] noncomputable def gate {α : Type} (p : Prop) (k : Option α) : Option α := if p then k else none
theorem gate_inv {α : Type} {p : Prop} {k : Option α} {r : α} (h : gate p k = some r) : p ∧ k = some r := by
  unfold gate at h
  split at h
  · rename_i hp
    exact ⟨hp, h⟩
  · cases h
@[simp] theorem gate_ok {α : Type} {p : Prop} {k : Option α} (h : p) : gate p k = k := by
  unfold gate
  rw [if_pos h]
@[simp] noncomputable def dTup (f : DA) : DE := fun s S => bnd (f s S) fun xs S1 => gate (xs.length ≤ 100000) (some (.tup xs, S1))
theorem re_tup (h : RA K mg taa faa) : RE K mg (tTup taa) (dTup faa) := by
  intro W σ s S d S' Q R L e q
  obtain ⟨xs, S1, e1, e⟩ := bnd_inv e
  obtain ⟨hl, e⟩ := gate_inv e
  cases e
  refine h W σ s S xs _ _ R L e1 fun vs W1 x1 R1 d1 => ⟨by rw [d1.len]; exact lim_le hl, fun p hp => ?_⟩
  obtain ⟨W2, e2, x2, R2, d2⟩ := newT_ok R1 hp d1
  rw [← e2]
  exact q _ W2 (x1.trans x2) R2 d2
@[simp] noncomputable def dLst (m : Bool) (f : DA) : DE := fun s S => bnd (f s S) fun xs S1 => gate (xs.length ≤ 100000) (some (newL m xs S1))
theorem re_lst {m : Bool} (h : RA K mg taa faa) : RE K mg (tLst taa) (dLst m faa) := by
  intro W σ s S d S' Q R L e q
  obtain ⟨xs, S1, e1, e⟩ := bnd_inv e
  obtain ⟨hl, e⟩ := gate_inv e
  refine h W σ s S xs S1 _ R L e1 fun vs W1 x1 R1 d1 => ⟨by rw [d1.len]; exact lim_le hl, fun p hp => ?_⟩
  obtain ⟨W2, e2, x2, R2, d2⟩ := newL_ok R1 hp d1 (Option.some.inj e)
  rw [← e2]
  exact q _ W2 (x1.trans x2) R2 d2

/-! ### tests -/
@[simp] def dTest (f : DE) : DT := fun s S => bnd (f s S) fun x S1 => match x with
  | .bl b => some (b, S1)
  | _ => none
theorem rt_test (h : RE K mg te fa) : RT K mg (tTest te) (dTest fa) := by
  intro W σ s S b S' Q R L e q
  obtain ⟨x, S1, e1, e⟩ := bnd_inv e
  split at e
  · cases e
    exact h W σ s S _ _ _ R L e1 fun v W1 x1 R1 d1 => ⟨_, (show v = _ from d1), q W1 x1 R1⟩
  · cases e
theorem rt_B (h : RE K mg te fa) : RT K mg (tB te) (dTest fa) := rt_test h
@[simp] def dAnd (f g : DT) : DT := fun s S => bnd (f s S) fun b S1 => if b then g s S1 else some (false, S1)
@[simp] def dOr (f g : DT) : DT := fun s S => bnd (f s S) fun b S1 => if b then some (true, S1) else g s S1
@[simp] def dNot (f : DT) : DT := fun s S => bnd (f s S) fun b S1 => some (!b, S1)
theorem rt_and (h1 : RT K mg tt ft) (h2 : RT K mg tu fu) : RT K mg (tAnd tt tu) (dAnd ft fu) := by
  intro W σ s S b S' Q R L e q
  obtain ⟨x, S1, e1, e⟩ := bnd_inv e
  refine h1 W σ s S x S1 _ R L e1 fun W1 x1 R1 => ?_
  cases x with
  | true => exact iteT (h2 W1 σ s S1 b S' _ R1 (L.ext x1) e fun W2 x2 R2 => q W2 (x1.trans x2) R2)
  | false =>
    cases e
    exact iteF (q W1 x1 R1)
theorem rt_or (h1 : RT K mg tt ft) (h2 : RT K mg tu fu) : RT K mg (tOr tt tu) (dOr ft fu) := by
  intro W σ s S b S' Q R L e q
  obtain ⟨x, S1, e1, e⟩ := bnd_inv e
  refine h1 W σ s S x S1 _ R L e1 fun W1 x1 R1 => ?_
  cases x with
  | false => exact iteF (h2 W1 σ s S1 b S' _ R1 (L.ext x1) e fun W2 x2 R2 => q W2 (x1.trans x2) R2)
  | true =>
    cases e
    exact iteT (q W1 x1 R1)
theorem rt_not (h1 : RT K mg tt ft) : RT K mg (tNot tt) (dNot ft) := by
  intro W σ s S b S' Q R L e q
  obtain ⟨x, S1, e1, e⟩ := bnd_inv e
  cases e
  exact h1 W σ s S x _ _ R L e1 fun W1 x1 R1 => q W1 x1 R1
@[simp] def dAndV (f g : DE) : DE := fun s S => bnd (f s S) fun x S1 => match x with
  | .bl true => g s S1
  | .bl false => some (.bl false, S1)
  | _ => none
@[simp] def dOrV (f g : DE) : DE := fun s S => bnd (f s S) fun x S1 => match x with
  | .bl true => some (.bl true, S1)
  | .bl false => g s S1
  | _ => none
@[simp] def dNotV (f : DE) : DE := fun s S => bnd (f s S) fun x S1 => match x with
  | .bl b => some (.bl (!b), S1)
  | _ => none
theorem re_andV (ha : RE K mg ta fa) (hb : RE K mg tb fb) : RE K mg (tAndV ta tb) (dAndV fa fb) := by
  intro W σ s S d S' Q R L e q
  obtain ⟨x, S1, e1, e⟩ := bnd_inv e
  refine ha W σ s S x S1 _ R L e1 fun v W1 x1 R1 d1 => ?_
  split at e
  · exact ⟨true, d1, iteT (hb W1 σ s S1 d S' _ R1 (L.ext x1) e fun z W2 x2 R2 d2 => q z W2 (x1.trans x2) R2 d2)⟩
  · cases e
    exact ⟨false, d1, iteF (q _ W1 x1 R1 rfl)⟩
  · cases e
theorem re_orV (ha : RE K mg ta fa) (hb : RE K mg tb fb) : RE K mg (tOrV ta tb) (dOrV fa fb) := by
  intro W σ s S d S' Q R L e q
  obtain ⟨x, S1, e1, e⟩ := bnd_inv e
  refine ha W σ s S x S1 _ R L e1 fun v W1 x1 R1 d1 => ?_
  split at e
  · cases e
    exact ⟨true, d1, iteT (q _ W1 x1 R1 rfl)⟩
  · exact ⟨false, d1, iteF (hb W1 σ s S1 d S' _ R1 (L.ext x1) e fun z W2 x2 R2 d2 => q z W2 (x1.trans x2) R2 d2)⟩
  · cases e
theorem re_notV (ha : RE K mg ta fa) : RE K mg (tNotV ta) (dNotV fa) := by
  intro W σ s S d S' Q R L e q
  obtain ⟨x, S1, e1, e⟩ := bnd_inv e
  refine ha W σ s S x S1 _ R L e1 fun v W1 x1 R1 d1 => ?_
  split at e
  · rename_i b
    cases e
    exact ⟨b, d1, q _ W1 x1 R1 rfl⟩
  · cases e
@[simp] def dIf (t : DT) (f g : DE) : DE := fun s S => bnd (t s S) fun b S1 => if b then f s S1 else g s S1
theorem re_if (ht : RT K mg tt ft) (ha : RE K mg ta fa) (hb : RE K mg tb fb) : RE K mg (tIf tt ta tb) (dIf ft fa fb) := by
  intro W σ s S d S' Q R L e q
  obtain ⟨b, S1, e1, e⟩ := bnd_inv e
  refine ht W σ s S b S1 _ R L e1 fun W1 x1 R1 => ?_
  cases b with
  | true => exact iteT (ha W1 σ s S1 d S' _ R1 (L.ext x1) e fun z W2 x2 R2 d2 => q z W2 (x1.trans x2) R2 d2)
  | false => exact iteF (hb W1 σ s S1 d S' _ R1 (L.ext x1) e fun z W2 x2 R2 d2 => q z W2 (x1.trans x2) R2 d2)
/-- a chain of two comparisons -/
@[simp] def dChain (g g' : DV → DV → Sto → Option (DV × Sto)) (f1 f2 f3 : DE) : DE := fun s S => bnd (f1 s S) fun x S1 => bnd (f2 s S1) fun y S2 => bnd (g x y S2) fun z S3 => match z with
  | .bl true => bnd (f3 s S3) fun w S4 => g' y w S4
  | .bl false => some (.bl false, S3)
  | _ => none
theorem re_chain {r r' : R2} {g g' : DV → DV → Sto → Option (DV × Sto)} (hr : RO K mg r g) (hr' : RO K mg r' g') (ha : RE K mg ta fa) (hb : RE K mg tb fb) (hc : RE K mg tc fc) : RE K mg (tChain r r' ta tb tc) (dChain g g' fa fb fc) := by
  intro W σ s S d S' Q R L h q
  obtain ⟨x, S1, e1, h⟩ := bnd_inv h
  obtain ⟨y, S2, e2, h⟩ := bnd_inv h
  obtain ⟨z, S3, e3, h⟩ := bnd_inv h
  refine ha W σ s S x S1 _ R L e1 fun v W1 x1 R1 d1 => ?_
  refine hb W1 σ s S1 y S2 _ R1 (L.ext x1) e2 fun u W2 x2 R2 d2 => ?_
  refine hr W2 S2 x y v u z S3 _ R2 (d1.ext x2) d2 e3 fun w W3 x3 R3 d3 => ?_
  split at h
  · obtain ⟨y', S4, e4, h⟩ := bnd_inv h
    refine ⟨true, d3, iteT ?_⟩
    refine hc W3 σ s S3 y' S4 _ R3 (L.ext ((x1.trans x2).trans x3)) e4 fun u' W4 x4 R4 d4 => ?_
    exact hr' W4 S4 y y' u u' d S' Q R4 (d2.ext (x3.trans x4)) d4 h fun z W5 x5 R5 d5 => q z W5 ((((x1.trans x2).trans x3).trans x4).trans x5) R5 d5
  · cases h
    exact ⟨false, d3, iteF (q _ W3 ((x1.trans x2).trans x3) R3 rfl)⟩
  · cases h

/-! ### calls by values -/
@[simp] def dCB (g : List DV → Sto → Option (DV × Sto)) (f : DA) : DE := fun s S => bnd (f s S) g
theorem re_CB {r : List V → Hp → VK → Prop} {g : List DV → Sto → Option (DV × Sto)} (hr : RC K mg r g) (h : RA K mg taa faa) : RE K mg (tCB r taa) (dCB g faa) := by
  intro W σ s S d S' Q R L e q
  obtain ⟨xs, S1, e1, e⟩ := bnd_inv e
  refine h W σ s S xs S1 _ R L e1 fun vs W1 x1 R1 d1 => ?_
  exact hr W1 S1 xs vs d S' Q R1 d1 e fun z W3 x3 R3 d3 => q z W3 (x1.trans x3) R3 d3
/-- a method of a built-in type -/
@[simp] def dBM (T : String) (g : DV → List DV → Sto → Option (DV × Sto)) (f : DE) (fs : DA) : DE := fun s S => bnd (f s S) fun x S1 =>
  if T = "list" ∧ (rdL S1 x).isSome = true then bnd (fs s S1) fun xs S2 => g x xs S2 else none
theorem re_BM {r : V → List V → Hp → VK → Prop} {g : DV → List DV → Sto → Option (DV × Sto)} {T : String} (hr : RM K mg r g) (ho : RE K mg te fa) (h : RA K mg taa faa) : RE K mg (tBM K T r te taa) (dBM T g fa faa) := by
  intro W σ s S d S' Q R L e q
  obtain ⟨x, S1, e1, e⟩ := bnd_inv e
  split at e
  · rename_i hT
    obtain ⟨xs, S2, e2, e⟩ := bnd_inv e
    refine ho W σ s S x S1 _ R L e1 fun v W1 x1 R1 d1 => ⟨?_, ?_⟩
    · obtain ⟨ds, hd⟩ := Option.isSome_iff_exists.mp hT.2
      obtain ⟨a, vs, rfl, h1, _⟩ := rdL_ok R1 d1 hd
      exact .inl ⟨hT.1, vs, h1⟩
    · refine h W1 σ s S1 xs S2 _ R1 (L.ext x1) e2 fun vs W2 x2 R2 d2 => ?_
      exact hr W2 S2 x xs v vs d S' Q R2 (d1.ext x2) d2 e fun z W3 x3 R3 d3 => q z W3 ((x1.trans x2).trans x3) R3 d3
  · cases e
@[simp] def dBM0 (T : String) (g : DV → List DV → Sto → Option (DV × Sto)) (f : DE) : DE := fun s S => bnd (f s S) fun x S1 =>
  if T = "list" ∧ (rdL S1 x).isSome = true then g x [] S1 else none
theorem re_BM0 {r : V → List V → Hp → VK → Prop} {g : DV → List DV → Sto → Option (DV × Sto)} {T : String} (hr : RM K mg r g) (ho : RE K mg te fa) : RE K mg (tBM0 K T r te) (dBM0 T g fa) := by
  intro W σ s S d S' Q R L e q
  obtain ⟨x, S1, e1, e⟩ := bnd_inv e
  split at e
  · rename_i hT
    refine ho W σ s S x S1 _ R L e1 fun v W1 x1 R1 d1 => ⟨?_, ?_⟩
    · obtain ⟨ds, hd⟩ := Option.isSome_iff_exists.mp hT.2
      obtain ⟨a, vs, rfl, h1, _⟩ := rdL_ok R1 d1 hd
      exact .inl ⟨hT.1, vs, h1⟩
    · exact hr W1 S1 x [] v [] d S' Q R1 d1 rfl e fun z W3 x3 R3 d3 => q z W3 (x1.trans x3) R3 d3
  · cases e

/-! ### a def's promise -/
def spF (K : PySem.W.Frag) (mg : Str → Option Value) (n : Nat) (g : List DV → Sto → Option (DV × Sto)) : Sp := fun vs H Q _ => vs.length = n ∧ ∃ (W : Wd) (S : Sto) (ds : List DV) (d : DV) (S' : Sto), W.H = H ∧ Rep K mg W S ∧ Dens K W ds vs ∧ g ds S = some (d, S') ∧
  ∀ v W', Ext W W' → Rep K mg W' S' → Den K W' d v → Q v W'.H
/-- a call: the defaults behind -/
@[simp] def dCall (n : Nat) (g : List DV → Sto → Option (DV × Sto)) (dd : List DV) (f : DA) : DE := fun s S => bnd (f s S) fun xs S1 => if (xs ++ dd).length = n then g (xs ++ dd) S1 else none
theorem re_call {n : Nat} {g : List DV → Sto → Option (DV × Sto)} {dd : List DV} {dvs : List V} {E : XK} (hd : ∀ W, Dens K W dd dvs) (h : RA K mg taa faa) : RE K mg (tCall (spF K mg n g) dvs E taa) (dCall n g dd faa) := by
  intro W σ s S d S' Q R L e q
  obtain ⟨xs, S1, e1, e⟩ := bnd_inv e
  split at e
  · rename_i hl
    refine h W σ s S xs S1 _ R L e1 fun vs W1 x1 R1 d1 => ?_
    have da := d1.app (hd W1)
    exact ⟨by rw [da.len]; exact hl, W1, S1, _, d, S', rfl, R1, da, e, fun v W' x' R' d' => q v W' (x1.trans x') R' d'⟩
  · cases e
theorem re_call0 {n : Nat} {g : List DV → Sto → Option (DV × Sto)} {E : XK} (h : RA K mg taa faa) : RE K mg (tCall (spF K mg n g) [] E taa) (dCall n g [] faa) := re_call (fun _ => rfl) h
/-- with keywords: G tells the order -/
@[simp] def dCallK (n : Nat) (g : List DV → Sto → Option (DV × Sto)) (G : List DV → List DV → List DV) (f fk : DA) : DE := fun s S => bnd (f s S) fun xs S1 => bnd (fk s S1) fun ys S2 => if (G xs ys).length = n then g (G xs ys) S2 else none
theorem re_callK {n : Nat} {g : List DV → Sto → Option (DV × Sto)} {G : List DV → List DV → List DV} {gV : List V → List V → List V} {E : XK} {tk : TA} {fk : DA} (hG : ∀ W xs ys vs us, Dens K W xs vs → Dens K W ys us → Dens K W (G xs ys) (gV vs us)) (h : RA K mg taa faa) (hk : RA K mg tk fk) :
    RE K mg (tCallK (spF K mg n g) gV E taa tk) (dCallK n g G faa fk) := by
  intro W σ s S d S' Q R L e q
  obtain ⟨xs, S1, e1, e⟩ := bnd_inv e
  obtain ⟨ys, S2, e2, e⟩ := bnd_inv e
  split at e
  · rename_i hl
    refine h W σ s S xs S1 _ R L e1 fun vs W1 x1 R1 d1 => ?_
    refine hk W1 σ s S1 ys S2 _ R1 (L.ext x1) e2 fun us W2 x2 R2 d2 => ?_
    have da := hG W2 xs ys vs us (Dens.ext x2 _ _ d1) d2
    exact ⟨by rw [da.len]; exact hl, W2, S2, _, d, S', rfl, R2, da, e, fun v W' x' R' d' => q v W' ((x1.trans x2).trans x') R' d'⟩
  · cases e
end

/-! ### statements -/
@[simp] def kNx (r : Res) (g : DS) : Option Res := match r with
  | .nx s S => g s S
  | r => some r
@[simp] def dSeq (f g : DS) : DS := fun s S => match f s S with
  | none => none
  | some r => kNx r g
@[simp] def dNext : DS := fun s S => some (.nx s S)
@[simp] def dIfS (t : DT) (f g : DS) : DS := fun s S => bnd (t s S) fun b S1 => if b then f s S1 else g s S1
@[simp] def dRet (f : DE) : DS := fun s S => bnd (f s S) fun d S1 => some (.rt d S1)
@[simp] def dRetN : DS := fun _ S => some (.rt .non S)
@[simp] def dDrop (f : DE) : DS := fun s S => bnd (f s S) fun _ S1 => some (.nx s S1)
@[simp] def dBreak : DS := fun s S => some (.bk s S)
@[simp] def dCont : DS := fun s S => some (.ct s S)
@[simp] def dNever : DS := fun _ _ => none
@[simp] def dName (i : Nat) : DG := fun d s S => some (s.set i (some d), S)
@[simp] def dGNil : DGs := fun ds s S => match ds with
  | [] => some (s, S)
  | _ => none
@[simp] def dGCons (f : DG) (g : DGs) : DGs := fun ds s S => match ds with
  | [] => none
  | d :: r => match f d s S with
    | none => none
    | some p => g r p.1 p.2
@[simp] def dGTup (n : Nat) (g : DGs) : DG := fun d s S => match d with
  | .tup ds => if ds.length = n then g ds s S else none
  | _ => none
@[simp] def dAsg (f : DE) (g : DG) : DS := fun s S => bnd (f s S) fun d S1 => match g d s S1 with
  | none => none
  | some p => some (.nx p.1 p.2)
@[simp] def dPar (i j : Nat) (f : DA) : DS := fun s S => bnd (f s S) fun ds S1 => match ds with
  | [d, e] => some (.nx ((s.set i (some d)).set j (some e)) S1)
  | _ => none
@[simp] def dAug (i : Nat) (f : DE) (g : DV → DV → Sto → Option (DV × Sto)) : DS := fun s S => match s[i]? with
  | some (some x) => bnd (f s S) fun y S1 => bnd (g x y S1) fun z S2 => some (.nx (s.set i (some z)) S2)
  | _ => none
def setL (o i v : DV) (S : Sto) : Option Sto := match o, i with
  | .ptr n, .int k => match S[n]? with
    | some (.ml ds) => match ixN ds.length k with
      | some j => some (S.set n (.ml (ds.set j v)))
      | none => none
    | _ => none
  | _, _ => none
@[simp] def dSub (f g : DE) : DG := fun v s S => bnd (f s S) fun o S1 => bnd (g s S1) fun i S2 => match setL o i v S2 with
  | none => none
  | some S3 => some (s, S3)
section
variable {K : PySem.W.Frag} {mg : Str → Option Value}
variable {te ta tb : TE} {fe fa fb : DE} {tt : TT} {ft : DT} {t u : TS} {f g : DS} {taa : TA} {faa : DA} {i j n : Nat} {tg : TG} {fg : DG} {tgs : TGs} {fgs : DGs}
theorem rs_seq (h1 : RS K mg t f) (h2 : RS K mg u g) : RS K mg (tSeq t u) (dSeq f g) := by
  intro W σ s S r D R L e P
  unfold dSeq at e
  split at e
  · cases e
  · rename_i r1 e1
    refine h1 W σ s S r1 { D with nx := u D } R L e1 ?_
    cases r1 with
    | nx s1 S1 => exact fun σ1 W1 x1 R1 L1 => h2 W1 σ1 s1 S1 r D R1 L1 e (P.ext x1)
    | rt d S1 =>
      cases e
      exact P
    | bk s1 S1 =>
      cases e
      exact P
    | ct s1 S1 =>
      cases e
      exact P
theorem rs_next : RS K mg tNext dNext := by
  intro W σ s S r D R L e P
  cases e
  exact P σ W (Ext.refl W) R L
theorem rs_if (ht : RT K mg tt ft) (h1 : RS K mg t f) (h2 : RS K mg u g) : RS K mg (tIfS tt t u) (dIfS ft f g) := by
  intro W σ s S r D R L e P
  obtain ⟨b, S1, e1, e⟩ := bnd_inv e
  refine ht W σ s S b S1 _ R L e1 fun W1 x1 R1 => ?_
  cases b with
  | true => exact iteT (h1 W1 σ s S1 r D R1 (L.ext x1) e (P.ext x1))
  | false => exact iteF (h2 W1 σ s S1 r D R1 (L.ext x1) e (P.ext x1))
theorem rs_ret (h : RE K mg te fe) : RS K mg (tRet te) (dRet fe) := by
  intro W σ s S r D R L e P
  obtain ⟨d, S1, e1, e⟩ := bnd_inv e
  cases e
  exact h W σ s S d S1 _ R L e1 fun v W1 x1 R1 d1 => P v W1 x1 R1 d1
theorem rs_retN : RS K mg tRetN dRetN := by
  intro W σ s S r D R L e P
  cases e
  exact P .non W (Ext.refl W) R rfl
theorem rs_drop (h : RE K mg te fe) : RS K mg (tDrop te) (dDrop fe) := by
  intro W σ s S r D R L e P
  obtain ⟨d, S1, e1, e⟩ := bnd_inv e
  cases e
  exact h W σ s S d S1 _ R L e1 fun v W1 x1 R1 d1 => P σ W1 x1 R1 (L.ext x1)
theorem rs_break : RS K mg tBreak dBreak := by
  intro W σ s S r D R L e P
  cases e
  exact P σ W (Ext.refl W) R L
theorem rs_cont : RS K mg tCont dCont := by
  intro W σ s S r D R L e P
  cases e
  exact P σ W (Ext.refl W) R L
theorem rs_never : RS K mg tNever dNever := by
  intro W σ s S r D R L e P
  cases e
theorem rg_name : RG K mg (gName i) (dName i) := by
  intro W σ s S d v s' S' Q R L hd e q
  cases e
  exact q _ W (Ext.refl W) R (L.set i hd)
theorem rgs_nil : RGs K mg gNil dGNil := by
  intro W σ s S ds vs s' S' Q R L hd e q
  unfold dGNil at e
  split at e
  · cases e
    exact ⟨hd, q σ W (Ext.refl W) R L⟩
  · cases e
theorem rgs_cons (h1 : RG K mg tg fg) (h2 : RGs K mg tgs fgs) : RGs K mg (gCons tg tgs) (dGCons fg fgs) := by
  intro W σ s S ds vs s' S' Q R L hd e q
  unfold dGCons at e
  split at e
  · cases e
  · rename_i d r
    split at e
    · cases e
    · rename_i p e1
      obtain ⟨v, us, rfl, d1, d2⟩ := hd
      refine ⟨v, us, rfl, h1 W σ s S d v p.1 p.2 _ R L d1 e1 fun σ1 W1 x1 R1 L1 => ?_⟩
      exact h2 W1 σ1 p.1 p.2 r us s' S' Q R1 L1 (Dens.ext x1 _ _ d2) e fun σ2 W2 x2 R2 L2 => q σ2 W2 (x1.trans x2) R2 L2
theorem rg_tup (h : RGs K mg tgs fgs) : RG K mg (gTup K n tgs) (dGTup n fgs) := by
  intro W σ s S d v s' S' Q R L hd e q
  unfold dGTup at e
  split at e
  · rename_i ds
    split at e
    · rename_i hl
      obtain ⟨a, vs, rfl, h1, h2⟩ := hd
      exact ⟨a, vs, rfl, h1.1, by rw [h2.len]; exact hl, h W σ s S ds vs s' S' Q R L h2 e q⟩
    · cases e
  · cases e
theorem rs_asg (h : RE K mg te fe) (hg : RG K mg tg fg) : RS K mg (tAsg te tg) (dAsg fe fg) := by
  intro W σ s S r D R L e P
  obtain ⟨d, S1, e1, e⟩ := bnd_inv e
  split at e
  · cases e
  · rename_i p e2
    cases e
    refine h W σ s S d S1 _ R L e1 fun v W1 x1 R1 d1 => ?_
    exact hg W1 σ s S1 d v p.1 p.2 _ R1 (L.ext x1) d1 e2 fun σ2 W2 x2 R2 L2 => P σ2 W2 (x1.trans x2) R2 L2
theorem rs_par (h : RA K mg taa faa) : RS K mg (tPar i j taa) (dPar i j faa) := by
  intro W σ s S r D R L e P
  obtain ⟨ds, S1, e1, e⟩ := bnd_inv e
  split at e
  · rename_i d d'
    cases e
    refine h W σ s S _ S1 _ R L e1 fun vs W1 x1 R1 h1 => ?_
    obtain ⟨v, r, rfl, d1, v', r', rfl, d2, h3⟩ := h1
    cases (show r' = [] from h3)
    exact ⟨v, v', rfl, P _ W1 x1 R1 (((L.ext x1).set i d1).set j d2)⟩
  · cases e
theorem rs_aug {r2 : V → V → Hp → VK → Prop} {g2 : DV → DV → Sto → Option (DV × Sto)} (h : RE K mg te fe) (hr : RO K mg r2 g2) : RS K mg (tAug i te r2) (dAug i fe g2) := by
  intro W σ s S r D R L e P
  unfold dAug at e
  split at e
  · rename_i x ex
    obtain ⟨y, S1, e1, e⟩ := bnd_inv e
    obtain ⟨z, S2, e2, e⟩ := bnd_inv e
    cases e
    obtain ⟨v, hv, dv⟩ := L.2 i x ex
    refine ⟨v, hv, h W σ s S y S1 _ R L e1 fun u W1 x1 R1 d1 => ?_⟩
    refine hr W1 S1 x y v u z S2 _ R1 (dv.ext x1) d1 e2 fun z' W2 x2 R2 d2 => ?_
    exact P _ W2 (x1.trans x2) R2 ((L.ext (x1.trans x2)).set i d2)
  · cases e
theorem rg_sub (ho : RE K mg ta fa) (hi : RE K mg tb fb) : RG K mg (gSub ta tb rSetL) (dSub fa fb) := by
  intro W σ s S d v s' S' Q R L hd e q
  obtain ⟨o, S1, e1, e⟩ := bnd_inv e
  obtain ⟨k, S2, e2, e⟩ := bnd_inv e
  split at e
  · cases e
  · rename_i S3 e3
    cases e
    refine ho W σ s S o S1 _ R L e1 fun ov W1 x1 R1 d1 => ?_
    refine hi W1 σ s S1 k S2 _ R1 (L.ext x1) e2 fun iv W2 x2 R2 d2 => ?_
    unfold setL at e3
    split at e3
    · rename_i n kk
      split at e3
      · rename_i ds hn
        split at e3
        · rename_i j hj
          cases e3
          obtain ⟨a, rfl, ha, hm, vs, h1, h2⟩ := ptr_ok R2 (d1.ext x2) hn
          refine ⟨a, vs, kk, j, rfl, d2, h1, by rw [h2.len]; exact hj, ?_⟩
          have xp := ext_put (o := HO.lst (vs.set j v)) R2 hm
          refine q σ (W2.put a (.lst (vs.set j v))) ((x1.trans x2).trans xp) (rep_put R2 ha ⟨vs.set j v, upd_same, Dens.set j (Dens.ext xp _ _ h2) (((hd.ext x1).ext x2).ext xp)⟩) (L.ext ((x1.trans x2).trans xp))
        · cases e3
      · cases e3
    · cases e3
end
end DL
end
section
/-! zip of three lists -/
namespace DL
open PySem PySem.Spec PyProof.Rows L2
theorem nnA {x y : Nat} (h : x < y ∨ y < x) : ¬ @Eq Addr x y := fun z => by
  have e : @Eq Nat x y := z
  rw [e] at h
  exact h.elim (Nat.lt_irrefl _) (Nat.lt_irrefl _)
theorem sep3 (N a b c : Nat) (la : a < N) (lb : b < N) (lc : c < N) : ZipSep3 (N + 5) (N + 3) (N + 4) N (N + 1) (N + 2) [N, a] [N + 1, b] [N + 2, c] := by
  constructor
  all_goals simp
  all_goals first | exact nnA (by omega) | exact ⟨nnA (by omega), nnA (by omega)⟩
/-- the lists at a, b, c as they stand at each turn, the items in new tuples of three; it ends where the first one does -/
def Itz3 (K : PySem.W.Frag) (a b c : Addr) : It :=
  ⟨fun i H => ∃ (xs ys zs : List V) (x y z : V), SqL K H a xs ∧ SqL K H b ys ∧ SqL K H c zs ∧ xs[i]? = some x ∧ ys[i]? = some y ∧ zs[i]? = some z,
    fun i H v H' => ∃ T x y z, v = .ref T ∧ H T = none ∧ H' = upd H T (.tup [x, y, z]) ∧ (∀ xs, SqL K H a xs → xs[i]? = some x) ∧ (∀ ys, SqL K H b ys → ys[i]? = some y) ∧ ∀ zs, SqL K H c zs → zs[i]? = some z,
    fun i H => ∃ xs ys zs : List V, SqL K H a xs ∧ SqL K H b ys ∧ SqL K H c zs ∧ i ≤ xs.length ∧ i ≤ ys.length ∧ i ≤ zs.length ∧ (i = xs.length ∨ i = ys.length ∨ i = zs.length)⟩
theorem turn_zip3 {P : Program} {w : World} {K : PySem.W.Frag} {elts : List Expr} {kk : Nat} {tpos : Pos} {a b c z TI TO i1 i2 i3 : Addr} (D : ZipSep3 z TI TO i1 i2 i3 [i1, a] [i2, b] [i3, c]) (ne1 : a ≠ i1) (ne2 : b ≠ i2) (ne3 : c ≠ i3) :
    Turn P w K (.Tuple elts kk tpos) (Itz3 K a b c) [z, TI, TO, i1, i2, i3] z (fun i h => IsZip h z TI TO .none ∧ IsTupOf3 h TI (.ref i1) (.ref i2) (.ref i3) ∧ (∃ x y u, IsTupOf3 h TO x y u) ∧ h.IsListIter i1 a i ∧ h.IsListIter i2 b i ∧ h.IsListIter i3 c i) where
  mem := by simp
  obj := fun i h st d hd => by
    obtain ⟨hz, hTI, ⟨x, y, u, hTO⟩, ⟨o1, e1, _, d1⟩, ⟨o2, e2, _, d2⟩, ⟨o3, e3, _, d3⟩⟩ := st
    have e' : d = z ∨ d = TI ∨ d = TO ∨ d = i1 ∨ d = i2 ∨ d = i3 := by simpa using hd
    rcases e' with q | q | q | q | q | q
    · rw [q]; exact ⟨_, hz, fun v q => nomatch q⟩
    · rw [q]; exact ⟨_, hTI, fun v q => nomatch q⟩
    · rw [q]; exact ⟨_, hTO, fun v q => nomatch q⟩
    · rw [q]; exact ⟨o1, e1, fun v q => by rw [d1] at q; cases q⟩
    · rw [q]; exact ⟨o2, e2, fun v q => by rw [d2] at q; cases q⟩
    · rw [q]; exact ⟨o3, e3, fun v q => by rw [d3] at q; cases q⟩
  keep := fun i h h' st k => by
    obtain ⟨hz, hTI, ⟨x, y, u, hTO⟩, h1, h2, h3⟩ := st
    exact ⟨k z (by simp) _ hz, k TI (by simp) _ hTI, ⟨x, y, u, k TO (by simp) _ hTO⟩, h1.at fun o q => k i1 (by simp) o q, h2.at fun o q => k i2 (by simp) o q, h3.at fun o q => k i3 (by simp) o q⟩
  item := by
    intro X hP hw hK hc i pins s σ H E I hf st hg
    subst hP hw hK
    obtain ⟨hz, hTI, ⟨x0, y0, w0, hTO⟩, h1, h2, h3⟩ := st
    obtain ⟨xs, ys, zs, x, y, v, hqx, hqy, hqz, hx, hy, hv⟩ := hg
    obtain ⟨its, rv, p, _⟩ := I.list hqx
    obtain ⟨its2, rv2, p2, _⟩ := I.list hqy
    obtain ⟨its3, rv3, p3, _⟩ := I.list hqz
    obtain ⟨u, hu, ru⟩ := rv.get hx
    obtain ⟨u2, hu2, ru2⟩ := rv2.get hy
    obtain ⟨u3, hu3, ru3⟩ := rv3.get hv
    have hzl : z < s.heap.objs.size := Heap.lt_size hz
    have hd : X.A.in1.handled = none := I.ok.hd hc
    have lt : ∀ {l : List Value} {k : Nat} {q : Value}, l[k]? = some q → k < l.toArray.size := fun e => by simpa using (List.getElem?_eq_some_iff.mp e).1
    refine wpAny_pyNext_zipD3_item D (Draws.list (A := X.A.in1) hd i1 a ne1 its.toArray) (Draws.list (A := X.A.in1) hd i2 b ne2 its2.toArray) (Draws.list (A := X.A.in1) hd i3 c ne3 its3.toArray) hz hTI hTO ⟨h1, p.isList⟩ ⟨h2, p2.isList⟩ ⟨h3, p3.isList⟩ (lt hu) (lt hu2) (lt hu3) fun x1 x2 x3 h' tk y1 y2 y3 z' TO' d1 d2 d3 hT hsz hk => ?_
    obtain rfl : x1 = u := by
      have := y1.symm.trans (show its.toArray[i]? = some u by simpa using hu)
      exact Option.some.inj this
    obtain rfl : x2 = u2 := by
      have := y2.symm.trans (show its2.toArray[i]? = some u2 by simpa using hu2)
      exact Option.some.inj this
    obtain rfl : x3 = u3 := by
      have := y3.symm.trans (show its3.toArray[i]? = some u3 by simpa using hu3)
      exact Option.some.inj this
    refine ⟨_, rfl, wpAny_letOwnedTupleGo_zip (s := { s with heap := h', toks := tk }) z' fun h'' z'' sb => ?_⟩
    have hT2 : h''.get? s.heap.objs.size = some { cls := .type "tuple", data := .seq #[x1, x2, x3] } := (sb.2 _ (Nat.ne_of_gt hzl)).trans hT
    have new : ObjOk X.prog X.w (upd H s.heap.objs.size (.tup [x, y, v])) h'' s.heap.objs.size (.tup [x, y, v]) :=
      ⟨by show 3 ≤ sizeLine; decide, [x1, x2, x3], .cons ru (.cons ru2 (.cons ru3 .nil)), ⟨_, hT2, rfl, _, rfl⟩⟩
    have I1 : Inv X pins σ (upd H s.heap.objs.size (.tup [x, y, v])) { s with heap := h'', toks := tk } :=
      I.turnedNew (t' := tk) (ch := [z, TI, TO, i1, i2, i3]) (fun d o hb q => (sb.2 d (fun q' => hb (by simp [q']))).trans (hk d o (fun q' => hb (by simp [q'])) (fun q' => hb (by simp [q'])) (fun q' => hb (by simp [q'])) (fun q' => hb (by simp [q'])) (fun q' => hb (by simp [q'])) q)) hf (Nat.le_refl _) new
    refine ⟨.ref s.heap.objs.size, _, I1, rfl, ⟨_, x, y, v, rfl, I.hok.fresh (Nat.le_refl _), rfl, fun l hl => by rw [I.list_inj hl hqx]; exact hx, fun l hl => by rw [I.list_inj hl hqy]; exact hy, fun l hl => by rw [I.list_inj hl hqz]; exact hv⟩, ⟨z'', ?_, ⟨x1, x2, x3, ?_⟩, ?_, ?_, ?_⟩, fun d hdm => ?_⟩
    · exact (sb.2 _ D.TIz).trans (hk _ _ D.TIz D.TITO D.TIi1 D.TIi2 D.TIi3 hTI)
    · exact (sb.2 _ D.TOz).trans TO'
    · exact d1.1.at fun o q => (sb.2 _ (fun e => D.zi1 e.symm)).trans q
    · exact d2.1.at fun o q => (sb.2 _ (fun e => D.zi2 e.symm)).trans q
    · exact d3.1.at fun o q => (sb.2 _ (fun e => D.zi3 e.symm)).trans q
    · have hlt : d < s.heap.objs.size := by
        have e' : d = z ∨ d = TI ∨ d = TO ∨ d = i1 ∨ d = i2 ∨ d = i3 := by simpa using hdm
        rcases e' with q | q | q | q | q | q
        · rw [q]; exact hzl
        · rw [q]; exact Heap.lt_size hTI
        · rw [q]; exact Heap.lt_size hTO
        · rw [q]; obtain ⟨_, e1, _⟩ := h1; exact Heap.lt_size e1
        · rw [q]; obtain ⟨_, e2, _⟩ := h2; exact Heap.lt_size e2
        · rw [q]; obtain ⟨_, e3, _⟩ := h3; exact Heap.lt_size e3
      rw [upd_ne (Nat.ne_of_lt hlt)]
      exact (hf d hdm).1
  done := by
    intro X hP hw hK hc i pins s σ H E I hf st hg
    subst hP hw hK
    obtain ⟨hz, hTI, ⟨x0, y0, w0, hTO⟩, h1, h2, h3⟩ := st
    obtain ⟨xs, ys, zs, hqx, hqy, hqz, q1, q2, q3, hend⟩ := hg
    obtain ⟨its, rv, p, _⟩ := I.list hqx
    obtain ⟨its2, rv2, p2, _⟩ := I.list hqy
    obtain ⟨its3, rv3, p3, _⟩ := I.list hqz
    have l1 := rv.length
    have l2 := rv2.length
    have l3 := rv3.length
    have hd : X.A.in1.handled = none := I.ok.hd hc
    exact wpAny_pyNext_zipD3_end D (Draws.list (A := X.A.in1) hd i1 a ne1 its.toArray) (Draws.list (A := X.A.in1) hd i2 b ne2 its2.toArray) (Draws.list (A := X.A.in1) hd i3 c ne3 its3.toArray) hz hTI hTO ⟨h1, p.isList⟩ ⟨h2, p2.isList⟩ ⟨h3, p3.isList⟩ (by simp; omega) (by simp; omega) (by simp; omega) (by simp; omega) fun h' tk hk => ⟨rfl, I.turnedL (t' := tk) (ch := [z, TI, TO, i1, i2, i3]) (fun d o hb q =>
      hk d o (fun q' => hb (by simp [q'])) (fun q' => hb (by simp [q'])) (fun q' => hb (by simp [q'])) (fun q' => hb (by simp [q'])) (fun q' => hb (by simp [q'])) q) hf⟩
  self := fun A i s Q E st h => wpAny_pyIter_zip st.1 h
def iZip3 (K : PySem.W.Frag) (ta : TA) : TI := fun σ H R => ta σ H fun vs H1 => ∃ a b c xs ys zs, vs = [.ref a, .ref b, .ref c] ∧ SqL K H1 a xs ∧ SqL K H1 b ys ∧ SqL K H1 c zs ∧ R (Itz3 K a b c) H1
theorem pi_zip3 {X : Cx} {e e2 e3 : Expr} {ta : TA} {p pos tpos : Pos} {elts : List Expr} {kk : Nat} (hg : Gl X "zip") (hm : X.mg "zip" = none) (ha : PA X [e, e2, e3] ta)
    (hs : starEach [e, e2, e3] X.env = (false, eval e X.env) :: starEach [e2, e3] X.env := by rfl) (hpl : (backTo pos (starEach [e2, e3] X.env)).any (·.1) = false := by rfl) :
    PI X (.Tuple elts kk tpos) (.Call (.Name "zip" p) [e, e2, e3] [] pos) (iZip3 X.K ta) := by
  refine ⟨fun pins s σ H R I h => ?_⟩
  refine Call_ (ld_blt I hg hm PyProof.Rows.boot_zip (PyProof.Rows.callWith_type1 (thn (ha.run pos pins s σ H _ I h) fun us s1 ⟨vs, H1, I1, r1, q1⟩ => ?_) hs hpl))
  obtain ⟨a, b, c, xs, ys, zs, ex, hqx, hqy, hqz, q⟩ := q1
  subst ex
  cases r1 with
  | cons r rr =>
    cases rr with
    | cons r' rr =>
      cases rr with
      | cons r'' rr =>
        cases rr
        cases r
        cases r'
        cases r''
        obtain ⟨its, rv, p1, _⟩ := I1.list hqx
        obtain ⟨its2, rv2, p2, _⟩ := I1.list hqy
        obtain ⟨its3, rv3, p3, _⟩ := I1.list hqz
        have la : a < s1.heap.objs.size := p1.lt
        have lb : b < s1.heap.objs.size := p2.lt
        have lc : c < s1.heap.objs.size := p3.lt
        refine zip_begins3 (begins_list a its.toArray) (begins_list b its2.toArray) (begins_list c its3.toArray) p1.isList p2.isList p3.isList fun h' hz hTI hTO h1 h2 h3 hsz hk => wpAny_pyIter_zip hz ?_
        have I2 : Inv X pins σ H1 { s1 with heap := h' } := I1.kept (t' := s1.toks) hk
        obtain ⟨N, hN⟩ : ∃ N, N = s1.heap.objs.size := ⟨_, rfl⟩
        rw [← hN] at la lb lc hz hTI hTO h1 h2 h3
        have D := sep3 N a b c la lb lc
        subst hN
        refine ⟨s1.heap.objs.size + 5, [s1.heap.objs.size + 5, s1.heap.objs.size + 3, s1.heap.objs.size + 4, s1.heap.objs.size, s1.heap.objs.size + 1, s1.heap.objs.size + 2], _, _, H1, rfl, I2, turn_zip3 D (Nat.ne_of_lt la) (Nat.ne_of_lt (Nat.lt_succ_of_lt lb)) (Nat.ne_of_lt (Nat.lt_succ_of_lt (Nat.lt_succ_of_lt lc))), ⟨hz, hTI, ⟨_, _, _, hTO⟩, ⟨_, h1, rfl, rfl⟩, ⟨_, h2, rfl, rfl⟩, ⟨_, h3, rfl, rfl⟩⟩, fun d hdm => ?_, q⟩
        have e' : d = s1.heap.objs.size + 5 ∨ d = s1.heap.objs.size + 3 ∨ d = s1.heap.objs.size + 4 ∨ d = s1.heap.objs.size ∨ d = s1.heap.objs.size + 1 ∨ d = s1.heap.objs.size + 2 := by simpa using hdm
        have hle : s1.heap.objs.size ≤ d := by
          rcases e' with z | z | z | z | z | z
          · rw [z]; exact Nat.le_add_right _ _
          · rw [z]; exact Nat.le_add_right _ _
          · rw [z]; exact Nat.le_add_right _ _
          · rw [z]; exact Nat.le_refl _
          · rw [z]; exact Nat.le_add_right _ _
          · rw [z]; exact Nat.le_add_right _ _
        exact I1.fpOk hle (I1.hok.fresh hle)
end DL
end
section
namespace DL
open PySem L2

/-! ### what a loop goes over -/
inductive DIt where
  | li (d : DV)
  | tu (d : DV)
  | rg (lo : Int) (n : Nat)
  | en (d : DV)
  | zp (d e : DV)
  | zt (d e : DV)
  | z3 (d e f : DV)
  | em (d : DV)
  | ki (fs : List (Int × DV))
/-- a tuple without items -/
def IteE (K : PySem.W.Frag) (a : Addr) : It := ⟨fun _ _ => False, fun _ _ _ _ => False, fun _ H => SqT K H a []⟩
def itemAt (it : DIt) (S : Sto) (i : Nat) : Option (Option DV) := match it with
  | .li d => match rdL S d with
    | some ds => some ds[i]?
    | none => none
  | .tu d => match rdT d with
    | some ds => some ds[i]?
    | none => none
  | .rg lo n => some (if i < n then some (.int (lo + i)) else none)
  | .en d => match rdL S d with
    | some ds => some (match ds[i]? with
      | some x => some (.tup [.int (i : Nat), x])
      | none => none)
    | none => none
  | .zp d e => match rdL S d, rdL S e with
    | some xs, some ys => some (match xs[i]?, ys[i]? with
      | some x, some y => some (.tup [x, y])
      | _, _ => none)
    | _, _ => none
  | .zt d e => match rdT d, rdT e with
    | some xs, some ys => some (match xs[i]?, ys[i]? with
      | some x, some y => some (.tup [x, y])
      | _, _ => none)
    | _, _ => none
  | .z3 d e f => match rdL S d, rdL S e, rdL S f with
    | some xs, some ys, some zs => if i ≤ xs.length ∧ i ≤ ys.length ∧ i ≤ zs.length then some (match xs[i]?, ys[i]?, zs[i]? with
      | some x, some y, some z => some (.tup [x, y, z])
      | _, _, _ => none) else none
    | _, _, _ => none
  | .em d => match rdT d with
    | some [] => some none
    | _ => none
  | .ki fs => some (fs[i]?.map fun p => .tup [.int p.1, p.2])
def itLen (it : DIt) (S : Sto) : Nat := match it with
  | .li d => match rdL S d with
    | some ds => ds.length
    | none => 0
  | .tu d => match rdT d with
    | some ds => ds.length
    | none => 0
  | .rg _ n => n
  | .en d => match rdL S d with
    | some ds => ds.length
    | none => 0
  | .zp d _ => match rdL S d with
    | some ds => ds.length
    | none => 0
  | .zt d _ => match rdT d with
    | some ds => ds.length
    | none => 0
  | .z3 d _ _ => match rdL S d with
    | some ds => ds.length
    | none => 0
  | .em _ => 0
  | .ki fs => fs.length
abbrev DI := Sl → Sto → Option (DIt × Sto)
section
variable (K : PySem.W.Frag) (mg : Str → Option Value)
def ItDen (W : Wd) : DIt → It → Prop
  | .li d, J => ∃ a, Den K W d (.ref a) ∧ J = Itl K a
  | .tu d, J => ∃ a, Den K W d (.ref a) ∧ J = Itt K a
  | .rg lo n, J => J = Itr lo n
  | .en d, J => ∃ a, Den K W d (.ref a) ∧ J = Ite K a
  | .zp d e, J => ∃ a b, Den K W d (.ref a) ∧ Den K W e (.ref b) ∧ J = Itz K a b
  | .zt d e, J => ∃ a b, Den K W d (.ref a) ∧ Den K W e (.ref b) ∧ J = RZ.ItzT K a b
  | .z3 d e f, J => ∃ a b c, Den K W d (.ref a) ∧ Den K W e (.ref b) ∧ Den K W f (.ref c) ∧ J = Itz3 K a b c
  | .em d, J => ∃ a, Den K W d (.ref a) ∧ J = IteE K a
  | .ki fs, J => ∃ a o kvs, W.P a ∧ W.H a = some (.frz o (.dK kvs)) ∧ DiR K W fs kvs ∧ J = Iti a o kvs
def RI (wi : TI) (f : DI) : Prop := ∀ (W : Wd) (σ : St) (s : Sl) (S : Sto) (it : DIt) (S' : Sto) (R : It → Hp → Prop), Rep K mg W S → Slo K W σ s → f s S = some (it, S') →
  (∀ J W', Ext W W' → Rep K mg W' S' → ItDen K W' it J → R J W'.H) → wi σ W.H R
end
section
variable {K : PySem.W.Frag} {mg : Str → Option Value} {W W' : Wd} {S : Sto}
theorem ItDen.ext0 (e : Ex0 W W') {it : DIt} {J : It} (h : ItDen K W it J) : ItDen K W' it J := by
  cases it with
  | li d =>
    obtain ⟨a, h, q⟩ := h
    exact ⟨a, Den.ext0 e _ _ h, q⟩
  | tu d =>
    obtain ⟨a, h, q⟩ := h
    exact ⟨a, Den.ext0 e _ _ h, q⟩
  | rg lo n => exact h
  | en d =>
    obtain ⟨a, h, q⟩ := h
    exact ⟨a, Den.ext0 e _ _ h, q⟩
  | zp d f =>
    obtain ⟨a, b, h, h', q⟩ := h
    exact ⟨a, b, Den.ext0 e _ _ h, Den.ext0 e _ _ h', q⟩
  | zt d f =>
    obtain ⟨a, b, h, h', q⟩ := h
    exact ⟨a, b, Den.ext0 e _ _ h, Den.ext0 e _ _ h', q⟩
  | z3 d f g =>
    obtain ⟨a, b, c, h, h', h'', q⟩ := h
    exact ⟨a, b, c, Den.ext0 e _ _ h, Den.ext0 e _ _ h', Den.ext0 e _ _ h'', q⟩
  | em d =>
    obtain ⟨a, h, q⟩ := h
    exact ⟨a, Den.ext0 e _ _ h, q⟩
  | ki fs =>
    obtain ⟨a, o, kvs, h1, h2, h3, q⟩ := h
    exact ⟨a, o, kvs, e.p _ h1, e.hp _ _ h1 h2, DiR.ext0 e h3, q⟩
theorem rdL_ref {d : DV} {a : Addr} {ds : List DV} (R : Rep K mg W S) (h : Den K W d (.ref a)) (e : rdL S d = some ds) : ∃ vs, SqL K W.H a vs ∧ Dens K W ds vs := by
  obtain ⟨b, vs, q, h1, h2⟩ := rdL_ok R h e
  cases q
  exact ⟨vs, h1, h2⟩
theorem rdT_ref {d : DV} {a : Addr} {ds : List DV} (h : Den K W d (.ref a)) (e : rdT d = some ds) : ∃ vs, SqT K W.H a vs ∧ Dens K W ds vs := by
  obtain ⟨b, vs, q, h1, h2⟩ := rdT_ok h e
  cases q
  exact ⟨vs, h1, h2⟩
theorem DiR.len : ∀ {fs : List (Int × DV)} {vs : List (Key × V)}, DiR K W fs vs → vs.length = fs.length
  | [], _, h => by
    cases (show _ = [] from h)
    rfl
  | p :: fs, _, h => by
    obtain ⟨u, r, rfl, _, h2⟩ := h
    simp [DiR.len h2]
theorem DiR.get {p : Int × DV} : ∀ {fs : List (Int × DV)} {vs : List (Key × V)} {i : Nat}, DiR K W fs vs → fs[i]? = some p → ∃ v, vs[i]? = some ((Sum.inl p.1 : Key), v) ∧ Den K W p.2 v
  | [], _, _, _, e => by cases e
  | q :: fs, _, 0, h, e => by
    obtain ⟨u, r, rfl, h1, _⟩ := h
    cases e
    exact ⟨u, rfl, h1⟩
  | q :: fs, _, i + 1, h, e => by
    obtain ⟨u, r, rfl, _, h2⟩ := h
    exact DiR.get (i := i) h2 e
theorem item_stop {it : DIt} {J : It} {i : Nat} (R : Rep K mg W S) (h : ItDen K W it J) (e : itemAt it S i = some none) : J.stop i W.H := by
  cases it with
  | li d =>
    obtain ⟨a, h, rfl⟩ := h
    simp only [itemAt] at e
    split at e
    · rename_i ds e1
      obtain ⟨vs, h1, h2⟩ := rdL_ref R h e1
      refine ⟨vs, h1, ?_⟩
      rw [h2.len]
      exact List.getElem?_eq_none_iff.mp (Option.some.inj e)
    · cases e
  | tu d =>
    obtain ⟨a, h, rfl⟩ := h
    simp only [itemAt] at e
    split at e
    · rename_i ds e1
      obtain ⟨vs, h1, h2⟩ := rdT_ref h e1
      refine ⟨vs, h1, ?_⟩
      rw [h2.len]
      exact List.getElem?_eq_none_iff.mp (Option.some.inj e)
    · cases e
  | rg lo n =>
    cases (show J = Itr lo n from h)
    simp only [itemAt] at e
    show n ≤ i
    by_cases hi : i < n
    · rw [if_pos hi] at e
      cases e
    · omega
  | en d =>
    obtain ⟨a, h, rfl⟩ := h
    simp only [itemAt] at e
    split at e
    · rename_i ds e1
      obtain ⟨vs, h1, h2⟩ := rdL_ref R h e1
      refine ⟨vs, h1, ?_⟩
      rw [h2.len]
      cases q : ds[i]? with
      | none => exact List.getElem?_eq_none_iff.mp q
      | some x =>
        rw [q] at e
        cases e
    · cases e
  | zp d f =>
    obtain ⟨a, b, h, h', rfl⟩ := h
    simp only [itemAt] at e
    split at e
    · rename_i xs ys e1 e2
      obtain ⟨vs, h1, h2⟩ := rdL_ref R h e1
      obtain ⟨us, h3, h4⟩ := rdL_ref R h' e2
      refine ⟨vs, us, h1, h3, ?_⟩
      rw [h2.len, h4.len]
      cases q : xs[i]? with
      | none => exact .inl (List.getElem?_eq_none_iff.mp q)
      | some x =>
        cases q' : ys[i]? with
        | none => exact .inr (List.getElem?_eq_none_iff.mp q')
        | some y =>
          rw [q, q'] at e
          cases e
    · cases e
  | z3 d f g =>
    obtain ⟨a, b, c, h, h', h'', rfl⟩ := h
    simp only [itemAt] at e
    split at e
    · rename_i xs ys zs e1 e2 e3
      obtain ⟨vs, h1, h2⟩ := rdL_ref R h e1
      obtain ⟨us, h3, h4⟩ := rdL_ref R h' e2
      obtain ⟨ws, h5, h6⟩ := rdL_ref R h'' e3
      split at e
      · rename_i hl
        refine ⟨vs, us, ws, h1, h3, h5, by rw [h2.len]; exact hl.1, by rw [h4.len]; exact hl.2.1, by rw [h6.len]; exact hl.2.2, ?_⟩
        rw [h2.len, h4.len, h6.len]
        cases q : xs[i]? with
        | none => exact .inl (Nat.le_antisymm hl.1 (List.getElem?_eq_none_iff.mp q))
        | some x =>
          cases q' : ys[i]? with
          | none => exact .inr (.inl (Nat.le_antisymm hl.2.1 (List.getElem?_eq_none_iff.mp q')))
          | some y =>
            cases q'' : zs[i]? with
            | none => exact .inr (.inr (Nat.le_antisymm hl.2.2 (List.getElem?_eq_none_iff.mp q'')))
            | some z =>
              rw [q, q', q''] at e
              cases e
      · cases e
    · cases e
  | zt d f =>
    obtain ⟨a, b, h, h', rfl⟩ := h
    simp only [itemAt] at e
    split at e
    · rename_i xs ys e1 e2
      obtain ⟨vs, h1, h2⟩ := rdT_ref h e1
      obtain ⟨us, h3, h4⟩ := rdT_ref h' e2
      refine ⟨vs, us, h1, h3, ?_⟩
      rw [h2.len, h4.len]
      cases q : xs[i]? with
      | none => exact .inl (List.getElem?_eq_none_iff.mp q)
      | some x =>
        cases q' : ys[i]? with
        | none => exact .inr (List.getElem?_eq_none_iff.mp q')
        | some y =>
          rw [q, q'] at e
          cases e
    · cases e
  | em d =>
    obtain ⟨a, h, rfl⟩ := h
    simp only [itemAt] at e
    split at e
    · rename_i e1
      obtain ⟨vs, h1, h2⟩ := rdT_ref h e1
      cases (show vs = [] from h2)
      exact h1
    · cases e
  | ki fs =>
    obtain ⟨a, o, kvs, h1, h2, h3, rfl⟩ := h
    simp only [itemAt, Option.some.injEq, Option.map_eq_none_iff] at e
    exact ⟨h2, by rw [h3.len]; exact List.getElem?_eq_none_iff.mp e⟩
theorem item_go {it : DIt} {J : It} {i : Nat} {d : DV} (R : Rep K mg W S) (h : ItDen K W it J) (e : itemAt it S i = some (some d)) :
    J.go i W.H ∧ ∀ x H', J.yld i W.H x H' → ∃ W', W'.H = H' ∧ Ext W W' ∧ Rep K mg W' S ∧ Den K W' d x := by
  cases it with
  | li d' =>
    obtain ⟨a, h, rfl⟩ := h
    simp only [itemAt] at e
    split at e
    · rename_i ds e1
      obtain ⟨vs, h1, h2⟩ := rdL_ref R h e1
      obtain ⟨v, h3, h4⟩ := h2.get (Option.some.inj e)
      refine ⟨⟨vs, v, h1, h3⟩, fun x H' y => ?_⟩
      obtain ⟨rfl, y⟩ := y
      have := (y vs h1).symm.trans h3
      cases this
      exact ⟨W, rfl, Ext.refl W, R, h4⟩
    · cases e
  | tu d' =>
    obtain ⟨a, h, rfl⟩ := h
    simp only [itemAt] at e
    split at e
    · rename_i ds e1
      obtain ⟨vs, h1, h2⟩ := rdT_ref h e1
      obtain ⟨v, h3, h4⟩ := h2.get (Option.some.inj e)
      refine ⟨⟨vs, v, h1, h3⟩, fun x H' y => ?_⟩
      obtain ⟨rfl, y⟩ := y
      have := (y vs h1).symm.trans h3
      cases this
      exact ⟨W, rfl, Ext.refl W, R, h4⟩
    · cases e
  | rg lo n =>
    cases (show J = Itr lo n from h)
    simp only [itemAt] at e
    by_cases hi : i < n
    · rw [if_pos hi] at e
      cases e
      refine ⟨hi, fun x H' y => ?_⟩
      obtain ⟨rfl, rfl⟩ := y
      exact ⟨W, rfl, Ext.refl W, R, rfl⟩
    · rw [if_neg hi] at e
      cases e
  | en d' =>
    obtain ⟨a, h, rfl⟩ := h
    simp only [itemAt] at e
    split at e
    · rename_i ds e1
      obtain ⟨vs, h1, h2⟩ := rdL_ref R h e1
      cases q : ds[i]? with
      | none =>
        rw [q] at e
        cases e
      | some x =>
        rw [q] at e
        cases e
        obtain ⟨v, h3, h4⟩ := h2.get q
        refine ⟨⟨vs, v, h1, h3⟩, fun x H' y => ?_⟩
        obtain ⟨T, u, rfl, hT, rfl, y⟩ := y
        have := (y vs h1).symm.trans h3
        cases this
        exact newT_ok R hT ⟨_, _, rfl, rfl, Dens.one h4⟩
    · cases e
  | em d' =>
    simp only [itemAt] at e
    split at e <;> cases e
  | zp d' f =>
    obtain ⟨a, b, h, h', rfl⟩ := h
    simp only [itemAt] at e
    split at e
    · rename_i xs ys e1 e2
      obtain ⟨vs, h1, h2⟩ := rdL_ref R h e1
      obtain ⟨us, h3, h4⟩ := rdL_ref R h' e2
      cases q : xs[i]? with
      | none =>
        rw [q] at e
        cases e
      | some x =>
        cases q' : ys[i]? with
        | none =>
          rw [q, q'] at e
          cases e
        | some y =>
          rw [q, q'] at e
          cases e
          obtain ⟨v, h5, h6⟩ := h2.get q
          obtain ⟨u, h7, h8⟩ := h4.get q'
          refine ⟨⟨vs, us, v, u, h1, h3, h5, h7⟩, fun x H' z => ?_⟩
          obtain ⟨T, x', y', rfl, hT, rfl, z1, z2⟩ := z
          have := (z1 vs h1).symm.trans h5
          cases this
          have := (z2 us h3).symm.trans h7
          cases this
          exact newT_ok R hT ⟨_, _, rfl, h6, Dens.one h8⟩
    · cases e
  | z3 d' f g =>
    obtain ⟨a, b, c, h, h', h'', rfl⟩ := h
    simp only [itemAt] at e
    split at e
    · rename_i xs ys zs e1 e2 e3
      obtain ⟨vs, h1, h2⟩ := rdL_ref R h e1
      obtain ⟨us, h3, h4⟩ := rdL_ref R h' e2
      obtain ⟨ws, h5, h6⟩ := rdL_ref R h'' e3
      split at e
      · cases q : xs[i]? with
        | none =>
          rw [q] at e
          cases e
        | some x =>
          cases q' : ys[i]? with
          | none =>
            rw [q, q'] at e
            cases e
          | some y =>
            cases q'' : zs[i]? with
            | none =>
              rw [q, q', q''] at e
              cases e
            | some z =>
              rw [q, q', q''] at e
              cases e
              obtain ⟨v, h7, h8⟩ := h2.get q
              obtain ⟨u, h9, h10⟩ := h4.get q'
              obtain ⟨y', h11, h12⟩ := h6.get q''
              refine ⟨⟨vs, us, ws, v, u, y', h1, h3, h5, h7, h9, h11⟩, fun x H' z => ?_⟩
              obtain ⟨T, x', y2, z2, rfl, hT, rfl, z1, z3, z4⟩ := z
              have := (z1 vs h1).symm.trans h7
              cases this
              have := (z3 us h3).symm.trans h9
              cases this
              have := (z4 ws h5).symm.trans h11
              cases this
              exact newT_ok R hT ⟨_, _, rfl, h8, _, _, rfl, h10, Dens.one h12⟩
      · cases e
    · cases e
  | zt d' f =>
    obtain ⟨a, b, h, h', rfl⟩ := h
    simp only [itemAt] at e
    split at e
    · rename_i xs ys e1 e2
      obtain ⟨vs, h1, h2⟩ := rdT_ref h e1
      obtain ⟨us, h3, h4⟩ := rdT_ref h' e2
      cases q : xs[i]? with
      | none =>
        rw [q] at e
        cases e
      | some x =>
        cases q' : ys[i]? with
        | none =>
          rw [q, q'] at e
          cases e
        | some y =>
          rw [q, q'] at e
          cases e
          obtain ⟨v, h5, h6⟩ := h2.get q
          obtain ⟨u, h7, h8⟩ := h4.get q'
          refine ⟨⟨vs, us, v, u, h1, h3, h5, h7⟩, fun x H' z => ?_⟩
          obtain ⟨T, x', y', rfl, hT, rfl, z1, z2⟩ := z
          have := (z1 vs h1).symm.trans h5
          cases this
          have := (z2 us h3).symm.trans h7
          cases this
          exact newT_ok R hT ⟨_, _, rfl, h6, Dens.one h8⟩
    · cases e
  | ki fs =>
    obtain ⟨a, o, kvs, h1, h2, h3, rfl⟩ := h
    simp only [itemAt, Option.some.injEq, Option.map_eq_some_iff] at e
    obtain ⟨p, e1, rfl⟩ := e
    obtain ⟨v, e2, e3⟩ := h3.get e1
    refine ⟨⟨h2, (List.getElem?_eq_some_iff.mp e2).1⟩, fun x H' y => ?_⟩
    obtain ⟨T, kk, u, e4, rfl, hT, rfl⟩ := y
    rw [e2] at e4
    cases e4
    exact newT_ok R hT ⟨_, _, rfl, rfl, Dens.one e3⟩

/-! ### how it begins -/
variable {tl te : TE} {fl fe : DE} {taa : TA} {faa : DA}
def diL (f : DE) : DI := fun s S => bnd (f s S) fun d S1 => if (rdL S1 d).isSome = true then some (.li d, S1) else none
theorem ri_list (h : RE K mg tl fl) : RI K mg (iList K tl) (diL fl) := by
  intro W σ s S it S' R Rp L e q
  obtain ⟨d, S1, e1, e⟩ := bnd_inv e
  split at e
  · rename_i hi
    cases e
    refine h W σ s S d _ _ Rp L e1 fun v W1 x1 R1 d1 => ?_
    obtain ⟨ds, hd⟩ := Option.isSome_iff_exists.mp hi
    obtain ⟨a, vs, rfl, h1, _⟩ := rdL_ok R1 d1 hd
    exact ⟨a, rfl, ⟨vs, h1⟩, q _ W1 x1 R1 ⟨a, d1, rfl⟩⟩
  · cases e
def diT (f : DE) : DI := fun s S => bnd (f s S) fun d S1 => if (rdT d).isSome = true then some (.tu d, S1) else none
theorem ri_tup (h : RE K mg tl fl) : RI K mg (iTup K tl) (diT fl) := by
  intro W σ s S it S' R Rp L e q
  obtain ⟨d, S1, e1, e⟩ := bnd_inv e
  split at e
  · rename_i hi
    cases e
    refine h W σ s S d _ _ Rp L e1 fun v W1 x1 R1 d1 => ?_
    obtain ⟨ds, hd⟩ := Option.isSome_iff_exists.mp hi
    obtain ⟨a, vs, rfl, h1, _⟩ := rdT_ok d1 hd
    exact ⟨a, rfl, ⟨vs, h1⟩, q _ W1 x1 R1 ⟨a, d1, rfl⟩⟩
  · cases e
noncomputable def diR1 (f : DA) : DI := fun s S => bnd (f s S) fun ds S1 => match ds with
  | [.int j] => gate (-(2 ^ 62) ≤ j ∧ j < 2 ^ 62) (some (.rg 0 j.toNat, S1))
  | _ => none
theorem ri_rng1 (h : RA K mg taa faa) : RI K mg (iRng1 taa) (diR1 faa) := by
  intro W σ s S it S' R Rp L e q
  obtain ⟨d, S1, e1, e⟩ := bnd_inv e
  split at e
  · rename_i j
    obtain ⟨hj, e⟩ := gate_inv e
    cases e
    refine h W σ s S _ _ _ Rp L e1 fun vs W1 x1 R1 d1 => ?_
    obtain ⟨v, r, rfl, hv, hr⟩ := d1
    cases (show v = V.int j from hv)
    cases (show r = [] from hr)
    exact ⟨j, rfl, hj.1, hj.2, q _ W1 x1 R1 rfl⟩
  · cases e
noncomputable def diR2 (f : DA) : DI := fun s S => bnd (f s S) fun ds S1 => match ds with
  | [.int i, .int j] => gate (-(2 ^ 62) ≤ i ∧ i < 2 ^ 62 ∧ -(2 ^ 62) ≤ j ∧ j < 2 ^ 62) (some (.rg i (j - i).toNat, S1))
  | _ => none
theorem ri_rng2 (h : RA K mg taa faa) : RI K mg (iRng2 taa) (diR2 faa) := by
  intro W σ s S it S' R Rp L e q
  obtain ⟨d, S1, e1, e⟩ := bnd_inv e
  split at e
  · rename_i i j
    obtain ⟨hj, e⟩ := gate_inv e
    cases e
    refine h W σ s S _ _ _ Rp L e1 fun vs W1 x1 R1 d1 => ?_
    obtain ⟨v, r, rfl, hv, u, r', rfl, hu, hr⟩ := d1
    cases (show v = V.int i from hv)
    cases (show u = V.int j from hu)
    cases (show r' = [] from hr)
    exact ⟨i, j, rfl, hj, q _ W1 x1 R1 rfl⟩
  · cases e
def diEE (f : DA) : DI := fun s S => bnd (f s S) fun ds S1 => match ds with
  | [.tup []] => some (.em (.tup []), S1)
  | [d] => if (rdL S1 d).isSome = true then some (.en d, S1) else none
  | _ => none
def iEnumB (K : PySem.W.Frag) (ta : TA) : TI := fun σ H R => ta σ H fun vs H1 => ∃ a, vs = [.ref a] ∧ ((∃ xs, SqL K H1 a xs ∧ R (Ite K a) H1) ∨ (SqT K H1 a [] ∧ R (IteE K a) H1))
theorem ri_enumB (h : RA K mg taa faa) : RI K mg (iEnumB K taa) (diEE faa) := by
  intro W σ s S it S' R Rp L e q
  obtain ⟨d, S1, e1, e⟩ := bnd_inv e
  split at e
  · cases e
    refine h W σ s S _ _ _ Rp L e1 fun vs W1 x1 R1 d1 => ?_
    obtain ⟨v, r, rfl, hv, hr⟩ := d1
    cases (show r = [] from hr)
    obtain ⟨a, vs, rfl, h1, h2⟩ := rdT_ok hv rfl
    cases (show vs = [] from h2)
    exact ⟨a, rfl, .inr ⟨h1, q _ W1 x1 R1 ⟨a, hv, rfl⟩⟩⟩
  · rename_i d
    split at e
    · rename_i hi
      cases e
      refine h W σ s S _ _ _ Rp L e1 fun vs W1 x1 R1 d1 => ?_
      obtain ⟨v, r, rfl, hv, hr⟩ := d1
      cases (show r = [] from hr)
      obtain ⟨ds, hd⟩ := Option.isSome_iff_exists.mp hi
      obtain ⟨a, vs, rfl, h1, _⟩ := rdL_ok R1 hv hd
      exact ⟨a, rfl, .inl ⟨vs, h1, q _ W1 x1 R1 ⟨a, hv, rfl⟩⟩⟩
    · cases e
  · cases e
def diE (f : DA) : DI := fun s S => bnd (f s S) fun ds S1 => match ds with
  | [d] => if (rdL S1 d).isSome = true then some (.en d, S1) else none
  | _ => none
theorem ri_enum (h : RA K mg taa faa) : RI K mg (iEnum K taa) (diE faa) := by
  intro W σ s S it S' R Rp L e q
  obtain ⟨d, S1, e1, e⟩ := bnd_inv e
  split at e
  · rename_i d
    split at e
    · rename_i hi
      cases e
      refine h W σ s S _ _ _ Rp L e1 fun vs W1 x1 R1 d1 => ?_
      obtain ⟨v, r, rfl, hv, hr⟩ := d1
      cases (show r = [] from hr)
      obtain ⟨ds, hd⟩ := Option.isSome_iff_exists.mp hi
      obtain ⟨a, vs, rfl, h1, _⟩ := rdL_ok R1 hv hd
      exact ⟨a, vs, rfl, h1, q _ W1 x1 R1 ⟨a, hv, rfl⟩⟩
    · cases e
  · cases e
def diZ (f : DA) : DI := fun s S => bnd (f s S) fun ds S1 => match ds with
  | [d, d'] => if (rdL S1 d).isSome = true ∧ (rdL S1 d').isSome = true then some (.zp d d', S1) else none
  | _ => none
theorem ri_zip (h : RA K mg taa faa) : RI K mg (iZip K taa) (diZ faa) := by
  intro W σ s S it S' R Rp L e q
  obtain ⟨d, S1, e1, e⟩ := bnd_inv e
  split at e
  · rename_i d d'
    split at e
    · rename_i hi
      cases e
      refine h W σ s S _ _ _ Rp L e1 fun vs W1 x1 R1 d1 => ?_
      obtain ⟨v, r, rfl, hv, u, r', rfl, hu, hr⟩ := d1
      cases (show r' = [] from hr)
      obtain ⟨ds, hd⟩ := Option.isSome_iff_exists.mp hi.1
      obtain ⟨ds', hd'⟩ := Option.isSome_iff_exists.mp hi.2
      obtain ⟨a, vs, rfl, h1, _⟩ := rdL_ok R1 hv hd
      obtain ⟨b, us, rfl, h2, _⟩ := rdL_ok R1 hu hd'
      exact ⟨a, b, vs, us, rfl, h1, h2, q _ W1 x1 R1 ⟨a, b, hv, hu, rfl⟩⟩
    · cases e
  · cases e
noncomputable def diZA (f : DA) : DI := fun s S => bnd (f s S) fun ds S1 => match ds with
  | [d, d'] => if (rdL S1 d).isSome = true ∧ (rdL S1 d').isSome = true then some (.zp d d', S1) else if (rdT d).isSome = true ∧ (rdT d').isSome = true then some (.zt d d', S1) else none
  | _ => none
theorem ri_zipA (h : RA K mg taa faa) : RI K mg (RZ.iZipA K taa) (diZA faa) := by
  intro W σ s S it S' R Rp L e q
  obtain ⟨d, S1, e1, e⟩ := bnd_inv e
  split at e
  · rename_i d d'
    split at e
    · rename_i hi
      cases e
      refine h W σ s S _ _ _ Rp L e1 fun vs W1 x1 R1 d1 => ?_
      obtain ⟨v, r, rfl, hv, u, r', rfl, hu, hr⟩ := d1
      cases (show r' = [] from hr)
      obtain ⟨ds, hd⟩ := Option.isSome_iff_exists.mp hi.1
      obtain ⟨ds', hd'⟩ := Option.isSome_iff_exists.mp hi.2
      obtain ⟨a, vs, rfl, h1, _⟩ := rdL_ok R1 hv hd
      obtain ⟨b, us, rfl, h2, _⟩ := rdL_ok R1 hu hd'
      exact ⟨a, b, vs, us, rfl, .inl ⟨h1, h2, q _ W1 x1 R1 ⟨a, b, hv, hu, rfl⟩⟩⟩
    · split at e
      · rename_i hi
        cases e
        refine h W σ s S _ _ _ Rp L e1 fun vs W1 x1 R1 d1 => ?_
        obtain ⟨v, r, rfl, hv, u, r', rfl, hu, hr⟩ := d1
        cases (show r' = [] from hr)
        obtain ⟨ds, hd⟩ := Option.isSome_iff_exists.mp hi.1
        obtain ⟨ds', hd'⟩ := Option.isSome_iff_exists.mp hi.2
        obtain ⟨a, vs, rfl, h1, _⟩ := rdT_ok hv hd
        obtain ⟨b, us, rfl, h2, _⟩ := rdT_ok hu hd'
        exact ⟨a, b, vs, us, rfl, .inr ⟨h1, h2, q _ W1 x1 R1 ⟨a, b, hv, hu, rfl⟩⟩⟩
      · cases e
  · cases e

noncomputable def diZ3 (f : DA) : DI := fun s S => bnd (f s S) fun ds S1 => match ds with
  | [d, d', d''] => if (rdL S1 d).isSome = true ∧ (rdL S1 d').isSome = true ∧ (rdL S1 d'').isSome = true then some (.z3 d d' d'', S1) else none
  | _ => none
theorem ri_zip3 (h : RA K mg taa faa) : RI K mg (iZip3 K taa) (diZ3 faa) := by
  intro W σ s S it S' R Rp L e q
  obtain ⟨d, S1, e1, e⟩ := bnd_inv e
  split at e
  · rename_i d d' d''
    split at e
    · rename_i hi
      cases e
      refine h W σ s S _ _ _ Rp L e1 fun vs W1 x1 R1 d1 => ?_
      obtain ⟨v, r, rfl, hv, u, r', rfl, hu, y, r'', rfl, hy, hr⟩ := d1
      cases (show r'' = [] from hr)
      obtain ⟨ds, hd⟩ := Option.isSome_iff_exists.mp hi.1
      obtain ⟨ds', hd'⟩ := Option.isSome_iff_exists.mp hi.2.1
      obtain ⟨ds'', hd''⟩ := Option.isSome_iff_exists.mp hi.2.2
      obtain ⟨a, vs, rfl, h1, _⟩ := rdL_ok R1 hv hd
      obtain ⟨b, us, rfl, h2, _⟩ := rdL_ok R1 hu hd'
      obtain ⟨c, ws, rfl, h3, _⟩ := rdL_ok R1 hy hd''
      exact ⟨a, b, c, vs, us, ws, rfl, h1, h2, h3, q _ W1 x1 R1 ⟨a, b, c, hv, hu, hy, rfl⟩⟩
    · cases e
  · cases e

end

/-! ### for, while -/
@[simp] def kLoop (r : Res) (next : DS) : Option Res := match r with
  | .nx s S => next s S
  | .ct s S => next s S
  | .bk s S => some (.nx s S)
  | .rt d S => some (.rt d S)
def forF (tgt : DG) (body : DS) (it : DIt) : Nat → Nat → DS
  | 0, _ => fun _ _ => none
  | k + 1, i => fun s S => match itemAt it S i with
    | none => none
    | some none => some (.nx s S)
    | some (some d) => match tgt d s S with
      | none => none
      | some p => match body p.1 p.2 with
        | none => none
        | some r => kLoop r (forF tgt body it k (i + 1))
def dFor (fi : DI) (tgt : DG) (body : DS) : DS := fun s S => bnd (fi s S) fun it S1 => forF tgt body it (itLen it S1 + 1) 0 s S1
def whileF (c : DT) (b : DS) : Nat → DS
  | 0 => fun _ _ => none
  | k + 1 => fun s S => bnd (c s S) fun t S1 => if t = true then (match b s S1 with
      | none => none
      | some r => kLoop r (whileF c b k)) else some (.nx s S1)
@[irreducible] def FUEL : Nat := 2 ^ 1000000
def dWhile (c : DT) (b : DS) : DS := whileF c b FUEL
section
variable {K : PySem.W.Frag} {mg : Str → Option Value} {wi : TI} {fi : DI} {tg : TG} {fg : DG} {tb : TS} {fb : DS} {tt : TT} {ft : DT}
theorem rs_for (hi : RI K mg wi fi) (hg : RG K mg tg fg) (hb : RS K mg tb fb) : RS K mg (tFor wi tg tb) (dFor fi fg fb) := by
  intro W σ s S r D R L e P
  obtain ⟨it, S1, e1, e⟩ := bnd_inv e
  refine hi W σ s S it S1 _ R L e1 fun J W1 x1 R1 hJ => ?_
  have P1 := P.ext x1
  refine ⟨fun i m σ' H' => ∃ W' s' S', W'.H = H' ∧ Ext W1 W' ∧ Rep K mg W' S' ∧ Slo K W' σ' s' ∧ forF fg fb it m i s' S' = some r,
    ⟨_, W1, s, S1, rfl, Ext.refl W1, R1, L.ext x1, e⟩, ?_⟩
  rintro i m σ2 H2 ⟨W2, s2, S2, rfl, x2, R2, L2', e2⟩
  have hJ2 := hJ.ext0 x2.toEx0
  cases m with
  | zero => cases e2
  | succ m =>
    unfold forF at e2
    split at e2
    · cases e2
    · rename_i hit
      cases e2
      exact .inl ⟨item_stop R2 hJ2 hit, P1 σ2 W2 x2 R2 L2'⟩
    · rename_i d hit
      obtain ⟨hgo, hy⟩ := item_go R2 hJ2 hit
      refine .inr ⟨hgo, fun σ' H' => ∃ W' s' S', W'.H = H' ∧ Ext W1 W' ∧ Rep K mg W' S' ∧ Slo K W' σ' s' ∧ forF fg fb it m (i + 1) s' S' = some r, fun σ' H' h => ⟨m, Nat.lt_succ_self m, h⟩, fun x H' y => ?_⟩
      obtain ⟨W3, rfl, x3, R3, d3⟩ := hy x H' y
      split at e2
      · cases e2
      · rename_i p ep
        refine hg W3 σ2 s2 S2 d x p.1 p.2 _ R3 (L2'.ext x3) d3 ep fun σ4 W4 x4 R4 L4 => ?_
        have x14 : Ext W1 W4 := (x2.trans x3).trans x4
        split at e2
        · cases e2
        · rename_i r' er
          refine hb W4 σ4 p.1 p.2 r' _ R4 L4 er ?_
          cases r' with
          | nx s5 S5 => exact fun σ5 W5 x5 R5 L5 => ⟨W5, s5, S5, rfl, x14.trans x5, R5, L5, e2⟩
          | ct s5 S5 => exact fun σ5 W5 x5 R5 L5 => ⟨W5, s5, S5, rfl, x14.trans x5, R5, L5, e2⟩
          | bk s5 S5 =>
            cases e2
            exact fun σ5 W5 x5 R5 L5 => P1 σ5 W5 (x14.trans x5) R5 L5
          | rt d5 S5 =>
            cases e2
            exact fun v W5 x5 R5 d5' => P1 v W5 (x14.trans x5) R5 d5'
theorem rs_while (hc : RT K mg tt ft) (hb : RS K mg tb fb) : RS K mg (tWhile tt tb) (dWhile ft fb) := by
  intro W σ s S r D R L e P
  refine ⟨fun m σ' H' => ∃ W' s' S', W'.H = H' ∧ Ext W W' ∧ Rep K mg W' S' ∧ Slo K W' σ' s' ∧ whileF ft fb m s' S' = some r,
    ⟨_, W, s, S, rfl, Ext.refl W, R, L, e⟩, ?_⟩
  rintro m σ2 H2 ⟨W2, s2, S2, rfl, x2, R2, L2', e2⟩
  cases m with
  | zero => cases e2
  | succ m =>
    unfold whileF at e2
    obtain ⟨t, S3, e3, e2⟩ := bnd_inv e2
    refine hc W2 σ2 s2 S2 t S3 _ R2 L2' e3 fun W3 x3 R3 => ?_
    cases t with
    | false =>
      rw [if_neg Bool.false_ne_true] at e2
      cases e2
      exact iteF (P σ2 W3 (x2.trans x3) R3 (L2'.ext x3))
    | true =>
      rw [if_pos rfl] at e2
      refine iteT ⟨fun σ' H' => ∃ W' s' S', W'.H = H' ∧ Ext W W' ∧ Rep K mg W' S' ∧ Slo K W' σ' s' ∧ whileF ft fb m s' S' = some r, fun σ' H' h => ⟨m, Nat.lt_succ_self m, h⟩, ?_⟩
      split at e2
      · cases e2
      · rename_i r' er
        refine hb W3 σ2 s2 S3 r' _ R3 (L2'.ext x3) er ?_
        have x13 : Ext W W3 := x2.trans x3
        cases r' with
        | nx s5 S5 => exact fun σ5 W5 x5 R5 L5 => ⟨W5, s5, S5, rfl, x13.trans x5, R5, L5, e2⟩
        | ct s5 S5 => exact fun σ5 W5 x5 R5 L5 => ⟨W5, s5, S5, rfl, x13.trans x5, R5, L5, e2⟩
        | bk s5 S5 =>
          cases e2
          exact fun σ5 W5 x5 R5 L5 => P σ5 W5 (x13.trans x5) R5 L5
        | rt d5 S5 =>
          cases e2
          exact fun v W5 x5 R5 d5' => P v W5 (x13.trans x5) R5 d5'
end

/-! ### list comprehensions -/
@[simp] def wipeD (s : Sl) : List Nat → Sl
  | [] => s
  | v :: vs => (wipeD s vs).set v none
theorem wipe_get (σ : St) : ∀ (vs : List Nat) (j : Nat), (wipe σ vs)[j]? = if j ∈ vs ∧ j < σ.length then some none else σ[j]?
  | [], j => by simp [wipe]
  | v :: vs, j => by
    show ((wipe σ vs).set v none)[j]? = _
    rw [List.getElem?_set, wipe_length, wipe_get σ vs j]
    by_cases h : v = j
    · subst h
      by_cases hl : v < σ.length
      · simp [hl]
      · have : σ[v]? = none := List.getElem?_eq_none (by omega)
        simp [hl, this]
    · simp only [h, if_false, List.mem_cons]
      have h' : ¬ j = v := fun e => h e.symm
      simp [h']
theorem wipeD_get (s : Sl) : ∀ (vs : List Nat) (j : Nat), (wipeD s vs)[j]? = if j ∈ vs ∧ j < s.length then some none else s[j]?
  | [], j => by simp [wipeD]
  | v :: vs, j => by
    have hlen : ∀ vs : List Nat, (wipeD s vs).length = s.length := by
      intro vs
      induction vs with
      | nil => rfl
      | cons w ws ih => simp [wipeD, ih]
    show ((wipeD s vs).set v none)[j]? = _
    rw [List.getElem?_set, hlen, wipeD_get s vs j]
    by_cases h : v = j
    · subst h
      by_cases hl : v < s.length
      · simp [hl]
      · have : s[v]? = none := List.getElem?_eq_none (by omega)
        simp [hl, this]
    · simp only [h, if_false, List.mem_cons]
      have h' : ¬ j = v := fun e => h e.symm
      simp [h']
theorem wipeD_length (s : Sl) : ∀ vs : List Nat, (wipeD s vs).length = s.length
  | [] => rfl
  | v :: vs => by simp [wipeD, wipeD_length s vs]
theorem wipe_wipe (σ : St) (vs : List Nat) : wipe (wipe σ vs) vs = wipe σ vs := by
  apply List.ext_getElem?
  intro j
  rw [wipe_get, wipe_get, wipe_length]
  split <;> rfl
theorem wipe_set (σ : St) (vs : List Nat) {i : Nat} (hi : i ∈ vs) (x : Option V) : wipe (σ.set i x) vs = wipe σ vs := by
  apply List.ext_getElem?
  intro j
  rw [wipe_get, wipe_get, List.length_set, List.getElem?_set]
  by_cases h : j ∈ vs ∧ j < σ.length
  · rw [if_pos h, if_pos h]
  · rw [if_neg h, if_neg h]
    by_cases e : i = j
    · subst e
      have : ¬ i < σ.length := fun q => h ⟨hi, q⟩
      rw [if_pos rfl, if_neg this, List.getElem?_eq_none (by omega)]
    · rw [if_neg e]
theorem Slo.wipe {K : PySem.W.Frag} {W : Wd} {σ : St} {s : Sl} (L : Slo K W σ s) (vs : List Nat) : Slo K W (L2.wipe σ vs) (wipeD s vs) := by
  refine ⟨by rw [wipe_length, wipeD_length, L.1], fun i d h => ?_⟩
  rw [wipeD_get] at h
  by_cases hv : i ∈ vs ∧ i < s.length
  · rw [if_pos hv] at h
    cases h
  · rw [if_neg hv] at h
    obtain ⟨v, h1, h2⟩ := L.2 i d h
    refine ⟨v, ?_, h2⟩
    rw [wipe_get, L.1, if_neg hv]
    exact h1
section
variable (K : PySem.W.Frag) (mg : Str → Option Value)
/-- a target whose names are the block's own -/
def RGv (vs : List Nat) (g : TG) (f : DG) : Prop := ∀ (W : Wd) (σ : St) (s : Sl) (S : Sto) (d : DV) (v : V) (s' : Sl) (S' : Sto) (Q : St → Hp → Prop), Rep K mg W S → Slo K W σ s → Den K W d v → f d s S = some (s', S') →
  (∀ σ', L2.wipe σ' vs = L2.wipe σ vs → S' = S → Slo K W σ' s' → Q σ' W.H) → g v σ W.H Q
def RGsv (ws : List Nat) (g : TGs) (f : DGs) : Prop := ∀ (W : Wd) (σ : St) (s : Sl) (S : Sto) (ds : List DV) (vs : List V) (s' : Sl) (S' : Sto) (Q : St → Hp → Prop), Rep K mg W S → Slo K W σ s → Dens K W ds vs → f ds s S = some (s', S') →
  (∀ σ', L2.wipe σ' ws = L2.wipe σ ws → S' = S → Slo K W σ' s' → Q σ' W.H) → g vs σ W.H Q
end
section
variable {K : PySem.W.Frag} {mg : Str → Option Value} {vs : List Nat} {i n : Nat} {tg : TG} {fg : DG} {tgs : TGs} {fgs : DGs}
theorem rgv_name (hi : i ∈ vs) : RGv K mg vs (gName i) (dName i) := by
  intro W σ s S d v s' S' Q R L hd e q
  cases e
  exact q _ (wipe_set σ vs hi _) rfl (L.set i hd)
theorem rgsv_nil : RGsv K mg vs gNil dGNil := by
  intro W σ s S ds us s' S' Q R L hd e q
  unfold dGNil at e
  split at e
  · cases e
    exact ⟨hd, q σ rfl rfl L⟩
  · cases e
theorem rgsv_cons (h1 : RGv K mg vs tg fg) (h2 : RGsv K mg vs tgs fgs) : RGsv K mg vs (gCons tg tgs) (dGCons fg fgs) := by
  intro W σ s S ds us s' S' Q R L hd e q
  unfold dGCons at e
  split at e
  · cases e
  · rename_i d r
    split at e
    · cases e
    · rename_i p e1
      obtain ⟨v, us, rfl, d1, d2⟩ := hd
      refine ⟨v, us, rfl, h1 W σ s S d v p.1 p.2 _ R L d1 e1 fun σ1 w1 s1 L1 => ?_⟩
      exact h2 W σ1 p.1 p.2 r us s' S' Q (s1 ▸ R) L1 d2 e fun σ2 w2 s2 L2 => q σ2 (w2.trans w1) (s2.trans s1) L2
theorem rgv_tup (h : RGsv K mg vs tgs fgs) : RGv K mg vs (gTup K n tgs) (dGTup n fgs) := by
  intro W σ s S d v s' S' Q R L hd e q
  unfold dGTup at e
  split at e
  · rename_i ds
    split at e
    · rename_i hl
      obtain ⟨a, us, rfl, h1, h2⟩ := hd
      exact ⟨a, us, rfl, h1.1, by rw [h2.len]; exact hl, h W σ s S ds us s' S' Q R L h2 e q⟩
    · cases e
  · cases e
end
@[simp] def dYes : DT := fun _ S => some (true, S)
theorem rt_yes {K : PySem.W.Frag} {mg : Str → Option Value} : RT K mg tYes dYes := by
  intro W σ s S b S' Q R L e q
  cases e
  exact q W (Ext.refl W) R
def lcF (tgt : DG) (tt : DT) (te : DE) (it : DIt) (vs : List Nat) : Nat → Nat → List DV → Sl → Sto → Option (List DV × Sto)
  | 0, _, _, _, _ => none
  | k + 1, i, acc, s, S => match itemAt it S i with
    | none => none
    | some none => some (acc, S)
    | some (some d) => match tgt d (wipeD s vs) S with
      | none => none
      | some p => bnd (tt p.1 p.2) fun b S2 => if b = true then bnd (te p.1 S2) fun y S3 => lcF tgt tt te it vs k (i + 1) (acc ++ [y]) s S3 else lcF tgt tt te it vs k (i + 1) acc s S2
noncomputable def dLc (m : Bool) (fi : DI) (tgt : DG) (tt : DT) (te : DE) (vs : List Nat) : DE := fun s S => bnd (fi s S) fun it S1 => bnd (lcF tgt tt te it vs (itLen it S1 + 1) 0 [] s S1) fun acc S2 => gate (acc.length ≤ 100000) (some (newL m acc S2))
theorem lcF_len {tgt : DG} {tt : DT} {te : DE} {it : DIt} {vs : List Nat} : ∀ (k i : Nat) (acc : List DV) (s : Sl) (S : Sto) (acc' : List DV) (S' : Sto), lcF tgt tt te it vs k i acc s S = some (acc', S') → acc.length ≤ acc'.length
  | 0, _, _, _, _, _, _, h => by cases h
  | k + 1, i, acc, s, S, acc', S', h => by
    unfold lcF at h
    split at h
    · cases h
    · cases h
      exact Nat.le_refl _
    · split at h
      · cases h
      · obtain ⟨b, S2, _, h⟩ := bnd_inv h
        split at h
        · obtain ⟨y, S3, _, h⟩ := bnd_inv h
          have := lcF_len k (i + 1) _ s S3 acc' S' h
          rw [List.length_append, List.length_singleton] at this
          omega
        · exact lcF_len k (i + 1) _ s S2 acc' S' h
section
variable {K : PySem.W.Frag} {mg : Str → Option Value} {W : Wd} {S : Sto}
/-- a list that stands alone -/
def Wd.loose (W : Wd) (p : Addr) (o : HO) : Wd := ⟨W.P, W.α, upd W.H p o⟩
theorem ex0_loose {p : Addr} {o : HO} (hp : ¬ W.P p) : Ex0 W (W.loose p o) where
  p := fun _ h => h
  al := List.prefix_refl _
  hp := fun a u h e => (upd_ne (fun z => hp (by rw [← z]; exact h))).trans e
theorem rep_loose {p : Addr} {o : HO} (R : Rep K mg W S) (hp : ¬ W.P p) (ha : p ∉ W.α) (hl : (∀ ps, W.H p ≠ some (.tbl ps)) ∧ ∀ c q, W.H p ≠ some (LamX.CodeO c q)) : Rep K mg (W.loose p o) S where
  len := R.len
  nd := R.nd
  dj := R.dj
  al := fun a h => by
    show upd W.H p o a ≠ none
    by_cases e : a = p
    · subst e; rw [upd_same]; exact fun z => by cases z
    · rw [upd_ne e]
      exact R.al a h
  ob := fun n mo a h1 h2 => by
    have h3 : W.α[n]? = some a := h2
    have hne : a ≠ p := fun z => ha (by rw [← z]; exact List.mem_of_getElem? h3)
    exact (R.ob n mo a h1 h3).ext0 (ex0_loose hp) (upd_ne hne)
  tb := tabs_upd R.tb hl.1 hl.2
  tp := R.tp
theorem plain_none {H : Hp} {p : Addr} (h : H p = none) : (∀ ps, H p ≠ some (.tbl ps)) ∧ ∀ c q, H p ≠ some (LamX.CodeO c q) := ⟨fun ps z => (by rw [h] at z; cases z), fun c q z => (by rw [h] at z; cases z)⟩
theorem plain_lst {H : Hp} {p : Addr} {vs : List V} (h : H p = some (.lst vs)) : (∀ ps, H p ≠ some (.tbl ps)) ∧ ∀ c q, H p ≠ some (LamX.CodeO c q) := ⟨fun ps z => (by rw [h] at z; cases z), fun c q z => (by rw [h] at z; unfold LamX.CodeO at z; cases z)⟩
theorem ext_loose {W0 : Wd} {p : Addr} {o : HO} (e : Ext W0 W) (h0 : W0.H p = none) (hp : ¬ W.P p) (ha : p ∉ W.α) : Ext W0 (W.loose p o) where
  p := e.p
  pn := e.pn
  al := e.al
  an := e.an
  hp := fun a u h q => (upd_ne (ne_of_none q h0)).trans (e.hp a u h q)
  h := fun a u h n q => (upd_ne (ne_of_none q h0)).trans (e.h a u h n q)
  dom := fun a h => by
    have z : upd W.H p o a = none := h
    by_cases q : a = p
    · subst q; exact h0
    · rw [upd_ne q] at z
      exact e.dom a z
/-- it is kept -/
theorem newL_at {m : Bool} {ds : List DV} {vs : List V} {d : DV} {S' : Sto} {p : Addr} (R : Rep K mg W S) (hD : W.H p = some (.lst vs)) (hp : ¬ W.P p) (ha : p ∉ W.α) (h : Dens K W ds vs) (e : newL m ds S = (d, S')) :
    ∃ W', W'.H = W.H ∧ (∀ W0, Ext W0 W → W0.H p = none → Ext W0 W') ∧ Rep K mg W' S' ∧ Den K W' d (.ref p) := by
  unfold newL at e
  cases m with
  | true =>
    cases e
    have x0 : Ex0 W ⟨W.P, W.α ++ [p], W.H⟩ := ⟨fun _ h => h, List.prefix_append _ _, fun _ _ _ h => h⟩
    refine ⟨⟨W.P, W.α ++ [p], W.H⟩, rfl, fun W0 x hn => ?_, ?_, p, ?_, rfl⟩
    · exact { p := x.p, pn := x.pn, al := x.al.trans (List.prefix_append _ _), an := fun a h => by
                rcases List.mem_append.mp h with h | h
                · exact x.an a h
                · cases List.mem_singleton.mp h
                  exact .inr hn
              hp := x.hp, h := x.h, dom := x.dom }
    · refine ⟨by simp [R.len], ?_, fun a h q => ?_, R.al, fun n mo a h1 h2 => ?_, R.tb, R.tp⟩
      · refine List.nodup_append.mpr ⟨R.nd, by simp, fun a h b hb => ?_⟩
        cases List.mem_singleton.mp hb
        exact fun z => ha (by rw [← z]; exact h)
      · rcases List.mem_append.mp h with h | h
        · exact R.dj a h q
        · cases List.mem_singleton.mp h
          exact hp q
      · have h2 : (W.α ++ [p])[n]? = some a := h2
        by_cases hn : n < S.length
        · rw [List.getElem?_append_left hn] at h1
          rw [List.getElem?_append_left (by rw [R.len]; exact hn)] at h2
          exact (R.ob n mo a h1 h2).ext0 x0 rfl
        · have hl : n < (S ++ [MO.ml ds]).length := (List.getElem?_eq_some_iff.mp h1).1
          have e : n = S.length := by
            rw [List.length_append, List.length_singleton] at hl
            omega
          subst e
          rw [List.getElem?_concat_length] at h1
          rw [← R.len, List.getElem?_concat_length] at h2
          cases h1
          cases h2
          exact ⟨vs, hD, Dens.ext0 x0 _ _ h⟩
    · show (W.α ++ [p])[S.length]? = some p
      rw [← R.len, List.getElem?_concat_length]
  | false =>
    cases e
    have x0 : Ex0 W ⟨fun a => W.P a ∨ a = p, W.α, W.H⟩ := ⟨fun _ h => .inl h, List.prefix_refl _, fun _ _ _ h => h⟩
    refine ⟨⟨fun a => W.P a ∨ a = p, W.α, W.H⟩, rfl, fun W0 x hn => ?_, ?_, p, vs, rfl, ⟨.inr rfl, hD⟩, Dens.ext0 x0 _ _ h⟩
    · exact { p := fun a h => .inl (x.p a h), pn := fun a h => by
                rcases h with h | rfl
                · exact x.pn a h
                · exact .inr hn
              al := x.al, an := x.an, hp := x.hp, h := x.h, dom := x.dom }
    · refine ⟨R.len, R.nd, fun a h q => ?_, fun a h => ?_, fun n mo a h1 h2 => (R.ob n mo a h1 h2).ext0 x0 rfl, R.tb, fun t ht q => q.elim (R.tp t ht) fun z => by
        obtain ⟨ps, e, _⟩ := R.tb t ht
        rw [z, hD] at e
        cases e⟩
      · rcases q with q | rfl
        · exact R.dj a h q
        · exact ha h
      · rcases h with h | rfl
        · exact R.al a h
        · rw [hD]
          exact fun z => by cases z
variable {wi : TI} {fi : DI} {tg : TG} {fg : DG} {tt : TT} {ft : DT} {te : TE} {fe : DE} {vs : List Nat}
theorem re_lc {m : Bool} (hi : RI K mg wi fi) (hg : RGv K mg vs tg fg) (ht : RT K mg tt ft) (he : RE K mg te fe) : RE K mg (tLc wi tg tt te vs) (dLc m fi fg ft fe vs) := by
  intro W σ s S d S' Q R L e q
  obtain ⟨it, S1, e1, e⟩ := bnd_inv e
  obtain ⟨accE, SE, eE, e⟩ := bnd_inv e
  obtain ⟨hlim, e⟩ := gate_inv e
  have eN := Option.some.inj e
  refine hi W σ s S it S1 _ R L e1 fun J W1 x1 R1 hJ D hD => ?_
  have nP1 : ¬ W1.P D := fun h => R1.al D h hD
  have na1 : D ∉ W1.α := fun h => R1.there h hD
  refine ⟨fun i k H' => ∃ W' acc vsA S', W'.H = H' ∧ Ext W1 W' ∧ Rep K mg W' S' ∧ ¬ W'.P D ∧ D ∉ W'.α ∧ W'.H D = some (.lst vsA) ∧ Dens K W' acc vsA ∧ lcF fg ft fe it vs k i acc s S' = some (accE, SE),
    ⟨_, W1.loose D (.lst []), [], [], S1, rfl, ext_loose (Ext.refl W1) hD nP1 na1, rep_loose R1 nP1 na1 (plain_none hD), nP1, na1, upd_same, rfl, eE⟩, ?_⟩
  rintro i k H2 ⟨W2, acc, vsA, S2, rfl, x2, R2, nP2, na2, hD2, dA, e2⟩
  have hJ2 := hJ.ext0 x2.toEx0
  cases k with
  | zero => cases e2
  | succ k =>
    unfold lcF at e2
    split at e2
    · cases e2
    · rename_i hit
      cases e2
      refine .inl ⟨item_stop R2 hJ2 hit, ?_⟩
      obtain ⟨W3, h3, x3, R3, d3⟩ := newL_at R2 hD2 nP2 na2 dA eN
      rw [← h3]
      exact q _ W3 (x1.trans (x3 W1 x2 hD)) R3 d3
    · rename_i dd hit
      obtain ⟨hgo, hy⟩ := item_go R2 hJ2 hit
      refine .inr ⟨hgo, fun H' => ∃ W' acc vsA S', W'.H = H' ∧ Ext W1 W' ∧ Rep K mg W' S' ∧ ¬ W'.P D ∧ D ∉ W'.α ∧ W'.H D = some (.lst vsA) ∧ Dens K W' acc vsA ∧ lcF fg ft fe it vs k (i + 1) acc s S' = some (accE, SE), fun H' h => ⟨k, Nat.lt_succ_self k, h⟩, fun x H' y => ?_⟩
      obtain ⟨W3, rfl, x3, R3, d3⟩ := hy x H' y
      split at e2
      · cases e2
      · rename_i p ep
        obtain ⟨b, S4, e4, e2⟩ := bnd_inv e2
        refine hg W3 (L2.wipe σ vs) (wipeD s vs) S2 dd x p.1 p.2 _ R3 ((L.ext ((x1.trans x2).trans x3)).wipe vs) d3 ep fun σ4 hw hs L4 => ?_
        refine ⟨hw.trans (wipe_wipe σ vs), ?_⟩
        have R3' : Rep K mg W3 p.2 := hs ▸ R3
        refine ht W3 σ4 p.1 p.2 b S4 _ R3' L4 e4 fun W4 x4 R4 => ?_
        have x24 : Ext W2 W4 := x3.trans x4
        have nD : ∀ {W' : Wd}, Ext W2 W' → ¬ W'.P D ∧ D ∉ W'.α ∧ W'.H D = some (.lst vsA) := fun {W'} z =>
          ⟨fun h => (z.pn D h).elim nP2 fun g => (by rw [hD2] at g; cases g), fun h => (z.an D h).elim na2 fun g => (by rw [hD2] at g; cases g), z.h D _ na2 (fun _ z => by cases z) hD2⟩
        cases b with
        | false =>
          rw [if_neg Bool.false_ne_true] at e2
          obtain ⟨n1, n2, n3⟩ := nD x24
          exact iteF ⟨W4, acc, vsA, S4, rfl, x2.trans x24, R4, n1, n2, n3, Dens.ext x24 _ _ dA, e2⟩
        | true =>
          rw [if_pos rfl] at e2
          obtain ⟨yv, S5, e5, e2⟩ := bnd_inv e2
          refine iteT (he W4 σ4 p.1 S4 yv S5 _ R4 (L4.ext x4) e5 fun v5 W5 x5 R5 d5 => ?_)
          have x25 := x24.trans x5
          obtain ⟨n1, n2, n3⟩ := nD x25
          have dA5 := Dens.ext x25 _ _ dA
          have hlen := lcF_len k (i + 1) _ s S5 accE SE e2
          rw [List.length_append, List.length_singleton] at hlen
          refine ⟨vsA, n3, by rw [dA5.len]; exact lim_lt (by omega), W5.loose D (.lst (vsA ++ [v5])), acc ++ [yv], vsA ++ [v5], S5, rfl, ext_loose (x2.trans x25) hD n1 n2, rep_loose R5 n1 n2 (plain_lst n3), n1, n2, upd_same, ?_, e2⟩
          exact Dens.ext0 (ex0_loose n1) _ _ (dA5.app (Dens.one d5))
end
end DL
end
section
namespace DL
open PySem PyProof.Rows PySem.Spec L2

/-! ### a def as a function of data -/
mutual
def clo (n : Nat) : DV → Bool
  | .ptr k => decide (k < n)
  | .tup ds => clos n ds
  | .lst ds => clos n ds
  | .rls ds => clos n ds
  | _ => true
def clos (n : Nat) : List DV → Bool
  | [] => true
  | d :: ds => clo n d && clos n ds
end
def cloM (n : Nat) : MO → Bool
  | .ml ds => clos n ds
  | .ins _ fs => fs.all fun p => clo n p.2
  | .dct fs => fs.all fun p => clo n p.2
  | .dci fs => fs.all fun p => clo n p.2
@[simp] def startD (n : Nat) (ds : List DV) : Sl := ds.map some ++ List.replicate (n - ds.length) none
def exR (m : Bool) (n0 : Nat) (d : DV) (S' : Sto) : Option (DV × Sto) := match d with
  | .ptr n => if n < n0 then some (.ptr n, S'.take n0) else match S'[n]? with
    | some (.ml ds) => if clos n0 ds = true then some (newL m ds (S'.take n0)) else none
    | _ => none
  | d => if clo n0 d = true then some (d, S'.take n0) else none
open Classical in
noncomputable def exF1 (m : Bool) (S : Sto) (d : DV) (S' : Sto) : Option (DV × Sto) :=
  if S'.length = S.length then some (d, S')
  else if S.length < S'.length ∧ (∀ n : Nat, n < S.length → S'[n]? = S[n]? ∨ ∃ mo, S'[n]? = some mo ∧ cloM S.length mo = true) then exR m S.length d S'
  else none
/-- none: all is handed on; some false: the result is frozen, the rest forgotten; some true: the result stays a list that may change -/
noncomputable def exF (m : Option Bool) (S : Sto) (d : DV) (S' : Sto) : Option (DV × Sto) := match m with
  | none => some (d, S')
  | some m => exF1 m S d S'
noncomputable def fnF (m : Option Bool) (n : Nat) (body : DS) : List DV → Sto → Option (DV × Sto) := fun ds S => match body (startD n ds) S with
  | some (.nx _ S') => exF m S .non S'
  | some (.rt d S') => exF m S d S'
  | _ => none
section
variable {K : PySem.W.Frag} {mg : Str → Option Value} {W W' : Wd} {S : Sto}
mutual
theorem Den.clo : ∀ {d : DV} {v : V}, Den K W d v → clo W.α.length d = true
  | .non, _, _ => rfl
  | .bl _, _, _ => rfl
  | .int _, _, _ => rfl
  | .str _, _, _ => rfl
  | .ty _, _, _ => rfl
  | .tup ds, _, h => by
    obtain ⟨a, vs, _, _, h⟩ := h
    exact Dens.clos (ds := ds) h
  | .lst ds, _, h => by
    obtain ⟨a, vs, _, _, h⟩ := h
    exact Dens.clos (ds := ds) h
  | .rls ds, _, h => by
    obtain ⟨a, vs, _, _, h⟩ := h
    exact Dens.clos (ds := ds) h
  | .ptr n, _, h => by
    obtain ⟨a, h, _⟩ := h
    exact decide_eq_true (List.getElem?_eq_some_iff.mp h).1
theorem Dens.clos : ∀ {ds : List DV} {vs : List V}, Dens K W ds vs → clos W.α.length ds = true
  | [], _, _ => rfl
  | d :: ds, _, h => by
    obtain ⟨v, r, _, h1, h2⟩ := h
    show (DL.clo _ d && DL.clos _ ds) = true
    rw [Den.clo h1, Dens.clos h2]
    rfl
end
theorem FsR.clos : ∀ {fs : List (Str × DV)} {vs : List (Str × V)}, FsR K W fs vs → (fs.all fun p => clo W.α.length p.2) = true
  | [], _, _ => rfl
  | p :: fs, _, h => by
    obtain ⟨v, r, _, h1, h2⟩ := h
    rw [List.all_cons, Den.clo h1, FsR.clos h2]
    rfl
theorem DkR.clos : ∀ {fs : List (Str × DV)} {vs : List (Key × V)}, DkR K W fs vs → (fs.all fun p => DL.clo W.α.length p.2) = true
  | [], _, _ => rfl
  | p :: fs, _, h => by
    obtain ⟨v, r, _, h1, h2⟩ := h
    rw [List.all_cons, Den.clo h1, DkR.clos h2]
    rfl
theorem DiR.clos : ∀ {fs : List (Int × DV)} {vs : List (Key × V)}, DiR K W fs vs → (fs.all fun p => DL.clo W.α.length p.2) = true
  | [], _, _ => rfl
  | p :: fs, _, h => by
    obtain ⟨v, r, _, h1, h2⟩ := h
    rw [List.all_cons, Den.clo h1, DiR.clos h2]
    rfl
theorem ObjR.clo {a : Addr} {mo : MO} (h : ObjR K mg W a mo) : cloM W.α.length mo = true := by
  cases mo with
  | ml ds =>
    obtain ⟨vs, _, h⟩ := h
    exact Dens.clos h
  | ins c fs =>
    obtain ⟨_, _, vs, _, _, h⟩ := h
    exact FsR.clos h
  | dct fs =>
    obtain ⟨vs, _, h⟩ := h
    exact DkR.clos h
  | dci fs =>
    obtain ⟨vs, _, h⟩ := h
    exact DiR.clos h
/-- the store cut back -/
def Wd.cut (W : Wd) (α : List Addr) : Wd := ⟨W.P, α, W.H⟩
section
variable {α : List Addr} (hα : α <+: W.α)
include hα
mutual
theorem Den.cut : ∀ {d : DV} {v : V}, DL.clo α.length d = true → Den K W d v → Den K (W.cut α) d v
  | .non, _, _, h => h
  | .bl _, _, _, h => h
  | .int _, _, _, h => h
  | .str _, _, _, h => h
  | .ty _, _, _, h => h
  | .tup ds, _, c, h => by
    obtain ⟨a, vs, e, s, h⟩ := h
    exact ⟨a, vs, e, s, Dens.cut (ds := ds) c h⟩
  | .lst ds, _, c, h => by
    obtain ⟨a, vs, e, s, h⟩ := h
    exact ⟨a, vs, e, s, Dens.cut (ds := ds) c h⟩
  | .rls ds, _, c, h => by
    obtain ⟨a, vs, e, s, h⟩ := h
    exact ⟨a, vs, e, s, Dens.cut (ds := ds) c h⟩
  | .ptr n, _, c, h => by
    obtain ⟨a, h, e⟩ := h
    refine ⟨a, ?_, e⟩
    have hn : n < α.length := of_decide_eq_true c
    obtain ⟨t, ht⟩ := hα
    rw [← ht, List.getElem?_append_left hn] at h
    exact h
theorem Dens.cut : ∀ {ds : List DV} {vs : List V}, DL.clos α.length ds = true → Dens K W ds vs → Dens K (W.cut α) ds vs
  | [], _, _, h => h
  | d :: ds, _, c, h => by
    obtain ⟨v, r, e, h1, h2⟩ := h
    have c' : (DL.clo α.length d && DL.clos α.length ds) = true := c
    rw [Bool.and_eq_true] at c'
    exact ⟨v, r, e, Den.cut c'.1 h1, Dens.cut c'.2 h2⟩
end
theorem FsR.cut : ∀ {fs : List (Str × DV)} {vs : List (Str × V)}, (fs.all fun p => DL.clo α.length p.2) = true → FsR K W fs vs → FsR K (W.cut α) fs vs
  | [], _, _, h => h
  | p :: fs, _, c, h => by
    obtain ⟨v, r, e, h1, h2⟩ := h
    rw [List.all_cons, Bool.and_eq_true] at c
    exact ⟨v, r, e, Den.cut hα c.1 h1, FsR.cut c.2 h2⟩
theorem DkR.cut : ∀ {fs : List (Str × DV)} {vs : List (Key × V)}, (fs.all fun p => DL.clo α.length p.2) = true → DkR K W fs vs → DkR K (W.cut α) fs vs
  | [], _, _, h => h
  | p :: fs, _, c, h => by
    obtain ⟨v, r, e, h1, h2⟩ := h
    rw [List.all_cons, Bool.and_eq_true] at c
    exact ⟨v, r, e, Den.cut hα c.1 h1, DkR.cut c.2 h2⟩
theorem DiR.cut : ∀ {fs : List (Int × DV)} {vs : List (Key × V)}, (fs.all fun p => DL.clo α.length p.2) = true → DiR K W fs vs → DiR K (W.cut α) fs vs
  | [], _, _, h => h
  | p :: fs, _, c, h => by
    obtain ⟨v, r, e, h1, h2⟩ := h
    rw [List.all_cons, Bool.and_eq_true] at c
    exact ⟨v, r, e, Den.cut hα c.1 h1, DiR.cut c.2 h2⟩
theorem ObjR.cut {a : Addr} {mo : MO} (c : cloM α.length mo = true) (h : ObjR K mg W a mo) : ObjR K mg (W.cut α) a mo := by
  cases mo with
  | ml ds =>
    obtain ⟨vs, e, h⟩ := h
    exact ⟨vs, e, Dens.cut hα c h⟩
  | ins cc fs =>
    obtain ⟨C, dx, vs, e1, e2, h⟩ := h
    exact ⟨C, dx, vs, e1, e2, FsR.cut hα c h⟩
  | dct ff =>
    obtain ⟨vs, e1, h⟩ := h
    exact ⟨vs, e1, DkR.cut hα c h⟩
  | dci ff =>
    obtain ⟨vs, e1, h⟩ := h
    exact ⟨vs, e1, DiR.cut hα c h⟩
end
theorem exF1_ok {m : Bool} {d d2 : DV} {S' S2 : Sto} {v : V} (R : Rep K mg W S) (x : Ext W W') (R' : Rep K mg W' S') (h : Den K W' d v) (e : exF1 m S d S' = some (d2, S2)) :
    ∃ W2, W2.H = W'.H ∧ Ext W W2 ∧ Rep K mg W2 S2 ∧ Den K W2 d2 v := by
  unfold exF1 at e
  split at e
  · cases e
    exact ⟨W', rfl, x, R', h⟩
  · split at e
    rotate_left
    · cases e
    rename_i hc
    obtain ⟨hlt, hcl⟩ := hc
    have xt : Ext W (W'.cut W.α) := { p := x.p, pn := x.pn, al := List.prefix_refl _, an := fun _ h => .inl h, hp := x.hp, h := x.h, dom := x.dom }
    have Rt : Rep K mg (W'.cut W.α) (S'.take S.length) := by
      refine ⟨?_, R.nd, fun a ha => R'.dj a (x.al.subset ha), R'.al, fun n mo a h1 h2 => ?_, R'.tb, R'.tp⟩
      · show W.α.length = _
        rw [R.len, List.length_take]
        omega
      · have h2 : W.α[n]? = some a := h2
        have hn : n < S.length := by rw [← R.len]; exact (List.getElem?_eq_some_iff.mp h2).1
        rw [List.getElem?_take_of_lt hn] at h1
        have h3 : W'.α[n]? = some a := by
          obtain ⟨t, ht⟩ := x.al
          rw [← ht, List.getElem?_append_left (by rw [R.len]; exact hn)]
          exact h2
        have o := R'.ob n mo a h1 h3
        refine o.cut x.al ?_
        rw [R.len]
        rcases hcl n hn with q | ⟨mo', q, c⟩
        · have o2 := R.ob n mo a (q ▸ h1) h2
          have := o2.clo
          rwa [R.len] at this
        · rw [h1] at q
          cases q
          exact c
    have hd : ∀ {d : DV} {v : V}, clo S.length d = true → Den K W' d v → Den K (W'.cut W.α) d v := fun c h => Den.cut x.al (by rw [R.len]; exact c) h
    have hds : ∀ {ds : List DV} {vs : List V}, clos S.length ds = true → Dens K W' ds vs → Dens K (W'.cut W.α) ds vs := fun c h => Dens.cut x.al (by rw [R.len]; exact c) h
    unfold exR at e
    split at e
    · rename_i n
      split at e
      · rename_i hn
        cases e
        exact ⟨W'.cut W.α, rfl, xt, Rt, hd (decide_eq_true hn) h⟩
      · rename_i hn
        split at e
        · rename_i ds hS
          split at e
          · rename_i hcd
            obtain ⟨a, rfl, ha, hm, vs, hv, hdv⟩ := ptr_ok R' h hS
            have na : a ∉ W.α := fun z => by
              obtain ⟨k, hk⟩ := List.mem_iff_getElem?.mp z
              have hk2 : W'.α[k]? = some a := by
                obtain ⟨t, ht⟩ := x.al
                rw [← ht, List.getElem?_append_left (List.getElem?_eq_some_iff.mp hk).1]
                exact hk
              have := nd_ix R'.nd hk2 ha
              have hlt : k < W.α.length := (List.getElem?_eq_some_iff.mp hk).1
              rw [R.len] at hlt
              omega
            obtain ⟨W2, h2, x2, R2, d2'⟩ := newL_at Rt (p := a) (vs := vs) hv (R'.dj a hm) na (hds hcd hdv) (Option.some.inj e)
            exact ⟨W2, h2, x2 W xt ((x.an a hm).resolve_left na), R2, d2'⟩
          · cases e
        · cases e
    · split at e
      · rename_i hcd
        cases e
        exact ⟨W'.cut W.α, rfl, xt, Rt, hd hcd h⟩
      · cases e
theorem exF_ok {m : Option Bool} {d d2 : DV} {S' S2 : Sto} {v : V} (R : Rep K mg W S) (x : Ext W W') (R' : Rep K mg W' S') (h : Den K W' d v) (e : exF m S d S' = some (d2, S2)) :
    ∃ W2, W2.H = W'.H ∧ Ext W W2 ∧ Rep K mg W2 S2 ∧ Den K W2 d2 v := by
  cases m with
  | none =>
    cases e
    exact ⟨W', rfl, x, R', h⟩
  | some m => exact exF1_ok R x R' h e
theorem slo_start {N : List Str} {ds : List DV} {vs : List V} (h : Dens K W ds vs) : Slo K W (start N vs) (startD N.length ds) := by
  refine ⟨by simp [L2.start, startD, h.len], fun i d e => ?_⟩
  unfold startD at e
  by_cases hi : i < ds.length
  · rw [List.getElem?_append_left (by simpa using hi), List.getElem?_map] at e
    cases q : ds[i]? with
    | none =>
      rw [q] at e
      cases e
    | some d' =>
      rw [q] at e
      cases e
      obtain ⟨v, h1, h2⟩ := h.get q
      refine ⟨v, ?_, h2⟩
      unfold L2.start
      rw [List.getElem?_append_left (by simpa [h.len] using hi), List.getElem?_map, h1]
      rfl
  · rw [List.getElem?_append_right (by simpa using hi)] at e
    obtain ⟨_, e⟩ := List.getElem?_eq_some_iff.mp e
    rw [List.getElem_replicate] at e
    cases e
theorem fn_dl {P : Program} {w : World} {base : Heap} {x qual : Str} {st : Stmt} {f : Addr} {fd : FuncData} {N ps : List Str} {k n : Nat} {m : Option Bool} {body : DS} (F : Fun K x qual st f fd) (S : FnScope N ps (defScope st)) (hps : ps.length = n)
    (hb : ∀ (cdv : Value) (A : Around) (outer : List Env) (s : Shared) (H : Hp) (E : XK), Room k (A.deeper (envOfC qual (defScope st) s.heap.objs.size f cdv)) →
      ∃ t, PSs (cxOf CX0 P w K mg base N qual (defScope st) f cdv A outer s H E).nox (defBody st) t ∧ RS K mg t body) :
    FnOk P w K mg base CX0 (k + 1) f fd ps (spF K mg n (fnF m N.length body)) := by
  refine F.ok S (fun vs H Q E h => h.1.trans hps.symm) fun cdv A outer s H vs Q E hr h => ?_
  obtain ⟨t, ht, hR⟩ := hb cdv A outer s H E hr
  refine ⟨t, ht, ?_⟩
  obtain ⟨_, W, S, ds, d, S', rfl, R, hd, hg, q⟩ := h
  unfold fnF at hg
  split at hg
  · rename_i s1 S1 e1
    refine hR W _ _ S _ _ R (slo_start hd) e1 fun σ1 W1 x1 R1 L1 => ?_
    obtain ⟨W2, h2, x2, R2, d2⟩ := exF_ok R x1 R1 (d := .non) (v := V.non) rfl hg
    rw [← h2]
    exact q _ W2 x2 R2 d2
  · rename_i d1 S1 e1
    refine hR W _ _ S _ _ R (slo_start hd) e1 fun v1 W1 x1 R1 d1 => ?_
    obtain ⟨W2, h2, x2, R2, d2⟩ := exF_ok R x1 R1 d1 hg
    rw [← h2]
    exact q _ W2 x2 R2 d2
  · cases hg
end
end DL
end
section
namespace DL
open PySem PyProof.Rows PySem.Spec L2

abbrev D2 := DV → DV → Sto → Option (DV × Sto)
/-- how large a factor may be -/
def BITS : Nat := 400000
def Fits (i : Int) : Prop := i.natAbs < 2 ^ BITS
theorem Fits.mul {i j : Int} (h : Fits i) (g : Fits j) : CMulW i j := wide_mul h g (by decide) (by decide) (by decide)
open Classical in
noncomputable def mulD : D2 := fun x y S => match x, y with
  | .int i, .int j => if Fits i ∧ Fits j then some (.int (i * j), S) else none
  | _, _ => none
def subD : D2 := fun x y S => match x, y with
  | .int i, .int j => some (.int (i - j), S)
  | _, _ => none
noncomputable def addD (m : Bool) : D2 := fun x y S => match x, y with
  | .int i, .int j => some (.int (i + j), S)
  | x, y => match trL S x, trL S y with
    | some a, some b => gate (a.length + b.length ≤ 100000) (some (newL m (a ++ b) S))
    | _, _ => none
def DIVB : Nat := 8000
def FitsD (j : Int) : Prop := 0 < j ∧ j.natAbs < 2 ^ DIVB
open Classical in
noncomputable def fdivD : D2 := fun x y S => match x, y with
  | .int i, .int j => if FitsD j then some (.int (i / j), S) else none
  | _, _ => none
noncomputable def modD : D2 := fun x y S => match x, y with
  | .int i, .int j => gate (0 < j) (some (.int (i % j), S))
  | _, _ => none
noncomputable def powD : D2 := fun x y S => match x, y with
  | .int i, .int j => gate (0 ≤ j ∧ j ≤ 1000 ∧ i.natAbs < 2 ^ 64) (some (.int (i ^ j.toNat), S))
  | _, _ => none
def cmpD (p : Int → Int → Bool) : D2 := fun x y S => match x, y with
  | .int i, .int j => some (.bl (p i j), S)
  | _, _ => none
def ltD : D2 := cmpD fun i j => decide (i < j)
def leD : D2 := cmpD fun i j => decide (i ≤ j)
def gtD : D2 := cmpD fun i j => decide (j < i)
def geD : D2 := cmpD fun i j => decide (j ≤ i)
section
variable {K : PySem.W.Frag} {mg : Str → Option Value}
theorem ro_I {C : Int → Int → Prop} {g : Int → Int → V} {g' : D2} (h : ∀ x y S d S', g' x y S = some (d, S') → ∃ i j, x = .int i ∧ y = .int j ∧ C i j ∧ S' = S ∧ ∀ W, Den K W d (g i j)) : RO K mg (rI C g) g' := by
  intro W S x y v u d S' Q R hx hy e q
  obtain ⟨i, j, rfl, rfl, c, rfl, hd⟩ := h x y S d S' e
  exact ⟨i, j, hx, hy, c, q _ W (Ext.refl W) R (hd W)⟩
theorem ro_I0 {g : Int → Int → V} {g' : D2} (h : ∀ x y S d S', g' x y S = some (d, S') → ∃ i j, x = .int i ∧ y = .int j ∧ S' = S ∧ ∀ W, Den K W d (g i j)) : RO K mg (rI0 g) g' := by
  intro W S x y v u d S' Q R hx hy e q
  obtain ⟨i, j, rfl, rfl, rfl, hd⟩ := h x y S d S' e
  exact ⟨i, j, hx, hy, q _ W (Ext.refl W) R (hd W)⟩
theorem ro_mul : RO K mg (rI CMulW fun i j => .int (i * j)) mulD := ro_I fun x y S d S' e => by
  unfold mulD at e
  split at e
  · split at e
    · rename_i h
      cases e
      exact ⟨_, _, rfl, rfl, h.1.mul h.2, rfl, fun _ => rfl⟩
    · cases e
  · cases e
theorem ro_sub : RO K mg (rI0 fun i j => .int (i - j)) subD := ro_I0 fun x y S d S' e => by
  unfold subD at e
  split at e
  · cases e
    exact ⟨_, _, rfl, rfl, rfl, fun _ => rfl⟩
  · cases e
theorem ro_fdiv : RO K mg (rI CDivW fun i j => .int (i / j)) fdivD := ro_I fun x y S d S' e => by
  unfold fdivD at e
  split at e
  · split at e
    · rename_i h
      cases e
      exact ⟨_, _, rfl, rfl, wide_div h.1 h.2 (by decide) (by decide), rfl, fun _ => rfl⟩
    · cases e
  · cases e
theorem ro_mod : RO K mg (rI (fun _ j => 0 < j) fun i j => .int (i % j)) modD := ro_I fun x y S d S' e => by
  unfold modD at e
  split at e
  · obtain ⟨h, e⟩ := gate_inv e
    cases e
    exact ⟨_, _, rfl, rfl, h, rfl, fun _ => rfl⟩
  · cases e
theorem ro_pow : RO K mg (rI CPow fun i j => .int (i ^ j.toNat)) powD := ro_I fun x y S d S' e => by
  unfold powD at e
  split at e
  · obtain ⟨h, e⟩ := gate_inv e
    cases e
    exact ⟨_, _, rfl, rfl, ⟨h.1, by omega, h.2.2⟩, rfl, fun _ => rfl⟩
  · cases e
theorem ro_cmp {p : Int → Int → Bool} : RO K mg (rI0 fun i j => .bl (p i j)) (cmpD p) := ro_I0 fun x y S d S' e => by
  unfold cmpD at e
  split at e
  · cases e
    exact ⟨_, _, rfl, rfl, rfl, fun _ => rfl⟩
  · cases e
theorem ro_lt : RO K mg (rI0 fun i j => .bl (decide (i < j))) ltD := ro_cmp
theorem ro_le : RO K mg (rI0 fun i j => .bl (decide (i ≤ j))) leD := ro_cmp
theorem ro_gt : RO K mg (rI0 fun i j => .bl (decide (j < i))) gtD := ro_cmp
theorem ro_ge : RO K mg (rI0 fun i j => .bl (decide (j ≤ i))) geD := ro_cmp
/-- ints, or lists -/
def rAddG : R2 := fun x y H Q => (rI0 fun i j => .int (i + j)) x y H Q ∨ rCat x y H Q
theorem op_addG {X : Cx} : OpR X (binaryOp .Add) rAddG := op_add.or op_cat
theorem ro_add {m : Bool} : RO K mg rAddG (addD m) := by
  intro W S x y v u d S' Q R hx hy e q
  unfold addD at e
  split at e
  · cases e
    exact .inl ⟨_, _, hx, hy, q _ W (Ext.refl W) R rfl⟩
  · split at e
    · rename_i a b ha hb
      obtain ⟨hl, e⟩ := gate_inv e
      obtain ⟨p, vs, rfl, h1, h2⟩ := trL_ok R hx ha
      obtain ⟨p', us, rfl, h3, h4⟩ := trL_ok R hy hb
      refine .inr ⟨p, p', vs, us, rfl, rfl, h1, h3, by rw [h2.len, h4.len]; exact lim_le hl, fun z hz => ?_⟩
      obtain ⟨W2, e2, x2, R2, d2⟩ := newL_ok R hz (h2.app h4) (Option.some.inj e)
      rw [← e2]
      exact q _ W2 x2 R2 d2
    · cases e

/-! ### == over data -/
mutual
def py (r : Nat → Option PyData) : DV → Option PyData
  | .non => some .none
  | .bl b => some (.bool b)
  | .int i => some (.int i)
  | .str s => some (.str s)
  | .ty _ => none
  | .tup ds => (pys r ds).map .tuple
  | .lst ds => (pys r ds).map .list
  | .rls ds => (pys r ds).map .list
  | .ptr n => r n
def pys (r : Nat → Option PyData) : List DV → Option (List PyData)
  | [] => some []
  | d :: ds => match py r d, pys r ds with
    | some p, some ps => some (p :: ps)
    | _, _ => none
end
def py0 : DV → Option PyData := py fun _ => none
def pyS (S : Sto) : DV → Option PyData := py fun n => match S[n]? with
  | some (.ml ds) => (pys (fun _ => none) ds).map .list
  | _ => none
def eqD : D2 := fun x y S => match pyS S x, pyS S y with
  | some p, some q => if SeqAt.shaped p = true ∧ SeqAt.shaped q = true then some (.bl (PyData.eqv p q), S) else none
  | _, _ => none
def neD : D2 := fun x y S => match pyS S x, pyS S y with
  | some p, some q => if SeqAt.shaped p = true ∧ SeqAt.shaped q = true then some (.bl (!PyData.eqv p q), S) else none
  | _, _ => none
section
variable {W : Wd} {r : Nat → Option PyData} (hr : ∀ n q a, r n = some q → W.α[n]? = some a → Dp K W.H (.ref a) q)
include hr
mutual
theorem py_ok : ∀ {d : DV} {v : V} {p : PyData}, py r d = some p → Den K W d v → Dp K W.H v p
  | .non, _, _, e, h => by
    cases (show _ = V.non from h)
    cases e
    exact .non
  | .bl b, _, _, e, h => by
    cases (show _ = V.bl b from h)
    cases e
    exact .bl b
  | .int i, _, _, e, h => by
    cases (show _ = V.int i from h)
    cases e
    exact .int i
  | .str s, _, _, e, h => by
    cases (show _ = V.str s from h)
    cases e
    exact .str s
  | .ty n, _, _, e, _ => by cases e
  | .tup ds, _, _, e, h => by
    obtain ⟨a, vs, rfl, s, h⟩ := h
    cases q : pys r ds with
    | none =>
      simp only [py, q] at e
      cases e
    | some ps =>
      simp only [py, q, Option.map_some] at e
      cases e
      exact .tup s.1 (pys_ok q h)
  | .lst ds, _, _, e, h => by
    obtain ⟨a, vs, rfl, s, h⟩ := h
    cases q : pys r ds with
    | none =>
      simp only [py, q] at e
      cases e
    | some ps =>
      simp only [py, q, Option.map_some] at e
      cases e
      exact .lst (SqL.of s.2) (pys_ok q h)
  | .rls ds, _, _, e, h => by
    obtain ⟨a, vs, rfl, s, h⟩ := h
    cases q : pys r ds with
    | none =>
      simp only [py, q] at e
      cases e
    | some ps =>
      simp only [py, q, Option.map_some] at e
      cases e
      exact .lst s.1 (pys_ok q h)
  | .ptr n, _, _, e, h => by
    obtain ⟨a, h, rfl⟩ := h
    exact hr n _ a e h
theorem pys_ok : ∀ {ds : List DV} {vs : List V} {ps : List PyData}, pys r ds = some ps → Dens K W ds vs → DpAll K W.H vs ps
  | [], _, _, e, h => by
    cases (show _ = [] from h)
    cases e
    exact .nil
  | d :: ds, _, _, e, h => by
    obtain ⟨v, us, rfl, h1, h2⟩ := h
    cases q : py r d with
    | none =>
      simp only [pys, q] at e
      cases e
    | some p =>
      cases q' : pys r ds with
      | none =>
        simp only [pys, q, q'] at e
        cases e
      | some ps =>
        simp only [pys, q, q'] at e
        cases e
        exact .cons (py_ok q h1) (pys_ok q' h2)
end
end
theorem pyS_ok {W : Wd} {S : Sto} {d : DV} {v : V} {p : PyData} (R : Rep K mg W S) (e : pyS S d = some p) (h : Den K W d v) : Dp K W.H v p := by
  refine py_ok (fun n q a e h => ?_) e h
  split at e
  · rename_i ds hS
    obtain ⟨vs, h1, h2⟩ := R.ob n _ a hS h
    cases q' : pys (fun _ => none) ds with
    | none =>
      simp only [q'] at e
      cases e
    | some ps =>
      simp only [q', Option.map_some] at e
      cases e
      exact .lst (SqL.of h1) (pys_ok (fun _ _ _ z _ => by cases z) q' h2)
  · cases e
theorem ro_eq : RO K mg (rEqD K) eqD := by
  intro W S x y v u d S' Q R hx hy e q
  unfold eqD at e
  split at e
  · rename_i p p' h1 h2
    split at e
    · rename_i hs
      cases e
      exact ⟨p, p', pyS_ok R h1 hx, pyS_ok R h2 hy, hs.1, hs.2, q _ W (Ext.refl W) R rfl⟩
    · cases e
  · cases e
theorem ro_ne : RO K mg (rNeD K) neD := by
  intro W S x y v u d S' Q R hx hy e q
  unfold neD at e
  split at e
  · rename_i p p' h1 h2
    split at e
    · rename_i hs
      cases e
      exact ⟨p, p', pyS_ok R h1 hx, pyS_ok R h2 hy, hs.1, hs.2, q _ W (Ext.refl W) R rfl⟩
    · cases e
  · cases e

/-! ### is None, in, an item -/
@[simp] def nonB : DV → Bool
  | .non => true
  | _ => false
theorem nonB_ok {W : Wd} {d : DV} {v : V} (h : Den K W d v) : decide (v = .non) = nonB d := by
  cases d with
  | non =>
    cases (show v = V.non from h)
    rfl
  | bl b =>
    cases (show v = V.bl b from h)
    rfl
  | int i =>
    cases (show v = V.int i from h)
    rfl
  | str s =>
    cases (show v = V.str s from h)
    rfl
  | ty n =>
    cases (show v = V.ty n from h)
    rfl
  | tup ds =>
    obtain ⟨a, vs, rfl, _⟩ := h
    rfl
  | lst ds =>
    obtain ⟨a, vs, rfl, _⟩ := h
    rfl
  | rls ds =>
    obtain ⟨a, vs, rfl, _⟩ := h
    rfl
  | ptr n =>
    obtain ⟨a, _, rfl⟩ := h
    rfl
variable {ta tb te : TE} {fa fb fe : DE} {taa : TA} {faa : DA}
@[simp] def dIsN (neg : Bool) (f : DE) : DE := fun s S => bnd (f s S) fun x S1 => some (.bl (if neg then !nonB x else nonB x), S1)
theorem re_isN (h : RE K mg ta fa) : RE K mg (tIsN ta) (dIsN false fa) := by
  intro W σ s S d S' Q R L e q
  obtain ⟨x, S1, e1, e⟩ := bnd_inv e
  cases e
  refine h W σ s S x _ _ R L e1 fun v W1 x1 R1 d1 => q _ W1 x1 R1 ?_
  show V.bl (decide (v = .non)) = _
  rw [nonB_ok d1]
  rfl
theorem re_notN (h : RE K mg ta fa) : RE K mg (tNotN ta) (dIsN true fa) := by
  intro W σ s S d S' Q R L e q
  obtain ⟨x, S1, e1, e⟩ := bnd_inv e
  cases e
  refine h W σ s S x _ _ R L e1 fun v W1 x1 R1 d1 => q _ W1 x1 R1 ?_
  show V.bl (!decide (v = .non)) = _
  rw [nonB_ok d1]
  rfl
def toV : DV → Option V
  | .non => some .non
  | .bl b => some (.bl b)
  | .int i => some (.int i)
  | .str s => some (.str s)
  | _ => none
def toVs : List DV → Option (List V)
  | [] => some []
  | d :: ds => match toV d, toVs ds with
    | some v, some vs => some (v :: vs)
    | _, _ => none
theorem toV_ok {W : Wd} {d : DV} {v u : V} (e : toV d = some u) (h : Den K W d v) : v = u ∧ flatV v = true := by
  cases d with
  | non =>
    cases (show v = V.non from h)
    cases e
    exact ⟨rfl, rfl⟩
  | bl b =>
    cases (show v = V.bl b from h)
    cases e
    exact ⟨rfl, rfl⟩
  | int i =>
    cases (show v = V.int i from h)
    cases e
    exact ⟨rfl, rfl⟩
  | str s =>
    cases (show v = V.str s from h)
    cases e
    exact ⟨rfl, rfl⟩
  | _ => cases e
theorem toVs_ok {W : Wd} : ∀ {ds : List DV} {vs us : List V}, toVs ds = some us → Dens K W ds vs → vs = us ∧ vs.all flatV = true
  | [], _, _, e, h => by
    cases (show _ = [] from h)
    cases e
    exact ⟨rfl, rfl⟩
  | d :: ds, _, _, e, h => by
    obtain ⟨v, r, rfl, h1, h2⟩ := h
    unfold toVs at e
    split at e
    · rename_i u us e1 e2
      cases e
      obtain ⟨rfl, f1⟩ := toV_ok e1 h1
      obtain ⟨rfl, f2⟩ := toVs_ok e2 h2
      exact ⟨rfl, by rw [List.all_cons, f1, f2]; rfl⟩
    · cases e
def inD (neg : Bool) : D2 := fun x y S => match toV x, (rdL S y).or (rdT y) with
  | some u, some ds => match toVs ds with
    | some us => some (.bl (if neg then !inV u us else inV u us), S)
    | none => none
  | _, _ => none
theorem ro_in {neg : Bool} : RO K mg (rIn K neg) (inD neg) := by
  intro W S x y v u d S' Q R hx hy e q
  unfold inD at e
  split at e
  · rename_i u' ds h1 h2
    split at e
    · rename_i us h3
      cases e
      obtain ⟨rfl, f1⟩ := toV_ok h1 hx
      cases h4 : rdL S y with
      | some es =>
        rw [h4] at h2
        cases h2
        obtain ⟨a, vs, rfl, h5, h6⟩ := rdL_ok R hy h4
        obtain ⟨rfl, f2⟩ := toVs_ok h3 h6
        exact ⟨a, vs, rfl, .inl h5, f1, f2, q _ W (Ext.refl W) R rfl⟩
      | none =>
        rw [h4] at h2
        obtain ⟨a, vs, rfl, h5, h6⟩ := rdT_ok hy h2
        obtain ⟨rfl, f2⟩ := toVs_ok h3 h6
        exact ⟨a, vs, rfl, .inr h5, f1, f2, q _ W (Ext.refl W) R rfl⟩
    · cases e
  · cases e
theorem Dens.atI {W : Wd} {ds : List DV} {vs : List V} {i : Int} {d : DV} (h : Dens K W ds vs) (e : L2.atI ds i = some d) : ∃ v, L2.atI vs i = some v ∧ Den K W d v := by
  unfold L2.atI at e ⊢
  rw [h.len]
  cases q : ixN ds.length i with
  | none =>
    rw [q] at e
    cases e
  | some j =>
    rw [q] at e
    obtain ⟨v, h1, h2⟩ := h.get (show ds[j]? = some d from e)
    exact ⟨v, h1, h2⟩
def ixD : D2 := fun x y S => match y with
  | .int i => match (rdL S x).or (rdT x) with
    | some ds => match L2.atI ds i with
      | some d => some (d, S)
      | none => none
    | none => none
  | _ => none
theorem ro_ix : RO K mg (rIx K) ixD := by
  intro W S x y v u d S' Q R hx hy e q
  unfold ixD at e
  split at e
  · rename_i i
    cases (show u = V.int i from hy)
    split at e
    · rename_i ds h2
      split at e
      · rename_i d' h3
        cases e
        cases h4 : rdL S x with
        | some es =>
          rw [h4] at h2
          cases h2
          obtain ⟨a, vs, rfl, h5, h6⟩ := rdL_ok R hx h4
          obtain ⟨w, h7, h8⟩ := h6.atI h3
          exact .inl ⟨a, vs, i, w, rfl, rfl, h5, h7, q _ W (Ext.refl W) R h8⟩
        | none =>
          rw [h4] at h2
          obtain ⟨a, vs, rfl, h5, h6⟩ := rdT_ok hx h2
          obtain ⟨w, h7, h8⟩ := h6.atI h3
          exact .inr (.inl ⟨a, vs, i, w, rfl, rfl, h5, h7, q _ W (Ext.refl W) R h8⟩)
      · cases e
    · cases e
  · cases e

/-! ### slices -/
abbrev DO := Sl → Sto → Option (Option Int × Sto)
def ROp (K : PySem.W.Frag) (mg : Str → Option Value) (to : TO) (f : DO) : Prop := ∀ (W : Wd) (σ : L2.St) (s : Sl) (S : Sto) (o : Option Int) (S' : Sto) (Q : Option Int → Hp → Prop), Rep K mg W S → Slo K W σ s → f s S = some (o, S') →
  (∀ W', Ext W W' → Rep K mg W' S' → Q o W'.H) → to σ W.H Q
@[simp] def doN : DO := fun _ S => some (none, S)
@[simp] def doS (f : DE) : DO := fun s S => bnd (f s S) fun x S1 => match x with
  | .int i => some (some i, S1)
  | _ => none
theorem ro_none : ROp K mg tNoPart doN := by
  intro W σ s S o S' Q R L e q
  cases e
  exact q W (Ext.refl W) R
theorem ro_some (h : RE K mg ta fa) : ROp K mg (tPart ta) (doS fa) := by
  intro W σ s S o S' Q R L e q
  obtain ⟨x, S1, e1, e⟩ := bnd_inv e
  split at e
  · cases e
    exact h W σ s S _ _ _ R L e1 fun v W1 x1 R1 d1 => ⟨_, d1, q W1 x1 R1⟩
  · cases e
def cutL {α : Type} (xs : List α) (lo hi : Option Int) : List α := (xs.drop (HT.sIx xs.length 0 lo)).take (HT.sIx xs.length xs.length hi - HT.sIx xs.length 0 lo)
theorem Dens.cutL {W : Wd} {ds : List DV} {vs : List V} (lo hi : Option Int) (h : Dens K W ds vs) : Dens K W (DL.cutL ds lo hi) (cutV vs lo hi) := by
  unfold DL.cutL cutV
  rw [h.len]
  exact (h.drop _).take _
def dSlL (m : Bool) (f : DE) (fl fh : DO) : DE := fun s S => bnd (f s S) fun x S1 => bnd (fl s S1) fun lo S2 => bnd (fh s S2) fun hi S3 => match rdL S3 x with
  | some ds => some (newL m (cutL ds lo hi) S3)
  | none => none
theorem re_slL {m : Bool} {tl th : TO} {fl fh : DO} (h : RE K mg ta fa) (hl : ROp K mg tl fl) (hh : ROp K mg th fh) : RE K mg (tSl (rSlL K) ta tl th) (dSlL m fa fl fh) := by
  intro W σ s S d S' Q R L e q
  obtain ⟨x, S1, e1, e⟩ := bnd_inv e
  obtain ⟨lo, S2, e2, e⟩ := bnd_inv e
  obtain ⟨hi, S3, e3, e⟩ := bnd_inv e
  split at e
  · rename_i ds hd
    refine h W σ s S x S1 _ R L e1 fun v W1 x1 R1 d1 => ?_
    refine hl W1 σ s S1 lo S2 _ R1 (L.ext x1) e2 fun W2 x2 R2 => ?_
    refine hh W2 σ s S2 hi S3 _ R2 (L.ext (x1.trans x2)) e3 fun W3 x3 R3 => ?_
    obtain ⟨a, vs, rfl, h1, h2⟩ := rdL_ok R3 (d1.ext (x2.trans x3)) hd
    refine ⟨a, vs, rfl, h1, fun p hp => ?_⟩
    obtain ⟨W4, e4, x4, R4, d4⟩ := newL_ok R3 hp (h2.cutL lo hi) (Option.some.inj e)
    rw [← e4]
    exact q _ W4 (((x1.trans x2).trans x3).trans x4) R4 d4
  · cases e
end
end DL
end
section
namespace DL
open PySem PyProof.Rows PySem.Spec L2
abbrev DC := List DV → Sto → Option (DV × Sto)
abbrev DM := DV → List DV → Sto → Option (DV × Sto)
section
variable {K : PySem.W.Frag} {mg : Str → Option Value}

/-! ### built-in calls -/
def rLen (K : PySem.W.Frag) : List V → Hp → VK → Prop := fun xs H Q => ∃ p ys, xs = [.ref p] ∧ (SqL K H p ys ∨ SqT K H p ys) ∧ Q (.int ys.length) H
theorem cr_len {X : Cx} : CallR X (.builtin "len") (rLen X.K) := call_len_seq
def lenD : DC := fun xs S => match xs with
  | [x] => match (rdL S x).or (rdT x) with
    | some ds => some (.int (ds.length : Nat), S)
    | none => none
  | _ => none
theorem rd_ok {W : Wd} {S : Sto} {x : DV} {v : V} {ds : List DV} (R : Rep K mg W S) (h : Den K W x v) (e : (rdL S x).or (rdT x) = some ds) : ∃ a vs, v = .ref a ∧ (SqL K W.H a vs ∨ SqT K W.H a vs) ∧ Dens K W ds vs := by
  cases h4 : rdL S x with
  | some es =>
    rw [h4] at e
    cases e
    obtain ⟨a, vs, rfl, h5, h6⟩ := rdL_ok R h h4
    exact ⟨a, vs, rfl, .inl h5, h6⟩
  | none =>
    rw [h4] at e
    obtain ⟨a, vs, rfl, h5, h6⟩ := rdT_ok h e
    exact ⟨a, vs, rfl, .inr h5, h6⟩
theorem dens1 {W : Wd} {x : DV} {vs : List V} (h : Dens K W [x] vs) : ∃ v, vs = [v] ∧ Den K W x v := by
  obtain ⟨v, r, rfl, h1, h2⟩ := h
  cases (show r = [] from h2)
  exact ⟨v, rfl, h1⟩
theorem dens2 {W : Wd} {x y : DV} {vs : List V} (h : Dens K W [x, y] vs) : ∃ v u, vs = [v, u] ∧ Den K W x v ∧ Den K W y u := by
  obtain ⟨v, r, rfl, h1, u, r', rfl, h2, h3⟩ := h
  cases (show r' = [] from h3)
  exact ⟨v, u, rfl, h1, h2⟩
theorem rc_len : RC K mg (rLen K) lenD := by
  intro W S xs vs d S' Q R h e q
  unfold lenD at e
  split at e
  · rename_i x
    split at e
    · rename_i ds hd
      cases e
      obtain ⟨v, rfl, hv⟩ := dens1 h
      obtain ⟨a, us, rfl, h1, h2⟩ := rd_ok R hv hd
      refine ⟨a, us, rfl, h1, q _ W (Ext.refl W) R ?_⟩
      rw [h2.len]
      rfl
    · cases e
  · cases e
def rAbs : List V → Hp → VK → Prop := fun xs H Q => ∃ i, xs = [.int i] ∧ Q (.int (if i < 0 then -i else i)) H
theorem cr_abs {X : Cx} : CallR X (.builtin "abs") rAbs := call_abs
def absD : DC := fun xs S => match xs with
  | [.int i] => some (.int (if i < 0 then -i else i), S)
  | _ => none
theorem rc_abs : RC K mg rAbs absD := by
  intro W S xs vs d S' Q R h e q
  unfold absD at e
  split at e
  · rename_i i
    cases e
    obtain ⟨v, rfl, hv⟩ := dens1 h
    cases (show v = V.int i from hv)
    exact ⟨i, rfl, q _ W (Ext.refl W) R rfl⟩
  · cases e
def rInt1 : List V → Hp → VK → Prop := fun xs H Q => (∃ i, xs = [.int i] ∧ Q (.int i) H) ∨ ∃ k, xs = [.bl k] ∧ Q (.int (if k then 1 else 0)) H
theorem cr_int1 {X : Cx} : CallR X (.type "int") rInt1 := call_int1
def intD : DC := fun xs S => match xs with
  | [.int i] => some (.int i, S)
  | [.bl k] => some (.int (if k then 1 else 0), S)
  | _ => none
theorem rc_int1 : RC K mg rInt1 intD := by
  intro W S xs vs d S' Q R h e q
  unfold intD at e
  split at e
  · rename_i i
    cases e
    obtain ⟨v, rfl, hv⟩ := dens1 h
    cases (show v = V.int i from hv)
    exact .inl ⟨i, rfl, q _ W (Ext.refl W) R rfl⟩
  · rename_i k
    cases e
    obtain ⟨v, rfl, hv⟩ := dens1 h
    cases (show v = V.bl k from hv)
    exact .inr ⟨k, rfl, q _ W (Ext.refl W) R rfl⟩
  · cases e
/-- the ints of a list of ints -/
def toI : DV → Option Int
  | .int i => some i
  | _ => none
def toIs : List DV → Option (List Int)
  | [] => some []
  | d :: ds => match toI d, toIs ds with
    | some i, some is => some (i :: is)
    | _, _ => none
theorem toIs_ok {W : Wd} : ∀ {ds : List DV} {vs : List V} {ns : List Int}, toIs ds = some ns → Dens K W ds vs → vs = ns.map V.int
  | [], _, _, e, h => by
    cases (show _ = [] from h)
    cases e
    rfl
  | d :: ds, _, _, e, h => by
    obtain ⟨v, r, rfl, h1, h2⟩ := h
    unfold toIs at e
    split at e
    · rename_i i is e1 e2
      cases e
      rw [toIs_ok e2 h2]
      unfold toI at e1
      split at e1
      · cases e1
        cases (show v = V.int i from h1)
        rfl
      · cases e1
    · cases e
theorem toIs_map (ns : List Int) : toIs (ns.map DV.int) = some ns := by
  induction ns with
  | nil => rfl
  | cons n ns ih => simp [toIs, toI, ih]
/-- the greater of two, the greatest of a list -/
def rMaxG (K : PySem.W.Frag) : List V → Hp → VK → Prop := fun xs H Q => (∃ i j, xs = [.int i, .int j] ∧ Q (.int (if j > i then j else i)) H) ∨ rMax K xs H Q
def rMinG (K : PySem.W.Frag) : List V → Hp → VK → Prop := fun xs H Q => (∃ i j, xs = [.int i, .int j] ∧ Q (.int (if j < i then j else i)) H) ∨ rMin K xs H Q
theorem cr_maxG {X : Cx} (hc : X.calm = true) : CallR X (.builtin "max") (rMaxG X.K) := (call_max2 hc).or (cr_max hc)
theorem cr_minG {X : Cx} (hc : X.calm = true) : CallR X (.builtin "min") (rMinG X.K) := (call_min2 hc).or (cr_min hc)
def maxI : List Int → Int
  | [] => 0
  | [n] => n
  | n :: ns => max n (maxI ns)
def minI : List Int → Int
  | [] => 0
  | [n] => n
  | n :: ns => min n (minI ns)
theorem maxI_mem : ∀ {ns : List Int}, ns ≠ [] → maxI ns ∈ ns ∧ ∀ y ∈ ns, y ≤ maxI ns
  | [], h => absurd rfl h
  | [n], _ => by simp [maxI]
  | n :: m :: ns, _ => by
    obtain ⟨h1, h2⟩ := maxI_mem (ns := m :: ns) (by simp)
    have e : maxI (n :: m :: ns) = max n (maxI (m :: ns)) := rfl
    rw [e]
    refine ⟨?_, fun y hy => ?_⟩
    · by_cases q : n ≤ maxI (m :: ns)
      · rw [show max n (maxI (m :: ns)) = maxI (m :: ns) by omega]
        exact List.mem_cons_of_mem _ h1
      · rw [show max n (maxI (m :: ns)) = n by omega]
        exact List.mem_cons_self
    · rcases List.mem_cons.mp hy with rfl | hy
      · omega
      · have := h2 y hy
        omega
theorem minI_mem : ∀ {ns : List Int}, ns ≠ [] → minI ns ∈ ns ∧ ∀ y ∈ ns, minI ns ≤ y
  | [], h => absurd rfl h
  | [n], _ => by simp [minI]
  | n :: m :: ns, _ => by
    obtain ⟨h1, h2⟩ := minI_mem (ns := m :: ns) (by simp)
    have e : minI (n :: m :: ns) = min n (minI (m :: ns)) := rfl
    rw [e]
    refine ⟨?_, fun y hy => ?_⟩
    · by_cases q : n ≤ minI (m :: ns)
      · rw [show min n (minI (m :: ns)) = n by omega]
        exact List.mem_cons_self
      · rw [show min n (minI (m :: ns)) = minI (m :: ns) by omega]
        exact List.mem_cons_of_mem _ h1
    · rcases List.mem_cons.mp hy with rfl | hy
      · omega
      · have := h2 y hy
        omega
def maxD : DC := fun xs S => match xs with
  | [.int i, .int j] => some (.int (if j > i then j else i), S)
  | [x] => match rdL S x with
    | some ds => match toIs ds with
      | some ns => if 0 < ns.length then some (.int (maxI ns), S) else none
      | none => none
    | none => none
  | _ => none
def minD : DC := fun xs S => match xs with
  | [.int i, .int j] => some (.int (if j < i then j else i), S)
  | [x] => match rdL S x with
    | some ds => match toIs ds with
      | some ns => if 0 < ns.length then some (.int (minI ns), S) else none
      | none => none
    | none => none
  | _ => none
theorem rc_max : RC K mg (rMaxG K) maxD := by
  intro W S xs vs d S' Q R h e q
  unfold maxD at e
  split at e
  · rename_i i j
    cases e
    obtain ⟨v, u, rfl, hv, hu⟩ := dens2 h
    cases (show v = V.int i from hv)
    cases (show u = V.int j from hu)
    exact .inl ⟨i, j, rfl, q _ W (Ext.refl W) R rfl⟩
  · rename_i x
    split at e
    · rename_i ds hd
      split at e
      · rename_i ns hn
        split at e
        · rename_i hl
          cases e
          obtain ⟨v, rfl, hv⟩ := dens1 h
          obtain ⟨a, us, rfl, h1, h2⟩ := rdL_ok R hv hd
          cases toIs_ok hn h2
          have hne : ns ≠ [] := by
            intro z
            subst z
            exact absurd hl (by decide)
          obtain ⟨m1, m2⟩ := maxI_mem hne
          refine .inr ⟨a, ns, rfl, h1, hl, fun m hm hle => ?_⟩
          have : m = maxI ns := by
            have := hle _ m1
            have := m2 _ hm
            omega
          exact q _ W (Ext.refl W) R (by rw [this]; rfl)
        · cases e
      · cases e
    · cases e
  · cases e
theorem rc_min : RC K mg (rMinG K) minD := by
  intro W S xs vs d S' Q R h e q
  unfold minD at e
  split at e
  · rename_i i j
    cases e
    obtain ⟨v, u, rfl, hv, hu⟩ := dens2 h
    cases (show v = V.int i from hv)
    cases (show u = V.int j from hu)
    exact .inl ⟨i, j, rfl, q _ W (Ext.refl W) R rfl⟩
  · rename_i x
    split at e
    · rename_i ds hd
      split at e
      · rename_i ns hn
        split at e
        · rename_i hl
          cases e
          obtain ⟨v, rfl, hv⟩ := dens1 h
          obtain ⟨a, us, rfl, h1, h2⟩ := rdL_ok R hv hd
          cases toIs_ok hn h2
          have hne : ns ≠ [] := by
            intro z
            subst z
            exact absurd hl (by decide)
          obtain ⟨m1, m2⟩ := minI_mem hne
          refine .inr ⟨a, ns, rfl, h1, hl, fun m hm hle => ?_⟩
          have : m = minI ns := by
            have := hle _ m1
            have := m2 _ hm
            omega
          exact q _ W (Ext.refl W) R (by rw [this]; rfl)
        · cases e
      · cases e
    · cases e
  · cases e
def sumD : DC := fun xs S => match xs with
  | [x] => match rdL S x with
    | some ds => match toIs ds with
      | some ns => some (.int ns.sum, S)
      | none => none
    | none => none
  | _ => none
theorem rc_sum : RC K mg (rSum K) sumD := by
  intro W S xs vs d S' Q R h e q
  unfold sumD at e
  split at e
  · rename_i x
    split at e
    · rename_i ds hd
      split at e
      · rename_i ns hn
        cases e
        obtain ⟨v, rfl, hv⟩ := dens1 h
        obtain ⟨a, us, rfl, h1, h2⟩ := rdL_ok R hv hd
        cases toIs_ok hn h2
        exact ⟨a, ns, rfl, h1, q _ W (Ext.refl W) R rfl⟩
      · cases e
    · cases e
  · cases e
/-- rising -/
def sortI (ns : List Int) : List Int := ns.mergeSort (fun a b => decide (a ≤ b))
theorem sortI_eq {ns ms : List Int} (h : ms.Perm ns) (s : ms.Pairwise (· ≤ ·)) : ms = sortI ns := by
  have p : (sortI ns).Perm ns := List.mergeSort_perm ns _
  have s2 : (sortI ns).Pairwise (· ≤ ·) := by
    have := List.pairwise_mergeSort (le := fun (a b : Int) => decide (a ≤ b)) (fun a b c h1 h2 => by simp at *; omega) (fun a b => by simp; omega) ns
    exact this.imp fun h => by simpa using h
  exact (h.trans p.symm).eq_of_pairwise (fun a b _ _ h1 h2 => by omega) s s2
def sortD (m : Bool) : DC := fun xs S => match xs with
  | [x] => match rdL S x with
    | some ds => match toIs ds with
      | some ns => if ns.length < 64 then some (newL m ((sortI ns).map DV.int) S) else none
      | none => none
    | none => none
  | _ => none
theorem rc_sorted {m : Bool} : RC K mg (rSorted K) (sortD m) := by
  intro W S xs vs d S' Q R h e q
  unfold sortD at e
  split at e
  · rename_i x
    split at e
    · rename_i ds hd
      split at e
      · rename_i ns hn
        split at e
        · rename_i hl
          obtain ⟨v, rfl, hv⟩ := dens1 h
          obtain ⟨a, us, rfl, h1, h2⟩ := rdL_ok R hv hd
          cases toIs_ok hn h2
          refine ⟨a, ns, rfl, h1, hl, fun ms p hp hs hn => ?_⟩
          cases sortI_eq hp hs
          obtain ⟨W2, e2, x2, R2, d2⟩ := newL_ok R hn (dens_ints (K := K) (W := W) (sortI ns)) (Option.some.inj e)
          rw [← e2]
          exact q _ W2 x2 R2 d2
        · cases e
      · cases e
    · cases e
  · cases e
def rListOf (K : PySem.W.Frag) : List V → Hp → VK → Prop := fun xs H Q => ∃ p ys, xs = [.ref p] ∧ (SqL K H p ys ∨ SqT K H p ys) ∧ ∀ l, H l = none → Q (.ref l) (upd H l (.lst ys))
theorem cr_listOf {X : Cx} : CallR X (.type "list") (rListOf X.K) := call_list_of
def listD (m : Bool) : DC := fun xs S => match xs with
  | [x] => match (rdL S x).or (rdT x) with
    | some ds => some (newL m ds S)
    | none => none
  | _ => none
theorem rc_list {m : Bool} : RC K mg (rListOf K) (listD m) := by
  intro W S xs vs d S' Q R h e q
  unfold listD at e
  split at e
  · rename_i x
    split at e
    · rename_i ds hd
      obtain ⟨v, rfl, hv⟩ := dens1 h
      obtain ⟨a, us, rfl, h1, h2⟩ := rd_ok R hv hd
      refine ⟨a, us, rfl, h1, fun l hl => ?_⟩
      obtain ⟨W2, e2, x2, R2, d2⟩ := newL_ok R hl h2 (Option.some.inj e)
      rw [← e2]
      exact q _ W2 x2 R2 d2
    · cases e
  · cases e
def gcdD : DC := fun xs S => match xs with
  | [.int a, .int b] => some (.int ((Nat.gcd a.natAbs b.natAbs : Nat) : Int), S)
  | _ => none
theorem rc_gcd : RC K mg rGcd gcdD := by
  intro W S xs vs d S' Q R h e q
  unfold gcdD at e
  split at e
  · rename_i a b
    cases e
    obtain ⟨v, u, rfl, hv, hu⟩ := dens2 h
    cases (show v = V.int a from hv)
    cases (show u = V.int b from hu)
    exact ⟨a, b, rfl, q _ W (Ext.refl W) R rfl⟩
  · cases e
def toB : DV → Option Bool
  | .bl i => some i
  | _ => none
def toBs : List DV → Option (List Bool)
  | [] => some []
  | d :: ds => match toB d, toBs ds with
    | some i, some is => some (i :: is)
    | _, _ => none
theorem toBs_ok {W : Wd} : ∀ {ds : List DV} {vs : List V} {ns : List Bool}, toBs ds = some ns → Dens K W ds vs → vs = ns.map V.bl
  | [], _, _, e, h => by
    cases (show _ = [] from h)
    cases e
    rfl
  | d :: ds, _, _, e, h => by
    obtain ⟨v, r, rfl, h1, h2⟩ := h
    unfold toBs at e
    split at e
    · rename_i i is e1 e2
      cases e
      rw [toBs_ok e2 h2]
      unfold toB at e1
      split at e1
      · cases e1
        cases (show v = V.bl i from h1)
        rfl
      · cases e1
    · cases e
def allD (any : Bool) : DC := fun xs S => match xs with
  | [x] => match rdL S x with
    | some ds => match toBs ds with
      | some bs => some (.bl (if any then bs.any id else bs.all id), S)
      | none => none
    | none => none
  | _ => none
theorem rc_all : RC K mg (rAll K) (allD false) := by
  intro W S xs vs d S' Q R h e q
  unfold allD at e
  split at e
  · rename_i x
    split at e
    · rename_i ds hd
      split at e
      · rename_i ns hn
        cases e
        obtain ⟨v, rfl, hv⟩ := dens1 h
        obtain ⟨a, us, rfl, h1, h2⟩ := rdL_ok R hv hd
        cases toBs_ok hn h2
        exact ⟨a, ns, rfl, h1, q _ W (Ext.refl W) R rfl⟩
      · cases e
    · cases e
  · cases e
theorem rc_any : RC K mg (rAny K) (allD true) := by
  intro W S xs vs d S' Q R h e q
  unfold allD at e
  split at e
  · rename_i x
    split at e
    · rename_i ds hd
      split at e
      · rename_i ns hn
        cases e
        obtain ⟨v, rfl, hv⟩ := dens1 h
        obtain ⟨a, us, rfl, h1, h2⟩ := rdL_ok R hv hd
        cases toBs_ok hn h2
        exact ⟨a, ns, rfl, h1, q _ W (Ext.refl W) R rfl⟩
      · cases e
    · cases e
  · cases e

/-! ### list(range(..)) -/
variable {ta tb te : TE} {fa fb fe : DE} {taa : TA} {faa : DA}
def rgD (a b : Int) : List DV := (List.range (b - a).toNat).map fun i => DV.int (a + (i : Nat))
theorem dens_rg {W : Wd} (a b : Int) : Dens K W (rgD a b) (rgV a b) := by
  unfold rgD rgV
  generalize List.range (b - a).toNat = l
  induction l with
  | nil => rfl
  | cons x r ih => exact ⟨_, _, rfl, rfl, ih⟩
noncomputable def dLr2 (m : Bool) (f g : DE) : DE := fun s S => bnd (f s S) fun x S1 => bnd (g s S1) fun y S2 => match x, y with
  | .int i, .int j => gate (0 ≤ i ∧ i ≤ 100000 ∧ 0 ≤ j ∧ j ≤ 100000) (some (newL m (rgD i j) S2))
  | _, _ => none
theorem re_lr2 {m : Bool} (ha : RE K mg ta fa) (hb : RE K mg tb fb) : RE K mg (tLstRg (tRg2 ta tb)) (dLr2 m fa fb) := by
  intro W σ s S d S' Q R L e q
  obtain ⟨x, S1, e1, e⟩ := bnd_inv e
  obtain ⟨y, S2, e2, e⟩ := bnd_inv e
  split at e
  · rename_i i j _
    obtain ⟨hl, e⟩ := gate_inv e
    refine ha W σ s S _ S1 _ R L e1 fun v W1 x1 R1 d1 => ?_
    refine hb W1 σ s S1 _ S2 _ R1 (L.ext x1) e2 fun u W2 x2 R2 d2 => ?_
    refine ⟨i, j, d1, d2, RgOk.of_le hl.1 (by omega) (by omega) hl.2.2.1, fun p hp => ?_⟩
    obtain ⟨W3, e3, x3, R3, d3⟩ := newL_ok R2 hp (dens_rg i j) (Option.some.inj e)
    rw [← e3]
    exact q _ W3 ((x1.trans x2).trans x3) R3 d3
  · cases e
noncomputable def dLr1' (m : Bool) (f : DE) : DE := fun s S => bnd (f s S) fun x S1 => match x with
  | .int j => gate (0 ≤ j ∧ j ≤ 100000) (some (newL m (rgD 0 j) S1))
  | _ => none
theorem re_lr1 {m : Bool} (ha : RE K mg ta fa) : RE K mg (tLstRg (tRg1 ta)) (dLr1' m fa) := by
  intro W σ s S d S' Q R L e q
  obtain ⟨x, S1, e1, e⟩ := bnd_inv e
  split at e
  · rename_i j
    obtain ⟨hl, e⟩ := gate_inv e
    refine ha W σ s S _ S1 _ R L e1 fun v W1 x1 R1 d1 => ?_
    refine ⟨j, d1, RgOk.of_le (by omega) (by omega) (by omega) hl.1, fun p hp => ?_⟩
    obtain ⟨W3, e3, x3, R3, d3⟩ := newL_ok R1 hp (dens_rg 0 j) (Option.some.inj e)
    rw [← e3]
    exact q _ W3 (x1.trans x3) R3 d3
  · cases e

/-! ### truth -/
def truD (S : Sto) (x : DV) : Option Bool := match x with
  | .non => some false
  | .bl b => some b
  | .int i => some (i != 0)
  | x => match (rdL S x).or (rdT x) with
    | some ds => some (!ds.isEmpty)
    | none => none
@[simp] def dTru (f : DE) : DT := fun s S => bnd (f s S) fun x S1 => match truD S1 x with
  | some b => some (b, S1)
  | none => none
theorem isEmpty_dens {W : Wd} : ∀ {ds : List DV} {vs : List V}, Dens K W ds vs → vs.isEmpty = ds.isEmpty
  | [], _, h => by
    cases (show _ = [] from h)
    rfl
  | d :: ds, _, h => by
    obtain ⟨v, r, rfl, _⟩ := h
    rfl
theorem rt_tru (h : RE K mg te fe) : RT K mg (fun σ H Q => te σ H fun x H' => ∃ k, TruV K x H' k ∧ Q k H') (dTru fe) := by
  intro W σ s S b S' Q R L e q
  obtain ⟨x, S1, e1, e⟩ := bnd_inv e
  split at e
  · rename_i b' hb
    cases e
    refine h W σ s S x _ _ R L e1 fun v W1 x1 R1 d1 => ⟨_, ?_, q W1 x1 R1⟩
    unfold truD at hb
    split at hb
    · cases hb
      cases (show v = V.non from d1)
      rfl
    · cases hb
      cases (show v = V.bl _ from d1)
      rfl
    · cases hb
      cases (show v = V.int _ from d1)
      rfl
    · split at hb
      · rename_i ds hd
        cases hb
        obtain ⟨a, vs, rfl, h1, h2⟩ := rd_ok R1 d1 hd
        rw [← isEmpty_dens h2]
        rcases h1 with h1 | h1
        · exact .inl ⟨vs, h1, rfl⟩
        · exact .inr (.inl ⟨vs, h1, rfl⟩)
      · cases hb
  · cases e

/-! ### isinstance of built-in types -/
def tyS (S : Sto) : DV → Option String
  | .non => some "NoneType"
  | .bl _ => some "bool"
  | .int _ => some "int"
  | .str _ => some "str"
  | .tup _ => some "tuple"
  | .lst _ => some "list"
  | .ptr n => match S[n]? with
    | some (.ml _) => some "list"
    | _ => none
  | _ => none
theorem tyS_ok {W : Wd} {S : Sto} {d : DV} {v : V} {t : String} (R : Rep K mg W S) (e : tyS S d = some t) (h : Den K W d v) : TyX K W.H v (.type t) := by
  cases d with
  | non =>
    cases (show v = V.non from h)
    cases e
    exact .base .non
  | bl b =>
    cases (show v = V.bl b from h)
    cases e
    exact .base (.bl b)
  | int i =>
    cases (show v = V.int i from h)
    cases e
    exact .base (.int i)
  | str s =>
    cases (show v = V.str s from h)
    cases e
    exact .base (.str s)
  | tup ds =>
    obtain ⟨a, vs, rfl, s, _⟩ := h
    cases e
    rcases s.1 with (s | ⟨o, s⟩) | ⟨o, its, n, h1, h2, _⟩
    · exact .base (.tup s)
    · exact .fTuple s
    · exact .kTuple h1 h2
  | lst ds =>
    obtain ⟨a, vs, rfl, s, _⟩ := h
    cases e
    exact .base (.lst s.2)
  | ptr n =>
    obtain ⟨a, ha, rfl⟩ := h
    unfold tyS at e
    simp only at e
    split at e
    · rename_i ds hS
      cases e
      obtain ⟨vs, h1, _⟩ := R.ob n _ a hS ha
      exact .base (.lst h1)
    · cases e
  | _ => cases e
/-- isinstance(x, T) -/
def isiD : DC := fun xs S => match xs with
  | [x, .ty T] => match tyS S x with
    | some t => match kitB t T with
      | some b => some (.bl b, S)
      | none => none
    | none => none
  | _ => none
theorem rc_isi : RC K mg (rIsi K) isiD := by
  intro W S xs vs d S' Q R h e q
  unfold isiD at e
  split at e
  · rename_i x T
    split at e
    · rename_i t ht
      split at e
      · rename_i b hb
        cases e
        obtain ⟨v, u, rfl, hv, hu⟩ := dens2 h
        cases (show u = V.ty T from hu)
        exact ⟨v, .ty T, _, _, b, rfl, .ty T, tyS_ok R ht hv, kit_ty hb, q _ W (Ext.refl W) R rfl⟩
      · cases e
    · cases e
  · cases e
/-- isinstance(x, (T1, T2)) -/
def kitsB (t : String) : List String → Option Bool
  | [] => some false
  | T :: Ts => match kitB t T with
    | some true => some true
    | some false => kitsB t Ts
    | none => none
theorem kits_ok {t : String} : ∀ {Ts : List String} {b : Bool}, kitsB t Ts = some b → PySem.W.kitAny K (.type t) (Ts.map Value.type) = some b
  | [], _, e => e
  | T :: Ts, b, e => by
    unfold kitsB at e
    split at e
    · rename_i h
      cases e
      exact kitAny_cons (kit_ty h) (fun z => by cases z) fun _ => rfl
    · rename_i h
      exact kitAny_cons (kit_ty h) (fun _ => kits_ok e) fun z => by cases z
    · cases e
def tTys : List String → TA
  | [] => tNil
  | T :: Ts => tCons (tC (.ty T)) (tTys Ts)
theorem tTys_run : ∀ (Ts : List String) (σ : L2.St) (H : Hp) (Q : List V → Hp → Prop), Q (Ts.map V.ty) H → tTys Ts σ H Q
  | [], _, _, _, h => h
  | T :: Ts, σ, H, Q, h => tTys_run Ts σ H (fun xs H2 => Q (.ty T :: xs) H2) h
theorem cls_tys : ∀ Ts : List String, Paired ClsV (Ts.map V.ty) (Ts.map Value.type)
  | [] => .nil
  | T :: Ts => .cons (.ty T) (cls_tys Ts)
@[simp] def dIsiT (Ts : List String) (f : DE) : DE := fun s S => bnd (f s S) fun x S1 => match tyS S1 x with
  | some t => match kitsB t Ts with
    | some b => some (.bl b, S1)
    | none => none
  | none => none
theorem re_isiT {Ts : List String} (hl : Ts.length ≤ 100) (h : RE K mg te fe) : RE K mg (tCB (rIsiT K) (tCons te (tCons (tTup (tTys Ts)) tNil))) (dIsiT Ts fe) := by
  intro W σ s S d S' Q R L e q
  obtain ⟨x, S1, e1, e⟩ := bnd_inv e
  split at e
  · rename_i t ht
    split at e
    · rename_i b hb
      cases e
      refine h W σ s S x _ _ R L e1 fun v W1 x1 R1 d1 => ?_
      refine tTys_run Ts σ W1.H _ ⟨by rw [List.length_map]; exact lim_le (by omega), fun p hp => ?_⟩
      have xf := ext_froz (W := W1) (o := HO.tup (Ts.map V.ty)) hp
      refine ⟨v, p, Ts.map V.ty, _, Ts.map Value.type, b, rfl, upd_same, ?_, tyS_ok (W := W1.froz p _) (rep_froz R1 hp) ht (d1.ext xf), kits_ok hb, q _ (W1.froz p (.tup (Ts.map V.ty))) (x1.trans xf) (rep_froz R1 hp) rfl⟩
      exact cls_tys Ts
    · cases e
  · cases e

/-! ### methods of lists -/
def ptrL (S : Sto) (x : DV) : Option (Nat × List DV) := match x with
  | .ptr n => match S[n]? with
    | some (.ml ds) => some (n, ds)
    | _ => none
  | _ => none
theorem ptrL_ok {W : Wd} {S : Sto} {x : DV} {v : V} {n : Nat} {ds : List DV} (R : Rep K mg W S) (e : ptrL S x = some (n, ds)) (h : Den K W x v) :
    ∃ a vs, v = .ref a ∧ W.H a = some (.lst vs) ∧ Dens K W ds vs ∧ ∀ es us, Dens K W es us → ∃ W', W'.H = upd W.H a (.lst us) ∧ Ext W W' ∧ Rep K mg W' (S.set n (.ml es)) := by
  unfold ptrL at e
  split at e
  · split at e
    · rename_i hS
      cases e
      obtain ⟨a, rfl, ha, hm, vs, h1, h2⟩ := ptr_ok R h hS
      refine ⟨a, vs, rfl, h1, h2, fun es us he => ?_⟩
      have xp := ext_put (o := HO.lst us) R hm
      exact ⟨W.put a (.lst us), rfl, xp, rep_put R ha ⟨us, upd_same, Dens.ext xp _ _ he⟩⟩
    · cases e
  · cases e
noncomputable def appendD : DM := fun x vs S => match ptrL S x, vs with
  | some (n, ds), [y] => gate (ds.length < 100000) (some (.non, S.set n (.ml (ds ++ [y]))))
  | _, _ => none
theorem rm_append : RM K mg rAppend appendD := by
  intro W S x xs v vs d S' Q R hx hs e q
  unfold appendD at e
  split at e
  · rename_i n ds y h1
    obtain ⟨hl, e⟩ := gate_inv e
    cases e
    obtain ⟨u, rfl, hu⟩ := dens1 hs
    obtain ⟨a, us, rfl, h2, h3, h4⟩ := ptrL_ok R h1 hx
    obtain ⟨W', e1, x1, R1⟩ := h4 _ _ (h3.app (Dens.one hu))
    refine ⟨a, us, u, rfl, rfl, h2, by rw [h3.len]; exact lim_lt hl, ?_⟩
    rw [← e1]
    exact q _ W' x1 R1 rfl
  · cases e
noncomputable def extendD : DM := fun x vs S => match ptrL S x, vs with
  | some (n, ds), [y] => match trL S y with
    | some es => gate (ds.length + es.length ≤ 100000) (some (.non, S.set n (.ml (ds ++ es))))
    | none => none
  | _, _ => none
theorem rm_extend : RM K mg rExtend extendD := by
  intro W S x xs v vs d S' Q R hx hs e q
  unfold extendD at e
  split at e
  · rename_i n ds y h1
    split at e
    · rename_i es hes
      obtain ⟨hl, e⟩ := gate_inv e
      cases e
      obtain ⟨u, rfl, hu⟩ := dens1 hs
      obtain ⟨a, us, rfl, h2, h3, h4⟩ := ptrL_ok R h1 hx
      obtain ⟨b, ws, rfl, h5, h6⟩ := trL_ok R hu hes
      obtain ⟨W', e1, x1, R1⟩ := h4 _ _ (h3.app h6)
      refine ⟨a, b, us, ws, rfl, rfl, h2, h5, by rw [h3.len, h6.len]; exact lim_le hl, ?_⟩
      rw [← e1]
      exact q _ W' x1 R1 rfl
    · cases e
  · cases e
theorem Dens.dropLast {W : Wd} {ds : List DV} {vs : List V} (h : Dens K W ds vs) : Dens K W ds.dropLast vs.dropLast := by
  rw [List.dropLast_eq_take, List.dropLast_eq_take, h.len]
  exact h.take _
def popD : DM := fun x vs S => match ptrL S x, vs with
  | some (n, ds), [] => match ds[ds.length - 1]? with
    | some y => some (y, S.set n (.ml ds.dropLast))
    | none => none
  | _, _ => none
theorem rm_pop : RM K mg rPop popD := by
  intro W S x xs v vs d S' Q R hx hs e q
  unfold popD at e
  split at e
  · rename_i n ds h1
    split at e
    · rename_i y hy
      cases e
      cases (show vs = [] from hs)
      obtain ⟨a, us, rfl, h2, h3, h4⟩ := ptrL_ok R h1 hx
      obtain ⟨u, hu1, hu2⟩ := h3.get hy
      obtain ⟨W', e1, x1, R1⟩ := h4 _ _ h3.dropLast
      refine ⟨a, us, u, rfl, rfl, h2, by rw [h3.len]; exact hu1, ?_⟩
      rw [← e1]
      exact q _ W' x1 R1 (hu2.ext x1)
    · cases e
  · cases e
noncomputable def popAtD : DM := fun x vs S => match ptrL S x, vs with
  | some (n, ds), [.int i] => match ixN ds.length i with
    | some k => match ds[k]? with
      | some y => gate (ds.length ≤ 100000) (some (y, S.set n (.ml (ds.eraseIdx k))))
      | none => none
    | none => none
  | _, _ => none
theorem rm_popAt : RM K mg rPopAt popAtD := by
  intro W S x xs v vs d S' Q R hx hs e q
  unfold popAtD at e
  split at e
  · rename_i n ds i h1
    split at e
    · rename_i k hk
      split at e
      · rename_i y hy
        obtain ⟨hl, e⟩ := gate_inv e
        cases e
        obtain ⟨ui, rfl, hi⟩ := dens1 hs
        cases (show ui = V.int i from hi)
        obtain ⟨a, us, rfl, h2, h3, h4⟩ := ptrL_ok R h1 hx
        obtain ⟨u, hu1, hu2⟩ := h3.get hy
        obtain ⟨W', e1, x1, R1⟩ := h4 _ _ (h3.erase k)
        obtain ⟨k1, k2, k3, k4⟩ := ixN_seq hk
        refine ⟨a, us, i, k, u, rfl, rfl, h2, by omega, by omega, by rw [h3.len]; exact k1, hu1, ?_⟩
        rw [← e1]
        exact q _ W' x1 R1 (hu2.ext x1)
      · cases e
    · cases e
  · cases e
def clearD : DM := fun x vs S => match ptrL S x, vs with
  | some (n, _), [] => some (.non, S.set n (.ml []))
  | _, _ => none
theorem rm_clear : RM K mg rClear clearD := by
  intro W S x xs v vs d S' Q R hx hs e q
  unfold clearD at e
  split at e
  · rename_i n ds h1
    cases e
    cases (show vs = [] from hs)
    obtain ⟨a, us, rfl, h2, h3, h4⟩ := ptrL_ok R h1 hx
    obtain ⟨W', e1, x1, R1⟩ := h4 [] [] rfl
    refine ⟨a, us, rfl, rfl, h2, ?_⟩
    rw [← e1]
    exact q _ W' x1 R1 rfl
  · cases e
def reverseD : DM := fun x vs S => match ptrL S x, vs with
  | some (n, ds), [] => some (.non, S.set n (.ml ds.reverse))
  | _, _ => none
theorem rm_reverse : RM K mg rReverse reverseD := by
  intro W S x xs v vs d S' Q R hx hs e q
  unfold reverseD at e
  split at e
  · rename_i n ds h1
    cases e
    cases (show vs = [] from hs)
    obtain ⟨a, us, rfl, h2, h3, h4⟩ := ptrL_ok R h1 hx
    obtain ⟨W', e1, x1, R1⟩ := h4 _ _ h3.rev
    refine ⟨a, us, rfl, rfl, h2, ?_⟩
    rw [← e1]
    exact q _ W' x1 R1 rfl
  · cases e
def rInsert : V → List V → Hp → VK → Prop := fun x vs H Q => ∃ (l : Addr) (xs : List V) (i : Int) (y : V), x = .ref l ∧ vs = [.int i, y] ∧ H l = some (.lst xs) ∧ xs.length < sizeLine ∧ 0 ≤ i ∧ i < 2 ^ 63 ∧
    Q .non (upd H l (.lst (xs.take i.toNat ++ [y] ++ xs.drop i.toNat)))
theorem mt_insertG {X : Cx} : MtR X "list.insert" rInsert := mt_insert
noncomputable def insertD : DM := fun x vs S => match ptrL S x, vs with
  | some (n, ds), [.int i, y] => gate (ds.length < 100000 ∧ 0 ≤ i ∧ i ≤ 100000) (some (.non, S.set n (.ml (ds.take i.toNat ++ [y] ++ ds.drop i.toNat))))
  | _, _ => none
theorem rm_insert : RM K mg rInsert insertD := by
  intro W S x xs v vs d S' Q R hx hs e q
  unfold insertD at e
  split at e
  · rename_i n ds i y h1
    obtain ⟨hl, e⟩ := gate_inv e
    cases e
    obtain ⟨ui, u, rfl, hi, hu⟩ := dens2 hs
    cases (show ui = V.int i from hi)
    obtain ⟨a, us, rfl, h2, h3, h4⟩ := ptrL_ok R h1 hx
    obtain ⟨W', e1, x1, R1⟩ := h4 _ _ (((h3.take i.toNat).app (Dens.one hu)).app (h3.drop i.toNat))
    refine ⟨a, us, i, u, rfl, rfl, h2, by rw [h3.len]; exact lim_lt hl.1, hl.2.1, by omega, ?_⟩
    rw [← e1]
    exact q _ W' x1 R1 rfl
  · cases e
end
end DL
end
section
namespace DL
open PySem PyProof.Rows PySem.Spec L2
/-! ### keywords -/
def pkF {α : Type} (n m : Nat) (ixs : List Nat) (us ws : List α) : List α := if us.length = n ∧ ws.length = m then ixs.filterMap fun i => (us ++ ws)[i]? else []
theorem pick_vals {vs : List V} {us : List Value} (h : Vals vs us) : ∀ ixs : List Nat, Vals (ixs.filterMap fun i => vs[i]?) (ixs.filterMap fun i => us[i]?)
  | [] => .nil
  | i :: ixs => by
    cases q : vs[i]? with
    | none =>
      have q2 := h.none_of q
      rw [List.filterMap_cons_none q, List.filterMap_cons_none q2]
      exact pick_vals h ixs
    | some v =>
      obtain ⟨u, q2, r⟩ := h.get q
      rw [List.filterMap_cons_some q, List.filterMap_cons_some q2]
      exact .cons r (pick_vals h ixs)
theorem vals_pk {n m : Nat} {ixs : List Nat} {vs zs : List V} {us ws : List Value} (h : Vals vs us) (g : Vals zs ws) : Vals (pkF n m ixs vs zs) (pkF n m ixs us ws) := by
  unfold pkF
  rw [h.length, g.length]
  split
  · exact pick_vals (h.append g) ixs
  · exact .nil
section
variable {K : PySem.W.Frag} {mg : Str → Option Value}
theorem pick_dens {W : Wd} {ds : List DV} {vs : List V} (h : Dens K W ds vs) : ∀ ixs : List Nat, Dens K W (ixs.filterMap fun i => ds[i]?) (ixs.filterMap fun i => vs[i]?)
  | [] => rfl
  | i :: ixs => by
    cases q : ds[i]? with
    | none =>
      have q2 : vs[i]? = none := by
        rw [List.getElem?_eq_none_iff] at q ⊢
        rw [h.len]
        exact q
      rw [List.filterMap_cons_none q, List.filterMap_cons_none q2]
      exact pick_dens h ixs
    | some d =>
      obtain ⟨v, q2, r⟩ := h.get q
      rw [List.filterMap_cons_some q, List.filterMap_cons_some q2]
      exact ⟨v, _, rfl, r, pick_dens h ixs⟩
theorem dens_pk {n m : Nat} {ixs : List Nat} (W : Wd) (xs ys : List DV) (vs us : List V) (h : Dens K W xs vs) (g : Dens K W ys us) : Dens K W (pkF n m ixs xs ys) (pkF n m ixs vs us) := by
  unfold pkF
  rw [h.len, g.len]
  split
  · exact pick_dens (h.app g) ixs
  · rfl
theorem kbinds_of {x qual : Str} {st : Stmt} {f : Addr} {fd : FuncData} {ps ks : List Str} {n : Nat} {ixs : List Nat} (F : Fun K x qual st f fd) (hp : ps ≠ [])
    (h : ∀ (kV doc pm : Value) (an : Option Addr) (cdv ct : Value) (us ws : List Value), us.length = n → ws.length = ks.length → bindArgs (PySem.W.fnOf x qual (defArgs st) (defBody st) (defScope st) .none kV doc pm an cdv ct) ⟨us, ks.zip ws⟩ = pure (ps.zip (pkF n ks.length ixs us ws))) :
    KBinds K fd ps ks (pkF n ks.length ixs) (pkF n ks.length ixs) := by
  obtain ⟨oc, od, kV, doc, pm, an, cdv, ct, osl, rfl, lk, hcd⟩ := F.ex
  refine ⟨fun s us ws _ hl => ?_, vals_pk⟩
  by_cases hc : us.length = n ∧ ws.length = ks.length
  · exact .of_eq (h kV doc pm an cdv ct us ws hc.1 hc.2)
  · unfold pkF at hl
    rw [if_neg hc] at hl
    cases ps with
    | nil => exact absurd rfl hp
    | cons p ps => cases hl
section
variable {X : Cx} {CX : CXT} {k : Nat} {f : Addr} {fd : FuncData} {ps ks : List Str} {sp : Sp} {E : XK} {x : Str} {p pos : Pos} {kws : List Keyword} {tk : TA} {g : List Value → List Value → List Value} {gV : List V → List V → List V}
/-- f(k = v, ..), nothing by place -/
theorem pe_callK0 (F : FnOk X.prog X.w X.K X.mg X.base CX k f fd ps sp) (hr : Room k X.A) (hg : Gl X x) (hm : X.mg x = some (.ref f)) (hk : PySem.W.keepIn X.K (.ref f) = true) (hb : KBinds X.K fd ps ks g gV) (hx : Passes CX X E)
    (hkw : PK X kws tk) (hall : (backToKw pos (keywordEach kws X.env)).all (·.1.isSome) = true := by rfl) (hks : (backToKw pos (keywordEach kws X.env)).filterMap (·.1) = ks := by rfl)
    (hdb : (x == ("__debug__" : Str)) = false := by decide)
    (hpl : ((backTo pos (starEach [] X.env)).any (·.1) || (backToKw pos (keywordEach kws X.env)).any (·.1.isNone)) = false := by rfl) :
    PE X (.Call (.Name x p) [] kws pos) (tCallK sp gV E tNil tk) := by
  refine ⟨fun pins s σ H Q I h => ?_⟩
  refine wpAny_Call_Name_kw (ld_glob I hg hm ?_ hdb)
  refine PySem.W.callWith_KW0 (h₀ := X.base) I.ok.mod.kin hk hall ?_ hpl
  refine thn (hkw.run pos pins s σ H _ I h) fun ws s2 ⟨zs, H2, I2, rz, q2⟩ => ⟨I2.kIn, ?_⟩
  rw [hks]
  exact run_fnk (us := []) (vs := []) F hr hb hx I2 .nil rz q2
end
/-! ### the rest -/
def negD : DV → Sto → Option (DV × Sto) := fun x S => match x with
  | .int i => some (.int (-i), S)
  | _ => none
theorem ru_neg : RU K mg (rU fun i => .int (-i)) negD := by
  intro W S x v d S' Q R hx e q
  unfold negD at e
  split at e
  · cases e
    exact ⟨_, hx, q _ W (Ext.refl W) R rfl⟩
  · cases e
/-- the start: the script and tables of code objects are tracked -/
theorem start_world {H : Hp} {a : Addr} {ns : List Int} (t : LamX.Tabs (tabsOf K mg) H) (h : SqL K H a (ns.map V.int)) : ∃ W : Wd, W.H = H ∧ Rep K mg W [] ∧ Den K W (.rls (ns.map DV.int)) (.ref a) := by
  have hd : ∀ W : Wd, Dens K W (ns.map DV.int) (ns.map V.int) := fun W => dens_ints ns
  have rep : ∀ P : Addr → Prop, (∀ b, P b → H b ≠ none) → (∀ b, P b → ∀ ps, H b ≠ some (.tbl ps)) → Rep K mg ⟨P, [], H⟩ [] := fun P hP hQ =>
    ⟨rfl, List.nodup_nil, fun b hb => (nomatch hb), hP, fun n mo b h1 _ => (by simp at h1), t, fun p hp q => by
      obtain ⟨ps, e, _⟩ := t p hp
      exact hQ p.1 q ps e⟩
  rcases h with h | h
  · refine ⟨⟨fun b => b = a, [], H⟩, rfl, rep _ (fun b hb => ?_) (fun b hb ps => ?_), a, _, rfl, ⟨.inl h, .inl rfl⟩, hd _⟩
    · rw [hb]
      rcases h with h | ⟨o, h⟩
      · rw [h]
        exact fun z => by cases z
      · rw [h]
        exact fun z => by cases z
    · rw [hb]
      rcases h with h | ⟨o, h⟩
      · rw [h]
        exact fun z => by cases z
      · rw [h]
        exact fun z => by cases z
  · exact ⟨⟨fun _ => False, [], H⟩, rfl, rep _ (fun b hb => hb.elim) (fun b hb => hb.elim), a, _, rfl, ⟨.inr h, .inr fun _ => .inr h⟩, hd _⟩
/-- a constant tuple of ints, of the written part -/
theorem den_ktup {a : Addr} {o : Obj} {its : Array Value} {n : Nat} {ns : List Int} (h1 : K.lookup a = some o) (h2 : o.cls = .type "tuple") (h3 : o.data = .seq its n) (h4 : its.size ≤ sizeLine) (h5 : Vals (ns.map V.int) its.toList) (W : Wd) :
    Den K W (.tup (ns.map DV.int)) (.ref a) := ⟨a, ns.map V.int, rfl, ⟨.inr ⟨o, its, n, h1, h2, h3, h4, h5⟩, .inr fun _ => .inr ⟨o, its, n, h1, h2, h3, h4, h5⟩⟩, dens_ints ns⟩
def spLaw (K : PySem.W.Frag) : Sp := fun vs H Q _ => ∃ (a : Addr) (ns : List Int), vs = [.ref a] ∧ SqL K H a (ns.map V.int) ∧ ns.length ≤ 63 ∧ ∀ H', Q (.bl true) H'
def spLawT (K : PySem.W.Frag) (mg : Str → Option Value) : Sp := fun vs H Q _ => LamX.Tabs (tabsOf K mg) H ∧ ∃ (a : Addr) (ns : List Int), vs = [.ref a] ∧ SqL K H a (ns.map V.int) ∧ ns.length ≤ 63 ∧ ∀ H', Q (.bl true) H'
theorem law_ofT {P : Program} {w : World} {base : Heap} {k : Nat} {f : Addr} {fd : FuncData} {ps : List Str} {g : List DV → Sto → Option (DV × Sto)} (F : FnOk P w K mg base CX0 k f fd ps (spF K mg 1 g))
    (h : ∀ ns : List Int, ns.length ≤ 63 → ∃ S', g [.rls (ns.map DV.int)] [] = some (.bl true, S')) : FnOk P w K mg base CX0 k f fd ps (spLawT K mg) := by
  refine F.imp fun vs H Q E q => ?_
  obtain ⟨t, a, ns, rfl, hS, hl, q⟩ := q
  obtain ⟨W, e, R, hd⟩ := start_world (mg := mg) t hS
  obtain ⟨S', hg⟩ := h ns hl
  refine ⟨rfl, W, [], [.rls (ns.map DV.int)], _, S', e, R, ⟨_, _, rfl, hd, rfl⟩, hg, fun v W' x R' d => ?_⟩
  cases (show v = V.bl true from d)
  exact q _
theorem law_of {P : Program} {w : World} {base : Heap} {k : Nat} {f : Addr} {fd : FuncData} {ps : List Str} {g : List DV → Sto → Option (DV × Sto)} (h0 : mg "bounds" = none) (F : FnOk P w K mg base CX0 k f fd ps (spF K mg 1 g))
    (h : ∀ ns : List Int, ns.length ≤ 63 → ∃ S', g [.rls (ns.map DV.int)] [] = some (.bl true, S')) : FnOk P w K mg base CX0 k f fd ps (spLaw K) := by
  refine (law_ofT F h).imp fun vs H Q E q => ⟨?_, q⟩
  have e : tabsOf K mg = [] := by unfold tabsOf; rw [h0]
  rw [e]
  exact fun p hp => nomatch hp
end
end DL
end
section
/-! how the functions of data are reckoned -/
namespace DL
open PySem PyProof.Rows PySem.Spec L2

section
variable {α β : Type} {s : Sl} {S S1 : Sto} {d x y : DV} {i j k n : Int}
@[simp] theorem bnd_some' {a : α} {k : α → Sto → Option β} : bnd (some (a, S)) k = k a S := rfl
@[simp] theorem bnd_none {k : α → Sto → Option β} : bnd none k = none := rfl
end
/-! ### what is gone over, as a list -/
def itemsOf : DIt → Option (List DV)
  | .li (.lst ds) => some ds
  | .li (.rls ds) => some ds
  | .tu (.tup ds) => some ds
  | .rg lo n => some ((List.range n).map fun i => DV.int (lo + (i : Nat)))
  | .en (.lst ds) => some (ds.mapIdx fun i x => DV.tup [.int (i : Nat), x])
  | .zp (.lst xs) (.lst ys) => some (List.zipWith (fun x y => DV.tup [x, y]) xs ys)
  | .em (.tup []) => some []
  | .ki fs => some (fs.map fun p => DV.tup [.int p.1, p.2])
  | _ => none
@[simp] theorem items_lst {ds : List DV} : itemsOf (.li (.lst ds)) = some ds := rfl
@[simp] theorem items_rls {ds : List DV} : itemsOf (.li (.rls ds)) = some ds := rfl
@[simp] theorem items_tup {ds : List DV} : itemsOf (.tu (.tup ds)) = some ds := rfl
@[simp] theorem items_rg {lo : Int} {n : Nat} : itemsOf (.rg lo n) = some ((List.range n).map fun i => DV.int (lo + (i : Nat))) := rfl
@[simp] theorem items_en {ds : List DV} : itemsOf (.en (.lst ds)) = some (ds.mapIdx fun i x => DV.tup [.int (i : Nat), x]) := rfl
@[simp] theorem items_zp {xs ys : List DV} : itemsOf (.zp (.lst xs) (.lst ys)) = some (List.zipWith (fun x y => DV.tup [x, y]) xs ys) := rfl
@[simp] theorem items_em : itemsOf (.em (.tup [])) = some [] := rfl
def RgS (j : Int) : Prop := -(2 ^ 62) ≤ j ∧ j < 2 ^ 62
theorem rgS_of {j : Int} (h : 0 ≤ j) (h2 : j ≤ 1000000) : RgS j := ⟨by omega, by omega⟩
noncomputable def rg1D (ds : List DV) (S : Sto) : Option (DIt × Sto) := match ds with
  | [.int j] => gate (-(2 ^ 62) ≤ j ∧ j < 2 ^ 62) (some (.rg 0 j.toNat, S))
  | _ => none
noncomputable def rg2D (ds : List DV) (S : Sto) : Option (DIt × Sto) := match ds with
  | [.int i, .int j] => gate (-(2 ^ 62) ≤ i ∧ i < 2 ^ 62 ∧ -(2 ^ 62) ≤ j ∧ j < 2 ^ 62) (some (.rg i (j - i).toNat, S))
  | _ => none
@[simp] theorem diR1_eq {f : DA} {s : Sl} {S : Sto} : diR1 f s S = bnd (f s S) rg1D := rfl
@[simp] theorem diR2_eq {f : DA} {s : Sl} {S : Sto} : diR2 f s S = bnd (f s S) rg2D := rfl
@[simp] theorem rg1_int {S : Sto} {j : Int} (h : RgS j) : rg1D [.int j] S = some (.rg 0 j.toNat, S) := by
  unfold RgS at h
  simp only [rg1D]
  rw [gate_ok h]
@[simp] theorem rg2_int {S : Sto} {i j : Int} (h : RgS i) (h' : RgS j) : rg2D [.int i, .int j] S = some (.rg i (j - i).toNat, S) := by
  unfold RgS at h h'
  simp only [rg2D]
  rw [gate_ok ⟨h.1, h.2, h'.1, h'.2⟩]
theorem items_at {it : DIt} {xs : List DV} (h : itemsOf it = some xs) (S : Sto) (i : Nat) : itemAt it S i = some xs[i]? ∧ xs.length ≤ itLen it S := by
  cases it with
  | ki fs =>
    cases h
    exact ⟨by simp [itemAt], by simp [itLen]⟩
  | li d =>
    cases d with
    | lst ds => cases h; exact ⟨rfl, Nat.le_refl _⟩
    | rls ds => cases h; exact ⟨rfl, Nat.le_refl _⟩
    | _ => cases h
  | tu d =>
    cases d with
    | tup ds => cases h; exact ⟨rfl, Nat.le_refl _⟩
    | _ => cases h
  | rg lo n =>
    cases h
    refine ⟨?_, by simp [itLen]⟩
    unfold itemAt
    by_cases hi : i < n <;> simp [hi]
  | em d =>
    cases d with
    | tup ds =>
      cases ds with
      | nil =>
        cases h
        exact ⟨rfl, Nat.le_refl _⟩
      | cons d ds => cases h
    | _ => cases h
  | en d =>
    cases d with
    | lst ds =>
      cases h
      refine ⟨?_, by simp [itLen, rdL]⟩
      simp only [itemAt, rdL, List.getElem?_mapIdx]
      cases ds[i]? <;> rfl
    | _ => cases h
  | zt d e => cases h
  | z3 d e f => cases h
  | zp d e =>
    cases d with
    | lst xs =>
      cases e with
      | lst ys =>
        cases h
        refine ⟨?_, by simp [itLen, rdL]; omega⟩
        simp only [itemAt, rdL, List.getElem?_zipWith]
        cases xs[i]? <;> cases ys[i]? <;> rfl
      | _ => cases h
    | _ => cases h
/-- a loop over a list -/
def forL (tgt : DG) (body : DS) : List DV → DS
  | [] => fun s S => some (.nx s S)
  | d :: ds => fun s S => match tgt d s S with
    | none => none
    | some p => match body p.1 p.2 with
      | none => none
      | some r => kLoop r (forL tgt body ds)
theorem forF_items {tgt : DG} {body : DS} {it : DIt} {xs : List DV} (h : itemsOf it = some xs) : ∀ (k i : Nat) (s : Sl) (S : Sto), xs.length < k + i → i ≤ xs.length → forF tgt body it k i s S = forL tgt body (xs.drop i) s S
  | 0, i, s, S, hk, hi => by omega
  | k + 1, i, s, S, hk, hi' => by
    have h1 := (items_at h S i).1
    by_cases hi : i < xs.length
    · rw [List.getElem?_eq_getElem hi] at h1
      rw [List.drop_eq_getElem_cons hi]
      simp only [forF, forL, h1]
      cases e : tgt xs[i] s S with
      | none => rfl
      | some p =>
        simp only
        cases e2 : body p.1 p.2 with
        | none => rfl
        | some r =>
          simp only
          have ih : ∀ s S, forF tgt body it k (i + 1) s S = forL tgt body (xs.drop (i + 1)) s S := fun s S => forF_items h k (i + 1) s S (by omega) (by omega)
          cases r <;> simp [kLoop, ih]
    · have hn : xs[i]? = none := List.getElem?_eq_none (by omega)
      rw [hn] at h1
      rw [List.drop_eq_nil_of_le (by omega)]
      simp only [forF, forL, h1]

theorem dFor_eq {fi : DI} {tgt : DG} {body : DS} {s : Sl} {S : Sto} : dFor fi tgt body s S = bnd (fi s S) fun it S1 => match itemsOf it with
    | some xs => forL tgt body xs s S1
    | none => forF tgt body it (itLen it S1 + 1) 0 s S1 := by
  unfold dFor
  cases e : fi s S with
  | none => rfl
  | some p =>
    obtain ⟨it, S1⟩ := p
    simp only [bnd_some']
    cases h : itemsOf it with
    | none => rfl
    | some xs =>
      simp only
      rw [forF_items h _ 0 s S1 (by have := (items_at h S1 0).2; omega) (Nat.zero_le _), List.drop_zero]
/-- a comprehension over a list -/
def lcL (tgt : DG) (tt : DT) (te : DE) (vs : List Nat) : List DV → List DV → Sl → Sto → Option (List DV × Sto)
  | [], acc, _, S => some (acc, S)
  | d :: ds, acc, s, S => match tgt d (wipeD s vs) S with
    | none => none
    | some p => bnd (tt p.1 p.2) fun b S2 => if b = true then bnd (te p.1 S2) fun y S3 => lcL tgt tt te vs ds (acc ++ [y]) s S3 else lcL tgt tt te vs ds acc s S2
theorem lcF_items {tgt : DG} {tt : DT} {te : DE} {vs : List Nat} {it : DIt} {xs : List DV} (h : itemsOf it = some xs) : ∀ (k i : Nat) (acc : List DV) (s : Sl) (S : Sto), xs.length < k + i → i ≤ xs.length → lcF tgt tt te it vs k i acc s S = lcL tgt tt te vs (xs.drop i) acc s S
  | 0, i, acc, s, S, hk, hi => by omega
  | k + 1, i, acc, s, S, hk, hi' => by
    have h1 := (items_at h S i).1
    by_cases hi : i < xs.length
    · rw [List.getElem?_eq_getElem hi] at h1
      rw [List.drop_eq_getElem_cons hi]
      simp only [lcF, lcL, h1]
      cases e : tgt xs[i] (wipeD s vs) S with
      | none => rfl
      | some p =>
        simp only
        have ih : ∀ acc s S, lcF tgt tt te it vs k (i + 1) acc s S = lcL tgt tt te vs (xs.drop (i + 1)) acc s S := fun acc s S => lcF_items h k (i + 1) acc s S (by omega) (by omega)
        simp only [ih]
    · have hn : xs[i]? = none := List.getElem?_eq_none (by omega)
      rw [hn] at h1
      rw [List.drop_eq_nil_of_le (by omega)]
      simp only [lcF, lcL, h1]
theorem dLc_eq {m : Bool} {fi : DI} {tgt : DG} {tt : DT} {te : DE} {vs : List Nat} {s : Sl} {S : Sto} : dLc m fi tgt tt te vs s S = bnd (fi s S) fun it S1 => bnd (match itemsOf it with
    | some xs => lcL tgt tt te vs xs [] s S1
    | none => lcF tgt tt te it vs (itLen it S1 + 1) 0 [] s S1) fun acc S2 => gate (acc.length ≤ 100000) (some (newL m acc S2)) := by
  unfold dLc
  cases e : fi s S with
  | none => rfl
  | some p =>
    obtain ⟨it, S1⟩ := p
    simp only [bnd_some']
    cases h : itemsOf it with
    | none => rfl
    | some xs =>
      simp only
      rw [lcF_items h _ 0 [] s S1 (by have := (items_at h S1 0).2; omega) (Nat.zero_le _), List.drop_zero]
/-- each element by a function, the store as it was -/
theorem lcL_map {tgt : DG} {tt : DT} {te : DE} {vs : List Nat} {g : DV → DV} {s : Sl} {S : Sto} : ∀ {xs acc : List DV}, (∀ x ∈ xs, ∃ s1, tgt x (wipeD s vs) S = some (s1, S) ∧ tt s1 S = some (true, S) ∧ te s1 S = some (g x, S)) →
    lcL tgt tt te vs xs acc s S = some (acc ++ xs.map g, S)
  | [], acc, _ => by simp [lcL]
  | x :: xs, acc, h => by
    obtain ⟨s1, h1, h2, h3⟩ := h x (List.mem_cons_self)
    simp only [lcL, h1, h2, h3, bnd_some', if_true]
    rw [lcL_map fun y hy => h y (List.mem_cons_of_mem _ hy)]
    simp
/-- each element with a state of the store: I holds at each turn -/
theorem lcL_inv {tgt : DG} {tt : DT} {te : DE} {vs : List Nat} {s : Sl} (I : Nat → List DV → Sto → Prop) : ∀ {xs acc : List DV} {S : Sto} {k : Nat}, I k acc S →
    (∀ (i : Nat) (x : DV) (acc : List DV) (S : Sto), xs[i]? = some x → I (k + i) acc S → ∃ s1 S1 b S2, tgt x (wipeD s vs) S = some (s1, S1) ∧ tt s1 S1 = some (b, S2) ∧ (if b = true then ∃ y S3, te s1 S2 = some (y, S3) ∧ I (k + i + 1) (acc ++ [y]) S3 else I (k + i + 1) acc S2)) →
    ∃ acc' S', lcL tgt tt te vs xs acc s S = some (acc', S') ∧ I (k + xs.length) acc' S'
  | [], acc, S, k, h0, _ => ⟨acc, S, rfl, h0⟩
  | x :: xs, acc, S, k, h0, hs => by
    obtain ⟨s1, S1, b, S2, h1, h2, h3⟩ := hs 0 x acc S rfl h0
    have step : ∀ (i : Nat) (y : DV) (acc : List DV) (S : Sto), xs[i]? = some y → I (k + 1 + i) acc S → ∃ s1 S1 b S2, tgt y (wipeD s vs) S = some (s1, S1) ∧ tt s1 S1 = some (b, S2) ∧ (if b = true then ∃ y S3, te s1 S2 = some (y, S3) ∧ I (k + 1 + i + 1) (acc ++ [y]) S3 else I (k + 1 + i + 1) acc S2) := fun i y acc S e h => by
      have := hs (i + 1) y acc S (by simpa using e) (by rw [show k + (i + 1) = k + 1 + i by omega]; exact h)
      rw [show k + (i + 1) + 1 = k + 1 + i + 1 by omega] at this
      exact this
    cases b with
    | true =>
      rw [if_pos rfl] at h3
      obtain ⟨y, S3, h4, h5⟩ := h3
      obtain ⟨acc', S', e, hI⟩ := lcL_inv I (k := k + 1) h5 step
      refine ⟨acc', S', ?_, by rw [List.length_cons, show k + (xs.length + 1) = k + 1 + xs.length by omega]; exact hI⟩
      simp only [lcL, h1, h2, h4, bnd_some', if_true]
      exact e
    | false =>
      rw [if_neg (by decide)] at h3
      obtain ⟨acc', S', e, hI⟩ := lcL_inv I (k := k + 1) h3 step
      refine ⟨acc', S', ?_, by rw [List.length_cons, show k + (xs.length + 1) = k + 1 + xs.length by omega]; exact hI⟩
      simp only [lcL, h1, h2, bnd_some', Bool.false_eq_true, if_false]
      exact e
/-- a loop that always goes on, by an invariant -/
theorem forL_inv {tgt : DG} {body : DS} (I : Nat → Sl → Sto → Prop) : ∀ {xs : List DV} {s : Sl} {S : Sto} {k : Nat}, I k s S →
    (∀ (i : Nat) (x : DV) (s : Sl) (S : Sto), xs[i]? = some x → I (k + i) s S → ∃ s1 S1 s2 S2, tgt x s S = some (s1, S1) ∧ (body s1 S1 = some (.nx s2 S2) ∨ body s1 S1 = some (.ct s2 S2)) ∧ I (k + i + 1) s2 S2) →
    ∃ s' S', forL tgt body xs s S = some (.nx s' S') ∧ I (k + xs.length) s' S'
  | [], s, S, k, h0, _ => ⟨s, S, rfl, h0⟩
  | x :: xs, s, S, k, h0, hs => by
    obtain ⟨s1, S1, s2, S2, h1, h2, h3⟩ := hs 0 x s S rfl h0
    obtain ⟨s', S', e, hI⟩ := forL_inv (tgt := tgt) (body := body) I (xs := xs) (k := k + 1) h3 fun i y s S e h => by
      have := hs (i + 1) y s S (by simpa using e) (by rw [show k + (i + 1) = k + 1 + i by omega]; exact h)
      rw [show k + (i + 1) + 1 = k + 1 + i + 1 by omega] at this
      exact this
    refine ⟨s', S', ?_, by rw [List.length_cons, show k + (xs.length + 1) = k + 1 + xs.length by omega]; exact hI⟩
    simp only [forL, h1]
    rcases h2 with h2 | h2 <;> simp only [h2, kLoop] <;> exact e
@[simp] theorem exF_same {m : Option Bool} {S : Sto} {d : DV} : exF m S d S = some (d, S) := by
  cases m with
  | none => rfl
  | some m => simp [exF, exF1]
theorem exF_len {m : Option Bool} {S S' : Sto} {d : DV} (h : S'.length = S.length) : exF m S d S' = some (d, S') := by
  cases m with
  | none => rfl
  | some m => simp [exF, exF1, h]
@[simp] theorem exF_raw {S S' : Sto} {d : DV} : exF none S d S' = some (d, S') := rfl
/-! ### operations -/
section
variable {S : Sto} {i j : Int} {x y d : DV} {ds es : List DV} {m : Bool}
@[simp] theorem subD_int : subD (.int i) (.int j) S = some (.int (i - j), S) := rfl
@[simp] theorem addD_int : addD m (.int i) (.int j) S = some (.int (i + j), S) := rfl
@[simp] theorem mulD_int (h : Fits i) (g : Fits j) : mulD (.int i) (.int j) S = some (.int (i * j), S) := by
  simp [mulD, h, g]
@[simp] theorem fdivD_int (h : FitsD j) : fdivD (.int i) (.int j) S = some (.int (i / j), S) := by
  simp [fdivD, h]
@[simp] theorem modD_int (h : 0 < j) : modD (.int i) (.int j) S = some (.int (i % j), S) := by
  simp [modD, h]
theorem powD_int (h : 0 ≤ j) (h1 : j ≤ 1000) (h2 : i.natAbs < 2 ^ 64) : powD (.int i) (.int j) S = some (.int (i ^ j.toNat), S) := by
  unfold powD
  simp only
  rw [gate_ok ⟨h, h1, h2⟩]
@[simp] theorem ltD_int : ltD (.int i) (.int j) S = some (.bl (decide (i < j)), S) := rfl
@[simp] theorem leD_int : leD (.int i) (.int j) S = some (.bl (decide (i ≤ j)), S) := rfl
@[simp] theorem gtD_int : gtD (.int i) (.int j) S = some (.bl (decide (j < i)), S) := rfl
@[simp] theorem geD_int : geD (.int i) (.int j) S = some (.bl (decide (j ≤ i)), S) := rfl
@[simp] theorem negD_int : negD (.int i) S = some (.int (-i), S) := rfl
@[simp] theorem rdL_lst : rdL S (.lst ds) = some ds := rfl
@[simp] theorem rdL_rls : rdL S (.rls ds) = some ds := rfl
@[simp] theorem rdL_tup : rdL S (.tup ds) = none := rfl
@[simp] theorem rdT_tup : rdT (.tup ds) = some ds := rfl
@[simp] theorem trL_lst : trL S (.lst ds) = some ds := rfl
@[simp] theorem addD_lst : addD m (.lst ds) (.lst es) S = gate (ds.length + es.length ≤ 100000) (some (newL m (ds ++ es) S)) := rfl
@[simp] theorem newL_f : newL false ds S = (.lst ds, S) := rfl
@[simp] theorem newL_t : newL true ds S = (.ptr S.length, S ++ [.ml ds]) := rfl
@[simp] theorem atI_0 {α : Type} {a : α} {l : List α} : L2.atI (a :: l) 0 = some a := L2.atI_nat (xs := a :: l) (j := 0) (v := a) rfl
@[simp] theorem atI_1 {α : Type} {a b : α} {l : List α} : L2.atI (a :: b :: l) 1 = some b := by
  have := L2.atI_nat (xs := a :: b :: l) (j := 1) (v := b) rfl
  exact this
@[simp] theorem gcdD_int : gcdD [.int i, .int j] S = some (.int ((Nat.gcd i.natAbs j.natAbs : Nat) : Int), S) := rfl
@[simp] theorem absD_int : absD [.int i] S = some (.int (if i < 0 then -i else i), S) := rfl
@[simp] theorem maxD_int : maxD [.int i, .int j] S = some (.int (if j > i then j else i), S) := rfl
@[simp] theorem minD_int : minD [.int i, .int j] S = some (.int (if j < i then j else i), S) := rfl
@[simp] theorem lenD_lst : lenD [.lst ds] S = some (.int (ds.length : Nat), S) := rfl
@[simp] theorem lenD_rls : lenD [.rls ds] S = some (.int (ds.length : Nat), S) := rfl
@[simp] theorem lenD_tup : lenD [.tup ds] S = some (.int (ds.length : Nat), S) := rfl
theorem ixD_lst (h : L2.atI ds i = some d) : ixD (.lst ds) (.int i) S = some (d, S) := by
  simp [ixD, h]
theorem ixD_tup (h : L2.atI ds i = some d) : ixD (.tup ds) (.int i) S = some (d, S) := by
  simp [ixD, h]
theorem at_nat {α : Type} {l : List α} {n : Nat} {a : α} {k : Int} (hk : k = (n : Int)) (h : l[n]? = some a) : L2.atI l k = some a := by
  rw [hk]
  exact L2.atI_nat h
end
theorem fits_of {i : Int} {n : Nat} (h : i.natAbs < 2 ^ n) (hn : n ≤ 400000) : Fits i := Nat.lt_of_lt_of_le h (Nat.pow_le_pow_right (by decide) hn)
theorem fitsD_of {i : Int} {n : Nat} (h0 : 0 < i) (h : i.natAbs < 2 ^ n) (hn : n ≤ 8000) : FitsD i := ⟨h0, Nat.lt_of_lt_of_le h (Nat.pow_le_pow_right (by decide) hn)⟩
theorem fits_small {i : Int} (h : i.natAbs < 2 ^ 200) : Fits i := fits_of h (by decide)
theorem fitsD_small {i : Int} (h0 : 0 < i) (h : i.natAbs < 2 ^ 200) : FitsD i := fitsD_of h0 h (by decide)
/-! ### equal data -/
def ShN (n : Nat) (p : PyData) : Prop := p.canLay0 = true ∧ p.depth ≤ n
theorem ShN.shaped {n : Nat} {p : PyData} (h : ShN n p) (hn : n ≤ 64) : SeqAt.shaped p = true := by
  unfold SeqAt.shaped
  rw [h.1, Bool.true_and]
  exact decide_eq_true (Nat.le_trans h.2 hn)
theorem shN_int {n : Nat} {i : Int} : ShN n (.int i) := ⟨rfl, Nat.zero_le _⟩
theorem shN_non {n : Nat} : ShN n .none := ⟨rfl, Nat.zero_le _⟩
theorem shN_bl {n : Nat} {b : Bool} : ShN n (.bool b) := ⟨rfl, Nat.zero_le _⟩
theorem canLay_all : ∀ {ps : List PyData}, (∀ p ∈ ps, p.canLay0 = true) → PyData.canLayAll0 ps = true
  | [], _ => rfl
  | p :: ps, h => by
    show (p.canLay0 && PyData.canLayAll0 ps) = true
    rw [h p (List.mem_cons_self), canLay_all fun q hq => h q (List.mem_cons_of_mem _ hq)]
    rfl
theorem depth_all {n : Nat} : ∀ {ps : List PyData}, (∀ p ∈ ps, p.depth ≤ n) → PyData.depthAll ps ≤ n
  | [], _ => Nat.zero_le _
  | p :: ps, h => by
    show max p.depth (PyData.depthAll ps) ≤ n
    have h1 := h p (List.mem_cons_self)
    have h2 := depth_all fun q hq => h q (List.mem_cons_of_mem _ hq)
    omega
theorem shN_list {n : Nat} {ps : List PyData} (h : ∀ p ∈ ps, ShN n p) : ShN (n + 1) (.list ps) := ⟨canLay_all fun p hp => (h p hp).1, Nat.succ_le_succ (depth_all fun p hp => (h p hp).2)⟩
theorem shN_tuple {n : Nat} {ps : List PyData} (h : ∀ p ∈ ps, ShN n p) : ShN (n + 1) (.tuple ps) := ⟨canLay_all fun p hp => (h p hp).1, Nat.succ_le_succ (depth_all fun p hp => (h p hp).2)⟩
theorem pys_map {α : Type} {r : Nat → Option PyData} {f : α → DV} {g : α → PyData} (h : ∀ x, py r (f x) = some (g x)) : ∀ xs : List α, pys r (xs.map f) = some (xs.map g)
  | [] => rfl
  | x :: xs => by simp [pys, h x, pys_map h xs]
theorem eqv_map {α : Type} [DecidableEq α] {g : α → PyData} (h : ∀ x y, PyData.eqv (g x) (g y) = decide (x = y)) : ∀ xs ys : List α, PyData.eqvAll (xs.map g) (ys.map g) = decide (xs = ys)
  | [], [] => by simp [PyData.eqvAll]
  | [], y :: ys => by simp [PyData.eqvAll]
  | x :: xs, [] => by simp [PyData.eqvAll]
  | x :: xs, y :: ys => by simp [PyData.eqvAll, h x y, eqv_map h xs ys]
theorem eqD_of {S : Sto} {x y : DV} {p q : PyData} {n : Nat} (h1 : pyS S x = some p) (h2 : pyS S y = some q) (h3 : ShN n p) (h4 : ShN n q) (hn : n ≤ 64) : eqD x y S = some (.bl (PyData.eqv p q), S) := by
  simp [eqD, h1, h2, h3.shaped hn, h4.shaped hn]
theorem neD_of {S : Sto} {x y : DV} {p q : PyData} {n : Nat} (h1 : pyS S x = some p) (h2 : pyS S y = some q) (h3 : ShN n p) (h4 : ShN n q) (hn : n ≤ 64) : neD x y S = some (.bl (!PyData.eqv p q), S) := by
  simp [neD, h1, h2, h3.shaped hn, h4.shaped hn]
@[simp] theorem eqD_int {S : Sto} {i j : Int} : eqD (.int i) (.int j) S = some (.bl (decide (i = j)), S) := by
  rw [eqD_of (n := 0) rfl rfl shN_int shN_int (by decide)]
  simp [PyData.eqv, Bool.beq_eq_decide_eq]
@[simp] theorem neD_int {S : Sto} {i j : Int} : neD (.int i) (.int j) S = some (.bl (!decide (i = j)), S) := by
  rw [neD_of (n := 0) rfl rfl shN_int shN_int (by decide)]
  simp [PyData.eqv, Bool.beq_eq_decide_eq]
/-- while: it ends -/
theorem while_step {c : DT} {b : DS} {n : Nat} {s s2 : Sl} {S S1 S2 : Sto} (h1 : c s S = some (true, S1)) (h2 : b s S1 = some (.nx s2 S2)) : whileF c b (n + 1) s S = whileF c b n s2 S2 := by
  simp [whileF, h1, h2]
theorem while_end {c : DT} {b : DS} {n : Nat} {s : Sl} {S S1 : Sto} (h1 : c s S = some (false, S1)) : whileF c b (n + 1) s S = some (.nx s S1) := by
  simp [whileF, h1]
theorem lt_fuel {n k : Nat} (h : n < 2 ^ k) (hk : k ≤ 1000000) : n < FUEL := by
  unfold FUEL
  exact Nat.lt_of_lt_of_le h (Nat.pow_le_pow_right (by decide) hk)
/-! ### a statement at a time -/
section
variable {f g : DS} {fe : DE} {s s1 : Sl} {S S1 S2 : Sto} {d : DV} {i n : Nat} {r : Option Res}
theorem seq_nx (h1 : f s S = some (.nx s1 S1)) (h2 : g s1 S1 = r) : dSeq f g s S = r := by
  simp only [dSeq, h1, kNx, h2]
theorem seq_rt (h1 : f s S = some (.rt d S1)) : dSeq f g s S = some (.rt d S1) := by
  simp only [dSeq, h1, kNx]
theorem asg_name (h : fe s S = some (d, S1)) : dAsg fe (dName i) s S = some (.nx (s.set i (some d)) S1) := by
  simp only [dAsg, h, bnd_some', dName]
theorem ret_of (h : fe s S = some (d, S1)) : dRet fe s S = some (.rt d S1) := by
  simp only [dRet, h, bnd_some']
theorem drop_of (h : fe s S = some (d, S1)) : dDrop fe s S = some (.nx s S1) := by
  simp only [dDrop, h, bnd_some']
theorem if_t {t : DT} (h : t s S = some (true, S1)) (h2 : f s S1 = r) : dIfS t f g s S = r := by
  simp only [dIfS, h, bnd_some', if_true, h2]
theorem if_f {t : DT} (h : t s S = some (false, S1)) (h2 : g s S1 = r) : dIfS t f g s S = r := by
  simp only [dIfS, h, bnd_some', Bool.false_eq_true, if_false, h2]
theorem lc_of {m : Bool} {fi : DI} {tgt : DG} {tt : DT} {te : DE} {vs : List Nat} {it : DIt} {xs acc : List DV} (h : fi s S = some (it, S1)) (hx : itemsOf it = some xs) (hl : lcL tgt tt te vs xs [] s S1 = some (acc, S2)) (hn : acc.length ≤ 100000) :
    dLc m fi tgt tt te vs s S = some (newL m acc S2) := by
  rw [dLc_eq, h, bnd_some', hx]
  simp only [hl, bnd_some', gate_ok hn]
theorem for_of {fi : DI} {tgt : DG} {body : DS} {it : DIt} {xs : List DV} (h : fi s S = some (it, S1)) (hx : itemsOf it = some xs) (hl : forL tgt body xs s S1 = r) : dFor fi tgt body s S = r := by
  rw [dFor_eq, h, bnd_some', hx]
  exact hl
theorem fn_rt {m : Option Bool} {body : DS} {ds : List DV} {r : Option (DV × Sto)} (h : body (startD n ds) S = some (.rt d S1)) (h2 : exF m S d S1 = r) : fnF m n body ds S = r := by
  simp only [fnF, h, h2]
theorem fn_nx {m : Option Bool} {body : DS} {ds : List DV} {r : Option (DV × Sto)} (h : body (startD n ds) S = some (.nx s S1)) (h2 : exF m S .non S1 = r) : fnF m n body ds S = r := by
  simp only [fnF, h, h2]
end
end DL
end
section
namespace FW
open PySem PyProof.Rows PySem.Spec L2 DL
/-! ### each def as a function of data -/
noncomputable def b_law_alike_z (rec : List DV → Sto → Option (DV × Sto)) : DS :=
    (dSeq (dIfS (dTest (dIsN false (dVar 1)))
    (dRet (dIsN false (dVar 0))) dNext)
    (dSeq (dIfS (dTest (dCB isiD (dCons (dVar 1) (dCons (dC (.ty "bool")) dNil))))
    (dRet (dAndV (dCB isiD (dCons (dVar 0) (dCons (dC (.ty "bool")) dNil))) (dOp eqD (dVar 0) (dVar 1)))) dNext)
    (dSeq (dIfS (dTest (dCB isiD (dCons (dVar 1) (dCons (dC (.ty "int")) dNil))))
    (dRet (dAndV (dCB isiD (dCons (dVar 0) (dCons (dC (.ty "int")) dNil))) (dAndV (dNotV (dCB isiD (dCons (dVar 0) (dCons (dC (.ty "bool")) dNil)))) (dOp eqD (dVar 0) (dVar 1))))) dNext)
    (dSeq (dIfS (dTest (dCB isiD (dCons (dVar 1) (dCons (dC (.ty "str")) dNil))))
    (dRet (dAndV (dCB isiD (dCons (dVar 0) (dCons (dC (.ty "str")) dNil))) (dOp eqD (dVar 0) (dVar 1)))) dNext)
    (dSeq (dIfS (dOr (dTest (dOp neD (dCB isiD (dCons (dVar 0) (dCons (dC (.ty "list")) dNil))) (dCB isiD (dCons (dVar 1) (dCons (dC (.ty "list")) dNil))))) (dTest (dOp neD (dCB isiD (dCons (dVar 0) (dCons (dC (.ty "tuple")) dNil))) (dCB isiD (dCons (dVar 1) (dCons (dC (.ty "tuple")) dNil))))))
    (dRet (dC (.bl false))) dNext)
    (dSeq (dIfS (dTest (dOp neD (dCB lenD (dCons (dVar 0) dNil)) (dCB lenD (dCons (dVar 1) dNil))))
    (dRet (dC (.bl false))) dNext)
    (dSeq (dFor (diR1 (dCons (dCB lenD (dCons (dVar 1) dNil)) dNil)) (dName 2)
    (dIfS (dNot (dTest (dCall 2 rec [] (dCons (dOp ixD (dVar 0) (dVar 2)) (dCons (dOp ixD (dVar 1) (dVar 2)) dNil)))))
    (dRet (dC (.bl false))) dNext))
    (dRet (dC (.bl true))))))))))
noncomputable def f_law_alike_z : Nat → List DV → Sto → Option (DV × Sto)
  | 0 => fun _ _ => none
  | k + 1 => fnF (some false) 3 (b_law_alike_z (f_law_alike_z k))
noncomputable def b_law_low_z : DS :=
    (dSeq (dPar 2 3 (dCons (dCB maxD (dCons (dVar 0) (dCons (dOp subD (dC (.int 0)) (dVar 0)) dNil))) (dCons (dVar 1) dNil)))
    (dSeq (dWhile (dTest (dOp gtD (dVar 2) (dC (.int 0))))
    (dPar 2 3 (dCons (dOp modD (dVar 3) (dVar 2)) (dCons (dVar 2) dNil))))
    (dRet (dTup (dCons (dOp fdivD (dVar 0) (dVar 3)) (dCons (dOp fdivD (dVar 1) (dVar 3)) dNil))))))
noncomputable def f_law_low_z : List DV → Sto → Option (DV × Sto) := fnF (some false) 4 b_law_low_z
noncomputable def b_law_plus_z : DS :=
    (dRet (dCall 2 f_law_low_z [] (dCons (dOp (addD false) (dOp mulD (dOp ixD (dVar 0) (dC (.int 0))) (dOp ixD (dVar 1) (dC (.int 1)))) (dOp mulD (dOp ixD (dVar 1) (dC (.int 0))) (dOp ixD (dVar 0) (dC (.int 1))))) (dCons (dOp mulD (dOp ixD (dVar 0) (dC (.int 1))) (dOp ixD (dVar 1) (dC (.int 1)))) dNil))))
noncomputable def f_law_plus_z : List DV → Sto → Option (DV × Sto) := fnF (some false) 2 b_law_plus_z
noncomputable def b_law_heaps_z : DS :=
    (dSeq (dAsg (dLst true (dCons (dTup (dCons (dC (.int 0)) (dCons (dC (.int 1)) dNil))) dNil)) (dName 1))
    (dSeq (dFor (diL (dVar 0)) (dName 2)
    (dDrop (dBM "list" appendD (dVar 1) (dCons (dCall 2 f_law_plus_z [] (dCons (dOp ixD (dVar 1) (dUn negD (dC (.int 1)))) (dCons (dVar 2) dNil))) dNil))))
    (dRet (dVar 1))))
noncomputable def f_law_heaps_z : List DV → Sto → Option (DV × Sto) := fnF (some false) 3 b_law_heaps_z
noncomputable def b_lowest_z : DS :=
    (dSeq (dAsg (dCB gcdD (dCons (dVar 0) (dCons (dVar 1) dNil))) (dName 2))
    (dRet (dTup (dCons (dOp fdivD (dVar 0) (dVar 2)) (dCons (dOp fdivD (dVar 1) (dVar 2)) dNil)))))
noncomputable def f_lowest_z : List DV → Sto → Option (DV × Sto) := fnF (some false) 3 b_lowest_z
noncomputable def b_plus_z : DS :=
    (dSeq (dAsg (dCB gcdD (dCons (dOp ixD (dVar 0) (dC (.int 1))) (dCons (dOp ixD (dVar 1) (dC (.int 1))) dNil))) (dName 2))
    (dSeq (dAsg (dOp fdivD (dOp ixD (dVar 0) (dC (.int 1))) (dVar 2)) (dName 3))
    (dSeq (dAsg (dCall 2 f_lowest_z [] (dCons (dOp (addD false) (dOp mulD (dOp ixD (dVar 0) (dC (.int 0))) (dOp fdivD (dOp ixD (dVar 1) (dC (.int 1))) (dVar 2))) (dOp mulD (dOp ixD (dVar 1) (dC (.int 0))) (dVar 3))) (dCons (dVar 2) dNil))) (dGTup 2 (dGCons (dName 4) (dGCons (dName 5) dGNil))))
    (dRet (dTup (dCons (dVar 4) (dCons (dOp mulD (dOp mulD (dVar 5) (dVar 3)) (dOp fdivD (dOp ixD (dVar 1) (dC (.int 1))) (dVar 2))) dNil)))))))
noncomputable def f_plus_z : List DV → Sto → Option (DV × Sto) := fnF (some false) 6 b_plus_z
noncomputable def b_above_z : DS :=
    (dRet (dOp gtD (dOp mulD (dOp ixD (dVar 0) (dC (.int 0))) (dOp ixD (dVar 1) (dC (.int 1)))) (dOp mulD (dOp ixD (dVar 1) (dC (.int 0))) (dOp ixD (dVar 0) (dC (.int 1))))))
noncomputable def f_above_z : List DV → Sto → Option (DV × Sto) := fnF (some false) 2 b_above_z
noncomputable def b_check_water_z : DS :=
    (dSeq (dIfS (dTest (dOp neD (dCB lenD (dCons (dVar 1) dNil)) (dCB lenD (dCons (dVar 0) dNil))))
    dNever dNext)
    (dFor (diE (dCons (dVar 1) dNil)) (dGTup 2 (dGCons (dName 2) (dGCons (dName 3) dGNil)))
    (dIfS (dTest (dCall 2 f_above_z [] (dCons (dC (.tup [(.int 0), (.int 1)])) (dCons (dVar 3) dNil))))
    dNever dNext)))
noncomputable def f_check_water_z : List DV → Sto → Option (DV × Sto) := fnF (some false) 4 b_check_water_z
noncomputable def b_check_floors_z : DS :=
    (dSeq (dIfS (dTest (dOp eqD (dCB lenD (dCons (dVar 0) dNil)) (dC (.int 0))))
    dNever dNext)
    (dFor (diE (dCons (dVar 0) dNil)) (dGTup 2 (dGCons (dName 1) (dGCons (dName 2) dGNil)))
    (dIfS (dTest (dOp ltD (dVar 2) (dC (.int 1))))
    dNever dNext)))
noncomputable def f_check_floors_z : List DV → Sto → Option (DV × Sto) := fnF (some false) 3 b_check_floors_z
noncomputable def b_sums_k : DS :=
    (dSeq (dAsg (dLst true (dCons (dC (.tup [(.int 0), (.int 1)])) dNil)) (dName 1))
    (dSeq (dFor (diL (dVar 0)) (dName 2)
    (dDrop (dBM "list" appendD (dVar 1) (dCons (dCall 2 f_plus_z [] (dCons (dOp ixD (dVar 1) (dUn negD (dC (.int 1)))) (dCons (dVar 2) dNil))) dNil))))
    (dRet (dVar 1))))
noncomputable def f_sums_k : List DV → Sto → Option (DV × Sto) := fnF (some true) 3 b_sums_k
noncomputable def b_heaped_k : DS :=
    (dSeq (dDrop (dCall 1 f_check_floors_z [] (dCons (dVar 0) dNil)))
    (dSeq (dDrop (dCall 2 f_check_water_z [] (dCons (dVar 0) (dCons (dVar 1) dNil))))
    (dRet (dCall 1 f_sums_k [] (dCons (dVar 1) dNil)))))
noncomputable def f_heaped_k : List DV → Sto → Option (DV × Sto) := fnF (some true) 2 b_heaped_k
noncomputable def b_sums_z : DS :=
    (dSeq (dAsg (dLst true (dCons (dC (.tup [(.int 0), (.int 1)])) dNil)) (dName 1))
    (dSeq (dFor (diL (dVar 0)) (dName 2)
    (dDrop (dBM "list" appendD (dVar 1) (dCons (dCall 2 f_plus_z [] (dCons (dOp ixD (dVar 1) (dUn negD (dC (.int 1)))) (dCons (dVar 2) dNil))) dNil))))
    (dRet (dVar 1))))
noncomputable def f_sums_z : List DV → Sto → Option (DV × Sto) := fnF (some false) 3 b_sums_z
noncomputable def b_heaped_z : DS :=
    (dSeq (dDrop (dCall 1 f_check_floors_z [] (dCons (dVar 0) dNil)))
    (dSeq (dDrop (dCall 2 f_check_water_z [] (dCons (dVar 0) (dCons (dVar 1) dNil))))
    (dRet (dCall 1 f_sums_z [] (dCons (dVar 1) dNil)))))
noncomputable def f_heaped_z : List DV → Sto → Option (DV × Sto) := fnF (some false) 2 b_heaped_z
noncomputable def b_places_k : DS :=
    (dSeq (dDrop (dCall 1 f_check_floors_z [] (dCons (dVar 0) dNil)))
    (dSeq (dAsg (dLst true (dCons (dC (.int 0)) dNil)) (dName 1))
    (dSeq (dFor (diL (dVar 0)) (dName 2)
    (dDrop (dBM "list" appendD (dVar 1) (dCons (dOp (addD false) (dOp ixD (dVar 1) (dUn negD (dC (.int 1)))) (dVar 2)) dNil))))
    (dRet (dVar 1)))))
noncomputable def f_places_k : List DV → Sto → Option (DV × Sto) := fnF (some true) 3 b_places_k
noncomputable def b_law_own_z : DS :=
    (dSeq (dDrop (dBM "list" appendD (dVar 0) (dCons (dTup (dCons (dC (.int 9)) (dCons (dC (.int 1)) dNil))) dNil)))
    (dAsg (dTup (dCons (dC (.int 7)) (dCons (dC (.int 1)) dNil))) (dSub (dVar 0) (dC (.int 0)))))
noncomputable def f_law_own_z : List DV → Sto → Option (DV × Sto) := fnF (some false) 1 b_law_own_z
noncomputable def b_law_draw_z : DS :=
    (dSeq (dWhile (dAnd (dTest (dOp ltD (dOp ixD (dVar 0) (dC (.int 1))) (dC (.int 2)))) (dTest (dOp neD (dOp ixD (dVar 0) (dC (.int 0))) (dLst false dNil))))
    (dAsg (dBM "list" popAtD (dOp ixD (dVar 0) (dC (.int 0))) (dCons (dC (.int 0)) dNil)) (dSub (dVar 0) (dC (.int 1)))))
    (dSeq (dIfS (dTest (dOp geD (dOp ixD (dVar 0) (dC (.int 1))) (dC (.int 2))))
    (dSeq (dAsg (dOp modD (dOp ixD (dVar 0) (dC (.int 1))) (dVar 1)) (dName 2))
    (dSeq (dAsg (dOp fdivD (dOp ixD (dVar 0) (dC (.int 1))) (dVar 1)) (dSub (dVar 0) (dC (.int 1))))
    (dRet (dVar 2)))) dNext)
    (dSeq (dAsg (dOp (addD false) (dOp ixD (dVar 0) (dC (.int 3))) (dC (.int 1))) (dSub (dVar 0) (dC (.int 3))))
    (dSeq (dAsg (dOp modD (dOp (addD false) (dOp mulD (dOp (addD false) (dOp ixD (dVar 0) (dC (.int 2))) (dC (.int 5))) (dOp powD (dOp (addD false) (dOp ixD (dVar 0) (dC (.int 3))) (dC (.int 2))) (dC (.int 3)))) (dOp mulD (dC (.int 1000003)) (dOp ixD (dVar 0) (dC (.int 3))))) (dOp subD (dOp powD (dC (.int 2)) (dC (.int 61))) (dC (.int 1)))) (dName 3))
    (dRet (dOp modD (dOp fdivD (dOp modD (dOp powD (dVar 3) (dC (.int 5))) (dOp (addD false) (dOp powD (dC (.int 10)) (dC (.int 18))) (dC (.int 9)))) (dC (.int 64))) (dVar 1)))))))
noncomputable def f_law_draw_z : List DV → Sto → Option (DV × Sto) := fnF (some false) 4 b_law_draw_z
noncomputable def b_law_amount_z : DS :=
    (dSeq (dAsg (dLst true (dCons (dC (.int 0)) (dCons (dOp mulD (dOp mulD (dVar 1) (dVar 2)) (dCall 2 f_law_draw_z [] (dCons (dVar 0) (dCons (dC (.int 4)) dNil)))) (dCons (dCall 2 f_law_draw_z [] (dCons (dVar 0) (dCons (dC (.int 20)) dNil))) (dCons (dCall 2 f_law_draw_z [] (dCons (dVar 0) (dCons (dOp powD (dC (.int 10)) (dC (.int 4))) dNil))) dNil))))) (dName 3))
    (dSeq (dDrop (dBM "list" appendD (dVar 3) (dCons (dCall 2 f_law_draw_z [] (dCons (dVar 0) (dCons (dOp powD (dC (.int 10)) (dC (.int 12))) dNil))) dNil)))
    (dRet (dCall 2 f_law_low_z [] (dCons (dOp ixD (dVar 3) (dCall 2 f_law_draw_z [] (dCons (dVar 0) (dCons (dC (.int 5)) dNil)))) (dCons (dVar 2) dNil))))))
noncomputable def f_law_amount_z : List DV → Sto → Option (DV × Sto) := fnF (some false) 4 b_law_amount_z
noncomputable def b_law_amounts_z : DS :=
    (dSeq (dAsg (dLc false (diL (dVar 1)) (dName 5) dYes (dCall 3 f_law_amount_z [] (dCons (dVar 0) (dCons (dVar 5) (dCons (dIf (dTest (dOp gtD (dVar 2) (dC (.int 0)))) (dVar 2) (dOp (addD false) (dC (.int 1)) (dCall 2 f_law_draw_z [] (dCons (dVar 0) (dCons (dC (.int 60)) dNil))))) dNil)))) [5]) (dName 3))
    (dSeq (dAsg (dOp ixD (dLst false (dCons (dC (.int 0)) (dCons (dOp subD (dCB lenD (dCons (dVar 1) dNil)) (dC (.int 1))) (dCons (dC .non) (dCons (dC .non) (dCons (dC .non) dNil)))))) (dCall 2 f_law_draw_z [] (dCons (dVar 0) (dCons (dC (.int 5)) dNil)))) (dName 4))
    (dRet (dLc false (diR1 (dCons (dCB lenD (dCons (dVar 1) dNil)) dNil)) (dName 6) dYes (dIf (dOr (dTest (dIsN false (dVar 4))) (dTest (dOp eqD (dVar 6) (dVar 4)))) (dOp ixD (dVar 3) (dVar 6)) (dTup (dCons (dC (.int 0)) (dCons (dC (.int 1)) dNil)))) [6]))))
noncomputable def f_law_amounts_z : List DV → Sto → Option (DV × Sto) := fnF (some false) 7 b_law_amounts_z
noncomputable def b_law_bottom_z : DS :=
    (dRet (dOp ixD (dLst false (dCons (dC (.int 1)) (dCons (dOp (addD false) (dC (.int 1)) (dCall 2 f_law_draw_z [] (dCons (dVar 0) (dCons (dC (.int 60)) dNil)))) (dCons (dC (.int 60)) (dCons (dC (.int 0)) dNil))))) (dCall 2 f_law_draw_z [] (dCons (dVar 0) (dCons (dC (.int 4)) dNil)))))
noncomputable def f_law_bottom_z : List DV → Sto → Option (DV × Sto) := fnF (some false) 1 b_law_bottom_z
noncomputable def b_law_wides_z : DS :=
    (dSeq (dAsg (dOp ixD (dLst false (dCons (dC (.int 1)) (dCons (dC (.int 2)) (dCons (dC (.int 9)) dNil)))) (dCall 2 f_law_draw_z [] (dCons (dVar 0) (dCons (dC (.int 3)) dNil)))) (dName 2))
    (dRet (dLc false (diR1 (dCons (dOp (addD false) (dC (.int 1)) (dCall 2 f_law_draw_z [] (dCons (dVar 0) (dCons (dVar 1) dNil)))) dNil)) (dName 3) dYes (dOp (addD false) (dC (.int 1)) (dCall 2 f_law_draw_z [] (dCons (dVar 0) (dCons (dVar 2) dNil)))) [3])))
noncomputable def f_law_wides_z : List DV → Sto → Option (DV × Sto) := fnF (some false) 4 b_law_wides_z
noncomputable def b_law_tray_r : DS :=
    (dSeq (dAsg (dC (.int 314159265358979)) (dName 1))
    (dSeq (dAsg (dLst true dNil) (dName 2))
    (dSeq (dFor (diL (dVar 0)) (dName 3)
    (dSeq (dAsg (dOp modD (dOp (addD false) (dOp mulD (dVar 1) (dC (.int 1000003))) (dVar 3)) (dOp subD (dOp powD (dC (.int 2)) (dC (.int 61))) (dC (.int 1)))) (dName 1))
    (dSeq (dAsg (dCB maxD (dCons (dVar 3) (dCons (dOp subD (dC (.int 0)) (dVar 3)) dNil))) (dName 4))
    (dIfS (dTest (dOp geD (dVar 4) (dOp powD (dC (.int 10)) (dC (.int 18)))))
    (dDrop (dBM "list" appendD (dVar 2) (dCons (dOp subD (dVar 4) (dOp powD (dC (.int 10)) (dC (.int 18)))) dNil))) dNext))))
    (dRet (dLst true (dCons (dVar 2) (dCons (dC (.int 0)) (dCons (dVar 1) (dCons (dC (.int 0)) dNil)))))))))
noncomputable def f_law_tray_r : List DV → Sto → Option (DV × Sto) := fnF none 5 b_law_tray_r
end FW
end
section
namespace FW
open PySem PyProof.Rows PySem.Spec L2 DL
/-! ### fractions -/
def fr (q : Rat) : DV := .tup [.int q.num, .int (q.den : Int)]
/-- how large -/
def Sz (n : Nat) (q : Rat) : Prop := q.num.natAbs < 2 ^ n ∧ q.den < 2 ^ n
theorem Sz.mono {n m : Nat} {q : Rat} (h : Sz n q) (hm : n ≤ m) : Sz m q := ⟨Nat.lt_of_lt_of_le h.1 (Nat.pow_le_pow_right (by decide) hm), Nat.lt_of_lt_of_le h.2 (Nat.pow_le_pow_right (by decide) hm)⟩
theorem Sz.fn {n : Nat} {q : Rat} (h : Sz n q) (hn : n ≤ 400000) : Fits q.num := fits_of h.1 hn
theorem Sz.fd {n : Nat} {q : Rat} (h : Sz n q) (hn : n ≤ 400000) : Fits (q.den : Int) := fits_of (by simpa using h.2) hn
theorem sz_mkRat {a : Int} {b n : Nat} (hb : 0 < b) (h1 : a.natAbs < 2 ^ n) (h2 : b < 2 ^ n) : Sz n (mkRat a b) := by
  have hb0 : ¬ b = 0 := by omega
  refine ⟨?_, ?_⟩
  · rw [Rat.num_mkRat, if_neg hb0]
    refine Nat.lt_of_le_of_lt ?_ h1
    rw [Int.natAbs_ediv_of_dvd (Int.ofNat_dvd_left.mpr (Nat.gcd_dvd_right _ _))]
    exact Nat.div_le_self _ _
  · rw [Rat.den_mkRat, if_neg hb0]
    exact Nat.lt_of_le_of_lt (Nat.div_le_self _ _) h2
theorem Sz.add {n m : Nat} {p q : Rat} (h : Sz n p) (g : Sz m q) : Sz (n + m + 1) (p + q) := by
  rw [Rat.add_def']
  have hm : ∀ a b : Nat, a < 2 ^ n → b < 2 ^ m → a * b < 2 ^ (n + m) := fun a b h1 h2 => by
    rw [Nat.pow_add]
    exact Nat.mul_lt_mul'' h1 h2
  have e : 2 ^ (n + m + 1) = 2 ^ (n + m) + 2 ^ (n + m) := by rw [Nat.pow_succ]; omega
  refine sz_mkRat (Nat.mul_pos p.den_pos q.den_pos) ?_ ?_
  · have h1 := hm _ _ h.1 g.2
    have h2 := hm _ _ h.2 g.1
    have t := Int.natAbs_add_le (p.num * q.den) (q.num * p.den)
    rw [Int.natAbs_mul, Int.natAbs_mul, Int.natAbs_natCast, Int.natAbs_natCast] at t
    rw [Nat.mul_comm q.num.natAbs] at t
    omega
  · have := hm _ _ h.2 g.2
    omega
theorem mkRat_fr {a : Int} {b : Nat} (hb : 0 < b) : DV.tup [.int (a / ((a.natAbs.gcd b : Nat) : Int)), .int ((b : Int) / ((a.natAbs.gcd b : Nat) : Int))] = fr (mkRat a b) := by
  have hb0 : ¬ b = 0 := by omega
  unfold fr
  rw [Rat.num_mkRat, Rat.den_mkRat, if_neg hb0, if_neg hb0, Nat.gcd_comm]
  simp
theorem gcd_fitsD {a b : Nat} (hb : 0 < b) (h : b < 2 ^ 8000) : FitsD ((a.gcd b : Nat) : Int) := by
  refine ⟨by have := Nat.gcd_pos_of_pos_right a hb; omega, ?_⟩
  rw [Int.natAbs_natCast]
  exact Nat.lt_of_le_of_lt (Nat.gcd_le_right a hb) h
theorem lowest_ok {a : Int} {b : Nat} {S : Sto} (hb : 0 < b) (h : b < 2 ^ 8000) : f_lowest_z [.int a, .int (b : Int)] S = some (fr (mkRat a b), S) := by
  have g : FitsD ((a.natAbs.gcd b : Nat) : Int) := gcd_fitsD hb h
  rw [← mkRat_fr hb]
  simp [f_lowest_z, fnF, b_lowest_z, startD, g]
theorem low_loop {d0 d1 : DV} {S : Sto} : ∀ (m x y : Nat), x < m → whileF (dTest (dOp gtD (dVar 2) (dC (.int 0)))) (dPar 2 3 (dCons (dOp modD (dVar 3) (dVar 2)) (dCons (dVar 2) dNil))) m [some d0, some d1, some (.int (x : Int)), some (.int (y : Int))] S =
    some (.nx [some d0, some d1, some (.int 0), some (.int ((x.gcd y : Nat) : Int))] S)
  | 0, x, y, h => by omega
  | m + 1, x, y, h => by
    by_cases hx : x = 0
    · subst hx
      rw [while_end (S1 := S) (by simp)]
      simp
    · have hx' : (0 : Int) < (x : Int) := by omega
      have hx0 : 0 < x := by omega
      rw [while_step (S1 := S) (s2 := [some d0, some d1, some (.int ((y % x : Nat) : Int)), some (.int (x : Int))]) (S2 := S) (by simp [hx0]) (by simp [hx0]), low_loop m (y % x) x (by have := Nat.mod_lt y (Nat.pos_of_ne_zero hx); omega), ← Nat.gcd_rec]
theorem law_low_ok {a : Int} {b n : Nat} {S : Sto} (hb : 0 < b) (h : b < 2 ^ 8000) (ha : a.natAbs < 2 ^ n) (hn : n ≤ 1000000) : f_law_low_z [.int a, .int (b : Int)] S = some (fr (mkRat a b), S) := by
  have g : FitsD ((a.natAbs.gcd b : Nat) : Int) := gcd_fitsD hb h
  have e : (if 0 - a > a then 0 - a else a) = ((a.natAbs : Nat) : Int) := by split <;> omega
  rw [← mkRat_fr hb]
  simp only [f_law_low_z, fnF, b_law_low_z, startD, dSeq, dPar, dCB, dCons, dNil, dVar, dOp, dC, bnd_some', subD_int, maxD_int, List.map, List.length, List.replicate, List.cons_append, List.nil_append, List.getElem?_cons_zero, List.getElem?_cons_succ, List.set, kNx, e]
  simp only [dWhile, low_loop _ _ _ (lt_fuel ha hn), kNx]
  simp [g]
theorem law_plus_ok {p q : Rat} {n m : Nat} {S : Sto} (h : Sz n p) (g : Sz m q) (hl : n + m ≤ 7000) : f_law_plus_z [fr p, fr q] S = some (fr (p + q), S) := by
  have e := h.add g
  have hm : p.den * q.den < 2 ^ (n + m) := by
    rw [Nat.pow_add]
    exact Nat.mul_lt_mul'' h.2 g.2
  have key := law_low_ok (a := p.num * q.den + q.num * p.den) (b := p.den * q.den) (n := n + m + 1) (S := S) (Nat.mul_pos p.den_pos q.den_pos) (Nat.lt_of_lt_of_le hm (Nat.pow_le_pow_right (by decide) (by omega))) (by
    have h1 : p.num.natAbs * q.den < 2 ^ (n + m) := by rw [Nat.pow_add]; exact Nat.mul_lt_mul'' h.1 g.2
    have h2 : p.den * q.num.natAbs < 2 ^ (n + m) := by rw [Nat.pow_add]; exact Nat.mul_lt_mul'' h.2 g.1
    have t := Int.natAbs_add_le (p.num * q.den) (q.num * p.den)
    rw [Int.natAbs_mul, Int.natAbs_mul, Int.natAbs_natCast, Int.natAbs_natCast, Nat.mul_comm q.num.natAbs] at t
    have e : 2 ^ (n + m + 1) = 2 ^ (n + m) + 2 ^ (n + m) := by rw [Nat.pow_succ]; omega
    omega) (by omega)
  rw [← Rat.add_def'] at key
  have f1 := h.fn (by omega); have f2 := h.fd (by omega); have f3 := g.fn (by omega); have f4 := g.fd (by omega)
  push_cast at key
  simp [f_law_plus_z, fnF, b_law_plus_z, fr, ixD, f1, f2, f3, f4]
  rw [key]
  simp [fr]
theorem fr_add (p q : Rat) (g N : _) (hg : g = p.den.gcd q.den) (hN : N = p.num * ((q.den / g : Nat) : Int) + q.num * ((p.den / g : Nat) : Int)) :
   (mkRat N g).num = (p + q).num ∧ (mkRat N g).den * (p.den / g) * (q.den / g) = (p + q).den := by
  have aux := Rat.add.aux p q hg rfl rfl
  have hpd := p.den_pos
  have hqd := q.den_pos
  have hg0 : 0 < g := hg ▸ Nat.gcd_pos_of_pos_left _ hpd
  obtain ⟨p', hp'⟩ : g ∣ p.den := hg ▸ Nat.gcd_dvd_left _ _
  obtain ⟨q', hq'⟩ : g ∣ q.den := hg ▸ Nat.gcd_dvd_right _ _
  have ep : p.den / g = p' := by rw [hp']; exact Nat.mul_div_cancel_left _ hg0
  have eq : q.den / g = q' := by rw [hq']; exact Nat.mul_div_cancel_left _ hg0
  simp only at aux
  rw [ep, eq] at aux
  rw [ep, eq] at hN
  rw [ep, eq]
  rw [← hN] at aux
  have hp0 : 0 < p' := by
    rcases Nat.eq_zero_or_pos p' with h | h
    · subst h; omega
    · exact h
  have hd : 0 < p' * q.den := Nat.mul_pos hp0 hqd
  have e : p + q = mkRat N (p' * q.den) := by
    rw [Rat.add_def', Rat.mkRat_eq_iff (by exact Nat.ne_of_gt (Nat.mul_pos hpd hqd)) (by omega), hN, hp', hq']
    push_cast
    grind
  have hb0 : ¬ g = 0 := by omega
  have hb1 : ¬ p' * q.den = 0 := by omega
  rw [e]
  simp only [Rat.num_mkRat, Rat.den_mkRat, if_neg hb0, if_neg hb1]
  rw [Nat.gcd_comm g, Nat.gcd_comm (p' * q.den), ← aux]
  refine ⟨rfl, ?_⟩
  obtain ⟨m, hm⟩ : N.natAbs.gcd g ∣ g := Nat.gcd_dvd_right _ _
  have hh : 0 < N.natAbs.gcd g := Nat.gcd_pos_of_pos_right _ hg0
  generalize N.natAbs.gcd g = h at *
  subst hm
  rw [hq', Nat.mul_div_cancel_left _ hh]
  have : p' * (h * m * q') = h * (m * p' * q') := by grind
  rw [this, Nat.mul_div_cancel_left _ hh]
theorem plus_ok {p q : Rat} {n m : Nat} {S : Sto} (h : Sz n p) (g : Sz m q) (hl : n + m ≤ 7000) : f_plus_z [fr p, fr q] S = some (fr (p + q), S) := by
  have hp0 := p.den_pos
  have hq0 := q.den_pos
  have hqs : q.den < 2 ^ 8000 := Nat.lt_of_lt_of_le g.2 (Nat.pow_le_pow_right (by decide) (by omega))
  obtain ⟨c, hc⟩ : ∃ c, c = p.den.gcd q.den := ⟨_, rfl⟩
  have hc0 : 0 < c := hc ▸ Nat.gcd_pos_of_pos_left _ hp0
  have hcq : c ≤ q.den := hc ▸ Nat.gcd_le_right _ hq0
  have hcs : c < 2 ^ 8000 := by omega
  have hg : FitsD ((c : Nat) : Int) := hc ▸ gcd_fitsD hq0 hqs
  obtain ⟨e1, e2⟩ := fr_add p q c _ hc rfl
  have key := lowest_ok (a := p.num * ((q.den / c : Nat) : Int) + q.num * ((p.den / c : Nat) : Int)) (b := c) (S := S) hc0 hcs
  have zd : (mkRat (p.num * ((q.den / c : Nat) : Int) + q.num * ((p.den / c : Nat) : Int)) c).den ≤ c := by
    rw [Rat.den_mkRat, if_neg (by omega)]
    exact Nat.div_le_self _ _
  generalize hr : mkRat (p.num * ((q.den / c : Nat) : Int) + q.num * ((p.den / c : Nat) : Int)) c = r at key e1 e2 zd
  have f1 := h.fn (by omega); have f2 := h.fd (by omega); have f3 := g.fn (by omega); have f4 := g.fd (by omega)
  have lp : p.den / c ≤ p.den := Nat.div_le_self _ _
  have lq : q.den / c ≤ q.den := Nat.div_le_self _ _
  have f5 : Fits ((q.den / c : Nat) : Int) := fits_of (n := m) (by have := g.2; simp only [Int.natAbs_natCast]; omega) (by omega)
  have f6 : Fits ((p.den / c : Nat) : Int) := fits_of (n := n) (by have := h.2; simp only [Int.natAbs_natCast]; omega) (by omega)
  have f7 : Fits ((r.den : Nat) : Int) := fits_of (n := m) (by have := g.2; simp only [Int.natAbs_natCast]; omega) (by omega)
  have f8 : Fits (((r.den * (p.den / c) : Nat)) : Int) := fits_of (n := m + n) (by
    simp only [Int.natAbs_natCast]
    rw [Nat.pow_add]
    exact Nat.mul_lt_mul'' (by have := g.2; omega) (by have := h.2; omega)) (by omega)
  simp only [Int.natCast_mul, Int.natCast_ediv] at f5 f6 f8 key
  simp [f_plus_z, fnF, b_plus_z, fr, ixD, startD, ← hc, hg, f1, f2, f3, f4, f5, f6] at key ⊢
  rw [key]
  simp [f5, f6, f7, f8, hg, e1]
  rw [← e2]
  push_cast
  rfl
theorem above_ok {p q : Rat} {n m : Nat} {S : Sto} (h : Sz n p) (g : Sz m q) (hn : n ≤ 7000) (hm : m ≤ 7000) : f_above_z [fr p, fr q] S = some (.bl (decide (q < p)), S) := by
  have f1 := h.fn (by omega); have f2 := h.fd (by omega); have f3 := g.fn (by omega); have f4 := g.fd (by omega)
  simp [f_above_z, fnF, b_above_z, fr, ixD, f1, f2, f3, f4, Rat.lt_iff]
/-! ### floors, water -/
def dI (ns : List Int) : DV := .lst (ns.map DV.int)
def dF (qs : List Rat) : DV := .lst (qs.map fr)
theorem forL_same {tgt : DG} {body : DS} {S : Sto} (I : Sl → Prop) : ∀ {xs : List DV} {s : Sl}, I s → (∀ x ∈ xs, ∀ s, I s → ∃ s1 s2, tgt x s S = some (s1, S) ∧ body s1 S = some (.nx s2 S) ∧ I s2) → ∃ s', forL tgt body xs s S = some (.nx s' S) ∧ I s'
  | [], s, h, _ => ⟨s, rfl, h⟩
  | x :: xs, s, h, hs => by
    obtain ⟨s1, s2, h1, h2, h3⟩ := hs x (List.mem_cons_self) s h
    obtain ⟨s', e, hI⟩ := forL_same I (xs := xs) h3 fun y hy => hs y (List.mem_cons_of_mem _ hy)
    exact ⟨s', by simp [forL, h1, h2, e], hI⟩
theorem check_floors_ok {ns : List Int} {S : Sto} (h0 : ns ≠ []) (h : ∀ n ∈ ns, 1 ≤ n) : f_check_floors_z [dI ns] S = some (.non, S) := by
  have hl : ¬ (ns.length : Int) = 0 := by
    cases ns with
    | nil => exact absurd rfl h0
    | cons n r => simp; omega
  have hl' : ns.length ≠ 0 := by omega
  obtain ⟨s', e, _⟩ := forL_same (tgt := dGTup 2 (dGCons (dName 1) (dGCons (dName 2) dGNil))) (body := dIfS (dTest (dOp ltD (dVar 2) (dC (.int 1)))) dNever dNext) (S := S) (fun s => s.length = 3) (xs := (ns.map DV.int).mapIdx fun i x => DV.tup [.int (i : Nat), x]) (s := [some (dI ns), none, none]) rfl fun x hx s hs => by
    rw [List.mem_mapIdx] at hx
    obtain ⟨i, hi, rfl⟩ := hx
    match s, hs with
    | [a, b, c], _ =>
      have hi' : i < ns.length := by simpa using hi
      have := h ns[i] (List.getElem_mem hi')
      refine ⟨[a, some (.int (i : Nat)), some (.int ns[i])], [a, some (.int (i : Nat)), some (.int ns[i])], by simp, ?_, rfl⟩
      have hn : ¬ ns[i] < 1 := by omega
      simp [hn]
  simp [f_check_floors_z, fnF, b_check_floors_z, dFor_eq, dI, diE, hl'] at e ⊢
  rw [e]
  simp
theorem check_water_ok {ns : List Int} {qs : List Rat} {S : Sto} {n : Nat} (hl : qs.length = ns.length) (h : ∀ q ∈ qs, 0 ≤ q ∧ Sz n q) (hn : n ≤ 7000) : f_check_water_z [dI ns, dF qs] S = some (.non, S) := by
  obtain ⟨s', e, _⟩ := forL_same (tgt := dGTup 2 (dGCons (dName 2) (dGCons (dName 3) dGNil))) (body := dIfS (dTest (dCall 2 f_above_z [] (dCons (dC (.tup [(.int 0), (.int 1)])) (dCons (dVar 3) dNil)))) dNever dNext) (S := S) (fun s => s.length = 4) (xs := (qs.map fr).mapIdx fun i x => DV.tup [.int (i : Nat), x]) (s := [some (dI ns), some (dF qs), none, none]) rfl fun x hx s hs => by
    rw [List.mem_mapIdx] at hx
    obtain ⟨i, hi, rfl⟩ := hx
    match s, hs with
    | [a, b, c, d], _ =>
      have hi' : i < qs.length := by simpa using hi
      have hq := h qs[i] (List.getElem_mem hi')
      have h0 : Sz n (0 : Rat) := ⟨Nat.two_pow_pos n, Nat.lt_of_le_of_lt (show (0 : Rat).den ≤ qs[i].den from qs[i].den_pos) hq.2.2⟩
      have key := above_ok (S := S) h0 hq.2 hn hn
      have hlt : ¬ qs[i] < 0 := by
        have := hq.1
        grind
      refine ⟨[a, b, some (.int (i : Nat)), some (fr qs[i])], [a, b, some (.int (i : Nat)), some (fr qs[i])], by simp, ?_, rfl⟩
      have e0 : DV.tup [.int 0, .int 1] = fr 0 := rfl
      simp [e0, key, hlt]
  simp [f_check_water_z, fnF, b_check_water_z, dFor_eq, dI, dF, diE, hl] at e ⊢
  rw [e]
  simp
end FW
end
section
namespace FW
open PySem PyProof.Rows PySem.Spec L2 DL
/-! ### the store's top -/
section
variable {S : Sto} {ds : List DV} {mo mo' : MO} {m : Bool}
@[simp] theorem top_get : (S ++ [mo])[S.length]? = some mo := List.getElem?_concat_length
@[simp] theorem top_set : (S ++ [mo]).set S.length mo' = S ++ [mo'] := by
  rw [List.set_append_right _ _ (Nat.le_refl _), Nat.sub_self]
  rfl
@[simp] theorem rdL_top : rdL (S ++ [.ml ds]) (.ptr S.length) = some ds := by
  unfold rdL
  simp
@[simp] theorem trL_top : trL (S ++ [.ml ds]) (.ptr S.length) = some ds := by
  unfold trL
  simp
@[simp] theorem ptrL_top : ptrL (S ++ [.ml ds]) (.ptr S.length) = some (S.length, ds) := by
  unfold ptrL
  simp
theorem exF_top (h : clos S.length ds = true) : exF (some m) S (.ptr S.length) (S ++ [.ml ds]) = some (newL m ds S) := by
  unfold exF exF1
  simp only
  rw [if_neg (by simp), if_pos ⟨by simp, fun n hn => .inl (by rw [List.getElem?_append_left hn])⟩]
  unfold exR
  simp only
  rw [if_neg (Nat.lt_irrefl _), top_get]
  simp only
  rw [if_pos h, List.take_left]
end
theorem clos_map {α : Type} {f : α → DV} {n : Nat} (h : ∀ x, clo n (f x) = true) : ∀ xs : List α, clos n (xs.map f) = true
  | [] => rfl
  | x :: xs => by
    show (clo n (f x) && clos n (xs.map f)) = true
    rw [h x, clos_map h xs]
    rfl
theorem clos_append {n : Nat} : ∀ (xs ys : List DV), clos n (xs ++ ys) = (clos n xs && clos n ys)
  | [], ys => by simp [clos]
  | x :: xs, ys => by
    show (clo n x && clos n (xs ++ ys)) = ((clo n x && clos n xs) && clos n ys)
    rw [clos_append xs ys, Bool.and_assoc]
@[simp] theorem clo_fr {n : Nat} {q : Rat} : clo n (fr q) = true := rfl
@[simp] theorem clos_fr {n : Nat} {qs : List Rat} : clos n (qs.map fr) = true := clos_map (fun _ => rfl) qs
@[simp] theorem clos_int {n : Nat} {qs : List Int} : clos n (qs.map DV.int) = true := clos_map (fun _ => rfl) qs
/-! ### heaps -/
def hf : Rat → List Rat → List Rat
  | a, [] => [a]
  | a, q :: qs => a :: hf (a + q) qs
def hfI : Int → List Int → List Int
  | a, [] => [a]
  | a, q :: qs => a :: hfI (a + q) qs
theorem appendD_top {S : Sto} {ds : List DV} {d : DV} (h : ds.length < 100000) : appendD (.ptr S.length) [d] (S ++ [.ml ds]) = some (.non, S ++ [.ml (ds ++ [d])]) := by
  simp [appendD, h]
theorem law_heaps_loop {S : Sto} {x y : Option DV} {m : Nat} : ∀ (qs : List Rat) (a : Rat) (acc : List Rat) (y : Option DV) (k : Nat), Sz k a → (∀ q ∈ qs, Sz m q) → k + qs.length * (m + 1) ≤ 7000 → acc.length + qs.length + 1 < 100000 →
    ∃ y', forL (dName 2) (dDrop (dBM "list" appendD (dVar 1) (dCons (dCall 2 f_law_plus_z [] (dCons (dOp ixD (dVar 1) (dUn negD (dC (.int 1)))) (dCons (dVar 2) dNil))) dNil))) (qs.map fr) [x, some (.ptr S.length), y] (S ++ [.ml ((acc ++ [a]).map fr)]) =
      some (.nx [x, some (.ptr S.length), y'] (S ++ [.ml ((acc ++ hf a qs).map fr)]))
  | [], a, acc, y, k, _, _, _, _ => ⟨y, by simp [forL, hf]⟩
  | q :: qs, a, acc, y, k, ha, hq, hk, hl => by
    have hq0 := hq q (List.mem_cons_self)
    rw [List.length_cons, Nat.add_mul] at hk
    obtain ⟨y', e⟩ := law_heaps_loop (S := S) (x := x) (y := y) (m := m) qs (a + q) (acc ++ [a]) (some (fr q)) (k + m + 1) (ha.add hq0) (fun p hp => hq p (List.mem_cons_of_mem _ hp)) (by omega) (by simp at hl ⊢; omega)
    refine ⟨y', ?_⟩
    have hp := law_plus_ok (S := S ++ [.ml ((acc ++ [a]).map fr)]) ha hq0 (by omega)
    have h1 : ixD (.ptr S.length) (.int (-1)) (S ++ [.ml ((acc ++ [a]).map fr)]) = some (fr a, S ++ [.ml ((acc ++ [a]).map fr)]) := by
      have : L2.atI ((acc ++ [a]).map fr) (-1) = some (fr a) := by
        rw [List.map_append]
        exact L2.atI_last _ _
      simp only [ixD, rdL_top, Option.or, this]
    have h2 := appendD_top (S := S) (ds := (acc ++ [a]).map fr) (d := fr (a + q)) (by simp at hl ⊢; omega)
    have e3 : ((acc ++ [a]).map fr ++ [fr (a + q)]) = (acc ++ [a] ++ [a + q]).map fr := by simp
    rw [e3] at h2
    simp only [List.map_cons, forL, dName, List.set_cons_succ, List.set_cons_zero, dDrop, dBM, dVar, List.getElem?_cons_zero, List.getElem?_cons_succ, bnd_some', rdL_top, Option.isSome_some, and_self, if_true, dCons, dCall, dOp, dUn, dC, negD_int, h1, dNil, List.append_nil, List.length_cons, List.length_nil, hp, h2, kLoop]
    rw [e]
    simp [hf]
theorem law_heaps_ok {S : Sto} {qs : List Rat} {m : Nat} (hq : ∀ q ∈ qs, Sz m q) (hk : qs.length * (m + 1) ≤ 6000) (hl : qs.length < 10000) : f_law_heaps_z [dF qs] S = some (dF (hf 0 qs), S) := by
  have h0 : Sz 1 (0 : Rat) := ⟨by decide, by decide⟩
  obtain ⟨y', e⟩ := law_heaps_loop (S := S) (x := some (dF qs)) (y := none) (m := m) qs 0 [] none 1 h0 hq (by omega) (by simp; omega)
  have e0 : DV.tup [.int 0, .int 1] = fr 0 := rfl
  simp only [List.map_append, List.nil_append, List.map_cons, List.map_nil] at e
  simp [f_law_heaps_z, fnF, b_law_heaps_z, dFor_eq, diL, dF, e0] at e ⊢
  rw [e]
  simp [exF_top, clos_fr]
theorem sums_loop {S : Sto} {x : Option DV} {m : Nat} : ∀ (qs : List Rat) (a : Rat) (acc : List Rat) (y : Option DV) (k : Nat), Sz k a → (∀ q ∈ qs, Sz m q) → k + qs.length * (m + 1) ≤ 7000 → acc.length + qs.length + 1 < 100000 →
    ∃ y', forL (dName 2) (dDrop (dBM "list" appendD (dVar 1) (dCons (dCall 2 f_plus_z [] (dCons (dOp ixD (dVar 1) (dUn negD (dC (.int 1)))) (dCons (dVar 2) dNil))) dNil))) (qs.map fr) [x, some (.ptr S.length), y] (S ++ [.ml ((acc ++ [a]).map fr)]) =
      some (.nx [x, some (.ptr S.length), y'] (S ++ [.ml ((acc ++ hf a qs).map fr)]))
  | [], a, acc, y, k, _, _, _, _ => ⟨y, by simp [forL, hf]⟩
  | q :: qs, a, acc, y, k, ha, hq, hk, hl => by
    have hq0 := hq q (List.mem_cons_self)
    rw [List.length_cons, Nat.add_mul] at hk
    obtain ⟨y', e⟩ := sums_loop (S := S) (x := x)  (m := m) qs (a + q) (acc ++ [a]) (some (fr q)) (k + m + 1) (ha.add hq0) (fun p hp => hq p (List.mem_cons_of_mem _ hp)) (by omega) (by simp at hl ⊢; omega)
    refine ⟨y', ?_⟩
    have hp := plus_ok (S := S ++ [.ml ((acc ++ [a]).map fr)]) ha hq0 (by omega)
    have h1 : ixD (.ptr S.length) (.int (-1)) (S ++ [.ml ((acc ++ [a]).map fr)]) = some (fr a, S ++ [.ml ((acc ++ [a]).map fr)]) := by
      have : L2.atI ((acc ++ [a]).map fr) (-1) = some (fr a) := by
        rw [List.map_append]
        exact L2.atI_last _ _
      simp only [ixD, rdL_top, Option.or, this]
    have h2 := appendD_top (S := S) (ds := (acc ++ [a]).map fr) (d := fr (a + q)) (by simp at hl ⊢; omega)
    have e3 : ((acc ++ [a]).map fr ++ [fr (a + q)]) = (acc ++ [a] ++ [a + q]).map fr := by simp
    rw [e3] at h2
    simp only [List.map_cons, forL, dName, List.set_cons_succ, List.set_cons_zero, dDrop, dBM, dVar, List.getElem?_cons_zero, List.getElem?_cons_succ, bnd_some', rdL_top, Option.isSome_some, and_self, if_true, dCons, dCall, dOp, dUn, dC, negD_int, h1, dNil, List.append_nil, List.length_cons, List.length_nil, hp, h2, kLoop]
    rw [e]
    simp [hf]
theorem sums_run {S : Sto} {qs : List Rat} {m : Nat} (hq : ∀ q ∈ qs, Sz m q) (hk : qs.length * (m + 1) ≤ 6000) (hl : qs.length < 10000) :
    b_sums_k [some (dF qs), none, none] S = some (.rt (.ptr S.length) (S ++ [.ml ((hf 0 qs).map fr)])) := by
  have hz : Sz 1 (0 : Rat) := ⟨by decide, by decide⟩
  obtain ⟨y', e⟩ := sums_loop (S := S) (x := some (dF qs)) (m := m) qs 0 [] none 1 hz hq (by omega) (by simp; omega)
  have e0 : DV.tup [.int 0, .int 1] = fr 0 := rfl
  simp only [List.map_append, List.nil_append, List.map_cons, List.map_nil] at e
  simp [b_sums_k, dFor_eq, diL, e0]
  simp [dF] at e ⊢
  rw [e]
  simp
theorem sums_ok {S : Sto} {qs : List Rat} {m : Nat} (hq : ∀ q ∈ qs, Sz m q) (hk : qs.length * (m + 1) ≤ 6000) (hl : qs.length < 10000) :
    f_sums_k [dF qs] S = some (.ptr S.length, S ++ [.ml ((hf 0 qs).map fr)]) := by
  refine fn_rt (sums_run hq hk hl) ?_
  rw [exF_top clos_fr]
  rfl
theorem sums_okz {S : Sto} {qs : List Rat} {m : Nat} (hq : ∀ q ∈ qs, Sz m q) (hk : qs.length * (m + 1) ≤ 6000) (hl : qs.length < 10000) :
    f_sums_z [dF qs] S = some (dF (hf 0 qs), S) := by
  refine fn_rt (sums_run hq hk hl) ?_
  rw [exF_top clos_fr]
  rfl
theorem heaped_ok {S : Sto} {ns : List Int} {qs : List Rat} {m : Nat} (h0 : ns ≠ []) (h1 : ∀ n ∈ ns, 1 ≤ n) (hlen : qs.length = ns.length) (hq : ∀ q ∈ qs, 0 ≤ q ∧ Sz m q) (hk : qs.length * (m + 1) ≤ 6000) (hm : m ≤ 6000) (hl : qs.length < 10000) :
    f_heaped_k [dI ns, dF qs] S = some (.ptr S.length, S ++ [.ml ((hf 0 qs).map fr)]) := by
  have c1 := check_floors_ok (S := S) h0 h1
  have c2 := check_water_ok (S := S) hlen hq (by omega)
  have c3 := sums_ok (S := S) (fun q h => (hq q h).2) hk hl
  refine fn_rt (d := .ptr S.length) (S1 := S ++ [.ml ((hf 0 qs).map fr)]) ?_ ?_
  · refine seq_nx (drop_of (d := .non) (S1 := S) (by simp [c1])) ?_
    refine seq_nx (drop_of (d := .non) (S1 := S) (by simp [c2])) ?_
    exact ret_of (by simp [c3])
  · rw [exF_top clos_fr]
    rfl
theorem heaped_okz {S : Sto} {ns : List Int} {qs : List Rat} {m : Nat} (h0 : ns ≠ []) (h1 : ∀ n ∈ ns, 1 ≤ n) (hlen : qs.length = ns.length) (hq : ∀ q ∈ qs, 0 ≤ q ∧ Sz m q) (hk : qs.length * (m + 1) ≤ 6000) (hm : m ≤ 6000) (hl : qs.length < 10000) :
    f_heaped_z [dI ns, dF qs] S = some (dF (hf 0 qs), S) := by
  have c1 := check_floors_ok (S := S) h0 h1
  have c2 := check_water_ok (S := S) hlen hq (by omega)
  have c3 := sums_okz (S := S) (fun q h => (hq q h).2) hk hl
  refine fn_rt (d := dF (hf 0 qs)) (S1 := S) ?_ (by simp)
  refine seq_nx (drop_of (d := .non) (S1 := S) (by simp [c1])) ?_
  refine seq_nx (drop_of (d := .non) (S1 := S) (by simp [c2])) ?_
  exact ret_of (by simp [c3])
theorem sz_hf {m : Nat} : ∀ (qs : List Rat) (a : Rat) (k : Nat), Sz k a → (∀ q ∈ qs, Sz m q) → ∀ x ∈ hf a qs, Sz (k + qs.length * (m + 1)) x
  | [], a, k, ha, _, x, hx => by
    cases List.mem_singleton.mp hx
    exact ha.mono (by omega)
  | q :: qs, a, k, ha, hq, x, hx => by
    rcases List.mem_cons.mp hx with hx | hx
    · rw [hx]
      exact ha.mono (by omega)
    · refine (sz_hf qs (a + q) (k + m + 1) (ha.add (hq q (List.mem_cons_self))) (fun p hp => hq p (List.mem_cons_of_mem _ hp)) x hx).mono ?_
      rw [List.length_cons, Nat.add_mul]
      omega
theorem hf_self (a : Rat) (qs : List Rat) : a ∈ hf a qs := by
  cases qs <;> simp [hf]
/-- each amount, and each heap, of bounded size -/
def Hz (B : Nat) (qs : List Rat) : Prop := (∀ q ∈ qs, Sz B q) ∧ ∀ x ∈ hf 0 qs, Sz B x
theorem hz_of {m B : Nat} {qs : List Rat} (h : ∀ q ∈ qs, Sz m q) (hB : 1 + qs.length * (m + 1) ≤ B) (hm : m ≤ B) : Hz B qs :=
  ⟨fun q hq => (h q hq).mono hm, fun x hx => (sz_hf qs 0 1 ⟨by decide, by decide⟩ h x hx).mono hB⟩
theorem law_heaps_loopB {S : Sto} {x y : Option DV} {B : Nat} (hB : B ≤ 3500) : ∀ (qs : List Rat) (a : Rat) (acc : List Rat) (y : Option DV), (∀ x ∈ hf a qs, Sz B x) → (∀ q ∈ qs, Sz B q) → acc.length + qs.length + 1 < 100000 →
    ∃ y', forL (dName 2) (dDrop (dBM "list" appendD (dVar 1) (dCons (dCall 2 f_law_plus_z [] (dCons (dOp ixD (dVar 1) (dUn negD (dC (.int 1)))) (dCons (dVar 2) dNil))) dNil))) (qs.map fr) [x, some (.ptr S.length), y] (S ++ [.ml ((acc ++ [a]).map fr)]) =
      some (.nx [x, some (.ptr S.length), y'] (S ++ [.ml ((acc ++ hf a qs).map fr)]))
  | [], a, acc, y, _, _, _ => ⟨y, by simp [forL, hf]⟩
  | q :: qs, a, acc, y, ha, hq, hl => by
    have hq0 := hq q (List.mem_cons_self)
    obtain ⟨y', e⟩ := law_heaps_loopB (S := S) (x := x) (y := y) hB qs (a + q) (acc ++ [a]) (some (fr q)) (fun x hx => ha x (List.mem_cons_of_mem _ hx)) (fun p hp => hq p (List.mem_cons_of_mem _ hp)) (by simp at hl ⊢; omega)
    refine ⟨y', ?_⟩
    have hp := law_plus_ok (S := S ++ [.ml ((acc ++ [a]).map fr)]) (ha a List.mem_cons_self) hq0 (by omega)
    have h1 : ixD (.ptr S.length) (.int (-1)) (S ++ [.ml ((acc ++ [a]).map fr)]) = some (fr a, S ++ [.ml ((acc ++ [a]).map fr)]) := by
      have : L2.atI ((acc ++ [a]).map fr) (-1) = some (fr a) := by
        rw [List.map_append]
        exact L2.atI_last _ _
      simp only [ixD, rdL_top, Option.or, this]
    have h2 := appendD_top (S := S) (ds := (acc ++ [a]).map fr) (d := fr (a + q)) (by simp at hl ⊢; omega)
    have e3 : ((acc ++ [a]).map fr ++ [fr (a + q)]) = (acc ++ [a] ++ [a + q]).map fr := by simp
    rw [e3] at h2
    simp only [List.map_cons, forL, dName, List.set_cons_succ, List.set_cons_zero, dDrop, dBM, dVar, List.getElem?_cons_zero, List.getElem?_cons_succ, bnd_some', rdL_top, Option.isSome_some, and_self, if_true, dCons, dCall, dOp, dUn, dC, negD_int, h1, dNil, List.append_nil, List.length_cons, List.length_nil, hp, h2, kLoop]
    rw [e]
    simp [hf]
theorem law_heaps_okB {S : Sto} {qs : List Rat} {B : Nat} (h : Hz B qs) (hB : B ≤ 3500) (hl : qs.length < 10000) : f_law_heaps_z [dF qs] S = some (dF (hf 0 qs), S) := by
  obtain ⟨y', e⟩ := law_heaps_loopB (S := S) (x := some (dF qs)) (y := none) hB qs 0 [] none h.2 h.1 (by simp; omega)
  have e0 : DV.tup [.int 0, .int 1] = fr 0 := rfl
  simp only [List.map_append, List.nil_append, List.map_cons, List.map_nil] at e
  simp [f_law_heaps_z, fnF, b_law_heaps_z, dFor_eq, diL, dF, e0] at e ⊢
  rw [e]
  simp [exF_top, clos_fr]
theorem sums_loopB {S : Sto} {x : Option DV} {B : Nat} (hB : B ≤ 3500) : ∀ (qs : List Rat) (a : Rat) (acc : List Rat) (y : Option DV), (∀ x ∈ hf a qs, Sz B x) → (∀ q ∈ qs, Sz B q) → acc.length + qs.length + 1 < 100000 →
    ∃ y', forL (dName 2) (dDrop (dBM "list" appendD (dVar 1) (dCons (dCall 2 f_plus_z [] (dCons (dOp ixD (dVar 1) (dUn negD (dC (.int 1)))) (dCons (dVar 2) dNil))) dNil))) (qs.map fr) [x, some (.ptr S.length), y] (S ++ [.ml ((acc ++ [a]).map fr)]) =
      some (.nx [x, some (.ptr S.length), y'] (S ++ [.ml ((acc ++ hf a qs).map fr)]))
  | [], a, acc, y, _, _, _ => ⟨y, by simp [forL, hf]⟩
  | q :: qs, a, acc, y, ha, hq, hl => by
    have hq0 := hq q (List.mem_cons_self)
    obtain ⟨y', e⟩ := sums_loopB (S := S) (x := x)  hB qs (a + q) (acc ++ [a]) (some (fr q)) (fun x hx => ha x (List.mem_cons_of_mem _ hx)) (fun p hp => hq p (List.mem_cons_of_mem _ hp)) (by simp at hl ⊢; omega)
    refine ⟨y', ?_⟩
    have hp := plus_ok (S := S ++ [.ml ((acc ++ [a]).map fr)]) (ha a List.mem_cons_self) hq0 (by omega)
    have h1 : ixD (.ptr S.length) (.int (-1)) (S ++ [.ml ((acc ++ [a]).map fr)]) = some (fr a, S ++ [.ml ((acc ++ [a]).map fr)]) := by
      have : L2.atI ((acc ++ [a]).map fr) (-1) = some (fr a) := by
        rw [List.map_append]
        exact L2.atI_last _ _
      simp only [ixD, rdL_top, Option.or, this]
    have h2 := appendD_top (S := S) (ds := (acc ++ [a]).map fr) (d := fr (a + q)) (by simp at hl ⊢; omega)
    have e3 : ((acc ++ [a]).map fr ++ [fr (a + q)]) = (acc ++ [a] ++ [a + q]).map fr := by simp
    rw [e3] at h2
    simp only [List.map_cons, forL, dName, List.set_cons_succ, List.set_cons_zero, dDrop, dBM, dVar, List.getElem?_cons_zero, List.getElem?_cons_succ, bnd_some', rdL_top, Option.isSome_some, and_self, if_true, dCons, dCall, dOp, dUn, dC, negD_int, h1, dNil, List.append_nil, List.length_cons, List.length_nil, hp, h2, kLoop]
    rw [e]
    simp [hf]
theorem sums_runB {S : Sto} {qs : List Rat} {B : Nat} (h : Hz B qs) (hB : B ≤ 3500) (hl : qs.length < 10000) :
    b_sums_k [some (dF qs), none, none] S = some (.rt (.ptr S.length) (S ++ [.ml ((hf 0 qs).map fr)])) := by
  obtain ⟨y', e⟩ := sums_loopB (S := S) (x := some (dF qs)) hB qs 0 [] none h.2 h.1 (by simp; omega)
  have e0 : DV.tup [.int 0, .int 1] = fr 0 := rfl
  simp only [List.map_append, List.nil_append, List.map_cons, List.map_nil] at e
  simp [b_sums_k, dFor_eq, diL, e0]
  simp [dF] at e ⊢
  rw [e]
  simp
theorem sums_okB {S : Sto} {qs : List Rat} {B : Nat} (h : Hz B qs) (hB : B ≤ 3500) (hl : qs.length < 10000) :
    f_sums_k [dF qs] S = some (.ptr S.length, S ++ [.ml ((hf 0 qs).map fr)]) := by
  refine fn_rt (sums_runB h hB hl) ?_
  rw [exF_top clos_fr]
  rfl
theorem sums_okzB {S : Sto} {qs : List Rat} {B : Nat} (h : Hz B qs) (hB : B ≤ 3500) (hl : qs.length < 10000) :
    f_sums_z [dF qs] S = some (dF (hf 0 qs), S) := by
  refine fn_rt (sums_runB h hB hl) ?_
  rw [exF_top clos_fr]
  rfl
theorem heaped_okB {S : Sto} {ns : List Int} {qs : List Rat} {B : Nat} (h0 : ns ≠ []) (h1 : ∀ n ∈ ns, 1 ≤ n) (hlen : qs.length = ns.length) (hq : ∀ q ∈ qs, 0 ≤ q) (h : Hz B qs) (hB : B ≤ 3500) (hl : qs.length < 10000) :
    f_heaped_k [dI ns, dF qs] S = some (.ptr S.length, S ++ [.ml ((hf 0 qs).map fr)]) := by
  have c1 := check_floors_ok (S := S) h0 h1
  have c2 := check_water_ok (S := S) (n := B) hlen (fun q z => ⟨hq q z, h.1 q z⟩) (by omega)
  have c3 := sums_okB (S := S) h hB hl
  refine fn_rt (d := .ptr S.length) (S1 := S ++ [.ml ((hf 0 qs).map fr)]) ?_ ?_
  · refine seq_nx (drop_of (d := .non) (S1 := S) (by simp [c1])) ?_
    refine seq_nx (drop_of (d := .non) (S1 := S) (by simp [c2])) ?_
    exact ret_of (by simp [c3])
  · rw [exF_top clos_fr]
    rfl
theorem heaped_okzB {S : Sto} {ns : List Int} {qs : List Rat} {B : Nat} (h0 : ns ≠ []) (h1 : ∀ n ∈ ns, 1 ≤ n) (hlen : qs.length = ns.length) (hq : ∀ q ∈ qs, 0 ≤ q) (h : Hz B qs) (hB : B ≤ 3500) (hl : qs.length < 10000) :
    f_heaped_z [dI ns, dF qs] S = some (dF (hf 0 qs), S) := by
  have c1 := check_floors_ok (S := S) h0 h1
  have c2 := check_water_ok (S := S) (n := B) hlen (fun q z => ⟨hq q z, h.1 q z⟩) (by omega)
  have c3 := sums_okzB (S := S) h hB hl
  refine fn_rt (d := dF (hf 0 qs)) (S1 := S) ?_ (by simp)
  refine seq_nx (drop_of (d := .non) (S1 := S) (by simp [c1])) ?_
  refine seq_nx (drop_of (d := .non) (S1 := S) (by simp [c2])) ?_
  exact ret_of (by simp [c3])
theorem places_loop {S : Sto} {x : Option DV} : ∀ (qs : List Int) (a : Int) (acc : List Int) (y : Option DV), acc.length + qs.length + 1 < 100000 →
    ∃ y', forL (dName 2) (dDrop (dBM "list" appendD (dVar 1) (dCons (dOp (addD false) (dOp ixD (dVar 1) (dUn negD (dC (.int 1)))) (dVar 2)) dNil))) (qs.map DV.int) [x, some (.ptr S.length), y] (S ++ [.ml ((acc ++ [a]).map DV.int)]) =
      some (.nx [x, some (.ptr S.length), y'] (S ++ [.ml ((acc ++ hfI a qs).map DV.int)]))
  | [], a, acc, y, _ => ⟨y, by simp [forL, hfI]⟩
  | q :: qs, a, acc, y, hl => by
    obtain ⟨y', e⟩ := places_loop (S := S) (x := x) qs (a + q) (acc ++ [a]) (some (.int q)) (by simp at hl ⊢; omega)
    refine ⟨y', ?_⟩
    have h1 : ixD (.ptr S.length) (.int (-1)) (S ++ [.ml ((acc ++ [a]).map DV.int)]) = some (.int a, S ++ [.ml ((acc ++ [a]).map DV.int)]) := by
      have : L2.atI ((acc ++ [a]).map DV.int) (-1) = some (.int a) := by
        rw [List.map_append]
        exact L2.atI_last _ _
      simp only [ixD, rdL_top, Option.or, this]
    have h2 := appendD_top (S := S) (ds := (acc ++ [a]).map DV.int) (d := .int (a + q)) (by simp at hl ⊢; omega)
    have e3 : ((acc ++ [a]).map DV.int ++ [.int (a + q)]) = (acc ++ [a] ++ [a + q]).map DV.int := by simp
    rw [e3] at h2
    simp only [List.map_cons, forL, dName, List.set_cons_succ, List.set_cons_zero, dDrop, dBM, dVar, List.getElem?_cons_zero, List.getElem?_cons_succ, bnd_some', rdL_top, Option.isSome_some, and_self, if_true, dCons, dOp, dUn, dC, negD_int, h1, addD_int, dNil, h2, kLoop]
    rw [e]
    simp [hfI]
theorem places_ok {S : Sto} {ns : List Int} (h0 : ns ≠ []) (h1 : ∀ n ∈ ns, 1 ≤ n) (hl : ns.length < 10000) : f_places_k [dI ns] S = some (.ptr S.length, S ++ [.ml ((hfI 0 ns).map DV.int)]) := by
  obtain ⟨y', e⟩ := places_loop (S := S) (x := some (dI ns)) ns 0 [] none (by simp; omega)
  have c1 := check_floors_ok (S := S) h0 h1
  simp only [List.map_append, List.nil_append, List.map_cons, List.map_nil] at e
  simp [f_places_k, fnF, b_places_k, dFor_eq, diL, c1]
  simp [dI] at e ⊢
  rw [e]
  simp [exF_top, clos_int]
end FW
end
section
namespace FW
open PySem PyProof.Rows PySem.Spec L2 DL
/-! ### the tray -/
structure Tr where
  gs : List Int
  a : Int
  f : Int
  n : Int
def Tr.st (t : Tr) (G : Sto) : Sto := .ml (t.gs.map DV.int) :: .ml [.ptr 0, .int t.a, .int t.f, .int t.n] :: G
structure Tr.ok (N : Int) (t : Tr) : Prop where
  f0 : 0 ≤ t.f
  f1 : t.f < 2 ^ 61
  n0 : 0 ≤ t.n
  n1 : t.n ≤ N
  l : t.gs.length ≤ 63
theorem Tr.ok.mono {N M : Int} {t : Tr} (h : t.ok N) (hm : N ≤ M) : t.ok M := ⟨h.f0, h.f1, h.n0, Int.le_trans h.n1 hm, h.l⟩
@[simp] theorem pow2_61 {S : Sto} : powD (.int 2) (.int 61) S = some (.int 2305843009213693952, S) := powD_int (by decide) (by decide) (by decide)
@[simp] theorem pow10_18 {S : Sto} : powD (.int 10) (.int 18) S = some (.int 1000000000000000000, S) := powD_int (by decide) (by decide) (by decide)
@[simp] theorem pow10_4 {S : Sto} : powD (.int 10) (.int 4) S = some (.int 10000, S) := powD_int (by decide) (by decide) (by decide)
@[simp] theorem pow10_6 {S : Sto} : powD (.int 10) (.int 6) S = some (.int 1000000, S) := powD_int (by decide) (by decide) (by decide)
@[simp] theorem pow10_12 {S : Sto} : powD (.int 10) (.int 12) S = some (.int 1000000000000, S) := powD_int (by decide) (by decide) (by decide)
section
variable {t : Tr} {G : Sto} {i : Int} {d : DV} {ds : List DV}
@[simp] theorem tr_rd1 : rdL (t.st G) (.ptr 1) = some [.ptr 0, .int t.a, .int t.f, .int t.n] := rfl
@[simp] theorem tr_rd0 : rdL (t.st G) (.ptr 0) = some (t.gs.map DV.int) := rfl
@[simp] theorem tr_ptr0 : ptrL (t.st G) (.ptr 0) = some (0, t.gs.map DV.int) := rfl
@[simp] theorem tr_at2 {α : Type} {a b c : α} {l : List α} : L2.atI (a :: b :: c :: l) 2 = some c := L2.atI_nat (xs := a :: b :: c :: l) (j := 2) (v := c) rfl
@[simp] theorem tr_at3 {α : Type} {a b c e : α} {l : List α} : L2.atI (a :: b :: c :: e :: l) 3 = some e := L2.atI_nat (xs := a :: b :: c :: e :: l) (j := 3) (v := e) rfl
@[simp] theorem tr_ix0 : ixD (.ptr 1) (.int 0) (t.st G) = some (.ptr 0, t.st G) := by simp [ixD]
@[simp] theorem tr_ix1 : ixD (.ptr 1) (.int 1) (t.st G) = some (.int t.a, t.st G) := by simp [ixD]
@[simp] theorem tr_ix2 : ixD (.ptr 1) (.int 2) (t.st G) = some (.int t.f, t.st G) := by simp [ixD]
@[simp] theorem tr_ix3 : ixD (.ptr 1) (.int 3) (t.st G) = some (.int t.n, t.st G) := by simp [ixD]
@[simp] theorem tr_set1 : setL (.ptr 1) (.int 1) (.int i) (t.st G) = some (({ t with a := i } : Tr).st G) := rfl
@[simp] theorem tr_set3 : setL (.ptr 1) (.int 3) (.int i) (t.st G) = some (({ t with n := i } : Tr).st G) := rfl
end
theorem neD_ints {S : Sto} {x : DV} {gs : List Int} (h : pyS S x = some (.list (gs.map PyData.int))) : neD x (.lst []) S = some (.bl (!gs.isEmpty), S) := by
  rw [neD_of (n := 1) h (show pyS S (.lst []) = some (.list []) from rfl) (shN_list fun p hp => by
    obtain ⟨i, _, rfl⟩ := List.mem_map.mp hp
    exact shN_int) (shN_list fun p hp => by cases hp) (by decide)]
  cases gs <;> rfl
theorem tr_py0 {t : Tr} {G : Sto} : pyS (t.st G) (.ptr 0) = some (.list (t.gs.map PyData.int)) := by
  show (pys _ (t.gs.map DV.int)).map PyData.list = _
  rw [pys_map (g := PyData.int) fun _ => rfl]
  rfl
theorem draw_loop {d : DV} {x y : Option DV} {G : Sto} : ∀ (m : Nat) (t : Tr), t.gs.length < m → t.gs.length ≤ 63 →
    ∃ gs a, whileF (dAnd (dTest (dOp ltD (dOp ixD (dVar 0) (dC (.int 1))) (dC (.int 2)))) (dTest (dOp neD (dOp ixD (dVar 0) (dC (.int 0))) (dLst false dNil))))
    (dAsg (dBM "list" popAtD (dOp ixD (dVar 0) (dC (.int 0))) (dCons (dC (.int 0)) dNil)) (dSub (dVar 0) (dC (.int 1)))) m [some (.ptr 1), some d, x, y] (t.st G) = some (.nx [some (.ptr 1), some d, x, y] (({ t with gs := gs, a := a } : Tr).st G)) ∧ gs.length ≤ t.gs.length
  | 0, t, h, _ => by omega
  | m + 1, t, h, h63 => by
    obtain ⟨gs, a, f, n⟩ := t
    by_cases ha : a < 2
    · cases gs with
      | nil =>
        refine ⟨[], a, ?_, Nat.le_refl _⟩
        rw [while_end (S1 := (Tr.mk [] a f n).st G) (by
          simp [ha, neD_ints (tr_py0 (t := Tr.mk [] a f n) (G := G))])]
      | cons g gs =>
        obtain ⟨gs', a', e, hl⟩ := draw_loop (d := d) (x := x) (y := y) (G := G) m (Tr.mk gs g f n) (by simp at h ⊢; omega) (by simp at h63 ⊢; omega)
        refine ⟨gs', a', ?_, by simp at hl ⊢; omega⟩
        have hp : popAtD (.ptr 0) [.int 0] ((Tr.mk (g :: gs) a f n).st G) = some (.int g, (Tr.mk gs a f n).st G) := by
          have hlen : gs.length + 1 ≤ 100000 := by simp at h63; omega
          have hix : L2.ixN (gs.length + 1) 0 = some 0 := by
            unfold L2.ixN
            rw [if_pos (by decide), if_pos (by omega)]
            rfl
          simp [popAtD, hix, hlen]
          rfl
        rw [while_step (S1 := (Tr.mk (g :: gs) a f n).st G) (s2 := [some (.ptr 1), some d, x, y]) (S2 := (Tr.mk gs g f n).st G) (by
          simp [ha, neD_ints (tr_py0 (t := Tr.mk (g :: gs) a f n) (G := G))]) (by simp [hp])]
        exact e
    · refine ⟨gs, a, ?_, Nat.le_refl _⟩
      rw [while_end (S1 := (Tr.mk gs a f n).st G) (by simp [ha])]

theorem fits_lt {i : Int} (h0 : 0 ≤ i) (h : i < 2 ^ 200) : Fits i := fits_small (by omega)
theorem draw_ok {t : Tr} {G : Sto} {m N : Int} (h : t.ok N) (hN : N < 2 ^ 60) (hm : 0 < m) (hm2 : m < 2 ^ 200) :
    ∃ (r : Int) (t' : Tr), f_law_draw_z [.ptr 1, .int m] (t.st G) = some (.int r, t'.st G) ∧ 0 ≤ r ∧ r < m ∧ t'.ok (N + 1) := by
  obtain ⟨gs, a, e, hl⟩ := draw_loop (d := .int m) (x := none) (y := none) (G := G) FUEL t (lt_fuel (k := 6) (by have := h.l; omega) (by decide)) h.l
  have hf0 := h.f0; have hf1 := h.f1; have hn0 := h.n0; have hn1 := h.n1; have hl63 := h.l
  have fm : FitsD m := fitsD_small hm (by omega)
  have hlen : ∀ t' : Tr, (t'.st G).length = (t.st G).length := fun _ => rfl
  by_cases ha : a < 2
  · -- a mixed draw
    have hn3 : 0 ≤ t.n + 1 + 2 ∧ t.n + 1 + 2 < 2 ^ 62 := by omega
    have p3 : ∀ S, powD (.int (t.n + 1 + 2)) (.int 3) S = some (.int ((t.n + 1 + 2) ^ 3), S) := fun S => powD_int (by decide) (by decide) (by omega)
    have c3 : 0 ≤ (t.n + 1 + 2) ^ 3 ∧ (t.n + 1 + 2) ^ 3 < 2 ^ 186 := by
      refine ⟨Int.pow_nonneg hn3.1, ?_⟩
      have h1 : (t.n + 1 + 2).toNat ^ 3 < (2 ^ 62) ^ 3 := Nat.pow_lt_pow_left (by omega) (by decide)
      have h2 : (t.n + 1 + 2) ^ 3 = (((t.n + 1 + 2).toNat ^ 3 : Nat) : Int) := by
        rw [Int.natCast_pow, Int.toNat_of_nonneg hn3.1]
      rw [h2]
      omega
    have f1 : Fits (t.f + 5) := fits_lt (by omega) (by omega)
    have f2 : Fits ((t.n + 1 + 2) ^ 3) := fits_lt c3.1 (by omega)
    have f3 : Fits 1000003 := fits_lt (by decide) (by decide)
    have f4 : Fits (t.n + 1) := fits_lt (by omega) (by omega)
    have hx : ∃ x : Int, x = ((t.f + 5) * (t.n + 1 + 2) ^ 3 + 1000003 * (t.n + 1)) % 2305843009213693951 := ⟨_, rfl⟩
    obtain ⟨x, hx⟩ := hx
    have x0 : 0 ≤ x ∧ x < 2305843009213693951 := by
      rw [hx]
      exact ⟨Int.emod_nonneg _ (by decide), Int.emod_lt_of_pos _ (by decide)⟩
    have p5 : ∀ S, powD (.int x) (.int 5) S = some (.int (x ^ 5), S) := fun S => powD_int (by decide) (by decide) (by omega)
    have f64 : FitsD 64 := fitsD_small (by decide) (by decide)
    refine ⟨x ^ 5 % 1000000000000000009 / 64 % m, Tr.mk gs a t.f (t.n + 1), ?_, Int.emod_nonneg _ (by omega), Int.emod_lt_of_pos _ hm, ⟨hf0, hf1, by show 0 ≤ t.n + 1; omega, by show t.n + 1 ≤ N + 1; omega, by show gs.length ≤ 63; omega⟩⟩
    simp only [f_law_draw_z, fnF, b_law_draw_z, dSeq, dWhile, startD, List.map, List.length, List.replicate, List.cons_append, List.nil_append, e, kNx]
    have ha' : ¬ 2 ≤ a := by omega
    simp [ha', p3, f1, f2, f3, f4]
    rw [← hx]
    simp [p5, hm, f64]
    exact exF_len rfl
  · have ha' : 2 ≤ a := by omega
    refine ⟨a % m, Tr.mk gs (a / m) t.f t.n, ?_, Int.emod_nonneg _ (by omega), Int.emod_lt_of_pos _ hm, ⟨hf0, hf1, hn0, by show t.n ≤ N + 1; omega, by show gs.length ≤ 63; omega⟩⟩
    simp only [f_law_draw_z, fnF, b_law_draw_z, dSeq, dWhile, startD, List.map, List.length, List.replicate, List.cons_append, List.nil_append, e, kNx]
    simp [ha', hm, fm]
    exact exF_len rfl
end FW
end
section
namespace FW
open PySem PyProof.Rows PySem.Spec L2 DL
theorem map_at {α : Type} {f : α → DV} {xs : List α} {i : Nat} {d : DV} (h : (xs.map f)[i]? = some d) : ∃ x, xs[i]? = some x ∧ d = f x := by
  rw [List.getElem?_map] at h
  cases q : xs[i]? with
  | none => rw [q] at h; cases h
  | some x => rw [q] at h; cases h; exact ⟨x, rfl, rfl⟩
theorem law_tray_ok {ns : List Int} (hl : ns.length ≤ 63) : ∃ t : Tr, f_law_tray_r [.rls (ns.map DV.int)] [] = some (.ptr 1, t.st []) ∧ t.ok 0 := by
  have f3 : Fits 1000003 := fits_lt (by decide) (by decide)
  obtain ⟨s', S', e, fold, gs, y, z, rfl, rfl, h1, h2, h3⟩ := forL_inv (tgt := dName 3) (body := (dSeq (dAsg (dOp modD (dOp (addD false) (dOp mulD (dVar 1) (dC (.int 1000003))) (dVar 3)) (dOp subD (dOp powD (dC (.int 2)) (dC (.int 61))) (dC (.int 1)))) (dName 1))
    (dSeq (dAsg (dCB maxD (dCons (dVar 3) (dCons (dOp subD (dC (.int 0)) (dVar 3)) dNil))) (dName 4))
    (dIfS (dTest (dOp geD (dVar 4) (dOp powD (dC (.int 10)) (dC (.int 18)))))
    (dDrop (dBM "list" appendD (dVar 2) (dCons (dOp subD (dVar 4) (dOp powD (dC (.int 10)) (dC (.int 18)))) dNil))) dNext))))
    (xs := ns.map DV.int) (s := [some (.rls (ns.map DV.int)), some (.int 314159265358979), some (.ptr 0), none, none]) (S := [.ml []]) (k := 0)
    (fun k s S => ∃ fold gs y z, s = [some (.rls (ns.map DV.int)), some (.int fold), some (.ptr 0), y, z] ∧ S = [.ml (gs.map DV.int)] ∧ 0 ≤ fold ∧ fold < 2 ^ 61 ∧ gs.length ≤ k)
    ⟨314159265358979, [], none, none, rfl, rfl, by decide, by decide, Nat.le_refl _⟩ (by
      rintro i x s S hx ⟨fold, gs, y, z, rfl, rfl, h1, h2, h3⟩
      obtain ⟨n, hn, rfl⟩ := map_at hx
      have hi : i < ns.length := (List.getElem?_eq_some_iff.mp hn).1
      have ff : Fits fold := fits_lt h1 (by omega)
      have hgl : gs.length < 100000 := by omega
      by_cases hc : 1000000000000000000 ≤ (if 0 - n > n then 0 - n else n)
      · refine ⟨_, _, [some (.rls (ns.map DV.int)), some (.int ((fold * 1000003 + n) % 2305843009213693951)), some (.ptr 0), some (.int n), some (.int (if 0 - n > n then 0 - n else n))], [.ml ((gs ++ [(if 0 - n > n then 0 - n else n) - 1000000000000000000]).map DV.int)], rfl, .inl ?_, _, _, _, _, rfl, rfl, Int.emod_nonneg _ (by decide), by have := Int.emod_lt_of_pos (fold * 1000003 + n) (show (0 : Int) < 2305843009213693951 by decide); omega, by simp; omega⟩
        simp at hc
        simp [ff, f3, hc, rdL, appendD, ptrL, hgl]
      · refine ⟨_, _, [some (.rls (ns.map DV.int)), some (.int ((fold * 1000003 + n) % 2305843009213693951)), some (.ptr 0), some (.int n), some (.int (if 0 - n > n then 0 - n else n))], [.ml (gs.map DV.int)], rfl, .inl ?_, _, _, _, _, rfl, rfl, Int.emod_nonneg _ (by decide), by have := Int.emod_lt_of_pos (fold * 1000003 + n) (show (0 : Int) < 2305843009213693951 by decide); omega, by omega⟩
        have hc' := hc
        simp at hc'
        have hc2 := Int.not_le.mpr hc'
        simp [ff, f3, hc2])
  refine ⟨Tr.mk gs 0 fold 0, ?_, ⟨h1, h2, Int.le_refl _, Int.le_refl _, by simp at h3 ⊢; omega⟩⟩
  simp [f_law_tray_r, fnF, b_law_tray_r, dFor_eq, diL] at e ⊢
  rw [e]
  simp
  rfl
section
variable {t t' : Tr} {G : Sto} {d : DV} {ds : List DV} {mo : MO}
@[simp] theorem tr_len : (t.st G).length = G.length + 2 := rfl
@[simp] theorem tr_app {X : Sto} : t.st G ++ X = t.st (G ++ X) := rfl
theorem tr_append (h : ds.length < 100000) : appendD (.ptr (G.length + 2)) [d] (t.st (G ++ [.ml ds])) = some (.non, t.st (G ++ [.ml (ds ++ [d])])) := appendD_top (S := t.st G) h
@[simp] theorem tr_rd : rdL (t.st (G ++ [.ml ds])) (.ptr (G.length + 2)) = some ds := rdL_top (S := t.st G)
theorem exF_tray {X : Sto} {d : DV} (h : clo (G.length + 2) d = true) (hp : ∀ n, d ≠ .ptr n) : exF (some false) (t.st G) d (t'.st (G ++ X)) = some (d, t'.st G) := by
  unfold exF exF1
  simp only
  split
  · rename_i hx
    have : X = [] := by simpa using hx
    subst this
    rw [List.append_nil]
  · rename_i hx
    have hc : (t.st G).length < (t'.st (G ++ X)).length ∧ ∀ n : Nat, n < (t.st G).length → (t'.st (G ++ X))[n]? = (t.st G)[n]? ∨ ∃ mo, (t'.st (G ++ X))[n]? = some mo ∧ cloM (t.st G).length mo = true := by
      refine ⟨?_, fun n hn => ?_⟩
      · simp at hx ⊢
        have : X.length ≠ 0 := fun z => hx (List.length_eq_zero_iff.mp z)
        omega
      · match n with
        | 0 => exact .inr ⟨_, rfl, clos_int⟩
        | 1 => exact .inr ⟨_, rfl, by simp [cloM, clos, clo]⟩
        | n + 2 =>
          refine .inl ?_
          show (G ++ X)[n]? = G[n]?
          have : n < G.length := by simp at hn; omega
          rw [List.getElem?_append_left this]
    rw [if_pos hc]
    unfold exR
    split
    · exact absurd rfl (hp _)
    · rw [if_pos (by simpa using h)]
      have : (t'.st (G ++ X)).take (t.st G).length = t'.st G := List.take_left (l₁ := t'.st G) (l₂ := X)
      rw [this]
end
theorem pick3 {r : Int} {a b c : DV} (h0 : 0 ≤ r) (h : r < 3) : ∃ d, L2.atI [a, b, c] r = some d ∧ (d = a ∨ d = b ∨ d = c) := by
  have : r = 0 ∨ r = 1 ∨ r = 2 := by omega
  rcases this with rfl | rfl | rfl
  · exact ⟨a, by simp, .inl rfl⟩
  · exact ⟨b, by simp, .inr (.inl rfl)⟩
  · exact ⟨c, by simp, .inr (.inr rfl)⟩
theorem law_wides_ok {t : Tr} {G : Sto} {m N : Int} (h : t.ok N) (hN : N < 2 ^ 50) (hm : 0 < m) (hm2 : m ≤ 1000) :
    ∃ (ws : List Int) (t' : Tr), f_law_wides_z [.ptr 1, .int m] (t.st G) = some (dI ws, t'.st G) ∧ ws ≠ [] ∧ (ws.length : Int) ≤ m ∧ (∀ w ∈ ws, 1 ≤ w ∧ w ≤ 9) ∧ t'.ok (N + 2 + m) := by
  obtain ⟨r1, t1, e1, a1, b1, k1⟩ := draw_ok (G := G) (m := 3) h (by omega) (by decide) (by decide)
  obtain ⟨r2, t2, e2, a2, b2, k2⟩ := draw_ok (G := G) (m := m) k1 (by omega) hm (by omega)
  obtain ⟨d, hd, hd2⟩ := pick3 (a := .int 1) (b := .int 2) (c := .int 9) a1 b1
  obtain ⟨wd, rfl, w0, w1⟩ : ∃ wd : Int, d = .int wd ∧ 1 ≤ wd ∧ wd ≤ 9 := by
    rcases hd2 with rfl | rfl | rfl
    · exact ⟨1, rfl, by decide, by decide⟩
    · exact ⟨2, rfl, by decide, by decide⟩
    · exact ⟨9, rfl, by decide, by decide⟩
  obtain ⟨acc, S', e3, ws, t3, rfl, rfl, hlen, hw, k3⟩ := lcL_inv (tgt := dName 3) (tt := dYes) (te := (dOp (addD false) (dC (.int 1)) (dCall 2 f_law_draw_z [] (dCons (dVar 0) (dCons (dVar 2) dNil))))) (vs := [3])
    (s := [some (.ptr 1), some (.int m), some (.int wd), none]) (fun k acc S => ∃ (ws : List Int) (t' : Tr), acc = ws.map DV.int ∧ S = t'.st G ∧ ws.length = k ∧ (∀ w ∈ ws, 1 ≤ w ∧ w ≤ 9) ∧ t'.ok (N + 1 + 1 + k))
    (xs := (List.range (1 + r2).toNat).map fun i => DV.int (0 + (i : Nat))) (acc := []) (S := t2.st G) (k := 0) ⟨[], t2, rfl, rfl, rfl, fun w hw => (by cases hw), by simpa using k2⟩ (by
      rintro i x acc S hx ⟨ws, t', rfl, rfl, hlen, hw, hk⟩
      obtain ⟨n, hn, rfl⟩ := map_at hx
      have hi : i < (1 + r2).toNat := by simpa using (List.getElem?_eq_some_iff.mp hn).1
      obtain ⟨r, t'', e, a, b, k⟩ := draw_ok (G := G) (m := wd) hk (by omega) (by omega) (by omega)
      refine ⟨_, _, true, _, rfl, rfl, ?_⟩
      rw [if_pos rfl]
      refine ⟨.int (1 + r), t''.st G, by simp [e], ws ++ [1 + r], t'', by simp, rfl, by simp [hlen], fun w h => ?_, by
        have : N + 1 + 1 + ((0 + i + 1 : Nat) : Int) = N + 1 + 1 + ((0 + i : Nat) : Int) + 1 := by omega
        rw [this]
        exact k⟩
      rcases List.mem_append.mp h with h | h
      · exact hw w h
      · cases List.mem_singleton.mp h
        omega)
  have hlen' : ws.length = (1 + r2).toNat := by simpa using hlen
  refine ⟨ws, t3, ?_, ?_, by omega, hw, k3.mono (by simp; omega)⟩
  · have hr : RgS (1 + r2) := rgS_of (by omega) (by omega)
    have hll : ws.length ≤ 100000 := by omega
    simp only [f_law_wides_z, fnF, b_law_wides_z]
    simp [e1, e2, ixD, hd, hr, dLc_eq] at e3 ⊢
    rw [e3]
    simp [hll]
    exact exF_len rfl
  · intro z
    rw [z] at hlen'
    simp at hlen'
    omega
end FW
end
section
namespace FW
open PySem PyProof.Rows PySem.Spec L2 DL
theorem pick4 {r : Int} {a b c e : DV} (h0 : 0 ≤ r) (h : r < 4) : ∃ d, L2.atI [a, b, c, e] r = some d ∧ (d = a ∨ d = b ∨ d = c ∨ d = e) := by
  have : r = 0 ∨ r = 1 ∨ r = 2 ∨ r = 3 := by omega
  rcases this with rfl | rfl | rfl | rfl
  · exact ⟨a, by simp, .inl rfl⟩
  · exact ⟨b, by simp, .inr (.inl rfl)⟩
  · exact ⟨c, by simp, .inr (.inr (.inl rfl))⟩
  · exact ⟨e, by simp, .inr (.inr (.inr rfl))⟩
theorem pick5 {r : Int} {a b c e f : DV} (h0 : 0 ≤ r) (h : r < 5) : ∃ d, L2.atI [a, b, c, e, f] r = some d ∧ (d = a ∨ d = b ∨ d = c ∨ d = e ∨ d = f) := by
  have : r = 0 ∨ r = 1 ∨ r = 2 ∨ r = 3 ∨ r = 4 := by omega
  rcases this with rfl | rfl | rfl | rfl | rfl
  · exact ⟨a, by simp, .inl rfl⟩
  · exact ⟨b, by simp, .inr (.inl rfl)⟩
  · exact ⟨c, by simp, .inr (.inr (.inl rfl))⟩
  · exact ⟨e, by simp, .inr (.inr (.inr (.inl rfl)))⟩
  · exact ⟨f, at_nat (n := 4) rfl rfl, .inr (.inr (.inr (.inr rfl)))⟩
theorem law_bottom_ok {t : Tr} {G : Sto} {N : Int} (h : t.ok N) (hN : N < 2 ^ 50) :
    ∃ (b : Int) (t' : Tr), f_law_bottom_z [.ptr 1] (t.st G) = some (.int b, t'.st G) ∧ 0 ≤ b ∧ b ≤ 60 ∧ t'.ok (N + 2) := by
  obtain ⟨r1, t1, e1, a1, b1, k1⟩ := draw_ok (G := G) (m := 60) h (by omega) (by decide) (by decide)
  obtain ⟨r2, t2, e2, a2, b2, k2⟩ := draw_ok (G := G) (m := 4) k1 (by omega) (by decide) (by decide)
  obtain ⟨d, hd, hd2⟩ := pick4 (a := .int 1) (b := .int (1 + r1)) (c := .int 60) (e := .int 0) a2 b2
  obtain ⟨wd, rfl, w0, w1⟩ : ∃ wd : Int, d = .int wd ∧ 0 ≤ wd ∧ wd ≤ 60 := by
    rcases hd2 with rfl | rfl | rfl | rfl
    · exact ⟨_, rfl, by omega, by omega⟩
    · exact ⟨_, rfl, by omega, by omega⟩
    · exact ⟨_, rfl, by omega, by omega⟩
    · exact ⟨_, rfl, by omega, by omega⟩
  refine ⟨wd, t2, ?_, w0, w1, k2.mono (by omega)⟩
  simp only [f_law_bottom_z, fnF, b_law_bottom_z]
  simp [e1, e2, ixD, hd]
  exact exF_len rfl
theorem sz_zero {n : Nat} (hn : 0 < n := by decide) : Sz n (0 : Rat) := ⟨Nat.two_pow_pos n, Nat.one_lt_two_pow (by omega)⟩
theorem nonneg_mkRat {a : Int} {b : Nat} (h : 0 ≤ a) : 0 ≤ mkRat a b := by
  rw [← Rat.num_nonneg, Rat.num_mkRat]
  split
  · exact Int.le_refl _
  · exact Int.ediv_nonneg h (by omega)
theorem fr_not_ptr {q : Rat} : ∀ n, fr q ≠ .ptr n := fun n h => by cases h
theorem law_amount_ok {t : Tr} {G : Sto} {N w b : Int} (h : t.ok N) (hN : N < 2 ^ 50) (hw : 1 ≤ w ∧ w ≤ 9) (hb : 1 ≤ b ∧ b ≤ 60) :
    ∃ (q : Rat) (t' : Tr), f_law_amount_z [.ptr 1, .int w, .int b] (t.st G) = some (fr q, t'.st G) ∧ 0 ≤ q ∧ Sz 41 q ∧ t'.ok (N + 5) := by
  obtain ⟨r1, t1, e1, a1, b1, k1⟩ := draw_ok (G := G) (m := 4) h (by omega) (by decide) (by decide)
  obtain ⟨r2, t2, e2, a2, b2, k2⟩ := draw_ok (G := G) (m := 20) k1 (by omega) (by decide) (by decide)
  obtain ⟨r3, t3, e3, a3, b3, k3⟩ := draw_ok (G := G) (m := 10000) k2 (by omega) (by decide) (by decide)
  have fw : Fits w := fits_lt (by omega) (by omega)
  have fb : Fits b := fits_lt (by omega) (by omega)
  have hwb : 0 ≤ w * b ∧ w * b ≤ 540 := by
    refine ⟨Int.mul_nonneg (by omega) (by omega), ?_⟩
    have := Int.mul_le_mul hw.2 hb.2 (by omega) (by decide)
    omega
  have hwbr : 0 ≤ w * b * r1 ∧ w * b * r1 ≤ 1620 := by
    refine ⟨Int.mul_nonneg hwb.1 a1, ?_⟩
    have := Int.mul_le_mul hwb.2 (show r1 ≤ 3 by omega) a1 (by decide)
    omega
  have fwb : Fits (w * b) := fits_lt hwb.1 (by omega)
  have fr1 : Fits r1 := fits_lt a1 (by omega)
  have hS : ∀ ds : List DV, t3.st (G ++ [.ml ds]) = t3.st (G ++ [.ml ds]) := fun _ => rfl
  obtain ⟨r4, t4, e4, a4, b4, k4⟩ := draw_ok (G := G ++ [.ml [.int 0, .int (w * b * r1), .int r2, .int r3]]) (m := 1000000000000) k3 (by omega) (by decide) (by decide)
  obtain ⟨r5, t5, e5, a5, b5, k5⟩ := draw_ok (G := G ++ [.ml [.int 0, .int (w * b * r1), .int r2, .int r3, .int r4]]) (m := 5) k4 (by omega) (by decide) (by decide)
  obtain ⟨d, hd, hd2⟩ := pick5 (a := .int 0) (b := .int (w * b * r1)) (c := .int r2) (e := .int r3) (f := .int r4) a5 b5
  obtain ⟨x, rfl, x0, x1⟩ : ∃ x : Int, d = .int x ∧ 0 ≤ x ∧ x ≤ 1000000000000 := by
    rcases hd2 with rfl | rfl | rfl | rfl | rfl
    · exact ⟨_, rfl, by omega, by omega⟩
    · exact ⟨_, rfl, by omega, by omega⟩
    · exact ⟨_, rfl, by omega, by omega⟩
    · exact ⟨_, rfl, by omega, by omega⟩
    · exact ⟨_, rfl, by omega, by omega⟩
  obtain ⟨bn, rfl⟩ : ∃ bn : Nat, b = (bn : Int) := ⟨b.toNat, by omega⟩
  have key := law_low_ok (a := x) (b := bn) (n := 41) (S := t5.st (G ++ [.ml [.int 0, .int (w * bn * r1), .int r2, .int r3, .int r4]])) (by omega) (Nat.lt_of_lt_of_le (show bn < 2 ^ 6 by omega) (Nat.pow_le_pow_right (by decide) (by decide))) (by omega) (by decide)
  have hap : appendD (.ptr (G.length + 2)) [.int r4] (t4.st (G ++ [.ml [.int 0, .int (w * bn * r1), .int r2, .int r3]])) = some (.non, t4.st (G ++ [.ml [.int 0, .int (w * bn * r1), .int r2, .int r3, .int r4]])) := tr_append (by simp)
  refine ⟨mkRat x bn, t5, ?_, nonneg_mkRat x0, sz_mkRat (by omega) (by omega) (by omega), k5.mono (by omega)⟩
  simp only [f_law_amount_z, fnF, b_law_amount_z]
  simp [e1, e2, e3, fw, fb, fwb, fr1, hap, e4, e5, ixD, hd, key]
  exact exF_tray rfl fr_not_ptr
theorem law_amounts_ok {t : Tr} {G : Sto} {N b : Int} {ws : List Int} (h : t.ok N) (hN : N < 2 ^ 40) (hw : ∀ w ∈ ws, 1 ≤ w ∧ w ≤ 9) (hl : ws.length ≤ 1000) (hb : 0 ≤ b ∧ b ≤ 60) :
    ∃ (qs : List Rat) (t' : Tr), f_law_amounts_z [.ptr 1, dI ws, .int b] (t.st G) = some (dF qs, t'.st G) ∧ qs.length = ws.length ∧ (∀ q ∈ qs, 0 ≤ q ∧ Sz 41 q) ∧ t'.ok (N + 6 * ws.length + 1) := by
  obtain ⟨acc, S', e3, qs, t3, rfl, rfl, hlen, hq, k3⟩ := lcL_inv (tgt := dName 5) (tt := dYes) (te := (dCall 3 f_law_amount_z [] (dCons (dVar 0) (dCons (dVar 5) (dCons (dIf (dTest (dOp gtD (dVar 2) (dC (.int 0)))) (dVar 2) (dOp (addD false) (dC (.int 1)) (dCall 2 f_law_draw_z [] (dCons (dVar 0) (dCons (dC (.int 60)) dNil))))) dNil))))) (vs := [5])
    (s := [some (.ptr 1), some (dI ws), some (.int b), none, none, none, none]) (fun k acc S => ∃ (qs : List Rat) (t' : Tr), acc = qs.map fr ∧ S = t'.st G ∧ qs.length = k ∧ (∀ q ∈ qs, 0 ≤ q ∧ Sz 41 q) ∧ t'.ok (N + 6 * k))
    (xs := ws.map DV.int) (acc := []) (S := t.st G) (k := 0) ⟨[], t, rfl, rfl, rfl, fun w hw => (by cases hw), by simpa using h⟩ (by
      rintro i x acc S hx ⟨qs, t', rfl, rfl, hlen, hq, hk⟩
      obtain ⟨w, hn, rfl⟩ := map_at hx
      have hww := hw w (List.mem_of_getElem? hn)
      have hi : i < ws.length := (List.getElem?_eq_some_iff.mp hn).1
      by_cases hb0 : 0 < b
      · obtain ⟨q, t'', e, q0, q1, k⟩ := law_amount_ok (G := G) (w := w) (b := b) hk (by omega) hww (by omega)
        refine ⟨_, _, true, _, rfl, rfl, ?_⟩
        rw [if_pos rfl]
        refine ⟨fr q, t''.st G, by simp [e, hb0], qs ++ [q], t'', by simp, rfl, by simp [hlen], fun p h => ?_, k.mono (by omega)⟩
        rcases List.mem_append.mp h with h | h
        · exact hq p h
        · cases List.mem_singleton.mp h
          exact ⟨q0, q1⟩
      · obtain ⟨r, tr, er, ar, br, kr⟩ := draw_ok (G := G) (m := 60) hk (by omega) (by decide) (by decide)
        obtain ⟨q, t'', e, q0, q1, k⟩ := law_amount_ok (G := G) (w := w) (b := 1 + r) kr (by omega) hww (by omega)
        refine ⟨_, _, true, _, rfl, rfl, ?_⟩
        rw [if_pos rfl]
        refine ⟨fr q, t''.st G, by simp [er, e, hb0], qs ++ [q], t'', by simp, rfl, by simp [hlen], fun p h => ?_, k.mono (by omega)⟩
        rcases List.mem_append.mp h with h | h
        · exact hq p h
        · cases List.mem_singleton.mp h
          exact ⟨q0, q1⟩)
  have hlen' : qs.length = ws.length := by simpa using hlen
  obtain ⟨r, t4, e4, a4, b4, k4⟩ := draw_ok (G := G) (m := 5) k3 (by simp; omega) (by decide) (by decide)
  obtain ⟨d, hd, hd2⟩ := pick5 (a := .int 0) (b := .int ((ws.length : Int) - 1)) (c := .non) (e := .non) (f := .non) a4 b4
  have hRg : RgS (ws.length : Int) := rgS_of (by omega) (by omega)
  -- what is told of each
  have fin : ∀ (P : Nat → Bool), (∀ i : Nat, i < ws.length → ∀ S, dIf (dOr (dTest (dIsN false (dVar 4))) (dTest (dOp eqD (dVar 6) (dVar 4)))) (dOp ixD (dVar 3) (dVar 6)) (dTup (dCons (dC (.int 0)) (dCons (dC (.int 1)) dNil))) [some (.ptr 1), some (dI ws), some (.int b), some (dF qs), some d, none, some (.int (i : Nat))] S = some (if P i then fr (qs.getD i 0) else fr 0, S)) →
      ∃ rs : List Rat, lcL (dName 6) dYes (dIf (dOr (dTest (dIsN false (dVar 4))) (dTest (dOp eqD (dVar 6) (dVar 4)))) (dOp ixD (dVar 3) (dVar 6)) (dTup (dCons (dC (.int 0)) (dCons (dC (.int 1)) dNil)))) [6] ((List.range ws.length).map fun i => DV.int ((i : Nat) : Int)) [] [some (.ptr 1), some (dI ws), some (.int b), some (dF qs), some d, none, none] (t4.st G) = some (rs.map fr, t4.st G) ∧ rs.length = ws.length ∧ ∀ q ∈ rs, 0 ≤ q ∧ Sz 41 q := by
    intro P hP
    refine ⟨(List.range ws.length).map fun i => if P i then qs.getD i 0 else 0, ?_, by simp, fun q hq' => ?_⟩
    · rw [lcL_map (g := fun x => match x with
        | .int i => if P i.toNat then fr (qs.getD i.toNat 0) else fr 0
        | d => d) fun x hx => ?_]
      · simp only [List.nil_append, List.map_map, Option.some.injEq, Prod.mk.injEq, and_true]
        refine List.map_congr_left fun i _ => ?_
        simp only [Function.comp, Int.toNat_natCast]
        split <;> rfl
      · obtain ⟨i, hi, rfl⟩ := List.mem_map.mp hx
        refine ⟨_, rfl, rfl, ?_⟩
        have := hP i (by simpa using hi) (t4.st G)
        simpa using this
    · obtain ⟨i, hi, rfl⟩ := List.mem_map.mp hq'
      have hi' : i < qs.length := by rw [hlen']; simpa using hi
      split
      · rw [List.getD_eq_getElem?_getD, List.getElem?_eq_getElem hi']
        exact hq _ (List.getElem_mem hi')
      · exact ⟨Rat.le_refl, sz_zero⟩
  have ixk : ∀ i : Nat, i < ws.length → ∀ S, ixD (dF qs) (.int (i : Nat)) S = some (fr (qs.getD i 0), S) := fun i hi S => by
    have hi' : i < qs.length := by omega
    refine ixD_lst (at_nat rfl ?_)
    rw [List.getElem?_map, List.getD_eq_getElem?_getD, List.getElem?_eq_getElem hi']
    rfl
  have e0 : DV.tup [.int 0, .int 1] = fr 0 := rfl
  obtain ⟨rs, er, hrl, hrq⟩ : ∃ rs : List Rat, lcL (dName 6) dYes (dIf (dOr (dTest (dIsN false (dVar 4))) (dTest (dOp eqD (dVar 6) (dVar 4)))) (dOp ixD (dVar 3) (dVar 6)) (dTup (dCons (dC (.int 0)) (dCons (dC (.int 1)) dNil)))) [6] ((List.range ws.length).map fun i => DV.int ((i : Nat) : Int)) [] [some (.ptr 1), some (dI ws), some (.int b), some (dF qs), some d, none, none] (t4.st G) = some (rs.map fr, t4.st G) ∧ rs.length = ws.length ∧ ∀ q ∈ rs, 0 ≤ q ∧ Sz 41 q := by
    have non : d = .non ∨ ∃ z : Int, d = .int z := by
      rcases hd2 with rfl | rfl | rfl | rfl | rfl
      · exact .inr ⟨_, rfl⟩
      · exact .inr ⟨_, rfl⟩
      · exact .inl rfl
      · exact .inl rfl
      · exact .inl rfl
    rcases non with rfl | ⟨z, rfl⟩
    · exact fin (fun _ => true) fun i hi S => by simp [ixk i hi]
    · refine fin (fun i => decide ((i : Int) = z)) fun i hi S => ?_
      by_cases hz : (i : Int) = z
      · subst hz
        simp [ixk i hi]
      · simp [hz, e0]
  refine ⟨rs, t4, ?_, hrl, hrq, k4.mono (by simp)⟩
  have hq1 : qs.length ≤ 100000 := by omega
  have hr1 : rs.length ≤ 100000 := by omega
  have hix := ixD_lst (S := t4.st G) hd
  refine fn_rt (d := dF rs) (S1 := t4.st G) ?_ (exF_len rfl)
  refine seq_nx (asg_name (lc_of (it := .li (dI ws)) (S1 := t.st G) rfl rfl e3 (by simpa using hq1))) ?_
  refine seq_nx (asg_name (d := d) (S1 := t4.st G) ?_) ?_
  · simp [dI, e4, hix]
  · refine ret_of (lc_of (it := .rg 0 ws.length) (S1 := t4.st G) ?_ rfl (by simpa [dF] using er) (by simpa using hr1))
    simp [dI, hRg]
end FW
end
section
namespace FW
open PySem PyProof.Rows PySem.Spec L2 DL
/-! ### alike -/
def kb (t T : String) : Bool := (L2.kitB t T).getD false
def KOk (t : String) : Prop := L2.kitB t "bool" = some (t == "bool") ∧ L2.kitB t "int" = some (t == "int" || t == "bool") ∧ L2.kitB t "str" = some (t == "str") ∧ L2.kitB t "list" = some (t == "list") ∧ L2.kitB t "tuple" = some (t == "tuple")
theorem kok_int : KOk "int" := by
  unfold KOk
  decide +kernel
theorem kok_list : KOk "list" := by
  unfold KOk
  decide +kernel
theorem kok_tuple : KOk "tuple" := by
  unfold KOk
  decide +kernel
theorem isi_of {S : Sto} {x : DV} {t T : String} {b : Bool} (h : tyS S x = some t) (h2 : L2.kitB t T = some b) : isiD [x, .ty T] S = some (.bl b, S) := by
  simp only [isiD, h, h2]
@[simp] theorem neD_bl {S : Sto} {i j : Bool} : neD (.bl i) (.bl j) S = some (.bl (!decide (i = j)), S) := by
  rw [neD_of (n := 0) rfl rfl shN_bl shN_bl (by decide)]
  cases i <;> cases j <;> rfl
@[simp] theorem alike_int {k : Nat} {i : Int} {S : Sto} : f_law_alike_z (k + 1) [.int i, .int i] S = some (.bl true, S) := by
  have h1 := isi_of (S := S) (x := .int i) (t := "int") rfl kok_int.1
  have h2 := isi_of (S := S) (x := .int i) (t := "int") rfl kok_int.2.1
  simp [f_law_alike_z, fnF, b_law_alike_z, h1, h2]
theorem alike_go {k : Nat} {a b : DV} {S : Sto} {t : String} {xs ys : List DV} (ht : (t = "list" ∧ rdL S a = some xs ∧ rdL S b = some ys) ∨ (t = "tuple" ∧ a = .tup xs ∧ b = .tup ys)) (ha : tyS S a = some t) (hb : tyS S b = some t)
    (hl : xs.length = ys.length) (hn : ys.length ≤ 100000) (h : ∀ (i : Nat) (x y : DV), xs[i]? = some x → ys[i]? = some y → f_law_alike_z k [x, y] S = some (.bl true, S)) : f_law_alike_z (k + 1) [a, b] S = some (.bl true, S) := by
  have hk : KOk t := by rcases ht with ⟨rfl, _⟩ | ⟨rfl, _⟩; exact kok_list; exact kok_tuple
  have a1 := isi_of ha hk.1
  have a4 := isi_of ha hk.2.2.2.1
  have a5 := isi_of ha hk.2.2.2.2
  have b1 := isi_of hb hk.1
  have b2 := isi_of hb hk.2.1
  have b3 := isi_of hb hk.2.2.1
  have b4 := isi_of hb hk.2.2.2.1
  have b5 := isi_of hb hk.2.2.2.2
  have t1 : (t == "bool") = false := by rcases ht with ⟨rfl, _⟩ | ⟨rfl, _⟩ <;> decide
  have t2 : (t == "int") = false := by rcases ht with ⟨rfl, _⟩ | ⟨rfl, _⟩ <;> decide
  have t3 : (t == "str") = false := by rcases ht with ⟨rfl, _⟩ | ⟨rfl, _⟩ <;> decide
  rw [t1] at b1
  rw [t1, t2] at b2
  rw [t3] at b3
  have la : lenD [a] S = some (.int (xs.length : Nat), S) := by
    rcases ht with ⟨_, h1, h2⟩ | ⟨_, rfl, rfl⟩
    · simp [lenD, h1]
    · simp
  have lb : lenD [b] S = some (.int (ys.length : Nat), S) := by
    rcases ht with ⟨_, h1, h2⟩ | ⟨_, rfl, rfl⟩
    · simp [lenD, h2]
    · simp
  have tn : t ≠ "NoneType" := by rcases ht with ⟨rfl, _⟩ | ⟨rfl, _⟩ <;> decide
  have nb : nonB b = false := by
    cases b with
    | non => exact absurd (Option.some.inj hb).symm tn
    | _ => rfl
  have ia : ∀ (i : Nat) (x : DV), xs[i]? = some x → ixD a (.int (i : Nat)) S = some (x, S) := fun i x hx => by
    have := L2.atI_nat hx
    rcases ht with ⟨_, h1, h2⟩ | ⟨_, rfl, rfl⟩
    · simp [ixD, h1, this]
    · exact ixD_tup this
  have ib : ∀ (i : Nat) (x : DV), ys[i]? = some x → ixD b (.int (i : Nat)) S = some (x, S) := fun i x hx => by
    have := L2.atI_nat hx
    rcases ht with ⟨_, h1, h2⟩ | ⟨_, rfl, rfl⟩
    · simp [ixD, h2, this]
    · exact ixD_tup this
  obtain ⟨s', e, _⟩ := forL_same (tgt := dName 2) (body := (dIfS (dNot (dTest (dCall 2 (f_law_alike_z k) [] (dCons (dOp ixD (dVar 0) (dVar 2)) (dCons (dOp ixD (dVar 1) (dVar 2)) dNil))))) (dRet (dC (.bl false))) dNext)) (S := S)
    (fun s => ∃ z, s = [some a, some b, z]) (xs := (List.range ys.length).map fun i => DV.int (0 + (i : Nat))) (s := [some a, some b, none]) ⟨_, rfl⟩ (by
      rintro x hx s ⟨z, rfl⟩
      obtain ⟨i, hi, rfl⟩ := List.mem_map.mp hx
      have hi : i < ys.length := by simpa using hi
      have hx : xs[i]? = some xs[i] := List.getElem?_eq_getElem (by omega)
      have hy : ys[i]? = some ys[i] := List.getElem?_eq_getElem hi
      refine ⟨_, [some a, some b, some (.int (0 + (i : Nat)))], rfl, ?_, _, rfl⟩
      have e1 := ia i _ hx
      have e2 := ib i _ hy
      have e3 := h i _ _ hx hy
      simp [e1, e2, e3])
  have hr : RgS (ys.length : Int) := rgS_of (by omega) (by omega)
  simp [-nonB, f_law_alike_z, fnF, b_law_alike_z, nb, b1, b2, b3, a4, b4, a5, b5, la, lb, hl, dFor_eq, hr] at e ⊢
  rw [e]
  simp
theorem alike_map {α : Type} {k : Nat} {S : Sto} {f : α → DV} (hf : ∀ x, f_law_alike_z k [f x, f x] S = some (.bl true, S)) {xs : List α} {a b : DV} (hn : xs.length ≤ 100000) (ha : rdL S a = some (xs.map f)) (hb : rdL S b = some (xs.map f)) (ta : tyS S a = some "list") (tb : tyS S b = some "list") :
    f_law_alike_z (k + 1) [a, b] S = some (.bl true, S) := by
  refine alike_go (.inl ⟨rfl, ha, hb⟩) ta tb rfl (by simpa using hn) fun i x y hx hy => ?_
  rw [hx] at hy
  cases hy
  obtain ⟨z, _, rfl⟩ := map_at hx
  exact hf z
theorem alike_fr {k : Nat} {q : Rat} {S : Sto} : f_law_alike_z (k + 2) [fr q, fr q] S = some (.bl true, S) := by
  refine alike_go (.inr ⟨rfl, rfl, rfl⟩) rfl rfl rfl (by simp) fun i x y hx hy => ?_
  rw [hx] at hy
  cases hy
  match i with
  | 0 => cases hx; exact alike_int
  | 1 => cases hx; exact alike_int
  | n + 2 => cases hx
theorem cut_take {α : Type} {xs : List α} {i : Nat} (h : i ≤ xs.length) : cutL xs none (some (i : Int)) = xs.take i := by
  unfold cutL
  rw [HT.sIx_none, HT.sIx_nat]
  simp [Nat.min_eq_left h]
theorem hfI_takes : ∀ (ws : List Int) (a : Int), (List.range (ws.length + 1)).map (fun i => a + (ws.take i).sum) = hfI a ws
  | [], a => by simp [hfI]
  | w :: ws, a => by
    rw [List.length_cons, List.range_succ_eq_map]
    simp only [List.map_cons, List.map_map, hfI, List.take_zero, List.sum_nil, Int.add_zero]
    rw [← hfI_takes ws (a + w)]
    congr 1
    refine List.map_congr_left fun i _ => ?_
    simp [Int.add_assoc]
theorem own_ok {G : Sto} {t : Tr} {ds : List DV} {d : DV} {p : Nat} (h : (t.st G)[p]? = some (.ml (d :: ds))) (hl : ds.length < 90000) : f_law_own_z [.ptr p] (t.st G) = some (.non, (t.st G).set p (.ml (.tup [.int 7, .int 1] :: ds ++ [.tup [.int 9, .int 1]]))) := by
  have hr : rdL (t.st G) (.ptr p) = some (d :: ds) := by unfold rdL; simp only [h]
  have hp : p < (t.st G).length := (List.getElem?_eq_some_iff.mp h).1
  have ha : appendD (.ptr p) [.tup [.int 9, .int 1]] (t.st G) = some (.non, (t.st G).set p (.ml (d :: ds ++ [.tup [.int 9, .int 1]]))) := by
    have : ptrL (t.st G) (.ptr p) = some (p, d :: ds) := by unfold ptrL; simp only [h]
    have hl2 : ds.length + 1 < 100000 := by omega
    simp [appendD, this, hl2]
  have hs : setL (.ptr p) (.int 0) (.tup [.int 7, .int 1]) ((t.st G).set p (.ml (d :: ds ++ [.tup [.int 9, .int 1]]))) = some ((t.st G).set p (.ml (.tup [.int 7, .int 1] :: ds ++ [.tup [.int 9, .int 1]]))) := by
    have hi : L2.ixN (d :: ds ++ [DV.tup [.int 9, .int 1]]).length 0 = some 0 := by
      unfold L2.ixN
      rw [if_pos (by decide), if_pos (by simp; omega)]
      rfl
    simp only [setL, List.getElem?_set_self hp, hi, List.set_set]
    rfl
  simp only [List.cons_append] at hs ha ⊢
  simp [f_law_own_z, fnF, b_law_own_z, hr, ha, hs]
  rw [exF_len (by simp)]
end FW
end
section
/-! list(zip(xs, ys)) -/
namespace DLZ
open PySem PySem.Calls PyProof.Rows PySem.Spec PySem.W
theorem past {a b S : Addr} (h : S < b ∨ b = S) (k : a < S) : b ≠ a := fun e => by
  subst e
  rcases h with h | h
  · exact Nat.lt_asymm h k
  · rw [h] at k
    exact Nat.lt_irrefl _ k
/-- the pairs made so far -/
structure Made (xs ys : Array Value) (lo : Addr) (h : Heap) (ts : List Addr) : Prop where
  up : ts.Pairwise (· < ·)
  hi : ∀ t ∈ ts, lo < t
  at_ : ∀ (j : Nat) (t : Addr), ts[j]? = some t → ∃ x y, xs[j]? = some x ∧ ys[j]? = some y ∧ IsPair h t x y
theorem Made.lt {xs ys : Array Value} {lo : Addr} {h : Heap} {ts : List Addr} (g : Made xs ys lo h ts) {t : Addr} (ht : t ∈ ts) : t < h.objs.size := by
  obtain ⟨j, hj⟩ := List.mem_iff_getElem?.mp ht
  obtain ⟨_, _, _, _, e⟩ := g.at_ j t hj
  exact Heap.lt_size e
structure Zs (z TI TO i1 i2 l1 l2 : Addr) (xs ys : Array Value) (S : Addr) (i : Nat) (h : Heap) : Prop where
  ti : IsPair h TI (.ref i1) (.ref i2)
  a1 : h.IsListIter i1 l1 i
  a2 : h.IsListIter i2 l2 i
  b1 : h.IsList l1 xs
  b2 : h.IsList l2 ys
  zz : (IsZip h z TI TO .none ∧ ∃ a b, IsPair h TO a b) ∨ ∃ T f oT, IsZipHeld h z TI TO T f ∧ h.get? T = some oT ∧ T ≠ z ∧ T ≠ i1 ∧ T ≠ i2 ∧ T ≠ S
structure OffS (z TI TO i1 i2 l1 l2 S : Addr) : Prop where
  z : S ≠ z
  ti : S ≠ TI
  to : S ≠ TO
  i1 : S ≠ i1
  i2 : S ≠ i2
  l1 : S ≠ l1
  l2 : S ≠ l2
section
variable {prog : Program} {w : World} {A : Around} {E : Value → Shared → Prop} {s : Shared} {z TI TO i1 i2 l1 l2 S : Addr} {xs ys : Array Value}
theorem Zs.stay {i : Nat} {h h' : Heap} (o : OffS z TI TO i1 i2 l1 l2 S) (g : Zs z TI TO i1 i2 l1 l2 xs ys S i h) (k : ∀ b u, b ≠ S → h.get? b = some u → h'.get? b = some u) : Zs z TI TO i1 i2 l1 l2 xs ys S i h' where
  ti := k _ _ o.ti.symm g.ti
  a1 := g.a1.at fun u e => k _ u o.i1.symm e
  a2 := g.a2.at fun u e => k _ u o.i2.symm e
  b1 := g.b1.at fun u e => k _ u o.l1.symm e
  b2 := g.b2.at fun u e => k _ u o.l2.symm e
  zz := by
    rcases g.zz with ⟨q, a, b, q2⟩ | ⟨T, f, oT, q, q2, r1, r2, r3, r4⟩
    · exact .inl ⟨k _ _ o.z.symm q, a, b, k _ _ o.to.symm q2⟩
    · exact .inr ⟨T, f, oT, k _ _ o.z.symm q, k _ _ r4 q2, r1, r2, r3, r4⟩
theorem next_item {i : Nat} {Q : Option Value → Shared → Prop} (D : ZipApart z TI TO i1 i2 l1 l2) (g : Zs z TI TO i1 i2 l1 l2 xs ys S i s.heap) (hS : S < s.heap.objs.size) (hi : i < min xs.size ys.size)
    (q : ∀ h', Zs z TI TO i1 i2 l1 l2 xs ys S (i + 1) h' → (∃ x y, xs[i]? = some x ∧ ys[i]? = some y ∧ IsPair h' s.heap.objs.size x y) → h'.objs.size = s.heap.objs.size + 1 →
      (∀ b u, b ≠ z → b ≠ TO → b ≠ i1 → b ≠ i2 → s.heap.get? b = some u → h'.get? b = some u) → Q (some (.ref s.heap.objs.size)) { s with heap := h' }) : wpAny (model prog w) A (pyNext (.ref z)) Q E s := by
  have px : xs[i]? = some xs[i] := Array.getElem?_eq_getElem (by omega)
  have py : ys[i]? = some ys[i] := Array.getElem?_eq_getElem (by omega)
  have ne : ∀ {c o}, s.heap.get? c = some o → s.heap.objs.size ≠ c := fun e => Nat.ne_of_gt (Heap.lt_size e)
  have m1 : s.heap.objs.size ≠ i1 := let ⟨_, e, _⟩ := g.a1; ne e
  have m2 : s.heap.objs.size ≠ i2 := let ⟨_, e, _⟩ := g.a2; ne e
  rcases g.zz with ⟨hz, a, b, hTO⟩ | ⟨T, f, oT, hz, hT, r1, r2, r3, r4⟩
  · refine wpAny_pyNext_zip_item D hz g.ti hTO g.a1 g.a2 g.b1 g.b2 px py fun h' c1 c2 c3 c4 c5 c6 hk => ?_
    exact q h' ⟨hk _ _ D.TIz D.TITO D.TIi1 D.TIi2 g.ti, c3, c4, g.b1.at fun o e => hk _ o D.l1z D.l1TO D.l1i1 D.l1i2 e, g.b2.at fun o e => hk _ o D.l2z D.l2TO D.l2i1 D.l2i2 e,
      .inr ⟨_, false, _, c1, c5, ne hz, m1, m2, Nat.ne_of_gt hS⟩⟩ ⟨_, _, px, py, c5⟩ c6 fun b u n1 n2 n3 n4 e => hk b u n1 n2 n3 n4 e
  · refine wpAny_pyNext_zip_item_held D hz hT g.ti g.a1 g.a2 g.b1 g.b2 px py fun h' c1 c3 c4 c5 c6 hk => ?_
    exact q h' ⟨hk _ _ D.TIz D.TIi1 D.TIi2 g.ti, c3, c4, g.b1.at fun o e => hk _ o D.l1z D.l1i1 D.l1i2 e, g.b2.at fun o e => hk _ o D.l2z D.l2i1 D.l2i2 e,
      .inr ⟨T, true, oT, c1, hk _ _ r1 r2 r3 hT, r1, r2, r3, r4⟩⟩ ⟨_, _, px, py, c5⟩ c6 fun b u n1 n2 n3 n4 e => hk b u n1 n3 n4 e
theorem next_done {i : Nat} {Q : Option Value → Shared → Prop} (hh : A.handled = none) (D : ZipApart z TI TO i1 i2 l1 l2) (g : Zs z TI TO i1 i2 l1 l2 xs ys S i s.heap) (hi : min xs.size ys.size ≤ i)
    (q : ∀ h', (∀ b u, b ≠ z → b ≠ TO → b ≠ i1 → b ≠ i2 → s.heap.get? b = some u → h'.get? b = some u) → Q none { s with heap := h' }) : wpAny (model prog w) A (pyNext (.ref z)) Q E s := by
  have out : xs[i]? = none ∨ ys[i]? = none := by
    rcases Nat.le_total xs.size ys.size with h | h
    · exact .inl (Array.getElem?_eq_none (by omega))
    · exact .inr (Array.getElem?_eq_none (by omega))
  rcases g.zz with ⟨hz, a, b, hTO⟩ | ⟨T, f, oT, hz, hT, r1, r2, r3, r4⟩
  · exact wpAny_pyNext_zip_end hh D hz g.ti hTO g.a1 g.a2 g.b1 g.b2 out fun h' hk => q h' hk
  · exact wpAny_pyNext_zip_end_held hh D hz hT g.ti g.a1 g.a2 g.b1 g.b2 out fun h' hk => q h' fun b u n1 _ n3 n4 e => hk b u n1 n3 n4 e
end
section
variable {prog : Program} {w : World} {A : Around} {s : Shared} {R : Result → Shared → Prop} {z TI TO i1 i2 l1 l2 S : Addr} {xs ys : Array Value}
theorem drain (hh : A.handled = none) (D : ZipApart z TI TO i1 i2 l1 l2) (o : OffS z TI TO i1 i2 l1 l2 S) (hlow : z < S ∧ TO < S ∧ i1 < S ∧ i2 < S) (hn : xs.size ≤ sizeLine) (res : Value) {h₁ : Heap}
    (hR : ∀ h' acc c ts, (∀ b u, b ≠ S → b ≠ z → b ≠ TO → b ≠ i1 → b ≠ i2 → h₁.get? b = some u → h'.get? b = some u) → h'.get? S = some { cls := .type "list", dict := none, data := .seq acc c, slots := #[] } → ts.length = min xs.size ys.size → Made xs ys S h' ts →
      acc.toList = ts.map Value.ref → R (.ok (.ret res)) { s with heap := h' }) :
    ∀ (k i : Nat) (h : Heap) (c : Nat) (acc : Array Value) (ts : List Addr), min xs.size ys.size - i = k → i ≤ min xs.size ys.size → Zs z TI TO i1 i2 l1 l2 xs ys S i h → (∀ b u, b ≠ S → b ≠ z → b ≠ TO → b ≠ i1 → b ≠ i2 → h₁.get? b = some u → h.get? b = some u) →
      h.get? S = some { cls := .type "list", dict := none, data := .seq acc c, slots := #[] } → acc.toList = ts.map Value.ref → ts.length = i → Made xs ys S h ts →
      codeAny (model prog w) A (.builtin "list.extend.loop" ⟨[.ref S, .ref z, res], []⟩) R { s with heap := h } := by
  intro k
  induction k with
  | zero =>
    intro i h c acc ts hk hi g keep hS hacc hl hG
    refine codeAny_builtin PySem.F.entry_extend_loop ?_
    rw [Around.under_plainId PySem.F.plain_extend_loop _]
    show wpAny _ A.in1 (pyNext (.ref z) >>= _) _ _ _
    refine wpAny_bind (next_done (s := { s with heap := h }) (A := A.in1) hh D g (by omega) fun h' he => ?_)
    have he2 : ∀ b u, S < b ∨ b = S → h.get? b = some u → h'.get? b = some u := fun b u hb e => he b u (past hb hlow.1) (past hb hlow.2.1) (past hb hlow.2.2.1) (past hb hlow.2.2.2) e
    refine wpAny_pure (hR h' acc c ts (fun b u n0 n1 n2 n3 n4 e => he b u n1 n2 n3 n4 (keep b u n0 n1 n2 n3 n4 e)) (he2 S _ (.inr rfl) hS) (by omega) ⟨hG.up, hG.hi, fun j t hj => ?_⟩ hacc)
    obtain ⟨x, y, ex, ey, e⟩ := hG.at_ j t hj
    exact ⟨x, y, ex, ey, he2 t _ (.inl (hG.hi t (List.mem_of_getElem? hj))) e⟩
  | succ k ih =>
    intro i h c acc ts hk hi g keep hS hacc hl hG
    have hlt : i < min xs.size ys.size := by omega
    have hsz : acc.size = i := by rw [← Array.length_toList, hacc, List.length_map, hl]
    have hSl : S < h.objs.size := Heap.lt_size hS
    refine codeAny_builtin PySem.F.entry_extend_loop ?_
    rw [Around.under_plainId PySem.F.plain_extend_loop _]
    show wpAny _ A.in1 (pyNext (.ref z) >>= _) _ _ _
    refine wpAny_bind (next_item (s := { s with heap := h }) (S := S) D g hSl hlt fun h' g' hp hz' he => ?_)
    dsimp only at hp hz' he ⊢
    have he2 : ∀ b u, S < b ∨ b = S → h.get? b = some u → h'.get? b = some u := fun b u hb e => he b u (past hb hlow.1) (past hb hlow.2.1) (past hb hlow.2.2.1) (past hb hlow.2.2.2) e
    have hS' := he2 S _ (.inr rfl) hS
    have up : ∀ b u, b ≠ S → h'.get? b = some u → (h'.update S (Obj.mapSeq (·.push (Value.ref h.objs.size)))).get? b = some u := fun b u hb e => (Heap.get?_update_other _ _ (Ne.symm hb)).trans e
    show wpAny _ A.in1 (updateSeq S (·.push (Value.ref h.objs.size)) >>= _) _ _ _
    refine wpAny_bind ?_
    refine wpAny_updateSeq hS' rfl (wpAny_pure ⟨plainId_quiet PySem.F.plain_extend_loop _, ih (i + 1) _ _ (acc.push (Value.ref h.objs.size)) (ts ++ [h.objs.size]) (by omega) hlt (g'.stay o up)
      (fun b u n0 n1 n2 n3 n4 e => up b u n0 (he b u n1 n2 n3 n4 (keep b u n0 n1 n2 n3 n4 e))) (Heap.get?_update_self _ hS' rfl) (by rw [Array.toList_push, hacc, List.map_append]; rfl) (by rw [List.length_append, hl]; rfl) ⟨?_, ?_, ?_⟩⟩) (by rw [hsz]; omega) (by
        rw [Array.size_push, hsz]
        omega)
    · refine List.pairwise_append.mpr ⟨hG.up, List.pairwise_singleton _ _, fun a ha b hb => ?_⟩
      rw [List.mem_singleton.mp hb]
      exact hG.lt ha
    · intro t ht
      rcases List.mem_append.mp ht with ht | ht
      · exact hG.hi t ht
      · rw [List.mem_singleton.mp ht]; exact hSl
    · intro j b hj
      rcases Nat.lt_trichotomy j ts.length with h1 | h1 | h1
      · rw [List.getElem?_append_left h1] at hj
        obtain ⟨x, y, ex, ey, e⟩ := hG.at_ j b hj
        have hb := hG.hi b (List.mem_of_getElem? hj)
        exact ⟨x, y, ex, ey, up b _ (Nat.ne_of_gt hb) (he2 b _ (.inl hb) e)⟩
      · subst h1
        have hb : h.objs.size = b := by simpa using hj
        subst hb
        obtain ⟨x, y, ex, ey, e⟩ := hp
        rw [hl]
        exact ⟨x, y, ex, ey, up _ _ (Nat.ne_of_gt hSl) e⟩
      · have hnone : (ts ++ [h.objs.size])[j]? = none := List.getElem?_eq_none (by rw [List.length_append, List.length_singleton]; omega)
        rw [hnone] at hj; cases hj
end
section
variable {prog : Program} {w : World} {A : Around} {E : Value → Shared → Prop} {s : Shared} {z TI TO i1 i2 l1 l2 S : Addr} {xs ys : Array Value}
theorem no_len : typeLookup (.type "zip") "__len__" = pure none := am_miss_of_fast (by decide +kernel)
theorem no_hint : typeLookup (.type "zip") "__length_hint__" = pure none := am_miss_of_fast (by decide +kernel)
theorem hint {Q : Bool → Shared → Prop} (hT : s.TypeIs (.ref z) "zip") (h : Q true s) : wpAny (model prog w) A (Builtin.List.listLengthHint (.ref z)) Q E s := by
  unfold Builtin.List.listLengthHint
  refine wpAny_bind (wpAny_specialOf hT no_len ?_)
  simp only [Option.isSome_none, Bool.false_eq_true, if_false]
  show wpAny _ _ (specialOf _ _ >>= _) _ _ _
  refine wpAny_bind (wpAny_specialOf hT no_hint ?_)
  exact wpAny_pure h
theorem extend {R : Result → Shared → Prop} (hh : A.handled = none) (D : ZipApart z TI TO i1 i2 l1 l2) (o : OffS z TI TO i1 i2 l1 l2 S) (hlow : z < S ∧ TO < S ∧ i1 < S ∧ i2 < S) (hn : xs.size ≤ sizeLine) (res : Value) {c₀ : Nat}
    (hz : IsZip s.heap z TI TO .none) (g : Zs z TI TO i1 i2 l1 l2 xs ys S 0 s.heap) (hS : s.heap.get? S = some { cls := .type "list", data := .seq #[] c₀ })
    (hR : ∀ h' acc c ts, (∀ b u, b ≠ S → b ≠ z → b ≠ TO → b ≠ i1 → b ≠ i2 → s.heap.get? b = some u → h'.get? b = some u) → h'.get? S = some { cls := .type "list", dict := none, data := .seq acc c, slots := #[] } → ts.length = min xs.size ys.size → Made xs ys S h' ts →
      acc.toList = ts.map Value.ref → R (.ok (.ret res)) { s with heap := h' }) :
    wpAny (model prog w) A.in1 (Builtin.List.listExtendWith (.ref S) (.ref z) res)
      (fun fin s' => match fin with | .done f => R (.ok f) s' | .again c' => c'.quiet = true ∧ codeAny (model prog w) A c' R s') (fun e s' => R (.error e) s') s := by
  have hT : s.TypeIs (.ref z) "zip" := ⟨_, hz, rfl⟩
  have q1 : Builtin.List.listSameRef (.ref S) (.ref z) = false := by simp [Builtin.List.listSameRef, o.z]
  have q2 : (Value.type "zip" == Value.type "list") = false := by decide
  have q3 : (Value.type "zip" == Value.type "tuple") = false := by decide
  unfold Builtin.List.listExtendWith
  refine wpAny_bind (wpAny_typeOf (T := "zip") hT ?_)
  simp only [q1, q2, q3, Bool.or_false, Bool.false_eq_true, if_false]
  refine wpAny_bind (wpAny_pyIter_zip hz ?_)
  refine wpAny_bind (wpAny_holding (hint hT ?_))
  simp only [Bool.true_or, if_true]
  refine wpAny_bind (wpAny_rule ?_)
  refine wpAny_bind ?_
  show wpAny _ _ (updateSeq S (·.push .none) >>= fun _ => updateSeq S (·.pop)) _ _ _
  refine wpAny_bind (wpAny_updateSeq hS rfl ?_)
  have hS₂ := Heap.get?_update_self (Obj.mapSeq (·.push Value.none)) hS rfl
  refine wpAny_updateSeq (hz := by seq_fits) hS₂ rfl ?_
  have hS₃ := Heap.get?_update_self (Obj.mapSeq (·.pop)) hS₂ rfl
  have kp : ∀ b u, b ≠ S → s.heap.get? b = some u → ((s.heap.update S (Obj.mapSeq (·.push Value.none))).update S (Obj.mapSeq (·.pop))).get? b = some u := fun b u hb e => (Heap.get?_update_other _ _ (Ne.symm hb)).trans ((Heap.get?_update_other _ _ (Ne.symm hb)).trans e)
  refine wpAny_pure ⟨plainId_quiet PySem.F.plain_extend_loop _, ?_⟩
  exact drain (s := s) (h₁ := s.heap) hh D o hlow hn res hR _ 0 _ _ #[] [] rfl (Nat.zero_le _) (g.stay o kp) (fun b u n0 _ _ _ _ e => kp b u n0 e) hS₃ rfl rfl ⟨.nil, (fun _ h => nomatch h), (fun j t hj => by simp at hj)⟩
theorem list_call {Q : Value → Shared → Prop} (hh : A.handled = none) (D : ZipApart z TI TO i1 i2 l1 l2) (hn : xs.size ≤ sizeLine)
    (hz : IsZip s.heap z TI TO .none) (ti : IsPair s.heap TI (.ref i1) (.ref i2)) (to : ∃ a b, IsPair s.heap TO a b) (a1 : s.heap.IsListIter i1 l1 0) (a2 : s.heap.IsListIter i2 l2 0) (b1 : s.heap.IsList l1 xs) (b2 : s.heap.IsList l2 ys)
    (hQ : ∀ h' acc c ts, (∀ b u, b ≠ z → b ≠ TO → b ≠ i1 → b ≠ i2 → s.heap.get? b = some u → h'.get? b = some u) → h'.get? s.heap.objs.size = some { cls := .type "list", dict := none, data := .seq acc c, slots := #[] } → ts.length = min xs.size ys.size → Made xs ys s.heap.objs.size h' ts →
      acc.toList = ts.map Value.ref → Q (.ref s.heap.objs.size) { s with heap := h' }) :
    wpAny (model prog w) A (call (.type "list") [.ref z]) Q E s := by
  have lt : ∀ {c u}, s.heap.get? c = some u → c < s.heap.objs.size := fun e => Heap.lt_size e
  obtain ⟨ta, tb, hTO⟩ := to
  have j1 : i1 < s.heap.objs.size := let ⟨_, e, _⟩ := a1; lt e
  have j2 : i2 < s.heap.objs.size := let ⟨_, e, _⟩ := a2; lt e
  have o : OffS z TI TO i1 i2 l1 l2 s.heap.objs.size :=
    ⟨Nat.ne_of_gt (lt hz), Nat.ne_of_gt (lt ti), Nat.ne_of_gt (lt hTO), Nat.ne_of_gt j1, Nat.ne_of_gt j2, let ⟨_, e, _⟩ := b1; Nat.ne_of_gt (lt e), let ⟨_, e, _⟩ := b2; Nat.ne_of_gt (lt e)⟩
  refine callType_codes (Q₁ := fun obj s₁ => obj = .ref s.heap.objs.size ∧ s₁ = { s with heap := s.heap.push { cls := .type "list", data := .seq #[] } }) PySem.F.called_list (PySem.F.typeCall_list_1 _) PySem.F.entry_list_init
    (code_list_new _ ⟨rfl, rfl⟩) fun obj s₁ h₁ => ?_
  obtain ⟨rfl, rfl⟩ := h₁
  have hS : (s.heap.push { cls := .type "list", data := .seq #[] }).get? s.heap.objs.size = some { cls := .type "list", data := .seq #[] } := Heap.get?_push_size _ rfl
  have g0 : Zs z TI TO i1 i2 l1 l2 xs ys s.heap.objs.size 0 s.heap := ⟨ti, a1, a2, b1, b2, .inl ⟨hz, ta, tb, hTO⟩⟩
  refine ⟨⟨_, hS, rfl⟩, PySem.F.args_list_init_2 _ _, ?_⟩
  show wpAny _ _ (do let old ← Builtin.List.listItems (.ref s.heap.objs.size); Builtin.List.listUpdate (.ref s.heap.objs.size) (fun _ => #[]); letGo old.toList.reverse; Builtin.List.listExtendWith (.ref s.heap.objs.size) (.ref z) .none) _ _ _
  refine wpAny_bind ?_
  unfold Builtin.List.listItems
  refine wpAny_bind (wpAny_seqItems hS rfl (wpAny_pure ?_))
  show wpAny _ _ (updateSeq s.heap.objs.size (fun _ => #[]) >>= fun _ => letGo (#[] : Array Value).toList.reverse >>= fun _ => Builtin.List.listExtendWith (.ref s.heap.objs.size) (.ref z) .none) _ _ _
  refine wpAny_bind (wpAny_updateSeq hS rfl ?_)
  have hS₂ := Heap.get?_update_self (Obj.mapSeq (fun _ => (#[] : Array Value))) hS rfl
  have kp : ∀ b u, b ≠ s.heap.objs.size → s.heap.get? b = some u → ((s.heap.push { cls := .type "list", data := .seq #[] }).update s.heap.objs.size (Obj.mapSeq (fun _ => (#[] : Array Value)))).get? b = some u :=
    fun b u hb e => (Heap.get?_update_other _ _ (Ne.symm hb)).trans (Heap.get?_push_of_some _ e)
  refine wpAny_bind (wpAny_letGo ?_)
  refine extend (xs := xs) (ys := ys) (A := A.in1) hh D o ⟨lt hz, lt hTO, j1, j2⟩ hn .none (kp _ _ o.z.symm hz) (g0.stay o kp) hS₂ fun h' acc c ts hk hS' hl hG hacc => ?_
  exact ⟨rfl, hQ h' acc c ts (fun b u n1 n2 n3 n4 e => hk b u (Nat.ne_of_lt (lt e)) n1 n2 n3 n4 (kp b u (Nat.ne_of_lt (lt e)) e)) hS' hl hG hacc⟩
end
end DLZ
namespace DLZ
open PySem PySem.Spec PyProof.Rows L2
/-- the pairs tracked -/
def mk2 : Hp → List Addr → List (V × V) → Hp
  | H, t :: ts, p :: ps => mk2 (upd H t (.tup [p.1, p.2])) ts ps
  | H, _, _ => H
theorem mk2_off {b : Addr} : ∀ (ts : List Addr) (ps : List (V × V)) (H : Hp), b ∉ ts → mk2 H ts ps b = H b
  | [], _, _, _ => rfl
  | _ :: _, [], _, _ => rfl
  | t :: ts, p :: ps, H, h => by
    have n1 : b ≠ t := fun e => h (by rw [e]; exact List.mem_cons_self)
    have n2 : b ∉ ts := fun e => h (List.mem_cons_of_mem _ e)
    rw [mk2, mk2_off ts ps _ n2, upd_ne n1]
theorem mk2_at : ∀ (ts : List Addr) (ps : List (V × V)) (H : Hp) (j : Nat) (t : Addr) (p : V × V), ts.Nodup → ts[j]? = some t → ps[j]? = some p → mk2 H ts ps t = some (.tup [p.1, p.2])
  | [], _, _, _, _, _, _, h, _ => by cases h
  | _ :: _, [], _, _, _, _, _, _, h => by cases h
  | a :: ts, q :: ps, H, 0, t, p, nd, h1, h2 => by
    cases h1
    cases h2
    rw [mk2, mk2_off ts ps _ (List.nodup_cons.mp nd).1, upd_same]
  | a :: ts, q :: ps, H, j + 1, t, p, nd, h1, h2 => mk2_at ts ps _ j t p (List.nodup_cons.mp nd).2 h1 h2
theorem vals_ref : ∀ ts : List Addr, Vals (ts.map V.ref) (ts.map Value.ref)
  | [] => .nil
  | _ :: ts => .cons rfl (vals_ref ts)
theorem vals_at {xs : List V} {us : List Value} {i : Nat} {u : Value} (r : Vals xs us) (h : us[i]? = some u) : ∃ x, xs[i]? = some x ∧ RelV x u := by
  have hi : i < us.length := (List.getElem?_eq_some_iff.mp h).1
  have hx : xs[i]? = some (xs[i]'(by rw [r.length]; exact hi)) := List.getElem?_eq_getElem _
  obtain ⟨u', e, q⟩ := r.get hx
  rw [h] at e
  cases e
  exact ⟨_, hx, q⟩
section
variable {X : Cx}
theorem laid {pins : List (Addr × Obj)} {σ : L2.St} {H : Hp} {s : Shared} {h' : Heap} {p : Addr} {xs ys : List V} {us ws : List Value} {acc : Array Value} {c : Nat} {ts : List Addr} (I : Inv X pins σ H s) (hz : ts.length ≤ sizeLine) (rx : Vals xs us) (ry : Vals ys ws) (hp : s.heap.objs.size ≤ p)
    (hk : ∀ b u, s.heap.get? b = some u → h'.get? b = some u) (hS : h'.get? p = some { cls := .type "list", dict := none, data := .seq acc c, slots := #[] }) (hG : Made us.toArray ws.toArray p h' ts) (hacc : acc.toList = ts.map Value.ref) :
    H p = none ∧ (∀ t ∈ ts, H t = none) ∧ p ∉ ts ∧ ts.Nodup ∧ Inv X pins σ (upd (mk2 H ts (xs.zip ys)) p (.lst (ts.map V.ref))) { s with heap := h' } := by
  have pn : p ∉ ts := fun z => Nat.lt_irrefl _ (hG.hi _ z)
  have nd : ts.Nodup := List.Pairwise.imp (fun {a b} (h : a < b) => Nat.ne_of_lt h) hG.up
  have nw : ∀ t ∈ ts, H t = none := fun t ht => I.hok.fresh (Nat.le_trans hp (Nat.le_of_lt (hG.hi t ht)))
  have np : H p = none := I.hok.fresh hp
  have off : ∀ b, b ∉ ts → b ≠ p → upd (mk2 H ts (xs.zip ys)) p (.lst (ts.map V.ref)) b = H b := fun b h1 h2 => by rw [upd_ne h2, mk2_off ts _ _ h1]
  have kp : ∀ b u, H b = some u → upd (mk2 H ts (xs.zip ys)) p (.lst (ts.map V.ref)) b = some u := fun b u e => by
    rw [off b (fun z => by rw [nw b z] at e; cases e) (fun z => by rw [z, np] at e; cases e)]
    exact e
  have low : ∀ b u, s.heap.get? b = some u → b ∉ ts ∧ b ≠ p := fun b u e => by
    have hb : b < p := Nat.lt_of_lt_of_le (Heap.lt_size e) hp
    exact ⟨fun z => Nat.lt_asymm hb (hG.hi b z), Nat.ne_of_lt hb⟩
  refine ⟨np, nw, pn, nd, I.call' (ch := []) rfl ⟨fun b u q _ _ _ => hk b u q, fun b u q _ _ _ => ⟨u.slots, hk b u q⟩, fun b u q n _ => ?_, fun b u q _ => ⟨u, hk b u q⟩, fun b l q => kp b _ q, fun b u v q => kp b _ q, fun b l q => ⟨#[], by rw [kp b _ q]; simp⟩⟩ (fun b u q => ?_) I.bare fun b z => by simp at z⟩
  · obtain ⟨n1, n2⟩ := low b u q
    rw [off b n1 n2]
    exact n
  · by_cases hb2 : b = p
    · subst hb2
      rw [upd_same] at q
      cases q
      refine ⟨by rw [List.length_map]; exact hz, acc.toList, c, by rw [hacc]; exact vals_ref ts, ?_⟩
      rw [Array.toArray_toList]
      exact hS
    · by_cases hb : b ∈ ts
      · obtain ⟨j, hj⟩ := List.mem_iff_getElem?.mp hb
        obtain ⟨x', y', ex, ey, ep⟩ := hG.at_ j b hj
        obtain ⟨x, hx, r1⟩ := vals_at rx (by simpa using ex)
        obtain ⟨y, hy, r2⟩ := vals_at ry (by simpa using ey)
        have hzp : (xs.zip ys)[j]? = some (x, y) := by rw [List.getElem?_zip_eq_some]; exact ⟨hx, hy⟩
        rw [upd_ne hb2, mk2_at ts _ H j b (x, y) nd hj hzp] at q
        cases q
        exact ⟨by show 2 ≤ sizeLine; decide, [x', y'], .cons r1 (.cons r2 .nil), ⟨_, ep, rfl, _, rfl⟩⟩
      · rw [off b hb hb2] at q
        exact (I.hok b u q).stay (fun d v _ y => hk d v y) (fun d y => kp d _ y) fun d l y => kp d _ y
def tListZip (K : PySem.W.Frag) (ta : TA) : TE := fun σ H Q => ta σ H fun vs H1 => ∃ a b xs ys, vs = [.ref a, .ref b] ∧ SqL K H1 a xs ∧ SqL K H1 b ys ∧
  ∀ (p : Addr) (ts : List Addr), H1 p = none → (∀ t ∈ ts, H1 t = none) → p ∉ ts → ts.Nodup → ts.length = min xs.length ys.length → Q (.ref p) (upd (mk2 H1 ts (xs.zip ys)) p (.lst (ts.map V.ref)))
theorem pe_listZip {e e2 : Expr} {ta : TA} {p p2 pos pos2 : Pos} (hc : X.calm = true) (hg : Gl X "list") (hm : X.mg "list" = none) (hg2 : Gl X "zip") (hm2 : X.mg "zip" = none) (ha : PA X [e, e2] ta)
    (hs : starEach [e, e2] X.env = (false, eval e X.env) :: starEach [e2] X.env := by rfl) (hpl : (backTo pos2 (starEach [e2] X.env)).any (·.1) = false := by rfl)
    (hs2 : starEach [.Call (.Name "zip" p2) [e, e2] [] pos2] X.env = (false, eval (.Call (.Name "zip" p2) [e, e2] [] pos2) X.env) :: starEach [] X.env := by rfl) :
    PE X (.Call (.Name "list" p) [.Call (.Name "zip" p2) [e, e2] [] pos2] [] pos) (tListZip X.K ta) := by
  refine ⟨fun pins s σ H Q I h => ?_⟩
  refine Call_ (ld_blt I hg hm boot_list (PyProof.Rows.callWith_type1 (args_cons ?_ hs2) hs2))
  refine Call_ (ld_blt I hg2 hm2 PyProof.Rows.boot_zip (PyProof.Rows.callWith_type1 (thn (ha.run pos2 pins s σ H _ I h) fun us s1 ⟨vs, H1, I1, r1, q1⟩ => ?_) hs hpl))
  obtain ⟨a, b, xs, ys, ex, hqx, hqy, q⟩ := q1
  subst ex
  cases r1 with
  | cons r rr =>
    cases rr with
    | cons r' rr =>
      cases rr
      cases r
      cases r'
      obtain ⟨us, rv, p1, hz1⟩ := I1.list hqx
      obtain ⟨ws, rv2, p2, hz2⟩ := I1.list hqy
      refine call_zip_2 p1.isList p2.isList fun h' hz hTI hTO a1 a2 hsz hk => ?_
      refine args_nil ?_
      refine list_call (s := { s1 with heap := h' }) (I1.ok.hd hc) (PySem.W.ktu_apart s1.heap.objs.size a b p1.lt p2.lt) ?_ hz hTI ⟨_, _, hTO⟩ a1 a2 (p1.isList.at fun o e => hk _ o e) (p2.isList.at fun o e => hk _ o e) fun h2 acc c ts hk2 hS hl hG hacc => ?_
      · show us.length ≤ sizeLine
        rw [← rv.length]
        exact hz1
      · have far : ∀ c u, s1.heap.get? c = some u → h2.get? c = some u := fun c u e => by
          have hc' : c < s1.heap.objs.size := Heap.lt_size e
          exact hk2 c u (Nat.ne_of_lt (Nat.lt_of_lt_of_le hc' (Nat.le_add_right _ _))) (Nat.ne_of_lt (Nat.lt_of_lt_of_le hc' (Nat.le_add_right _ _))) (Nat.ne_of_lt hc') (Nat.ne_of_lt (Nat.lt_of_lt_of_le hc' (Nat.le_add_right _ _))) (hk c u e)
        have hl2 : ts.length = min xs.length ys.length := by rw [hl, rv.length, rv2.length]; rfl
        obtain ⟨n1, n2, n3, n4, J⟩ := laid I1 (by rw [hl2]; exact Nat.le_trans (Nat.min_le_left _ _) hz1) rv rv2 (p := h'.objs.size) (by rw [hsz]; exact Nat.le_add_right _ _) far hS hG hacc
        exact ⟨.ref _, _, J, rfl, q _ ts n1 n2 n3 n4 hl2⟩
end
end DLZ
end
section
namespace DL
open PySem PyProof.Rows PySem.Spec L2
section
variable {K : PySem.W.Frag} {mg : Str → Option Value} {ta : TA} {fa : DA}
theorem mk2_ok {S : Sto} : ∀ (ts : List Addr) (xs ys : List DV) (xv yv : List V) (W : Wd), Rep K mg W S → ts.Nodup → (∀ t ∈ ts, W.H t = none) → Dens K W xs xv → Dens K W ys yv → ts.length = min xs.length ys.length →
    ∃ W', W'.H = DLZ.mk2 W.H ts (xv.zip yv) ∧ Ext W W' ∧ Rep K mg W' S ∧ Dens K W' (List.zipWith (fun x y => DV.tup [x, y]) xs ys) (ts.map V.ref)
  | [], xs, ys, xv, yv, W, R, _, _, hx, hy, hl => by
    refine ⟨W, rfl, Ext.refl W, R, ?_⟩
    have : List.zipWith (fun x y => DV.tup [x, y]) xs ys = [] := List.length_eq_zero_iff.mp (by rw [List.length_zipWith, ← hl]; rfl)
    rw [this]
    rfl
  | t :: ts, [], ys, xv, yv, W, R, _, _, hx, hy, hl => by simp at hl
  | t :: ts, x :: xs, [], xv, yv, W, R, _, _, hx, hy, hl => by simp at hl
  | t :: ts, x :: xs, y :: ys, xv, yv, W, R, nd, hf, hx, hy, hl => by
    obtain ⟨v, xr, rfl, dx, hx⟩ := hx
    obtain ⟨u, yr, rfl, dy, hy⟩ := hy
    obtain ⟨W1, e1, x1, R1, d1⟩ := newT_ok R (hf t (List.mem_cons_self)) (show Dens K W [x, y] [v, u] from ⟨v, [u], rfl, dx, u, [], rfl, dy, rfl⟩)
    have nd' := List.nodup_cons.mp nd
    obtain ⟨W2, e2, x2, R2, d2⟩ := mk2_ok ts xs ys xr yr W1 R1 nd'.2 (fun b hb => by
      rw [e1, upd_ne (fun z => nd'.1 (by rw [← z]; exact hb))]
      exact hf b (List.mem_cons_of_mem _ hb)) (Dens.ext x1 _ _ hx) (Dens.ext x1 _ _ hy) (by simp at hl; omega)
    refine ⟨W2, by rw [e2, e1]; rfl, x1.trans x2, R2, ?_⟩
    exact ⟨_, _, rfl, Den.ext x2 _ _ d1, d2⟩
noncomputable def dLz (m : Bool) (f : DA) : DE := fun s S => bnd (f s S) fun ds S1 => match ds with
  | [x, y] => match rdL S1 x, rdL S1 y with
    | some xs, some ys => some (newL m (List.zipWith (fun x y => DV.tup [x, y]) xs ys) S1)
    | _, _ => none
  | _ => none
theorem re_lz {m : Bool} (h : RA K mg ta fa) : RE K mg (DLZ.tListZip K ta) (dLz m fa) := by
  intro W σ s S d S' Q R L e q
  obtain ⟨ds, S1, e1, e⟩ := bnd_inv e
  split at e
  · rename_i x y
    split at e
    · rename_i xs ys hx hy
      refine h W σ s S _ S1 _ R L e1 fun vs W1 x1 R1 d1 => ?_
      obtain ⟨v, u, rfl, dv, du⟩ := dens2 d1
      obtain ⟨a, xv, rfl, sx, dx⟩ := rdL_ok R1 dv hx
      obtain ⟨b, yv, rfl, sy, dy⟩ := rdL_ok R1 du hy
      refine ⟨a, b, xv, yv, rfl, sx, sy, fun p ts hp ht hn nd hl => ?_⟩
      obtain ⟨W2, e2, x2, R2, d2⟩ := mk2_ok ts xs ys xv yv W1 R1 nd ht dx dy (by rw [hl, dx.len, dy.len])
      obtain ⟨W3, e3, x3, R3, d3⟩ := newL_ok R2 (by rw [e2, DLZ.mk2_off _ _ _ hn]; exact hp) d2 (Option.some.inj e)
      rw [← e2, ← e3]
      exact q _ W3 (x1.trans (x2.trans x3)) R3 d3
    · cases e
  · cases e
end
end DL
end
section
namespace DL
open PySem PyProof.Rows PySem.Spec L2
/-! ### in a range -/
def rRg2 : List V → Hp → VK → Prop := fun vs H Q => ∃ i j, vs = [V.int i, V.int j] ∧ ∀ p, H p = none → Q (.ref p) (upd H p (.rng i j))
def rInRg (neg : Bool) : R2 := fun x y H Q => ∃ i a lo hi, x = V.int i ∧ y = V.ref a ∧ H a = some (.rng lo hi) ∧ Q (.bl (if neg then !decide (lo ≤ i ∧ i < hi) else decide (lo ≤ i ∧ i < hi))) H
section
variable {X : Cx}
theorem cr_rg2 : CallR X (.type "range") rRg2 := cr_range2
theorem op_inRg : OpR X (compareOp .In) (rInRg false) := op_in_rng
theorem op_notInRg : OpR X (compareOp .NotIn) (rInRg true) := by
  intro pins s σ H x y v u Q I rx ry h
  obtain ⟨i, a, lo, hi, rfl, rfl, ha, q⟩ := h
  obtain ⟨k, rfl⟩ := rx
  obtain rfl : u = Value.ref a := ry
  obtain ⟨t1, t2, t3, ho⟩ := I.hok a _ ha
  show wpAny _ _ (do return Value.bool (!(← contains (Value.ref a) (Value.int i k)))) _ _ s
  refine wpAny_bind (wpAny_contains_slot (T := "range") ⟨_, ho, rfl⟩ F.slot_range_contains (call_meets F.slot_range_contains ⟨_, ho, rfl⟩ F.entry_range_contains (F.args_range_contains_2 _ _) (q_contains a lo hi i t1 t2 t3 k)
    ⟨ho, wpAny_truthy_bool (wpAny_pure ⟨.bl _, H, I, rfl, ?_⟩)⟩))
  rw [place1]
  exact q
end
section
variable {K : PySem.W.Frag} {mg : Str → Option Value} {te : TE} {fe : DE} {ta : TA} {fa : DA}
@[simp] def dInRg (neg : Bool) (f : DE) (g : DA) : DE := fun s S => bnd (f s S) fun x S1 => bnd (g s S1) fun ds S2 => match x, ds with
  | .int i, [.int lo, .int hi] => some (.bl (if neg then !decide (lo ≤ i ∧ i < hi) else decide (lo ≤ i ∧ i < hi)), S2)
  | _, _ => none
theorem re_inRg {neg : Bool} (h : RE K mg te fe) (g : RA K mg ta fa) : RE K mg (tOp (rInRg neg) te (tCB rRg2 ta)) (dInRg neg fe fa) := by
  intro W σ s S d S' Q R L e q
  obtain ⟨x, S1, e1, e⟩ := bnd_inv e
  obtain ⟨ds, S2, e2, e⟩ := bnd_inv e
  split at e
  · rename_i i lo hi _
    cases e
    refine h W σ s S _ S1 _ R L e1 fun v W1 x1 R1 d1 => ?_
    refine g W1 σ s S1 _ _ _ R1 (L.ext x1) e2 fun vs W2 x2 R2 d2 => ?_
    obtain ⟨u, w, rfl, du, dw⟩ := dens2 d2
    cases (show u = V.int lo from du)
    cases (show w = V.int hi from dw)
    refine ⟨lo, hi, rfl, fun p hp => ?_⟩
    cases (show v = V.int i from d1)
    exact ⟨i, p, lo, hi, rfl, rfl, upd_same, q _ (W2.froz p (.rng lo hi)) ((x1.trans x2).trans (ext_froz hp)) (rep_froz R2 hp) rfl⟩
  · cases e
end
/-! ### defaults -/
section
variable {K : PySem.W.Frag} {mg : Str → Option Value}
abbrev FunB (K : PySem.W.Frag) (x qual : Str) (st : Stmt) (dvs : List V) (f : Addr) (fd : FuncData) : Prop := FunD K x qual (defArgs st) (defBody st) (defScope st) dvs [] f fd
theorem fn_dlD {P : Program} {w : World} {base : Heap} {x qual : Str} {st : Stmt} {dvs : List V} {f : Addr} {fd : FuncData} {N ps : List Str} {k n : Nat} {m : Option Bool} {body : DS} (F : FunB K x qual st dvs f fd) (S : FnScope N ps (defScope st)) (hps : ps.length = n)
    (hb : ∀ (cdv : Value) (A : Around) (outer : List Env) (s : Shared) (H : Hp) (E : XK), Room k (A.deeper (envOfC qual (defScope st) s.heap.objs.size f cdv)) →
      ∃ t, PSs (cxOf CX0 P w K mg base N qual (defScope st) f cdv A outer s H E).nox (defBody st) t ∧ RS K mg t body) :
    FnOk P w K mg base CX0 (k + 1) f fd ps (spF K mg n (fnF m N.length body)) := by
  refine FunD.ok F S (fun vs H Q E h => h.1.trans hps.symm) fun cdv A outer s H vs Q E hr h => ?_
  obtain ⟨t, ht, hR⟩ := hb cdv A outer s H E hr
  refine ⟨t, ht.nox, ?_⟩
  obtain ⟨_, W, S, ds, d, S', rfl, R, hd, hg, q⟩ := h
  unfold fnF at hg
  split at hg
  · rename_i s1 S1 e1
    refine hR W _ _ S _ _ R (slo_start hd) e1 fun σ1 W1 x1 R1 L1 => ?_
    obtain ⟨W2, h2, x2, R2, d2⟩ := exF_ok R x1 R1 (d := .non) (v := V.non) rfl hg
    rw [← h2]
    exact q _ W2 x2 R2 d2
  · rename_i d1 S1 e1
    refine hR W _ _ S _ _ R (slo_start hd) e1 fun v1 W1 x1 R1 d1 => ?_
    obtain ⟨W2, h2, x2, R2, d2⟩ := exF_ok R x1 R1 d1 hg
    rw [← h2]
    exact q _ W2 x2 R2 d2
  · cases hg
/-- keywords of a def with defaults, all parameters given -/
theorem kbindsD {x qual : Str} {st : Stmt} {dvs : List V} {f : Addr} {fd : FuncData} {ps ks : List Str} {n : Nat} {ixs : List Nat} (F : FunB K x qual st dvs f fd) (hd : dvs ≠ []) (hp : ps ≠ [])
    (h : ∀ (T : Addr) (kV doc pm : Value) (an : Option Addr) (cdv ct : Value) (us ws its : List Value), us.length = n → ws.length = ks.length → its.length = dvs.length →
      ∃ k, bindArgs (PySem.W.fnOf x qual (defArgs st) (defBody st) (defScope st) (.ref T) kV doc pm an cdv ct) ⟨us, ks.zip ws⟩ = seqItems? (.ref T) >>= k ∧ k (some its.toArray) = pure (ps.zip (pkF n ks.length ixs us ws))) :
    KBinds K fd ps ks (pkF n ks.length ixs) (pkF n ks.length ixs) := by
  obtain ⟨oc, od, dV, kV, doc, pm, an, cdv, ct, osl, rfl, lk, hcd, hD, hK⟩ := F.ex
  rcases hD with ⟨e, _⟩ | ⟨_, T, o, its, m, rfl, lT, oT, rT⟩
  · exact absurd e hd
  · refine ⟨fun s us ws X hl => ?_, vals_pk⟩
    by_cases hc : us.length = n ∧ ws.length = ks.length
    · obtain ⟨k, e1, e2⟩ := h T kV doc pm an cdv ct us ws its hc.1 hc.2 rT.length.symm
      refine BindsTo.of_looks fun M => ?_
      rw [e1]
      exact looks_items X lT oT (.of_pure e2)
    · unfold pkF at hl
      rw [if_neg hc] at hl
      cases ps with
      | nil => exact absurd rfl hp
      | cons p ps => cases hl
theorem funB_mk {x qual : Str} {st : Stmt} {dvs : List V} {f T : Addr} {oc : Value} {od an : Option Addr} {osl : Array (Option Value)} {kV doc pm cdv ct : Value} {o : Obj} {its : List Value} {n : Nat} (hd : dvs ≠ []) (l : K.lookup f = some ⟨oc, od, .func (PySem.W.fnOf x qual (defArgs st) (defBody st) (defScope st) (.ref T) kV doc pm an cdv ct), osl⟩)
    (c : PySem.W.codeIn K cdv qual = true) (k : PySem.W.keepIn K (.ref f) = true) (lT : K.lookup T = some o) (oT : o.data = .seq its.toArray n) (rT : Vals dvs its) : FunB K x qual st dvs f (PySem.W.fnOf x qual (defArgs st) (defBody st) (defScope st) (.ref T) kV doc pm an cdv ct) :=
  ⟨⟨oc, od, .ref T, kV, doc, pm, an, cdv, ct, osl, rfl, l, c, .inr ⟨hd, T, o, its, n, rfl, lT, oT, rT⟩, .inl rfl⟩, k⟩
end
end DL
end
section
/-! enumerate and sorted of tuples -/
namespace PySem
open Sem (wp)
open AutoSeq1 (wpAny_loadPart')
theorem dlt_new (a : Addr) (ws : Array Value) (m : Nat) (dd : Option Addr) (ss : Array (Option Value)) :
    Meets (Builtin.«enumerate.__new__» ⟨[.type "enumerate", .ref a], []⟩) (fun _ R s => s.heap.get? a = some { cls := .type "tuple", dict := dd, data := .seq ws m, slots := ss } ∧
      R (.ok (.ret (.ref (s.heap.push { cls := .type "tuple_iterator", data := .fields #[.ref a, .int 0 0] }).objs.size)))
        { s with heap := (s.heap.push { cls := .type "tuple_iterator", data := .fields #[.ref a, .int 0 0] }).push { cls := .type "enumerate", data := .fields #[.none, .bool false, .ref s.heap.objs.size, rawInt 0, .none, .none] } }) :=
  .of_wp fun prog w A R s h => by
    obtain ⟨h0, g0, d0, k0, o0⟩ := s; obtain ⟨ha, h⟩ := h
    have hsub := sub_enumerate
    have ht : Heap.IsTuple (Shared.heap ⟨h0, g0, d0, k0, o0⟩) a ws := ⟨_, ha, rfl, m, rfl⟩
    wp_walk using wpAny_loadPart' ha
    refine wpAny_stack_any fun st => wpAny_pure ?_
    split
    · rename_i c _ _ _ _ _
      cases (c == Value.type "enumerate")
      · wp_walk using wpAny_loadPart' ha, wpAny_pyIter_tuple ht
        exact ⟨_, rfl, h⟩
      · wp_walk using wpAny_loadPart' ha, wpAny_pyIter_tuple ht
        exact ⟨_, rfl, h⟩
    · wp_walk using wpAny_loadPart' ha, wpAny_pyIter_tuple ht
      exact ⟨_, rfl, h⟩
section
variable {prog : Program} {w : World} {A : Around} {E : Value → Shared → Prop} {s : Shared}
theorem dlt_call {a : Addr} {ws : Array Value} {Q : Value → Shared → Prop} (ht : s.heap.IsTuple a ws)
    (q : ∀ h', IsEnum h' (s.heap.objs.size + 1) s.heap.objs.size 0 .none → h'.IsTupleIter s.heap.objs.size a 0 → h'.objs.size = s.heap.objs.size + 2 →
      (∀ b u, s.heap.get? b = some u → h'.get? b = some u) → Q (.ref (s.heap.objs.size + 1)) { s with heap := h' }) :
    wpAny (model prog w) A (call (.type "enumerate") [.ref a]) Q E s := by
  obtain ⟨⟨c, dd, dt, ss⟩, ha, hc, m, hd⟩ := ht
  replace hc : c = .type "tuple" := hc
  replace hd : dt = .seq ws m := hd
  subst hc hd
  refine callType_new F.called_enumerate (by decide) (F.typeCall_enumerate_1 _) (F.newCall_enumerate_1 _) (fun z => F.args_object_init_2 z _) F.entry_enumerate_new
    (dlt_new a ws m dd ss) ⟨ha, ?_⟩
  have hz : (s.heap.push { cls := .type "tuple_iterator", data := .fields #[.ref a, .int 0 0] }).objs.size = s.heap.objs.size + 1 := Heap.size_push ..
  show _ ∧ _
  rw [hz]
  have he : IsEnum ((s.heap.push { cls := .type "tuple_iterator", data := .fields #[.ref a, .int 0 0] }).push
      { cls := .type "enumerate", data := .fields #[.none, .bool false, .ref s.heap.objs.size, rawInt 0, .none, .none] }) (s.heap.objs.size + 1) s.heap.objs.size 0 .none := by
    have := Heap.get?_push_size (s.heap.push { cls := .type "tuple_iterator", data := .fields #[.ref a, .int 0 0] })
      (o := { cls := .type "enumerate", data := .fields #[.none, .bool false, .ref s.heap.objs.size, rawInt 0, .none, .none] }) rfl
    rw [hz] at this; exact this
  exact ⟨⟨_, he, rfl⟩, q _ he ⟨_, Heap.get?_push_of_some _ (Heap.get?_push_size _ rfl), rfl, rfl⟩ (by rw [Heap.size_push, hz]) fun b u x => Heap.get?_push_of_some _ (Heap.get?_push_of_some _ x)⟩
theorem dlt_end {e it a : Addr} {i : Nat} {ws : Array Value} {old : Value} {Q : Option Value → Shared → Prop} (hh : A.handled = none)
    (he : IsEnum s.heap e it i old) (hi : s.heap.IsTupleIter it a i) (ht : s.heap.IsTuple a ws) (hx : ws[i]? = none)
    (q : ∀ h', Heap.ExtBut it s.heap h' → Q none { s with heap := h' }) : wpAny (model prog w) A (pyNext (.ref e)) Q E s := by
  have hT : s.TypeIs (.ref e) "enumerate" := ⟨_, he, rfl⟩
  unfold pyNext
  refine wpAny_bind (wpAny_attempt (wpAny_callSpecial?_slot (name := Str.ofString "__next__") hT F.slot_enumerate_next
    (wpAny_call_entry F.slot_enumerate_next hT F.entry_enumerate_next ?_ (F.args_enumerate_next_1 _))))
  show wpAny _ _ (field (.ref e) 2 >>= _) _ _ _
  refine wpAny_bind (wpAny_field he rfl (x := .ref it) rfl ?_)
  refine wpAny_bind (RZ.nextOf_tuple_end hh hi ht hx fun h' x k1 k2 => ?_)
  obtain ⟨u, hu, hc⟩ := k2
  exact wpAny_bind (wpAny_isInstance (T := "StopIteration") (b := true) ⟨u, hu, hc⟩ isSubtype_stop (wpAny_pure (q _ k1)))
end
end PySem
namespace DL
open PySem PyProof.Rows PySem.Spec L2
theorem turn_enumE {P : Program} {w : World} {K : PySem.W.Frag} {elts : List Expr} {kk : Nat} {tpos : Pos} (a e it : Addr) :
    Turn P w K (.Tuple elts kk tpos) (IteE K a) [e, it] e (fun i h => (∃ old, IsEnum h e it ((i : Nat) : Int) old) ∧ h.IsTupleIter it a i ∧ e ≠ it) where
  mem := by simp
  obj := fun i h st b hb => by
    obtain ⟨⟨old, he⟩, ⟨o, ho, hc, hd⟩, _⟩ := st
    have hb' : b = e ∨ b = it := by simpa using hb
    rcases hb' with z | z
    · rw [z]; exact ⟨_, he, fun v q => nomatch q⟩
    · rw [z]; exact ⟨o, ho, fun v q => by rw [hd] at q; cases q⟩
  keep := fun i h h' st k => by
    obtain ⟨⟨old, he⟩, hi, hne⟩ := st
    exact ⟨⟨old, k e (by simp) _ he⟩, hi.at fun o q => k it (by simp) o q, hne⟩
  item := by
    intro X hP hw hK hc i pins s σ H E I hf st hg
    exact absurd hg id
  done := by
    intro X hP hw hK hc i pins s σ H E I hf st hg
    subst hP hw hK
    obtain ⟨⟨old, he⟩, hi, hne⟩ := st
    obtain ⟨its, rv, p, hz⟩ := I.tuple hg
    obtain ⟨f0, f1, f2, f3, f4, f5⟩ := hf it (by simp)
    have hl := rv.length
    exact dlt_end (I.ok.hd hc) he hi p (by simp at hl ⊢; omega) fun h' eb => ⟨rfl, I.turned (t' := s.toks) (fun b o hb q => eb b o hb q) f0 f1 f3 f4 f5⟩
  self := fun A i s Q E st h => let ⟨⟨_, he⟩, _⟩ := st; wpAny_pyIter_enum he h
theorem pi_enumB {X : Cx} {e : Expr} {ta : TA} {p pos tpos : Pos} {elts : List Expr} {kk : Nat} (hg : Gl X "enumerate") (hm : X.mg "enumerate" = none) (ha : PA X [e] ta) (hs : starEach [e] X.env = [(false, eval e X.env)] := by rfl) :
    PI X (.Tuple elts kk tpos) (.Call (.Name "enumerate" p) [e] [] pos) (iEnumB X.K ta) := by
  refine ⟨fun pins s σ H R I h => ?_⟩
  refine Call_ (ld_blt I hg hm boot_enumerate (PyProof.Rows.callWith_type1 (thn (ha.run pos pins s σ H _ I h) fun us s1 ⟨vs, H1, I1, r1, q1⟩ => ?_) hs rfl))
  obtain ⟨a, ex, q⟩ := q1
  subst ex
  have far : ∀ b, b ∈ [s1.heap.objs.size + 1, s1.heap.objs.size] → s1.heap.objs.size ≤ b := fun b hb => by
    have hb' : b = s1.heap.objs.size + 1 ∨ b = s1.heap.objs.size := by simpa using hb
    rcases hb' with z | z
    · rw [z]; exact Nat.le_add_right _ _
    · rw [z]; exact Nat.le_refl _
  cases r1 with
  | cons r rr =>
    cases rr
    cases r
    rcases q with ⟨xs, hq, q⟩ | ⟨hq, q⟩
    · obtain ⟨its, rv, p', hz⟩ := I1.list hq
      refine call_enumerate_list p'.isList fun h' he hit hsz hk => wpAny_pyIter_enum he ?_
      have I2 : Inv X pins σ H1 { s1 with heap := h' } := I1.kept (t' := s1.toks) hk
      exact ⟨s1.heap.objs.size + 1, [s1.heap.objs.size + 1, s1.heap.objs.size], _, _, H1, rfl, I2, turn_enum a (s1.heap.objs.size + 1) s1.heap.objs.size, ⟨⟨.none, he⟩, hit, Nat.succ_ne_self _⟩, fun b hb => I1.fpOk (far b hb) (I1.hok.fresh (far b hb)), q⟩
    · obtain ⟨its, rv, p', hz⟩ := I1.tuple hq
      refine dlt_call p' fun h' he hit hsz hk => wpAny_pyIter_enum he ?_
      have I2 : Inv X pins σ H1 { s1 with heap := h' } := I1.kept (t' := s1.toks) hk
      exact ⟨s1.heap.objs.size + 1, [s1.heap.objs.size + 1, s1.heap.objs.size], _, _, H1, rfl, I2, turn_enumE a (s1.heap.objs.size + 1) s1.heap.objs.size, ⟨⟨.none, he⟩, hit, Nat.succ_ne_self _⟩, fun b hb => I1.fpOk (far b hb) (I1.hok.fresh (far b hb)), q⟩
end DL
end
section
namespace SrtO
open PySem PyProof.Rows Srt PySem.W
section
variable {prog : Program} {w : World} {A : Around} {E : Value → Shared → Prop} {s : Shared}
theorem gather_tup {t : Addr} {ws : List Value} {Q : List Value → Shared → Prop} (ht : s.heap.IsTuple t ws.toArray)
    (q : Q ws { s with heap := (s.heap.push (seqObj "list" #[] 0)).update s.heap.objs.size (Obj.mapSeq (· ++ ws.toArray)) }) (hz : ws.length ≤ sizeLine) : wpAny (model prog w) A (collect (.ref t)) Q E s := by
  obtain ⟨u, hu, hc, n, hd⟩ := id ht
  unfold collect
  refine wpAny_bind (wpAny_runValue (codeAny_builtin entry_proto_collect' ?_))
  show wpAny _ _ (do again (.builtin "list.__iadd__" ⟨[← newList [], .ref t], []⟩)) _ _ s
  refine wpAny_bind (wpAny_newList (wpAny_pure ⟨Code.quiet_builtin _ (by decide +kernel), codeAny_builtin entry_list_iadd' ?_⟩))
  show wpAny _ _ (Builtin.List.listExtendWith (.ref s.heap.objs.size) (.ref t) (.ref s.heap.objs.size)) _ _ { s with heap := s.heap.push (seqObj "list" #[] 0) }
  unfold Builtin.List.listExtendWith
  have hu' : (s.heap.push (seqObj "list" #[] 0)).get? t = some u := Heap.get?_push_of_some _ hu
  refine wpAny_bind (wpAny_typeOf (T := "tuple") ⟨u, hu', hc⟩ ?_)
  have tt : (Value.type "tuple" == Value.type "tuple") = true := by rfl
  rw [if_pos (by rw [tt]; simp)]
  refine wpAny_bind (listItems_at hu' hd ?_)
  refine wpAny_bind (listItems_at (xs := #[]) (n := 0) (Heap.get?_push_size _ rfl) rfl ?_)
  rw [if_neg (by simp)]
  refine wpAny_bind (listUpdate_at (xs := #[]) (n := 0) (Heap.get?_push_size _ rfl) rfl ?_ (Nat.zero_le _) (by show (#[] ++ ws.toArray).size ≤ sizeLine + 1; simp only [Array.size_append, List.size_toArray, List.length_nil]; omega))
  refine wpAny_pure ?_
  show wpAny (model prog w) A (do
      let y ← load s.heap.objs.size
      match y.data with
      | .seq ys _ => pure ys.toList
      | _ => unsupported "internal:collect") Q E { s with heap := (s.heap.push (seqObj "list" #[] 0)).update s.heap.objs.size (Obj.mapSeq (· ++ ws.toArray)) }
  refine wpAny_bind (wpAny_load (get?_update_seq (Heap.get?_push_size _ rfl) _) ?_)
  show wpAny _ _ (pure ((#[] : Array Value) ++ ws.toArray).toList) Q E _
  rw [show ((#[] : Array Value) ++ ws.toArray).toList = ws by simp]
  exact wpAny_pure q
theorem sorted_tup {t : Addr} {ws : List Value} {ltv : Value → Value → Bool} {Q : Value → Shared → Prop} (O : Swo ltv) (ht : s.heap.IsTuple t ws.toArray) (hz : ws.length ≤ sizeLine)
    (hS : 2 ≤ ws.length → ∀ (h₁ : Heap) (a : Addr), h₁.get? a = some (seqObj "list" ws.toArray 0) → (∀ b o, s.heap.get? b = some o → b ≠ a ∧ h₁.get? b = some o) → SortableO prog w A.in1.in1 { s with heap := h₁ } a ws ltv)
    (h : ∀ out : List Value, Srtd ltv out → Stb ltv out ws → Q (.ref (s.heap.objs.size + 1)) { s with heap := sortedAll s.heap ws out.toArray }) :
    wpAny (model prog w) A (call (.builtin "sorted") [.ref t]) Q E s := by
  refine Calls.call_function_entry kind_sorted plain_sorted entry_sorted (args_sorted1 _) ?_
  unfold Builtin.«sorted»
  refine wpAny_bind (m := checkCount "sorted" 1 1 _) (wpAny_pure ?_)
  refine wpAny_bind (gather_tup ht ?_ hz)
  refine wpAny_bind (wpAny_newList ?_ hz)
  have hsz : ((s.heap.push (seqObj "list" #[] 0)).update s.heap.objs.size (Obj.mapSeq (· ++ ws.toArray))).objs.size = s.heap.objs.size + 1 := by
    rw [Heap.size_update, size_push']
  have hoL : (((s.heap.push (seqObj "list" #[] 0)).update s.heap.objs.size (Obj.mapSeq (· ++ ws.toArray))).push (seqObj "list" ws.toArray 0)).get? (s.heap.objs.size + 1) = some (seqObj "list" ws.toArray 0) := by
    rw [← hsz]; exact Heap.get?_push_size _ rfl
  have keep : ∀ b o, s.heap.get? b = some o → b ≠ s.heap.objs.size + 1 ∧ (((s.heap.push (seqObj "list" #[] 0)).update s.heap.objs.size (Obj.mapSeq (· ++ ws.toArray))).push (seqObj "list" ws.toArray 0)).get? b = some o := fun b o q => by
    have lt : b < s.heap.objs.size := Heap.lt_size q
    refine ⟨Nat.ne_of_lt (Nat.lt_succ_of_lt lt), Heap.get?_push_of_some _ ?_⟩
    rw [Heap.get?_update_ne _ _ _ _ (Nat.ne_of_lt lt)]
    exact Heap.get?_push_of_some _ q
  show wpAny _ _ _ _ _ { s with heap := ((s.heap.push (seqObj "list" #[] 0)).update s.heap.objs.size (Obj.mapSeq (· ++ ws.toArray))).push (seqObj "list" ws.toArray 0) }
  rw [hsz]
  refine wpAny_bind (wpAny_holding (wpAny_call_entry slot_list_sort ⟨_, hoL, rfl⟩ entry_list_sort (list_sort_ord O hoL hz (fun h2 => hS h2 _ _ hoL keep) fun out hs hb => ⟨_, rfl, ?_⟩) (args_list_sort _)))
  exact wpAny_pure ⟨_, rfl, h out hs hb⟩
end
end SrtO
namespace DL
open PySem PyProof.Rows PySem.Spec L2
def rSortB (K : PySem.W.Frag) : List V → Hp → VK → Prop := fun vs H Q => ∃ (a : Addr) (ns : List Int), vs = [V.ref a] ∧ (SqL K H a (ns.map V.int) ∨ SqT K H a (ns.map V.int)) ∧
  ∀ (ms : List Int) (p : Addr), ms.Perm ns → ms.Pairwise (· ≤ ·) → H p = none → Q (.ref p) (upd H p (.lst (ms.map V.int)))
theorem cr_sortB {X : Cx} : CallR X (.builtin "sorted") (rSortB X.K) := by
  intro pins s σ H vs us Q I r h
  obtain ⟨a, ns, rfl, hs, q⟩ := h
  rcases hs with hs | hs
  · exact cr_sortedI pins s σ H _ us Q I r ⟨a, ns, rfl, hs, q⟩
  · obtain ⟨its, rv, hl, hz⟩ := I.tuple hs
    rw [Vals.ref1 r]
    have hi := rv.ints
    refine SrtO.sorted_tup SrtO.swo_int hl (by rw [← rv.length]; exact hz) (fun h2 h₁ a' _ _ => SrtO.ints_sortable hi h2) fun out h1 h2 => ?_
    obtain ⟨k1, k2, k3⟩ := SrtO.ints_out hi h1 h2
    obtain ⟨ep, he'⟩ := PyProof.Rows.sortedAll_at s.heap its out.toArray
    have hlen : ((out.map SrtO.iv).map V.int).length ≤ sizeLine := by
      rw [List.length_map, k2.length_eq]
      rw [List.length_map] at hz
      exact hz
    exact ⟨.ref _, upd H (s.heap.objs.size + 1) (.lst ((out.map SrtO.iv).map V.int)), I.laid (t' := s.toks) (fun _ _ => PyProof.Rows.sortedAll_old) (Nat.le_succ _) ⟨hlen, out, ep, vals_of_ints k1, he'⟩, rfl, q _ _ k2 k3 (I.hok.fresh (Nat.le_succ _))⟩
section
variable {K : PySem.W.Frag} {mg : Str → Option Value}
/-- sorted(x), whole numbers, a list or a tuple -/
def sortBD (m : Bool) : DC := fun xs S => match xs with
  | [x] => match (rdL S x).or (rdT x) with
    | some ds => match toIs ds with
      | some ns => some (newL m ((sortI ns).map DV.int) S)
      | none => none
    | none => none
  | _ => none
theorem rc_sortB {m : Bool} : RC K mg (rSortB K) (sortBD m) := by
  intro W S xs vs d S' Q R h e q
  unfold sortBD at e
  split at e
  · rename_i x
    split at e
    · rename_i ds hd
      split at e
      · rename_i ns hn
        obtain ⟨v, rfl, hv⟩ := dens1 h
        have : ∃ a us, v = .ref a ∧ (SqL K W.H a us ∨ SqT K W.H a us) ∧ Dens K W ds us := by
          cases hr : rdL S x with
          | some es =>
            rw [hr] at hd
            cases hd
            obtain ⟨a, us, rfl, h1, h2⟩ := rdL_ok R hv hr
            exact ⟨a, us, rfl, .inl h1, h2⟩
          | none =>
            rw [hr] at hd
            obtain ⟨a, us, rfl, h1, h2⟩ := rdT_ok hv hd
            exact ⟨a, us, rfl, .inr h1, h2⟩
        obtain ⟨a, us, rfl, h1, h2⟩ := this
        cases toIs_ok hn h2
        refine ⟨a, ns, rfl, h1, fun ms p hp hs hn => ?_⟩
        cases sortI_eq hp hs
        obtain ⟨W2, e2, x2, R2, d2⟩ := newL_ok R hn (dens_ints (K := K) (W := W) (sortI ns)) (Option.some.inj e)
        rw [← e2]
        exact q _ W2 x2 R2 d2
      · cases e
    · cases e
  · cases e
end
end DL
end
section
namespace FW
open PySem PyProof.Rows PySem.Spec L2 DL
/-! ### each def as a function of data -/
noncomputable def b_stretches_z : DS :=
    (dSeq (dAsg (dOp (addD false) (dOp (addD false) (dLst false (dCons (dC (.int 0)) dNil)) (dCB (sortBD false) (dCons (dVar 1) dNil))) (dLst false (dCons (dCB lenD (dCons (dVar 0) dNil)) dNil))) (dName 2))
    (dRet (dLz false (dCons (dVar 2) (dCons (dSlL false (dVar 2) (doS (dC (.int 1))) doN) dNil)))))
noncomputable def f_stretches_z : List DV → Sto → Option (DV × Sto) := fnF (some false) 3 b_stretches_z
noncomputable def b_share_z : DS :=
    (dSeq (dAsg (dCall 2 f_lowest_z [] (dCons (dVar 1) (dCons (dVar 2) dNil))) (dGTup 2 (dGCons (dName 1) (dGCons (dName 2) dGNil))))
    (dSeq (dAsg (dCall 2 f_lowest_z [] (dCons (dOp ixD (dVar 0) (dC (.int 0))) (dCons (dVar 2) dNil))) (dGTup 2 (dGCons (dName 3) (dGCons (dName 2) dGNil))))
    (dSeq (dAsg (dCall 2 f_lowest_z [] (dCons (dVar 1) (dCons (dOp ixD (dVar 0) (dC (.int 1))) dNil))) (dGTup 2 (dGCons (dName 1) (dGCons (dName 4) dGNil))))
    (dRet (dTup (dCons (dOp mulD (dVar 3) (dVar 1)) (dCons (dOp mulD (dVar 4) (dVar 2)) dNil)))))))
noncomputable def f_share_z : List DV → Sto → Option (DV × Sto) := fnF (some false) 5 b_share_z
noncomputable def b_pool_height_z : DS :=
    (dSeq (dAsg (dVar 0) (dGTup 2 (dGCons (dName 1) (dGCons (dName 2) dGNil))))
    (dRet (dCall 3 f_share_z [] (dCons (dVar 2) (dCons (dC (.int 1)) (dCons (dCB sumD (dCons (dVar 1) dNil)) dNil))))))
noncomputable def f_pool_height_z : List DV → Sto → Option (DV × Sto) := fnF (some false) 3 b_pool_height_z
noncomputable def b_pooled_z : DS :=
    (dSeq (dAsg (dLst true dNil) (dName 2))
    (dSeq (dFor (diZ (dCons (dVar 0) (dCons (dVar 1) dNil))) (dGTup 2 (dGCons (dName 3) (dGCons (dName 4) dGNil)))
    (dSeq (dAsg (dTup (dCons (dLst false (dCons (dVar 3) dNil)) (dCons (dVar 4) dNil))) (dName 5))
    (dSeq (dWhile (dAnd (dTru (dVar 2)) (dTest (dCall 2 f_above_z [] (dCons (dCall 1 f_pool_height_z [] (dCons (dOp ixD (dVar 2) (dUn negD (dC (.int 1)))) dNil)) (dCons (dCall 1 f_pool_height_z [] (dCons (dVar 5) dNil)) dNil)))))
    (dSeq (dAsg (dBM0 "list" popD (dVar 2)) (dGTup 2 (dGCons (dName 6) (dGCons (dName 7) dGNil))))
    (dAsg (dTup (dCons (dOp (addD false) (dVar 6) (dOp ixD (dVar 5) (dC (.int 0)))) (dCons (dCall 2 f_plus_z [] (dCons (dVar 7) (dCons (dOp ixD (dVar 5) (dC (.int 1))) dNil))) dNil))) (dName 5))))
    (dDrop (dBM "list" appendD (dVar 2) (dCons (dVar 5) dNil))))))
    (dRet (dVar 2))))
noncomputable def f_pooled_z : List DV → Sto → Option (DV × Sto) := fnF (some false) 8 b_pooled_z
noncomputable def b_check_bolted_z : DS :=
    (dFor (diEE (dCons (dVar 1) dNil)) (dGTup 2 (dGCons (dName 2) (dGCons (dName 3) dGNil)))
    (dIfS (dOr (dTest (dInRg true (dVar 3) (dCons (dC (.int 1)) (dCons (dCB lenD (dCons (dVar 0) dNil)) dNil)))) (dTest (dOp (inD false) (dVar 3) (dSlL false (dVar 1) doN (doS (dVar 2))))))
    dNever dNext))
noncomputable def f_check_bolted_z : List DV → Sto → Option (DV × Sto) := fnF (some false) 4 b_check_bolted_z
noncomputable def b_at_rest_k : DS :=
    (dSeq (dAsg (dLst true dNil) (dName 3))
    (dSeq (dFor (diL (dCall 2 f_stretches_z [] (dCons (dVar 0) (dCons (dVar 2) dNil)))) (dGTup 2 (dGCons (dName 4) (dGCons (dName 5) dGNil)))
    (dFor (diL (dCall 2 f_pooled_z [] (dCons (dSlL false (dVar 0) (doS (dVar 4)) (doS (dVar 5))) (dCons (dSlL false (dVar 1) (doS (dVar 4)) (doS (dVar 5))) dNil)))) (dGTup 2 (dGCons (dName 6) (dGCons (dName 7) dGNil)))
    (dSeq (dAsg (dCB sumD (dCons (dVar 6) dNil)) (dName 8))
    (dDrop (dBM "list" extendD (dVar 3) (dCons (dLc false (diL (dVar 6)) (dName 9) dYes (dCall 3 f_share_z [] (dCons (dVar 7) (dCons (dVar 9) (dCons (dVar 8) dNil)))) [9]) dNil))))))
    (dRet (dVar 3))))
noncomputable def f_at_rest_k : List DV → Sto → Option (DV × Sto) := fnF (some true) 10 b_at_rest_k
noncomputable def b_settled_k : DS :=
    (dSeq (dDrop (dCall 1 f_check_floors_z [] (dCons (dVar 0) dNil)))
    (dSeq (dDrop (dCall 2 f_check_water_z [] (dCons (dVar 0) (dCons (dVar 1) dNil))))
    (dSeq (dDrop (dCall 2 f_check_bolted_z [] (dCons (dVar 0) (dCons (dVar 2) dNil))))
    (dRet (dCall 3 f_at_rest_k [] (dCons (dVar 0) (dCons (dVar 1) (dCons (dVar 2) dNil))))))))
noncomputable def f_settled_k : List DV → Sto → Option (DV × Sto) := fnF (some true) 3 b_settled_k
noncomputable def b_at_rest_z : DS :=
    (dSeq (dAsg (dLst true dNil) (dName 3))
    (dSeq (dFor (diL (dCall 2 f_stretches_z [] (dCons (dVar 0) (dCons (dVar 2) dNil)))) (dGTup 2 (dGCons (dName 4) (dGCons (dName 5) dGNil)))
    (dFor (diL (dCall 2 f_pooled_z [] (dCons (dSlL false (dVar 0) (doS (dVar 4)) (doS (dVar 5))) (dCons (dSlL false (dVar 1) (doS (dVar 4)) (doS (dVar 5))) dNil)))) (dGTup 2 (dGCons (dName 6) (dGCons (dName 7) dGNil)))
    (dSeq (dAsg (dCB sumD (dCons (dVar 6) dNil)) (dName 8))
    (dDrop (dBM "list" extendD (dVar 3) (dCons (dLc false (diL (dVar 6)) (dName 9) dYes (dCall 3 f_share_z [] (dCons (dVar 7) (dCons (dVar 9) (dCons (dVar 8) dNil)))) [9]) dNil))))))
    (dRet (dVar 3))))
noncomputable def f_at_rest_z : List DV → Sto → Option (DV × Sto) := fnF (some false) 10 b_at_rest_z
noncomputable def b_settled_z : DS :=
    (dSeq (dDrop (dCall 1 f_check_floors_z [] (dCons (dVar 0) dNil)))
    (dSeq (dDrop (dCall 2 f_check_water_z [] (dCons (dVar 0) (dCons (dVar 1) dNil))))
    (dSeq (dDrop (dCall 2 f_check_bolted_z [] (dCons (dVar 0) (dCons (dVar 2) dNil))))
    (dRet (dCall 3 f_at_rest_z [] (dCons (dVar 0) (dCons (dVar 1) (dCons (dVar 2) dNil))))))))
noncomputable def f_settled_z : List DV → Sto → Option (DV × Sto) := fnF (some false) 3 b_settled_z
noncomputable def b_law_minus_z : DS :=
    (dRet (dCall 2 f_law_low_z [] (dCons (dOp subD (dOp mulD (dOp ixD (dVar 0) (dC (.int 0))) (dOp ixD (dVar 1) (dC (.int 1)))) (dOp mulD (dOp ixD (dVar 1) (dC (.int 0))) (dOp ixD (dVar 0) (dC (.int 1))))) (dCons (dOp mulD (dOp ixD (dVar 0) (dC (.int 1))) (dOp ixD (dVar 1) (dC (.int 1)))) dNil))))
noncomputable def f_law_minus_z : List DV → Sto → Option (DV × Sto) := fnF (some false) 2 b_law_minus_z
noncomputable def b_law_under_z : DS :=
    (dRet (dOp ltD (dOp mulD (dOp ixD (dVar 0) (dC (.int 0))) (dOp ixD (dVar 1) (dC (.int 1)))) (dOp mulD (dOp ixD (dVar 1) (dC (.int 0))) (dOp ixD (dVar 0) (dC (.int 1))))))
noncomputable def f_law_under_z : List DV → Sto → Option (DV × Sto) := fnF (some false) 2 b_law_under_z
noncomputable def b_law_chord_z : DS :=
    (dSeq (dIfS (dTest (dOp eqD (dVar 2) (dVar 4)))
    (dRet (dOp ixD (dVar 1) (dVar 3))) dNext)
    (dSeq (dAsg (dOp mulD (dOp mulD (dOp ixD (dOp ixD (dVar 1) (dVar 2)) (dC (.int 0))) (dOp ixD (dOp ixD (dVar 1) (dVar 4)) (dC (.int 1)))) (dOp subD (dOp ixD (dVar 0) (dVar 4)) (dOp ixD (dVar 0) (dVar 3)))) (dName 5))
    (dSeq (dAsg (dOp mulD (dOp mulD (dOp ixD (dOp ixD (dVar 1) (dVar 4)) (dC (.int 0))) (dOp ixD (dOp ixD (dVar 1) (dVar 2)) (dC (.int 1)))) (dOp subD (dOp ixD (dVar 0) (dVar 3)) (dOp ixD (dVar 0) (dVar 2)))) (dName 6))
    (dRet (dCall 2 f_law_low_z [] (dCons (dOp (addD false) (dVar 5) (dVar 6)) (dCons (dOp mulD (dOp mulD (dOp ixD (dOp ixD (dVar 1) (dVar 2)) (dC (.int 1))) (dOp ixD (dOp ixD (dVar 1) (dVar 4)) (dC (.int 1)))) (dOp subD (dOp ixD (dVar 0) (dVar 4)) (dOp ixD (dVar 0) (dVar 2)))) dNil)))))))
noncomputable def f_law_chord_z : List DV → Sto → Option (DV × Sto) := fnF (some false) 7 b_law_chord_z
noncomputable def b_law_ends_z : DS :=
    (dRet (dTup (dCons (dCB maxD (dCons (dOp (addD false) (dLst false (dCons (dC (.int 0)) dNil)) (dLc false (diL (dVar 1)) (dName 3) (dTest (dOp leD (dVar 3) (dVar 2))) (dVar 3) [3])) dNil)) (dCons (dCB minD (dCons (dOp (addD false) (dLst false (dCons (dVar 0) dNil)) (dLc false (diL (dVar 1)) (dName 3) (dTest (dOp geD (dVar 3) (dVar 2))) (dVar 3) [3])) dNil)) dNil))))
noncomputable def f_law_ends_z : List DV → Sto → Option (DV × Sto) := fnF (some false) 4 b_law_ends_z
noncomputable def b_law_rest_z : DS :=
    (dSeq (dAsg (dLc false (diR1 (dCons (dOp (addD false) (dCB lenD (dCons (dVar 0) dNil)) (dC (.int 1))) dNil)) (dName 6) dYes (dCB sumD (dCons (dSlL false (dVar 0) doN (doS (dVar 6))) dNil)) [6]) (dName 3))
    (dSeq (dAsg (dCall 1 f_law_heaps_z [] (dCons (dVar 1) dNil)) (dName 4))
    (dSeq (dAsg (dLst true dNil) (dName 5))
    (dSeq (dFor (diR1 (dCons (dCB lenD (dCons (dVar 3) dNil)) dNil)) (dName 6)
    (dSeq (dAsg (dCall 3 f_law_ends_z [] (dCons (dCB lenD (dCons (dVar 0) dNil)) (dCons (dVar 2) (dCons (dVar 6) dNil)))) (dGTup 2 (dGCons (dName 7) (dGCons (dName 8) dGNil))))
    (dSeq (dAsg (dOp ixD (dVar 4) (dVar 6)) (dName 9))
    (dSeq (dFor (diR2 (dCons (dVar 7) (dCons (dOp (addD false) (dVar 6) (dC (.int 1))) dNil))) (dName 10)
    (dFor (diR2 (dCons (dVar 6) (dCons (dOp (addD false) (dVar 8) (dC (.int 1))) dNil))) (dName 11)
    (dSeq (dAsg (dCall 5 f_law_chord_z [] (dCons (dVar 3) (dCons (dVar 4) (dCons (dVar 10) (dCons (dVar 6) (dCons (dVar 11) dNil)))))) (dName 12))
    (dIfS (dTest (dCall 2 f_law_under_z [] (dCons (dVar 12) (dCons (dVar 9) dNil))))
    (dAsg (dVar 12) (dName 9)) dNext))))
    (dDrop (dBM "list" appendD (dVar 5) (dCons (dVar 9) dNil)))))))
    (dRet (dLc false (diR1 (dCons (dCB lenD (dCons (dVar 0) dNil)) dNil)) (dName 6) dYes (dCall 2 f_law_minus_z [] (dCons (dOp ixD (dVar 5) (dOp (addD false) (dVar 6) (dC (.int 1)))) (dCons (dOp ixD (dVar 5) (dVar 6)) dNil))) [6]))))))
noncomputable def f_law_rest_z : List DV → Sto → Option (DV × Sto) := fnF (some false) 13 b_law_rest_z
noncomputable def b_law_shuffled_z : DS :=
    (dSeq (dAsg (dCB (listD true) (dCons (dVar 1) dNil)) (dName 2))
    (dRet (dLc false (diR1 (dCons (dCB lenD (dCons (dVar 2) dNil)) dNil)) (dName 3) dYes (dBM "list" popAtD (dVar 2) (dCons (dCall 2 f_law_draw_z [] (dCons (dVar 0) (dCons (dCB lenD (dCons (dVar 2) dNil)) dNil))) dNil)) [3])))
noncomputable def f_law_shuffled_z : List DV → Sto → Option (DV × Sto) := fnF (some false) 4 b_law_shuffled_z
noncomputable def b_law_bolts_z : DS :=
    (dSeq (dAsg (dLr2 false (dC (.int 1)) (dVar 1)) (dName 2))
    (dSeq (dAsg (dCall 2 f_law_draw_z [] (dCons (dVar 0) (dCons (dC (.int 4)) dNil))) (dName 3))
    (dSeq (dIfS (dTest (dOp ltD (dVar 3) (dC (.int 2))))
    (dRet (dIf (dTest (dOp eqD (dVar 3) (dC (.int 1)))) (dCall 2 f_law_shuffled_z [] (dCons (dVar 0) (dCons (dVar 2) dNil))) (dLst false dNil))) dNext)
    (dRet (dCall 2 f_law_shuffled_z [] (dCons (dVar 0) (dCons (dLc false (diL (dVar 2)) (dName 4) (dTest (dOp eqD (dCall 2 f_law_draw_z [] (dCons (dVar 0) (dCons (dVar 3) dNil))) (dC (.int 0)))) (dVar 4) [4]) dNil)))))))
noncomputable def f_law_bolts_z : List DV → Sto → Option (DV × Sto) := fnF (some false) 5 b_law_bolts_z
end FW
end
section
namespace FW
/-! ### pools: the mathematics -/
abbrev Tk := Int × Rat
def Wi : List Tk → Rat
  | [] => 0
  | t :: l => (t.1 : Rat) + Wi l
def Am : List Tk → Rat
  | [] => 0
  | t :: l => t.2 + Am l
theorem Wi_app : ∀ a b : List Tk, Wi (a ++ b) = Wi a + Wi b
  | [], b => by simp [Wi, Rat.zero_add]
  | t :: a, b => by simp only [List.cons_append, Wi, Wi_app a b, Rat.add_assoc]
theorem Am_app : ∀ a b : List Tk, Am (a ++ b) = Am a + Am b
  | [], b => by simp [Am, Rat.zero_add]
  | t :: a, b => by simp only [List.cons_append, Am, Am_app a b, Rat.add_assoc]
def ht (l : List Tk) : Rat := Am l / Wi l
def Fl (l : List Tk) : Prop := ∀ t ∈ l, 1 ≤ t.1
theorem cast_one_le {n : Int} (h : 1 ≤ n) : (1 : Rat) ≤ (n : Rat) := by
  have : ((1 : Int) : Rat) ≤ (n : Rat) := by exact_mod_cast h
  simpa using this
theorem Wi_nonneg : ∀ {l : List Tk}, Fl l → 0 ≤ Wi l
  | [], _ => Rat.le_refl
  | t :: l, h => by
    have h1 := cast_one_le (h t (List.mem_cons_self))
    have h2 := Wi_nonneg (l := l) fun x hx => h x (List.mem_cons_of_mem _ hx)
    simp only [Wi]
    grind
theorem Wi_pos {l : List Tk} (h : Fl l) (h0 : l ≠ []) : 0 < Wi l := by
  cases l with
  | nil => exact absurd rfl h0
  | cons t l =>
    have h1 := cast_one_le (h t (List.mem_cons_self))
    have h2 := Wi_nonneg (l := l) fun x hx => h x (List.mem_cons_of_mem _ hx)
    simp only [Wi]
    grind
theorem ht_mul {l : List Tk} (h : Fl l) (h0 : l ≠ []) : ht l * Wi l = Am l := by
  have := Wi_pos h h0
  unfold ht
  grind
theorem mul_le_left {a b c : Rat} (h : a ≤ b) (hc : 0 ≤ c) : a * c ≤ b * c := Rat.mul_le_mul_of_nonneg_right h hc
/-- no part at the left has less than its share -/
structure Good (p : List Tk) : Prop where
  fl : Fl p
  ne : p ≠ []
  pre : ∀ u v, p = u ++ v → ht p * Wi u ≤ Am u
theorem good_one {t : Tk} (h : 1 ≤ t.1) : Good [t] where
  fl := fun x hx => by cases List.mem_singleton.mp hx; exact h
  ne := by simp
  pre := fun u v e => by
    cases u with
    | nil => simp [Wi, Am, Rat.mul_zero]
    | cons x u =>
      have e' : t = x ∧ u = [] ∧ v = [] := by simpa using e
      obtain ⟨rfl, rfl, rfl⟩ := e'
      have := ht_mul (l := [t]) (fun y hy => by cases List.mem_singleton.mp hy; exact h) (by simp)
      rw [this]
      exact Rat.le_refl
theorem Fl.app {a b : List Tk} (h : Fl a) (g : Fl b) : Fl (a ++ b) := fun x hx => by
  rcases List.mem_append.mp hx with hx | hx
  · exact h x hx
  · exact g x hx
/-- the height of both together lies between -/
theorem ht_between {t p : List Tk} (ht_ : Good t) (hp : Good p) (h : ht p ≤ ht t) : ht p ≤ ht (t ++ p) ∧ ht (t ++ p) ≤ ht t := by
  have w1 := Wi_pos ht_.fl ht_.ne
  have w2 := Wi_pos hp.fl hp.ne
  have e1 := ht_mul ht_.fl ht_.ne
  have e2 := ht_mul hp.fl hp.ne
  have e3 := ht_mul (ht_.fl.app hp.fl) (by simp [ht_.ne])
  rw [Wi_app, Am_app] at e3
  have m1 := mul_le_left h (Rat.le_of_lt w1)
  have m2 := mul_le_left h (Rat.le_of_lt w2)
  constructor
  · refine Rat.not_lt.mp fun z => ?_
    have k1 := Rat.mul_lt_mul_of_pos_right z (show 0 < Wi t + Wi p by grind)
    grind
  · refine Rat.not_lt.mp fun z => ?_
    have k1 := Rat.mul_lt_mul_of_pos_right z (show 0 < Wi t + Wi p by grind)
    grind
theorem alg1 {H h Wt Wc Wv At Ac Av : Rat} (q : h * Wc ≤ Ac) (e1 : h * (Wc + Wv) = Ac + Av) (e3 : H * (Wt + (Wc + Wv)) = At + (Ac + Av)) (m : h * Wv ≤ H * Wv) : H * (Wt + Wc) ≤ At + Ac := by
  grind
theorem good_app {t p : List Tk} (gt : Good t) (gp : Good p) (h : ht p ≤ ht t) : Good (t ++ p) where
  fl := gt.fl.app gp.fl
  ne := by simp [gt.ne]
  pre := fun u v e => by
    obtain ⟨b1, b2⟩ := ht_between gt gp h
    rcases List.append_eq_append_iff.mp e with ⟨c, rfl, hc⟩ | ⟨c, hc, rfl⟩
    · -- u = t ++ c
      have q := gp.pre c v hc
      have e1 := ht_mul gp.fl gp.ne
      have e3 := ht_mul (gt.fl.app gp.fl) (by simp [gt.ne])
      have hc' : Fl c := fun x hx => gp.fl x (by rw [hc]; exact List.mem_append_left _ hx)
      have hv' : Fl v := fun x hx => gp.fl x (by rw [hc]; exact List.mem_append_right _ hx)
      have wv := Wi_nonneg hv'
      have m := mul_le_left b1 wv
      have ea : Am p = Am c + Am v := by rw [hc, Am_app]
      have ew : Wi p = Wi c + Wi v := by rw [hc, Wi_app]
      rw [Wi_app, Am_app, ea, ew] at e3
      rw [ea, ew] at e1
      rw [Wi_app, Am_app]
      exact alg1 q e1 e3 m
    · have q := gt.pre u c hc
      have hu' : Fl u := fun x hx => gt.fl x (by rw [hc]; exact List.mem_append_left _ hx)
      have m := mul_le_left b2 (Wi_nonneg hu')
      grind
/-- one more pool on top: the stack has its top first -/
noncomputable def mg : List (List Tk) → List Tk → List (List Tk)
  | [], p => [p]
  | t :: st, p => if ht p < ht t then mg st (t ++ p) else p :: t :: st
structure Stk (st : List (List Tk)) : Prop where
  good : ∀ p ∈ st, Good p
  up : st.Pairwise fun p t => ht t ≤ ht p
theorem mg_ok : ∀ {st : List (List Tk)} {p : List Tk}, Stk st → Good p → Stk (mg st p) ∧ (mg st p).reverse.flatten = st.reverse.flatten ++ p ∧ mg st p ≠ []
  | [], p, _, hp => ⟨⟨fun q hq => by cases List.mem_singleton.mp hq; exact hp, List.pairwise_singleton _ _⟩, by simp [mg], by simp [mg]⟩
  | t :: st, p, hs, hp => by
    have gt := hs.good t (List.mem_cons_self)
    have hs' : Stk st := ⟨fun q hq => hs.good q (List.mem_cons_of_mem _ hq), (List.pairwise_cons.mp hs.up).2⟩
    unfold mg
    split
    · rename_i h
      obtain ⟨h1, h2, h3⟩ := mg_ok hs' (good_app gt hp (Rat.le_of_lt h))
      exact ⟨h1, by rw [h2]; simp, h3⟩
    · rename_i h
      have h := Rat.not_lt.mp h
      refine ⟨⟨fun q hq => ?_, List.pairwise_cons.mpr ⟨fun q hq => ?_, hs.up⟩⟩, by simp, by simp⟩
      · rcases List.mem_cons.mp hq with rfl | hq
        · exact hp
        · exact hs.good q hq
      · rcases List.mem_cons.mp hq with rfl | hq
        · exact h
        · exact Rat.le_trans ((List.pairwise_cons.mp hs.up).1 q hq) h
end FW
end
section
namespace FW
/-! ### heaps at rest, against straight lines -/
abbrev Sk := Tk × Rat
noncomputable def sl (p : List Tk) : List Sk := p.map fun t => (t, ht p)
noncomputable def fl (ps : List (List Tk)) : List Sk := ps.flatMap sl
def Zi : List Sk → Rat
  | [] => 0
  | x :: l => x.2 * (x.1.1 : Rat) + Zi l
theorem Zi_app : ∀ a b : List Sk, Zi (a ++ b) = Zi a + Zi b
  | [], b => by simp [Zi, Rat.zero_add]
  | t :: a, b => by simp only [List.cons_append, Zi, Zi_app a b, Rat.add_assoc]
def un (l : List Sk) : List Tk := l.map (·.1)
theorem un_sl (p : List Tk) : un (sl p) = p := by
  unfold un sl
  rw [List.map_map]
  exact List.map_id' p
theorem un_app (a b : List Sk) : un (a ++ b) = un a ++ un b := List.map_append
theorem un_fl : ∀ ps : List (List Tk), un (fl ps) = ps.flatten
  | [] => rfl
  | p :: ps => by
    show un (sl p ++ fl ps) = p ++ ps.flatten
    rw [un_app, un_sl, un_fl ps]
theorem Zi_const {h : Rat} : ∀ {w : List Sk}, (∀ x ∈ w, x.2 = h) → Zi w = h * Wi (un w)
  | [], _ => by simp [Zi, un, Wi, Rat.mul_zero]
  | x :: w, hx => by
    have h1 := hx x (List.mem_cons_self)
    have h2 := Zi_const (h := h) (w := w) fun y hy => hx y (List.mem_cons_of_mem _ hy)
    show x.2 * (x.1.1 : Rat) + Zi w = h * ((x.1.1 : Rat) + Wi (un w))
    rw [h1, h2, Rat.mul_add]
theorem Zi_le {s : Rat} : ∀ {w : List Sk}, Fl (un w) → (∀ x ∈ w, x.2 ≤ s) → Zi w ≤ s * Wi (un w)
  | [], _, _ => by simp [Zi, un, Wi, Rat.mul_zero]
  | x :: w, hf, hx => by
    have h1 := hx x (List.mem_cons_self)
    have f1 := cast_one_le (hf x.1 (List.mem_cons_self))
    have h2 := Zi_le (s := s) (w := w) (fun y hy => hf y (List.mem_cons_of_mem _ hy)) fun y hy => hx y (List.mem_cons_of_mem _ hy)
    have m := mul_le_left h1 (show (0 : Rat) ≤ (x.1.1 : Rat) by grind)
    show x.2 * (x.1.1 : Rat) + Zi w ≤ s * ((x.1.1 : Rat) + Wi (un w))
    grind
theorem Zi_ge {s : Rat} : ∀ {w : List Sk}, Fl (un w) → (∀ x ∈ w, s ≤ x.2) → s * Wi (un w) ≤ Zi w
  | [], _, _ => by simp [Zi, un, Wi, Rat.mul_zero]
  | x :: w, hf, hx => by
    have h1 := hx x (List.mem_cons_self)
    have f1 := cast_one_le (hf x.1 (List.mem_cons_self))
    have h2 := Zi_ge (s := s) (w := w) (fun y hy => hf y (List.mem_cons_of_mem _ hy)) fun y hy => hx y (List.mem_cons_of_mem _ hy)
    have m := mul_le_left h1 (show (0 : Rat) ≤ (x.1.1 : Rat) by grind)
    show s * ((x.1.1 : Rat) + Wi (un w)) ≤ x.2 * (x.1.1 : Rat) + Zi w
    grind
theorem top_of : ∀ u : List Sk, ∃ s : Rat, ∀ x ∈ u, x.2 ≤ s
  | [] => ⟨0, fun x hx => by cases hx⟩
  | y :: u => by
    obtain ⟨s, hs⟩ := top_of u
    by_cases h : y.2 ≤ s
    · exact ⟨s, fun x hx => by
        rcases List.mem_cons.mp hx with rfl | hx
        · exact h
        · exact hs x hx⟩
    · exact ⟨y.2, fun x hx => by
        rcases List.mem_cons.mp hx with rfl | hx
        · exact Rat.le_refl
        · exact Rat.le_trans (hs x hx) (by grind)⟩
theorem cut_of {u v : List Sk} (h : (u ++ v).Pairwise fun x y => x.2 ≤ y.2) : ∃ s : Rat, (∀ x ∈ u, x.2 ≤ s) ∧ ∀ x ∈ v, s ≤ x.2 := by
  obtain ⟨h1, h2, h3⟩ := List.pairwise_append.mp h
  cases v with
  | nil =>
    obtain ⟨s, hs⟩ := top_of u
    exact ⟨s, hs, fun x hx => by cases hx⟩
  | cons y v =>
    refine ⟨y.2, fun x hx => h3 x hx y (List.mem_cons_self), fun x hx => ?_⟩
    rcases List.mem_cons.mp hx with rfl | hx
    · exact Rat.le_refl
    · exact (List.pairwise_cons.mp h2).1 x hx
/-! the values at a place -/
noncomputable def Xa (l : List Tk) (k : Nat) : Rat := Wi (l.take k)
noncomputable def Ya (l : List Tk) (k : Nat) : Rat := Am (l.take k)
noncomputable def Za (F : List Sk) (k : Nat) : Rat := Zi (F.take k)
theorem take_split {α : Type} (l : List α) {i k : Nat} (h : i ≤ k) : l.take k = l.take i ++ (l.take k).drop i := by
  have := List.take_append_drop i (l.take k)
  rw [List.take_take, Nat.min_eq_left h] at this
  exact this.symm
theorem fl_take {F : List Sk} (h : Fl (un F)) (i k : Nat) : Fl (un ((F.take k).drop i)) := fun t ht => by
  obtain ⟨x, hx, rfl⟩ := List.mem_map.mp ht
  exact h _ (List.mem_map.mpr ⟨x, List.mem_of_mem_take (List.mem_of_mem_drop hx), rfl⟩)
theorem un_take (F : List Sk) (k : Nat) : un (F.take k) = (un F).take k := List.map_take
/-- the line at a place bounds all from below -/
theorem under_line {F : List Sk} (hf : Fl (un F)) (hs : F.Pairwise fun x y => x.2 ≤ y.2) (k : Nat) :
    ∃ s : Rat, (∀ i, i ≤ k → Za F k - Za F i ≤ s * (Xa (un F) k - Xa (un F) i)) ∧ ∀ j, k ≤ j → s * (Xa (un F) j - Xa (un F) k) ≤ Za F j - Za F k := by
  obtain ⟨s, h1, h2⟩ := cut_of (u := F.take k) (v := F.drop k) (by rw [List.take_append_drop]; exact hs)
  refine ⟨s, fun i hi => ?_, fun j hj => ?_⟩
  · have e := take_split F hi
    have m := Zi_le (s := s) (fl_take hf i k) fun x hx => h1 x (List.mem_of_mem_drop hx)
    have e1 : Za F k = Za F i + Zi ((F.take k).drop i) := by unfold Za; rw [← Zi_app, ← e]
    have e2 : Xa (un F) k = Xa (un F) i + Wi (un ((F.take k).drop i)) := by
      unfold Xa
      rw [← un_take, ← un_take, ← Wi_app, ← un_app, ← e]
    rw [e1, e2]
    grind
  · have e := take_split F hj
    have m := Zi_ge (s := s) (fl_take hf k j) fun x hx => h2 x (by
      rw [List.drop_take] at hx
      exact List.mem_of_mem_take hx)
    have e1 : Za F j = Za F k + Zi ((F.take j).drop k) := by unfold Za; rw [← Zi_app, ← e]
    have e2 : Xa (un F) j = Xa (un F) k + Wi (un ((F.take j).drop k)) := by
      unfold Xa
      rw [← un_take, ← un_take, ← Wi_app, ← un_app, ← e]
    rw [e1, e2]
    grind
end FW
end
section
namespace FW
section
variable {p : List Tk} {ps : List (List Tk)} {k : Nat}
theorem sl_len (p : List Tk) : (sl p).length = p.length := List.length_map _
theorem tk_lo {α : Type} {a b : List α} {k : Nat} (h : k ≤ a.length) : (a ++ b).take k = a.take k := List.take_append_of_le_length h
theorem tk_hi {α : Type} {a b : List α} (k : Nat) : (a ++ b).take (a.length + k) = a ++ b.take k := by
  rw [List.take_append, List.take_of_length_le (by omega), Nat.add_sub_cancel_left]
theorem Xa_lo {a b : List Tk} (h : k ≤ a.length) : Xa (a ++ b) k = Xa a k := by unfold Xa; rw [tk_lo h]
theorem Ya_lo {a b : List Tk} (h : k ≤ a.length) : Ya (a ++ b) k = Ya a k := by unfold Ya; rw [tk_lo h]
theorem Xa_hi {a b : List Tk} (k : Nat) : Xa (a ++ b) (a.length + k) = Wi a + Xa b k := by unfold Xa; rw [tk_hi, Wi_app]
theorem Ya_hi {a b : List Tk} (k : Nat) : Ya (a ++ b) (a.length + k) = Am a + Ya b k := by unfold Ya; rw [tk_hi, Am_app]
theorem Zi_sl {w : List Tk} {h : Rat} : Zi (w.map fun t => (t, h)) = h * Wi w := by
  rw [Zi_const (h := h) fun x hx => ?_]
  · unfold un
    rw [List.map_map]
    congr 1
    exact congrArg Wi (List.map_id' w)
  · obtain ⟨t, _, rfl⟩ := List.mem_map.mp hx
    rfl
theorem Za_lo (h : k ≤ p.length) : Za (fl (p :: ps)) k = ht p * Xa p k := by
  unfold Za
  show Zi ((sl p ++ fl ps).take k) = _
  rw [tk_lo (by rw [sl_len]; exact h)]
  unfold sl Xa
  rw [← List.map_take, Zi_sl]
theorem Za_hi (g : Good p) (k : Nat) : Za (fl (p :: ps)) (p.length + k) = Am p + Za (fl ps) k := by
  unfold Za
  show Zi ((sl p ++ fl ps).take (p.length + k)) = _
  have e : p.length = (sl p).length := (sl_len p).symm
  rw [e, tk_hi, Zi_app]
  congr 1
  unfold sl
  rw [Zi_sl, ht_mul g.fl g.ne]
theorem Za_under : ∀ {ps : List (List Tk)}, (∀ p ∈ ps, Good p) → ∀ k, Za (fl ps) k ≤ Ya ps.flatten k
  | [], _, k => by simp [Za, fl, Ya, Zi, Am]
  | p :: ps, h, k => by
    have g := h p (List.mem_cons_self)
    by_cases hk : k ≤ p.length
    · rw [Za_lo hk, List.flatten_cons, Ya_lo hk]
      exact g.pre _ _ (List.take_append_drop k p).symm
    · obtain ⟨m, rfl⟩ : ∃ m, k = p.length + m := ⟨k - p.length, by omega⟩
      rw [Za_hi g, List.flatten_cons, Ya_hi]
      have := Za_under (ps := ps) (fun q hq => h q (List.mem_cons_of_mem _ hq)) m
      grind
structure Flat (ps : List (List Tk)) (i k j : Nat) (h : Rat) : Prop where
  ik : i ≤ k
  kj : k ≤ j
  jn : j ≤ ps.flatten.length
  zi : Za (fl ps) i = Ya ps.flatten i
  zj : Za (fl ps) j = Ya ps.flatten j
  a : Za (fl ps) k = Za (fl ps) i + h * (Xa ps.flatten k - Xa ps.flatten i)
  b : Za (fl ps) j = Za (fl ps) k + h * (Xa ps.flatten j - Xa ps.flatten k)
theorem X0 (l : List Tk) : Xa l 0 = 0 := rfl
theorem Y0 (l : List Tk) : Ya l 0 = 0 := rfl
theorem Z0 (l : List Sk) : Za l 0 = 0 := rfl
theorem flat_of : ∀ {ps : List (List Tk)}, (∀ p ∈ ps, Good p) → ∀ k, k ≤ ps.flatten.length → ∃ i j h, Flat ps i k j h
  | [], _, k, hk => by
    have : k = 0 := by simpa using hk
    subst this
    exact ⟨0, 0, 0, Nat.le_refl _, Nat.le_refl _, Nat.le_refl _, rfl, rfl, by simp [Z0, Rat.zero_mul, Rat.add_zero], by simp [Z0, Rat.zero_mul, Rat.add_zero]⟩
  | p :: ps, h, k, hk => by
    have g := h p (List.mem_cons_self)
    have e := ht_mul g.fl g.ne
    by_cases hk2 : k ≤ p.length
    · have x1 : Xa p p.length = Wi p := by unfold Xa; rw [List.take_length]
      have y1 : Ya p p.length = Am p := by unfold Ya; rw [List.take_length]
      refine ⟨0, p.length, ht p, Nat.zero_le _, hk2, by simp, rfl, ?_, ?_, ?_⟩
      · rw [Za_lo (Nat.le_refl _), List.flatten_cons, Ya_lo (Nat.le_refl _), x1, y1, e]
      · rw [Za_lo hk2, List.flatten_cons, Xa_lo hk2, X0, Z0]
        grind
      · rw [Za_lo hk2, Za_lo (Nat.le_refl _), List.flatten_cons, Xa_lo hk2, Xa_lo (Nat.le_refl _)]
        grind
    · obtain ⟨m, rfl⟩ : ∃ m, k = p.length + m := ⟨k - p.length, by omega⟩
      obtain ⟨i, j, s, f⟩ := flat_of (ps := ps) (fun q hq => h q (List.mem_cons_of_mem _ hq)) m (by simp at hk ⊢; omega)
      have f1 := f.zi; have f2 := f.zj; have f3 := f.a; have f4 := f.b
      refine ⟨p.length + i, p.length + j, s, Nat.add_le_add_left f.ik _, Nat.add_le_add_left f.kj _, ?_, ?_, ?_, ?_, ?_⟩
      · rw [List.flatten_cons, List.length_append]; exact Nat.add_le_add_left f.jn _
      · rw [Za_hi g, List.flatten_cons, Ya_hi, f1]
      · rw [Za_hi g, List.flatten_cons, Ya_hi, f2]
      · rw [Za_hi g, Za_hi g, List.flatten_cons, Xa_hi, Xa_hi, f3]; grind
      · rw [Za_hi g, Za_hi g, List.flatten_cons, Xa_hi, Xa_hi, f4]; grind
theorem fl_up : ∀ {ps : List (List Tk)}, ps.Pairwise (fun p q => ht p ≤ ht q) → (fl ps).Pairwise fun x y => x.2 ≤ y.2
  | [], _ => List.Pairwise.nil
  | p :: ps, h => by
    obtain ⟨h1, h2⟩ := List.pairwise_cons.mp h
    refine List.pairwise_append.mpr ⟨?_, fl_up h2, fun x hx y hy => ?_⟩
    · unfold sl
      rw [List.pairwise_map]
      exact List.pairwise_of_forall fun _ _ => Rat.le_refl
    · obtain ⟨t, _, rfl⟩ := List.mem_map.mp hx
      obtain ⟨q, hq, hy⟩ := List.mem_flatMap.mp hy
      obtain ⟨u, _, rfl⟩ := List.mem_map.mp hy
      exact h1 q hq
end
/-- how high the line between two places stands -/
noncomputable def chord (l : List Tk) (i k j : Nat) : Rat := if i = j then Ya l k else (Ya l i * (Xa l j - Xa l k) + Ya l j * (Xa l k - Xa l i)) / (Xa l j - Xa l i)
theorem Xa_mono {l : List Tk} (h : Fl l) {i j : Nat} (hij : i ≤ j) : Xa l i ≤ Xa l j := by
  have e := take_split l hij
  have f : Fl ((l.take j).drop i) := fun t ht => h t (List.mem_of_mem_take (List.mem_of_mem_drop ht))
  have := Wi_nonneg f
  have e2 : Xa l j = Xa l i + Wi ((l.take j).drop i) := by unfold Xa; rw [← Wi_app, ← e]
  rw [e2]
  grind
theorem Xa_lt {l : List Tk} (h : Fl l) {i j : Nat} (hij : i < j) (hj : j ≤ l.length) : Xa l i < Xa l j := by
  have e := take_split l (Nat.le_of_lt hij)
  have f : Fl ((l.take j).drop i) := fun t ht => h t (List.mem_of_mem_take (List.mem_of_mem_drop ht))
  have := Wi_pos f (by
    intro z
    have := congrArg List.length z
    simp at this
    omega)
  have e2 : Xa l j = Xa l i + Wi ((l.take j).drop i) := by unfold Xa; rw [← Wi_app, ← e]
  rw [e2]
  grind
theorem le_div {a b c : Rat} (hc : 0 < c) (h : a * c ≤ b) : a ≤ b / c := by
  refine Rat.not_lt.mp fun z => ?_
  have k1 := Rat.mul_lt_mul_of_pos_right z hc
  have e : b / c * c = b := by grind
  grind
theorem alg2 {Zk Yi Yj Xi Xk Xj Zi' Zj s : Rat} (h1 : Zk - Zi' ≤ s * (Xk - Xi)) (h2 : s * (Xj - Xk) ≤ Zj - Zk) (y1 : Zi' ≤ Yi) (y2 : Zj ≤ Yj) (a : Xi ≤ Xk) (b : Xk ≤ Xj) : Zk * (Xj - Xi) ≤ Yi * (Xj - Xk) + Yj * (Xk - Xi) := by
  have m1 := mul_le_left (show Zk - s * (Xk - Xi) ≤ Yi by grind) (show 0 ≤ Xj - Xk by grind)
  have m2 := mul_le_left (show Zk + s * (Xj - Xk) ≤ Yj by grind) (show 0 ≤ Xk - Xi by grind)
  grind
/-- the heaps at rest are the lowest lines -/
theorem rest_lines {ps : List (List Tk)} (hg : ∀ p ∈ ps, Good p) (hu : ps.Pairwise fun p q => ht p ≤ ht q) {k : Nat} (hk : k ≤ ps.flatten.length) :
    (∀ i j, i ≤ k → k ≤ j → j ≤ ps.flatten.length → Za (fl ps) k ≤ chord ps.flatten i k j) ∧ ∃ i j, i ≤ k ∧ k ≤ j ∧ j ≤ ps.flatten.length ∧ chord ps.flatten i k j = Za (fl ps) k := by
  have hf : Fl ps.flatten := fun t ht => by
    obtain ⟨p, hp, ht⟩ := List.mem_flatten.mp ht
    exact (hg p hp).fl t ht
  have hF : un (fl ps) = ps.flatten := un_fl ps
  obtain ⟨s, l1, l2⟩ := under_line (F := fl ps) (by rw [hF]; exact hf) (fl_up hu) k
  rw [hF] at l1 l2
  have un := Za_under hg
  refine ⟨fun i j hi hj hn => ?_, ?_⟩
  · unfold chord
    split
    · exact un k
    · rename_i hne
      have hx := Xa_lt hf (show i < j by omega) hn
      exact le_div (by grind) (alg2 (l1 i hi) (l2 j hj) (un i) (un j) (Xa_mono hf hi) (Xa_mono hf hj))
  · obtain ⟨i, j, h, f⟩ := flat_of hg k hk
    refine ⟨i, j, f.ik, f.kj, f.jn, ?_⟩
    unfold chord
    split
    · rename_i e
      have : k = i := by have := f.ik; have := f.kj; omega
      rw [this]
      exact f.zi.symm
    · rename_i hne
      have hx := Xa_lt hf (show i < j by have := f.ik; have := f.kj; omega) f.jn
      have f1 := f.zi; have f2 := f.zj; have f3 := f.a; have f4 := f.b
      have hx' : Xa ps.flatten j - Xa ps.flatten i ≠ 0 := by grind
      rw [← f1, ← f2, f4]
      rw [f3]
      grind
end FW
end
section
namespace FW
open PySem PyProof.Rows PySem.Spec L2 DL
theorem mkRat_mul_div {q : Rat} {p w : Int} (hw : 0 < w) : mkRat (q.num * p) (q.den * w.toNat) = q * p / w := by
  have h1 : (q.den : Rat) ≠ 0 := by exact_mod_cast q.den_nz
  have h2 : ((w.toNat : Int)) = w := Int.toNat_of_nonneg (Int.le_of_lt hw)
  have h3 : (w : Rat) ≠ 0 := by
    intro z
    have : w = 0 := by exact_mod_cast z
    omega
  have hq : q * (q.den : Rat) = (q.num : Rat) := by
    have h4 := Rat.mkRat_self q
    rw [Rat.mkRat_eq_div] at h4
    grind
  rw [Rat.mkRat_eq_div]
  have e3 : (w.toNat : Rat) = (w : Rat) := by
    rw [← Rat.intCast_natCast, h2]
  have e : ((q.den * w.toNat : Nat) : Rat) = (q.den : Rat) * (w : Rat) := by
    rw [Rat.natCast_mul, e3]
  have e2 : ((q.num * p : Int) : Rat) = (q.num : Rat) * (p : Rat) := by simp
  rw [e, e2, ← hq]
  grind
theorem fr_mul (q r : Rat) : (mkRat q.num r.den).num * (mkRat r.num q.den).num = (q * r).num ∧ (mkRat r.num q.den).den * (mkRat q.num r.den).den = (q * r).den := by
  have h1 : ¬ r.den = 0 := r.den_nz
  have h2 : ¬ q.den = 0 := q.den_nz
  have e : q * r = Rat.mul q r := rfl
  rw [e]
  unfold Rat.mul
  simp only [Rat.num_mkRat, Rat.den_mkRat, if_neg h1, if_neg h2]
  have d1 : ((q.num.natAbs.gcd r.den : Nat) : Int) ∣ q.num := Int.ofNat_dvd_left.mpr (Nat.gcd_dvd_left _ _)
  have d2 : ((r.num.natAbs.gcd q.den : Nat) : Int) ∣ r.num := Int.ofNat_dvd_left.mpr (Nat.gcd_dvd_left _ _)
  rw [Nat.gcd_comm r.den, Nat.gcd_comm q.den]
  simp only [Int.divExact_eq_tdiv, Nat.divExact_eq_div, Int.tdiv_eq_ediv_of_dvd d1, Int.tdiv_eq_ediv_of_dvd d2]
  exact ⟨trivial, trivial⟩
theorem share_ok {q : Rat} {p w : Int} {n : Nat} {S : Sto} (h : Sz n q) (hn : n ≤ 5000) (hp : p.natAbs < 2 ^ 100) (hw : 0 < w) (hw2 : w < 2 ^ 100) : f_share_z [fr q, .int p, .int w] S = some (fr (q * p / w), S) := by
  obtain ⟨v, rfl⟩ : ∃ v : Nat, w = (v : Int) := ⟨w.toNat, by omega⟩
  have hv0 : 0 < v := by omega
  have hv1 : v < 2 ^ 100 := by omega
  have hv : v < 2 ^ 8000 := Nat.lt_of_lt_of_le hv1 (Nat.pow_le_pow_right (by decide) (by decide))
  have hd : q.den < 2 ^ 8000 := Nat.lt_of_lt_of_le h.2 (Nat.pow_le_pow_right (by decide) (by omega))
  have k1 := lowest_ok (a := p) (b := v) (S := S) hv0 hv
  have er : q * p / ((v : Nat) : Int) = q * mkRat p v := by
    rw [Rat.mkRat_eq_div]
    have h3 : (v : Rat) ≠ 0 := by
      intro z
      have : v = 0 := by exact_mod_cast z
      omega
    rw [Rat.intCast_natCast]
    grind
  rw [er]
  have z1 : Sz 100 (mkRat p v) := sz_mkRat hv0 hp hv1
  generalize hr : mkRat p v = r at k1 z1
  have k2 := lowest_ok (a := q.num) (b := r.den) (S := S) r.den_pos (Nat.lt_of_lt_of_le z1.2 (Nat.pow_le_pow_right (by decide) (by decide)))
  have k3 := lowest_ok (a := r.num) (b := q.den) (S := S) q.den_pos hd
  obtain ⟨e1, e2⟩ := fr_mul q r
  have z2 : Sz 5000 (mkRat q.num r.den) := sz_mkRat r.den_pos (Nat.lt_of_lt_of_le h.1 (Nat.pow_le_pow_right (by decide) hn)) (Nat.lt_of_lt_of_le z1.2 (Nat.pow_le_pow_right (by decide) (by decide)))
  have z3 : Sz 5000 (mkRat r.num q.den) := sz_mkRat q.den_pos (Nat.lt_of_lt_of_le z1.1 (Nat.pow_le_pow_right (by decide) (by decide))) (Nat.lt_of_lt_of_le h.2 (Nat.pow_le_pow_right (by decide) hn))
  generalize hx : mkRat q.num r.den = x at k2 e1 e2 z2
  generalize hy : mkRat r.num q.den = y at k3 e1 e2 z3
  have f1 := z2.fn (by decide); have f2 := z2.fd (by decide); have f3 := z3.fn (by decide); have f4 := z3.fd (by decide)
  simp [f_share_z, fnF, b_share_z, ixD, fr, startD] at k1 k2 k3 ⊢
  simp [k1, k2, k3, f1, f2, f3, f4, e1]
  rw [← e2]
  push_cast
  rfl
/-- a pool, as the program holds it -/
def pl (p : List Tk) : DV := .tup [dI (p.map (·.1)), fr (Am p)]
theorem sum_Wi : ∀ p : List Tk, (((p.map (·.1)).sum : Int) : Rat) = Wi p
  | [] => by simp [Wi]
  | t :: p => by
    simp only [List.map_cons, List.sum_cons, Wi, ← sum_Wi p]
    simp
theorem sum_small : ∀ {p : List Tk}, (∀ t ∈ p, 1 ≤ t.1 ∧ t.1 ≤ 1000) → p.length ≤ (p.map (·.1)).sum ∧ (p.map (·.1)).sum ≤ 1000 * p.length
  | [], _ => by simp
  | t :: p, h => by
    have h1 := h t (List.mem_cons_self)
    have h2 := sum_small (p := p) fun x hx => h x (List.mem_cons_of_mem _ hx)
    simp only [List.map_cons, List.sum_cons, List.length_cons]
    omega
theorem pool_height_ok {p : List Tk} {n : Nat} {S : Sto} (hf : ∀ t ∈ p, 1 ≤ t.1 ∧ t.1 ≤ 1000) (h0 : p ≠ []) (hl : p.length ≤ 1000) (h : Sz n (Am p)) (hn : n ≤ 5000) : f_pool_height_z [pl p] S = some (fr (ht p), S) := by
  obtain ⟨h1, h2⟩ := sum_small hf
  have h3 : 0 < p.length := List.length_pos_iff.mpr h0
  have key := share_ok (S := S) (p := 1) (w := (p.map (·.1)).sum) h hn (by decide) (by omega) (by omega)
  have e : Am p * ((1 : Int) : Rat) / (((p.map (·.1)).sum : Int) : Rat) = ht p := by
    rw [sum_Wi]
    unfold ht
    simp [Rat.mul_one]
  rw [e] at key
  have hs : sumD [dI (p.map (·.1))] S = some (.int (p.map (·.1)).sum, S) := by
    have := toIs_map (p.map (·.1))
    simp only [sumD, dI, rdL_lst, this]
  simp [f_pool_height_z, fnF, b_pool_height_z, pl, hs, key]
theorem sz_share {q : Rat} {p w : Int} {n : Nat} (h : Sz n q) (hp : p.natAbs < 2 ^ 100) (hw : 0 < w) (hw2 : w < 2 ^ 100) : Sz (n + 100) (q * p / w) := by
  rw [← mkRat_mul_div hw]
  refine sz_mkRat (Nat.mul_pos q.den_pos (by omega)) ?_ ?_
  · rw [Int.natAbs_mul, Nat.pow_add]
    exact Nat.mul_lt_mul'' h.1 hp
  · rw [Nat.pow_add]
    exact Nat.mul_lt_mul'' h.2 (by omega)
theorem sz_ht {p : List Tk} {n : Nat} (hf : ∀ t ∈ p, 1 ≤ t.1 ∧ t.1 ≤ 1000) (h0 : p ≠ []) (hl : p.length ≤ 1000) (h : Sz n (Am p)) : Sz (n + 100) (ht p) := by
  obtain ⟨h1, h2⟩ := sum_small hf
  have h3 : 0 < p.length := List.length_pos_iff.mpr h0
  have key := sz_share (p := 1) (w := (p.map (·.1)).sum) h (by decide) (by omega) (by omega)
  have e : Am p * ((1 : Int) : Rat) / (((p.map (·.1)).sum : Int) : Rat) = ht p := by
    rw [sum_Wi]
    unfold ht
    simp [Rat.mul_one]
  rw [e] at key
  exact key
theorem sz_Am {m : Nat} : ∀ {p : List Tk}, (∀ t ∈ p, Sz m t.2) → Sz (1 + p.length * (m + 1)) (Am p)
  | [], _ => sz_zero (by simp)
  | t :: p, h => by
    have h1 := (h t (List.mem_cons_self)).add (sz_Am (p := p) fun x hx => h x (List.mem_cons_of_mem _ hx))
    refine h1.mono ?_
    rw [List.length_cons, Nat.add_mul]
    omega
/-- a kind of amounts: each, and so many of them together, of bounded size -/
structure Zc where
  C : Rat → Prop
  L : Nat
  B : Nat
  one : ∀ q, C q → Sz B q
  sum : ∀ p : List Tk, (∀ t ∈ p, C t.2) → p.length ≤ L → Sz B (Am p)
def zS (m L : Nat) : Zc where
  C := Sz m
  L := L
  B := 1 + (L + 1) * (m + 1)
  one := fun q h => h.mono (by
    have := Nat.le_mul_of_pos_left (m + 1) (show 0 < L + 1 by omega)
    omega)
  sum := fun p h hl => (sz_Am h).mono (by
    have := Nat.mul_le_mul_right (m + 1) (show p.length ≤ L + 1 by omega)
    omega)
structure OkT (m : Zc) (t : Tk) : Prop where
  lo : 1 ≤ t.1
  hi : t.1 ≤ 1000
  sz : m.C t.2
def OkP (m : Zc) (p : List Tk) : Prop := p ≠ [] ∧ ∀ t ∈ p, OkT m t
theorem OkP.fl {m : Zc} {p : List Tk} (h : OkP m p) : ∀ t ∈ p, 1 ≤ t.1 ∧ t.1 ≤ 1000 := fun t ht => ⟨(h.2 t ht).lo, (h.2 t ht).hi⟩
theorem OkP.am {m : Zc} {L : Nat} {p : List Tk} (h : OkP m p) (hl : p.length ≤ L) (hL : L ≤ m.L := by first | assumption | omega) : Sz m.B (Am p) := m.sum p (fun t ht => (h.2 t ht).sz) (Nat.le_trans hl hL)
theorem OkP.app {m : Zc} {a b : List Tk} (h : OkP m a) (g : OkP m b) : OkP m (a ++ b) := ⟨by simp [h.1], fun t ht => by
  rcases List.mem_append.mp ht with ht | ht
  · exact h.2 t ht
  · exact g.2 t ht⟩
noncomputable def wC : DT := dAnd (dTru (dVar 2)) (dTest (dCall 2 f_above_z [] (dCons (dCall 1 f_pool_height_z [] (dCons (dOp ixD (dVar 2) (dUn negD (dC (.int 1)))) dNil)) (dCons (dCall 1 f_pool_height_z [] (dCons (dVar 5) dNil)) dNil))))
noncomputable def wB : DS := (dSeq (dAsg (dBM0 "list" popD (dVar 2)) (dGTup 2 (dGCons (dName 6) (dGCons (dName 7) dGNil))))
    (dAsg (dTup (dCons (dOp (addD false) (dVar 6) (dOp ixD (dVar 5) (dC (.int 0)))) (dCons (dCall 2 f_plus_z [] (dCons (dVar 7) (dCons (dOp ixD (dVar 5) (dC (.int 1))) dNil))) dNil))) (dName 5)))
theorem pool_while {S : Sto} {x0 x1 v3 v4 : Option DV} {m0 : Zc} {L : Nat} (hL : L ≤ 1000) (hL2 : L ≤ m0.L ∧ m0.B ≤ 3000) : ∀ (st : List (List Tk)) (p : List Tk) (v6 v7 : Option DV) (m : Nat), st.length < m → (∀ q ∈ st, OkP m0 q) → OkP m0 p → st.flatten.length + p.length ≤ L →
    ∃ p' st' v6' v7', mg st p = p' :: st' ∧ whileF wC wB m [x0, x1, some (.ptr S.length), v3, v4, some (pl p), v6, v7] (S ++ [.ml (st.reverse.map pl)]) =
      some (.nx [x0, x1, some (.ptr S.length), v3, v4, some (pl p'), v6', v7'] (S ++ [.ml (st'.reverse.map pl)]))
  | [], p, v6, v7, m, hm, _, hp, hl => by
    obtain ⟨m, rfl⟩ : ∃ k, m = k + 1 := ⟨m - 1, by simp at hm; omega⟩
    refine ⟨p, [], v6, v7, rfl, while_end (S1 := S ++ [.ml []]) ?_⟩
    simp [wC, truD]
  | t :: st, p, v6, v7, m, hm, hs, hp, hl => by
    obtain ⟨m, rfl⟩ : ∃ k, m = k + 1 := ⟨m - 1, by simp at hm; omega⟩
    have ht' := hs t (List.mem_cons_self)
    have lt : t.length ≤ L := by simp at hl; omega
    have lp : p.length ≤ L := by omega
    have at_ := ht'.am lt
    have ap := hp.am lp
    have e1 := fun S => pool_height_ok (S := S) ht'.fl ht'.1 (by omega) at_ (by omega)
    have e2 := fun S => pool_height_ok (S := S) hp.fl hp.1 (by omega) ap (by omega)
    have e3 := fun S => above_ok (S := S) (sz_ht ht'.fl ht'.1 (by omega) at_) (sz_ht hp.fl hp.1 (by omega) ap) (by omega) (by omega)
    obtain ⟨Z, hZ⟩ : ∃ Z, Z = st.reverse.map pl := ⟨_, rfl⟩
    have rv : (t :: st).reverse.map pl = Z ++ [pl t] := by simp [hZ]
    have ix : ∀ S : Sto, ixD (.ptr S.length) (.int (-1)) (S ++ [.ml (Z ++ [pl t])]) = some (pl t, S ++ [.ml (Z ++ [pl t])]) := fun S => by
      have : L2.atI (Z ++ [pl t]) (-1) = some (pl t) := L2.atI_last _ _
      simp only [ixD, rdL_top, Option.or, this]
    have tr : truD (S ++ [.ml (Z ++ [pl t])]) (.ptr S.length) = some true := by
      simp [truD]
    by_cases h : ht p < ht t
    · obtain ⟨p', st', v6', v7', e, ew⟩ := pool_while (S := S) (x0 := x0) (x1 := x1) (v3 := v3) (v4 := v4) hL hL2 st (t ++ p) (some (dI (t.map (·.1)))) (some (fr (Am t))) m (by simp at hm; omega) (fun q hq => hs q (List.mem_cons_of_mem _ hq)) (ht'.app hp) (by simp at hl ⊢; omega)
      refine ⟨p', st', v6', v7', by unfold mg; rw [if_pos h]; exact e, ?_⟩
      rw [← hZ] at ew
      rw [rv, while_step (S1 := S ++ [.ml (Z ++ [pl t])]) (s2 := [x0, x1, some (.ptr S.length), v3, v4, some (pl (t ++ p)), some (dI (t.map (·.1))), some (fr (Am t))]) (S2 := S ++ [.ml Z]) ?_ ?_]
      · exact ew
      · simp [wC, tr, ix, e1, e2, e3, h]
      · have pp : popD (.ptr S.length) [] (S ++ [.ml (Z ++ [pl t])]) = some (pl t, S ++ [.ml Z]) := by
          simp [popD]
        have pq := fun S => plus_ok (S := S) at_ ap (by omega)
        have i0 : ∀ S, ixD (pl p) (.int 0) S = some (dI (p.map (·.1)), S) := fun S => ixD_tup (by simp)
        have i1 : ∀ S, ixD (pl p) (.int 1) S = some (fr (Am p), S) := fun S => ixD_tup (by simp)
        have ad : ∀ S, addD false (dI (t.map (·.1))) (dI (p.map (·.1))) S = some (dI ((t ++ p).map (·.1)), S) := fun S => by
          rw [dI, dI, addD_lst, gate_ok (by simp; omega)]
          simp [dI]
        have ep : pl (t ++ p) = .tup [dI ((t ++ p).map (·.1)), fr (Am t + Am p)] := by unfold pl; rw [Am_app]
        rw [ep]
        simp only [wB]
        refine seq_nx (s1 := [x0, x1, some (.ptr S.length), v3, v4, some (pl p), some (dI (t.map (·.1))), some (fr (Am t))]) (S1 := S ++ [.ml Z]) ?_ ?_
        · simp [pp]
          simp [pl]
        · simp [i0, i1, ad, pq]
    · refine ⟨p, t :: st, v6, v7, by unfold mg; rw [if_neg h], ?_⟩
      rw [rv, while_end (S1 := S ++ [.ml (Z ++ [pl t])]) ?_]
      simp [wC, tr, ix, e1, e2, e3, h]
end FW
end
section
namespace FW
open PySem PyProof.Rows PySem.Spec L2 DL
theorem mg_okP {m0 : Zc} : ∀ {st : List (List Tk)} {p : List Tk}, (∀ q ∈ st, OkP m0 q) → OkP m0 p → (∀ q ∈ mg st p, OkP m0 q) ∧ (mg st p).flatten.length = st.flatten.length + p.length
  | [], p, _, hp => ⟨fun q hq => by cases List.mem_singleton.mp hq; exact hp, by simp [mg]⟩
  | t :: st, p, hs, hp => by
    unfold mg
    split
    · obtain ⟨h1, h2⟩ := mg_okP (st := st) (p := t ++ p) (fun q hq => hs q (List.mem_cons_of_mem _ hq)) ((hs t (List.mem_cons_self)).app hp)
      refine ⟨h1, ?_⟩
      rw [h2]
      simp
      omega
    · refine ⟨fun q hq => ?_, by simp; omega⟩
      rcases List.mem_cons.mp hq with rfl | hq
      · exact hp
      · exact hs q hq
noncomputable def stk (st : List (List Tk)) (l : List Tk) : List (List Tk) := l.foldl (fun st t => mg st [t]) st
noncomputable def pools (l : List Tk) : List (List Tk) := (stk [] l).reverse
noncomputable def pB : DS := (dSeq (dAsg (dTup (dCons (dLst false (dCons (dVar 3) dNil)) (dCons (dVar 4) dNil))) (dName 5))
    (dSeq (dWhile wC wB) (dDrop (dBM "list" appendD (dVar 2) (dCons (dVar 5) dNil)))))
theorem pool_for {S : Sto} {x0 x1 : Option DV} {m0 : Zc} {L : Nat} (hL : L ≤ 1000) (hL2 : L ≤ m0.L ∧ m0.B ≤ 3000) : ∀ (l : List Tk) (st : List (List Tk)) (v3 v4 v5 v6 v7 : Option DV), (∀ t ∈ l, OkT m0 t) → (∀ q ∈ st, OkP m0 q) → st.flatten.length + l.length ≤ L → st.length ≤ st.flatten.length →
    ∃ w3 w4 w5 w6 w7, forL (dGTup 2 (dGCons (dName 3) (dGCons (dName 4) dGNil))) pB (l.map fun t => DV.tup [.int t.1, fr t.2]) [x0, x1, some (.ptr S.length), v3, v4, v5, v6, v7] (S ++ [.ml (st.reverse.map pl)]) =
      some (.nx [x0, x1, some (.ptr S.length), w3, w4, w5, w6, w7] (S ++ [.ml ((stk st l).reverse.map pl)]))
  | [], st, v3, v4, v5, v6, v7, _, _, _, _ => ⟨v3, v4, v5, v6, v7, rfl⟩
  | t :: l, st, v3, v4, v5, v6, v7, ht, hs, hl, hn => by
    have t0 := ht t (List.mem_cons_self)
    have hp : OkP m0 [t] := ⟨by simp, fun x hx => by cases List.mem_singleton.mp hx; exact t0⟩
    rw [List.length_cons] at hl
    obtain ⟨p', st', v6', v7', e, ew⟩ := pool_while (S := S) (x0 := x0) (x1 := x1) (v3 := some (.int t.1)) (v4 := some (fr t.2)) hL hL2 st [t] v6 v7 FUEL (lt_fuel (k := 1000) (Nat.lt_of_le_of_lt (show st.length ≤ 1000 by omega) (Nat.lt_of_lt_of_le (show 1000 < 2 ^ 10 by decide) (Nat.pow_le_pow_right (by decide) (by decide)))) (by decide)) hs hp (by show _ + 1 ≤ L; omega)
    obtain ⟨k1, k2⟩ := mg_okP hs hp
    obtain ⟨w3, w4, w5, w6, w7, ef⟩ := pool_for (S := S) (x0 := x0) (x1 := x1) hL hL2 l (mg st [t]) (some (.int t.1)) (some (fr t.2)) (some (pl p')) v6' v7' (fun x hx => ht x (List.mem_cons_of_mem _ hx)) k1 (by rw [k2]; show st.flatten.length + 1 + l.length ≤ L; omega) (by
      have hne : ∀ q ∈ mg st [t], 1 ≤ q.length := fun q hq => List.length_pos_iff.mpr (k1 q hq).1
      have gen : ∀ z : List (List Tk), (∀ q ∈ z, 1 ≤ q.length) → z.length ≤ z.flatten.length := fun z => by
        induction z with
        | nil => intro _; exact Nat.le_refl _
        | cons a z ih =>
          intro h
          have h1 := h a (List.mem_cons_self)
          have h2 := ih fun q hq => h q (List.mem_cons_of_mem _ hq)
          simp only [List.length_cons, List.flatten_cons, List.length_append]
          omega
      exact gen _ hne)
    refine ⟨w3, w4, w5, w6, w7, ?_⟩
    have e1 : pl [t] = .tup [.lst [.int t.1], fr t.2] := by
      unfold pl
      simp [dI, Am, Rat.add_zero]
    have en : (mg st [t]).reverse.map pl = st'.reverse.map pl ++ [pl p'] := by rw [e]; simp
    have ln : st'.reverse.length < 100000 := by
      have : (mg st [t]).length ≤ (mg st [t]).flatten.length := by
        have hne : ∀ q ∈ mg st [t], 1 ≤ q.length := fun q hq => List.length_pos_iff.mpr (k1 q hq).1
        have gen : ∀ z : List (List Tk), (∀ q ∈ z, 1 ≤ q.length) → z.length ≤ z.flatten.length := fun z => by
          induction z with
          | nil => intro _; exact Nat.le_refl _
          | cons a z ih =>
            intro h
            have h1 := h a (List.mem_cons_self)
            have h2 := ih fun q hq => h q (List.mem_cons_of_mem _ hq)
            simp only [List.length_cons, List.flatten_cons, List.length_append]
            omega
        exact gen _ hne
      rw [k2, e, List.length_cons, List.length_singleton] at this
      rw [List.length_reverse]
      omega
    have body : pB [x0, x1, some (.ptr S.length), some (.int t.1), some (fr t.2), v5, v6, v7] (S ++ [.ml (st.reverse.map pl)]) = some (.nx [x0, x1, some (.ptr S.length), some (.int t.1), some (fr t.2), some (pl p'), v6', v7'] (S ++ [.ml ((mg st [t]).reverse.map pl)])) := by
      unfold pB
      refine seq_nx (asg_name (d := pl [t]) (S1 := S ++ [.ml (st.reverse.map pl)]) (by rw [e1]; simp)) ?_
      refine seq_nx (show dWhile wC wB _ _ = _ from ew) ?_
      rw [en]
      refine drop_of (d := .non) ?_
      obtain ⟨Z, hZ⟩ : ∃ Z, Z = st'.reverse.map pl := ⟨_, rfl⟩
      have lz : Z.length < 100000 := by rw [hZ, List.length_map]; exact ln
      rw [← hZ]
      have := appendD_top (S := S) (ds := Z) (d := pl p') lz
      simp [this]
    simp only [List.map_cons, forL, dGTup, dGCons, dGNil, dName, List.length_cons, List.length_nil, if_true, List.set_cons_succ, List.set_cons_zero, body, kLoop]
    exact ef
theorem pooled_ok {l : List Tk} {m0 : Zc} {S : Sto} (hok : ∀ t ∈ l, OkT m0 t) (hl : l.length ≤ 1000) (hL2 : l.length ≤ m0.L ∧ m0.B ≤ 3000) : f_pooled_z [dI (l.map (·.1)), dF (l.map (·.2))] S = some (.lst ((pools l).map pl), S) := by
  obtain ⟨w3, w4, w5, w6, w7, e⟩ := pool_for (S := S) (x0 := some (dI (l.map (·.1)))) (x1 := some (dF (l.map (·.2)))) hl hL2 l [] none none none none none hok (fun q hq => by cases hq) (by simp) (by simp)
  simp only [List.reverse_nil, List.map_nil] at e
  have zp : itemsOf (.zp (dI (l.map (·.1))) (dF (l.map (·.2)))) = some (l.map fun t => DV.tup [.int t.1, fr t.2]) := by
    unfold dI dF
    rw [items_zp]
    congr 1
    clear e hok hl hL2
    induction l with
    | nil => rfl
    | cons t l ih =>
      simp only [List.map_cons, List.zipWith_cons_cons, ih]
  have key : dFor (diZ (dCons (dVar 0) (dCons (dVar 1) dNil))) (dGTup 2 (dGCons (dName 3) (dGCons (dName 4) dGNil))) pB [some (dI (l.map (·.1))), some (dF (l.map (·.2))), some (.ptr S.length), none, none, none, none, none] (S ++ [.ml []]) = _ :=
    for_of (it := .zp (dI (l.map (·.1))) (dF (l.map (·.2)))) (S1 := S ++ [.ml []]) (by simp [diZ, dI, dF]) zp e
  refine fn_rt (d := .ptr S.length) (S1 := S ++ [.ml ((pools l).map pl)]) ?_ ?_
  · refine seq_nx (asg_name (d := .ptr S.length) (S1 := S ++ [.ml []]) (by simp)) ?_
    exact seq_nx key (ret_of rfl)
  · rw [exF_top]
    · rfl
    · exact clos_map (fun p => by
        unfold pl dI
        simp only [clo, clos, clos_int, clo_fr, Bool.and_self]) _
end FW
end
section
namespace FW
open PySem PyProof.Rows PySem.Spec L2 DL
theorem toVs_map : ∀ ns : List Int, toVs (ns.map DV.int) = some (ns.map V.int)
  | [] => rfl
  | n :: ns => by simp [toVs, toV, toVs_map ns]
theorem inV_map (f : Int) : ∀ ns : List Int, inV (.int f) (ns.map V.int) = decide (f ∈ ns)
  | [] => rfl
  | n :: ns => by
    have ih := inV_map f ns
    unfold inV at ih ⊢
    rw [List.map_cons, List.any_cons, ih]
    by_cases h : n = f
    · simp [h, eqV]
    · have h' : ¬ f = n := fun z => h z.symm
      simp [h, h', eqV]
theorem inD_ints {f : Int} {ns : List Int} {S : Sto} : inD false (.int f) (dI ns) S = some (.bl (decide (f ∈ ns)), S) := by
  have h := toVs_map ns
  have h2 := inV_map f ns
  simp [inD, dI, toV, h, h2]
theorem forF_same {tgt : DG} {body : DS} {it : DIt} {S : Sto} {xs : List DV} (hat : ∀ i, itemAt it S i = some xs[i]?) (I : Sl → Prop) (hx : ∀ x ∈ xs, ∀ s, I s → ∃ s1 s2, tgt x s S = some (s1, S) ∧ body s1 S = some (.nx s2 S) ∧ I s2) : ∀ (k i : Nat) (s : Sl), xs.length < k + i → i ≤ xs.length → I s → ∃ s', forF tgt body it k i s S = some (.nx s' S) ∧ I s'
  | 0, i, s, hk, hi, h => by omega
  | k + 1, i, s, hk, hi0, h => by
    have h1 := hat i
    by_cases hi : i < xs.length
    · rw [List.getElem?_eq_getElem hi] at h1
      obtain ⟨s1, s2, e1, e2, h2⟩ := hx xs[i] (List.getElem_mem hi) s h
      obtain ⟨s', e, h3⟩ := forF_same hat I hx k (i + 1) s2 (by omega) (by omega) h2
      exact ⟨s', by simp only [forF, h1, e1, e2, kLoop, e], h3⟩
    · rw [List.getElem?_eq_none (by omega)] at h1
      exact ⟨s, by simp only [forF, h1], h⟩
/-- bolted flaps, as a list in any order that can be read, or as the empty tuple that stands for none -/
def Bd (S : Sto) (bd : DV) (bs : List Int) : Prop := rdL S bd = some (bs.map DV.int) ∨ (bd = .tup [] ∧ bs = [])
theorem rdL_app {S X : Sto} {d : DV} {ds : List DV} (h : rdL S d = some ds) : rdL (S ++ X) d = some ds := by
  cases d with
  | ptr n =>
    unfold rdL at h ⊢
    simp only at h ⊢
    split at h
    · rename_i es q
      rw [List.getElem?_append_left (List.getElem?_eq_some_iff.mp q).1, q]
      exact h
    · cases h
  | _ => exact h
theorem Bd.app {S X : Sto} {bd : DV} {bs : List Int} (h : Bd S bd bs) : Bd (S ++ X) bd bs := h.imp rdL_app id
theorem en_of {S : Sto} {bd : DV} {ds : List DV} {fe : DE} {s : Sl} (h : rdL S bd = some ds) (e : fe s S = some (bd, S)) : diEE (dCons fe dNil) s S = some (.en bd, S) := by
  have h' : (rdL S bd).isSome = true := by rw [h]; rfl
  cases bd with
  | tup ds => cases h
  | _ => simp [diEE, e, h']
theorem check_bolted_ok {ns bs : List Int} {bd : DV} {S : Sto} (hb : Bd S bd bs) (h : ∀ b ∈ bs, 1 ≤ b ∧ b < ns.length) (hn : bs.Nodup) : f_check_bolted_z [dI ns, bd] S = some (.non, S) := by
  rcases hb with hb | ⟨rfl, rfl⟩
  · obtain ⟨s', e, _⟩ := forF_same (tgt := dGTup 2 (dGCons (dName 2) (dGCons (dName 3) dGNil))) (body := (dIfS (dOr (dTest (dInRg true (dVar 3) (dCons (dC (.int 1)) (dCons (dCB lenD (dCons (dVar 0) dNil)) dNil)))) (dTest (dOp (inD false) (dVar 3) (dSlL false (dVar 1) doN (doS (dVar 2))))))
      dNever dNext)) (it := .en bd) (S := S) (xs := (bs.map DV.int).mapIdx fun i x => DV.tup [.int (i : Nat), x]) (fun i => by
      simp only [DL.itemAt, hb, List.getElem?_mapIdx]
      cases (bs.map DV.int)[i]? <;> rfl) (fun s => ∃ a b, s = [some (dI ns), some bd, a, b]) (fun x hx s hs => by
      obtain ⟨a, b, rfl⟩ := hs
      rw [List.mem_mapIdx] at hx
      obtain ⟨i, hi, rfl⟩ := hx
      have hi' : i < bs.length := by simpa using hi
      have hr := h bs[i] (List.getElem_mem hi')
      refine ⟨[some (dI ns), some bd, some (.int (i : Nat)), some (.int bs[i])], [some (dI ns), some bd, some (.int (i : Nat)), some (.int bs[i])], by simp, ?_, _, _, rfl⟩
      have hc : cutL (bs.map DV.int) none (some (i : Int)) = (bs.take i).map DV.int := by
        rw [cut_take (by simp; omega), List.map_take]
      have hm : bs[i] ∉ bs.take i := fun z => by
        obtain ⟨j, hj, e⟩ := List.getElem_of_mem z
        have hj' : j < i := by simp at hj; omega
        rw [List.getElem_take] at e
        exact List.pairwise_iff_getElem.mp hn j i (by omega) hi' hj' e
      have hin := inD_ints (f := bs[i]) (ns := bs.take i) (S := S)
      unfold dI at hin
      have hlen : lenD [dI ns] S = some (.int (ns.length : Nat), S) := by simp [dI]
      simp [dSlL, hlen, hr.1, hr.2, hb]
      rw [hc, hin]
      simp [hm]) (itLen (.en bd) S + 1) 0 [some (dI ns), some bd, none, none] (by simp [itLen, hb]) (Nat.zero_le _) ⟨_, _, rfl⟩
    refine fn_nx (s := s') (S1 := S) ?_ exF_same
    show dFor _ _ _ [some (dI ns), some bd, none, none] S = _
    rw [dFor, en_of (fe := dVar 1) hb (by simp), bnd_some']
    exact e
  · refine fn_nx (s := startD 4 [dI ns, .tup []]) (S1 := S) ?_ exF_same
    exact for_of (it := .em (.tup [])) (S1 := S) rfl rfl rfl
/-! ### stretches -/
noncomputable def cuts (bs : List Int) (n : Nat) : List Int := 0 :: (sortI bs ++ [(n : Int)])
noncomputable def pairs (bs : List Int) (n : Nat) : List (Int × Int) := (cuts bs n).zip ((cuts bs n).drop 1)
theorem zip_tup : ∀ xs ys : List Int, List.zipWith (fun x y => DV.tup [x, y]) (xs.map DV.int) (ys.map DV.int) = (xs.zip ys).map fun p => DV.tup [.int p.1, .int p.2]
  | [], ys => by simp
  | x :: xs, [] => by simp
  | x :: xs, y :: ys => by simp [zip_tup xs ys]
theorem stretches_ok {ns bs : List Int} {bd : DV} {S : Sto} (hb : Bd S bd bs) (hl : bs.length ≤ 1000) : f_stretches_z [dI ns, bd] S = some (.lst ((pairs bs ns.length).map fun p => DV.tup [.int p.1, .int p.2]), S) := by
  have hs : sortBD false [bd] S = some (dI (sortI bs), S) := by
    rcases hb with hb | ⟨rfl, rfl⟩
    · have := toIs_map bs
      simp [sortBD, dI, this, hb]
    · rfl
  have hsl : (sortI bs).length = bs.length := by
    unfold sortI
    exact List.length_mergeSort bs
  have a1 : addD false (.lst [.int 0]) (dI (sortI bs)) S = some (dI (0 :: sortI bs), S) := by
    rw [dI, addD_lst, gate_ok (by simp [hsl]; omega)]
    simp [dI]
  have a2 : addD false (dI (0 :: sortI bs)) (.lst [.int (ns.length : Nat)]) S = some (dI (cuts bs ns.length), S) := by
    rw [dI, addD_lst, gate_ok (by simp [hsl]; omega)]
    simp [dI, cuts]
  have hlen : lenD [dI ns] S = some (.int (ns.length : Nat), S) := by simp [dI]
  have hc : cutL ((cuts bs ns.length).map DV.int) (some 1) none = ((cuts bs ns.length).drop 1).map DV.int := by
    unfold cutL
    have : HT.sIx ((cuts bs ns.length).map DV.int).length 0 (some 1) = 1 := by
      have := HT.sIx_nat ((cuts bs ns.length).map DV.int).length 0 1
      simp [cuts] at this ⊢
      omega
    rw [this, HT.sIx_none, List.map_drop]
    exact List.take_of_length_le (by simp)
  refine fn_rt (d := .lst ((pairs bs ns.length).map fun p => DV.tup [.int p.1, .int p.2])) (S1 := S) ?_ exF_same
  refine seq_nx (asg_name (d := dI (cuts bs ns.length)) (S1 := S) ?_) (ret_of ?_)
  · simp [hs, hlen, a1, a2]
  · simp [dLz, dSlL, dI, hc]
    exact zip_tup _ _
end FW
end
section
namespace FW
open PySem PyProof.Rows PySem.Spec L2 DL
def seg {α : Type} (l : List α) (p : Int × Int) : List α := (l.drop p.1.toNat).take (p.2.toNat - p.1.toNat)
theorem cut_seg {α : Type} {xs : List α} {a b : Nat} (hb : b ≤ xs.length) (ha : a ≤ b) : cutL xs (some (a : Int)) (some (b : Int)) = seg xs ((a : Int), (b : Int)) := by
  unfold cutL seg
  rw [HT.sIx_nat, HT.sIx_nat, Nat.min_eq_left hb, Nat.min_eq_left (Nat.le_trans ha hb)]
  simp
theorem seg_map {α β : Type} {f : α → β} {l : List α} {p : Int × Int} : seg (l.map f) p = (seg l p).map f := by
  unfold seg
  rw [List.map_take, List.map_drop]
/-- what a pool's tanks have at rest -/
noncomputable def lay (p : List Tk) : List Rat := p.map fun t => ht p * (t.1 : Rat)
theorem share_lay {p : List Tk} {t : Tk} {m0 : Zc} {L : Nat} {S : Sto} (hp : OkP m0 p) (hl : p.length ≤ L) (hL : L ≤ 1000) (hL2 : L ≤ m0.L ∧ m0.B ≤ 3000) (ht' : t ∈ p) : f_share_z [fr (Am p), .int t.1, .int (p.map (·.1)).sum] S = some (fr (ht p * (t.1 : Rat)), S) := by
  obtain ⟨h1, h2⟩ := sum_small hp.fl
  have h3 : 0 < p.length := List.length_pos_iff.mpr hp.1
  have hb := hp.fl t ht'
  have key := share_ok (S := S) (p := t.1) (w := (p.map (·.1)).sum) (hp.am hl) (by omega) (by omega) (by omega) (by omega)
  rw [sum_Wi] at key
  rw [key]
  unfold ht
  congr 2
  grind
noncomputable def poolB : DS := (dSeq (dAsg (dCB sumD (dCons (dVar 6) dNil)) (dName 8))
    (dDrop (dBM "list" extendD (dVar 3) (dCons (dLc false (diL (dVar 6)) (dName 9) dYes (dCall 3 f_share_z [] (dCons (dVar 7) (dCons (dVar 9) (dCons (dVar 8) dNil)))) [9]) dNil))))
theorem extendD_top {S : Sto} {ds es : List DV} (h : ds.length + es.length ≤ 100000) : extendD (.ptr S.length) [.lst es] (S ++ [.ml ds]) = some (.non, S ++ [.ml (ds ++ es)]) := by
  simp [extendD, gate_ok h]
theorem lay_for {S : Sto} {x0 x1 x2 v4 v5 : Option DV} {m0 : Zc} {L : Nat} (hL : L ≤ 1000) (hL2 : L ≤ m0.L ∧ m0.B ≤ 3000) : ∀ (ps : List (List Tk)) (acc : List Rat) (v6 v7 v8 v9 : Option DV), (∀ p ∈ ps, OkP m0 p) → acc.length + ps.flatten.length ≤ 50000 → ps.flatten.length ≤ L →
    ∃ w6 w7 w8 w9, forL (dGTup 2 (dGCons (dName 6) (dGCons (dName 7) dGNil))) poolB (ps.map pl) [x0, x1, x2, some (.ptr S.length), v4, v5, v6, v7, v8, v9] (S ++ [.ml (acc.map fr)]) =
      some (.nx [x0, x1, x2, some (.ptr S.length), v4, v5, w6, w7, w8, w9] (S ++ [.ml ((acc ++ ps.flatMap lay).map fr)]))
  | [], acc, v6, v7, v8, v9, _, _, _ => ⟨v6, v7, v8, v9, by simp [forL]⟩
  | p :: ps, acc, v6, v7, v8, v9, h, hn, hn2 => by
    have hp := h p (List.mem_cons_self)
    rw [List.flatten_cons, List.length_append] at hn hn2
    obtain ⟨w6, w7, w8, w9, e⟩ := lay_for (S := S) (x0 := x0) (x1 := x1) (x2 := x2) (v4 := v4) (v5 := v5) hL hL2 ps (acc ++ lay p) (some (dI (p.map (·.1)))) (some (fr (Am p))) (some (.int (p.map (·.1)).sum)) v9 (fun q hq => h q (List.mem_cons_of_mem _ hq)) (by simp only [List.length_append, lay, List.length_map]; omega) (by omega)
    refine ⟨w6, w7, w8, w9, ?_⟩
    have hs : ∀ S, sumD [dI (p.map (·.1))] S = some (.int (p.map (·.1)).sum, S) := fun S => by
      have := toIs_map (p.map (·.1))
      simp only [sumD, dI, rdL_lst, this]
    have lc : dLc false (diL (dVar 6)) (dName 9) dYes (dCall 3 f_share_z [] (dCons (dVar 7) (dCons (dVar 9) (dCons (dVar 8) dNil)))) [9] [x0, x1, x2, some (.ptr S.length), v4, v5, some (dI (p.map (·.1))), some (fr (Am p)), some (.int (p.map (·.1)).sum), v9] (S ++ [.ml (acc.map fr)]) = some (.lst ((lay p).map fr), S ++ [.ml (acc.map fr)]) := by
      refine (lc_of (it := .li (dI (p.map (·.1)))) (xs := (p.map (·.1)).map DV.int) (acc := (lay p).map fr) (S1 := S ++ [.ml (acc.map fr)]) (S2 := S ++ [.ml (acc.map fr)]) (by simp [diL, dI]) rfl ?_ (by simp only [List.length_map, lay]; omega)).trans rfl
      rw [lcL_map (g := fun x => match x with
        | .int i => fr (ht p * (i : Rat))
        | d => d) fun x hx => ?_]
      · simp [lay, Function.comp_def]
      · obtain ⟨i, hi, rfl⟩ := List.mem_map.mp hx
        obtain ⟨t, htm, rfl⟩ := List.mem_map.mp hi
        have := share_lay (S := S ++ [.ml (acc.map fr)]) hp (by omega) hL hL2 htm
        exact ⟨_, rfl, rfl, by simp [wipeD, this]⟩
    have ex := extendD_top (S := S) (ds := acc.map fr) (es := (lay p).map fr) (by simp only [List.length_map, lay]; omega)
    have body : poolB [x0, x1, x2, some (.ptr S.length), v4, v5, some (dI (p.map (·.1))), some (fr (Am p)), v8, v9] (S ++ [.ml (acc.map fr)]) = some (.nx [x0, x1, x2, some (.ptr S.length), v4, v5, some (dI (p.map (·.1))), some (fr (Am p)), some (.int (p.map (·.1)).sum), v9] (S ++ [.ml ((acc ++ lay p).map fr)])) := by
      unfold poolB
      refine seq_nx (asg_name (d := .int (p.map (·.1)).sum) (S1 := S ++ [.ml (acc.map fr)]) (by simp [hs])) ?_
      refine drop_of (d := .non) ?_
      rw [List.map_append]
      simp only [dBM, dCons, dVar, List.getElem?_cons_zero, List.getElem?_cons_succ, List.set_cons_succ, List.set_cons_zero, bnd_some', rdL_top, Option.isSome_some, and_self, if_true, lc, dNil, ex]
    simp only [List.map_cons, forL, pl, dGTup, dGCons, dGNil, dName, List.length_cons, List.length_nil, if_true, List.set_cons_succ, List.set_cons_zero, body, kLoop]
    rw [List.flatMap_cons, ← List.append_assoc]
    exact e
theorem stk_ok {m0 : Zc} : ∀ {l : List Tk} {st : List (List Tk)}, Stk st → (∀ q ∈ st, OkP m0 q) → (∀ t ∈ l, OkT m0 t) → Stk (stk st l) ∧ (∀ q ∈ stk st l, OkP m0 q) ∧ (stk st l).reverse.flatten = st.reverse.flatten ++ l
  | [], st, h1, h2, _ => ⟨h1, h2, by simp [stk]⟩
  | t :: l, st, h1, h2, ht' => by
    have t0 := ht' t (List.mem_cons_self)
    obtain ⟨k1, k2, _⟩ := mg_ok h1 (good_one t0.lo)
    obtain ⟨k3, _⟩ := mg_okP h2 (⟨by simp, fun x hx => by cases List.mem_singleton.mp hx; exact t0⟩ : OkP m0 [t])
    obtain ⟨e1, e2, e3⟩ := stk_ok (l := l) k1 k3 fun x hx => ht' x (List.mem_cons_of_mem _ hx)
    refine ⟨e1, e2, ?_⟩
    show (stk (mg st [t]) l).reverse.flatten = _
    rw [e3, k2]
    simp
theorem pools_ok {m0 : Zc} {l : List Tk} (h : ∀ t ∈ l, OkT m0 t) : (∀ q ∈ pools l, Good q ∧ OkP m0 q) ∧ (pools l).Pairwise (fun p q => ht p ≤ ht q) ∧ (pools l).flatten = l := by
  obtain ⟨h1, h2, h3⟩ := stk_ok (st := []) (l := l) ⟨(fun q hq => by cases hq), List.Pairwise.nil⟩ (fun q hq => by cases hq) h
  refine ⟨fun q hq => ?_, ?_, ?_⟩
  · have := List.mem_reverse.mp hq
    exact ⟨h1.good q this, h2 q this⟩
  · unfold pools
    rw [List.pairwise_reverse]
    exact h1.up
  · unfold pools
    rw [h3]
    simp
noncomputable def segs (l : List Tk) (prs : List (Int × Int)) : List Rat := prs.flatMap fun p => (pools (seg l p)).flatMap lay
structure PrOk (n : Nat) (p : Int × Int) : Prop where
  ex : ∃ a b : Nat, p = ((a : Int), (b : Int)) ∧ a ≤ b ∧ b ≤ n
theorem lay_len : ∀ ps : List (List Tk), (ps.flatMap lay).length = ps.flatten.length
  | [] => rfl
  | p :: ps => by
    rw [List.flatMap_cons, List.flatten_cons, List.length_append, List.length_append, lay_len ps]
    unfold lay
    rw [List.length_map]
theorem seg_len {α : Type} {l : List α} {p : Int × Int} : (seg l p).length ≤ l.length := by
  unfold seg
  simp
  omega
theorem seg_mem {α : Type} {l : List α} {p : Int × Int} {x : α} (h : x ∈ seg l p) : x ∈ l := List.mem_of_mem_drop (List.mem_of_mem_take h)
noncomputable def segB : DS := (dFor (diL (dCall 2 f_pooled_z [] (dCons (dSlL false (dVar 0) (doS (dVar 4)) (doS (dVar 5))) (dCons (dSlL false (dVar 1) (doS (dVar 4)) (doS (dVar 5))) dNil)))) (dGTup 2 (dGCons (dName 6) (dGCons (dName 7) dGNil))) poolB)
theorem seg_for {S : Sto} {bd : DV} {l : List Tk} {m0 : Zc} (hok : ∀ t ∈ l, OkT m0 t) (hL : l.length ≤ 1000) (hL2 : l.length ≤ m0.L ∧ m0.B ≤ 3000) : ∀ (prs : List (Int × Int)) (acc : List Rat) (v4 v5 v6 v7 v8 v9 : Option DV), (∀ p ∈ prs, PrOk l.length p) → acc.length + prs.length * l.length ≤ 40000 →
    ∃ w4 w5 w6 w7 w8 w9, forL (dGTup 2 (dGCons (dName 4) (dGCons (dName 5) dGNil))) segB (prs.map fun p => DV.tup [.int p.1, .int p.2]) [some (dI (l.map (·.1))), some (dF (l.map (·.2))), some bd, some (.ptr S.length), v4, v5, v6, v7, v8, v9] (S ++ [.ml (acc.map fr)]) =
      some (.nx [some (dI (l.map (·.1))), some (dF (l.map (·.2))), some bd, some (.ptr S.length), w4, w5, w6, w7, w8, w9] (S ++ [.ml ((acc ++ segs l prs).map fr)]))
  | [], acc, v4, v5, v6, v7, v8, v9, _, _ => ⟨v4, v5, v6, v7, v8, v9, by simp [forL, segs]⟩
  | p :: prs, acc, v4, v5, v6, v7, v8, v9, hp, hn => by
    obtain ⟨a, b, rfl, hab, hb⟩ := (hp p (List.mem_cons_self)).ex
    rw [List.length_cons, Nat.add_mul, Nat.one_mul] at hn
    have sl1 := seg_len (l := l) (p := ((a : Int), (b : Int)))
    have okS : ∀ t ∈ seg l ((a : Int), (b : Int)), OkT m0 t := fun t h => hok t (seg_mem h)
    obtain ⟨q1, q2, q3⟩ := pools_ok okS
    have lf : ((pools (seg l ((a : Int), (b : Int)))).flatMap lay).length = (seg l ((a : Int), (b : Int))).length := by rw [lay_len, q3]
    obtain ⟨u6, u7, u8, u9, e1⟩ := lay_for (S := S) (x0 := some (dI (l.map (·.1)))) (x1 := some (dF (l.map (·.2)))) (x2 := some bd) (v4 := some (.int (a : Int))) (v5 := some (.int (b : Int))) hL hL2 (pools (seg l ((a : Int), (b : Int)))) acc v6 v7 v8 v9 (fun q hq => (q1 q hq).2) (by rw [q3]; omega) (by rw [q3]; exact sl1)
    obtain ⟨w4, w5, w6, w7, w8, w9, e2⟩ := seg_for (S := S) (bd := bd) hok hL hL2 prs (acc ++ (pools (seg l ((a : Int), (b : Int)))).flatMap lay) (some (.int (a : Int))) (some (.int (b : Int))) u6 u7 u8 u9 (fun q hq => hp q (List.mem_cons_of_mem _ hq)) (by rw [List.length_append, lf]; omega)
    refine ⟨w4, w5, w6, w7, w8, w9, ?_⟩
    have c1 : cutL ((l.map (·.1)).map DV.int) (some (a : Int)) (some (b : Int)) = ((seg l ((a : Int), (b : Int))).map (·.1)).map DV.int := by
      rw [cut_seg (by simp; exact hb) hab, seg_map, seg_map]
    have c2 : cutL ((l.map (·.2)).map fr) (some (a : Int)) (some (b : Int)) = ((seg l ((a : Int), (b : Int))).map (·.2)).map fr := by
      rw [cut_seg (by simp; exact hb) hab, seg_map, seg_map]
    have po := pooled_ok (S := S ++ [.ml (acc.map fr)]) okS (by omega) (by omega)
    have it : (diL (dCall 2 f_pooled_z [] (dCons (dSlL false (dVar 0) (doS (dVar 4)) (doS (dVar 5))) (dCons (dSlL false (dVar 1) (doS (dVar 4)) (doS (dVar 5))) dNil)))) [some (dI (l.map (·.1))), some (dF (l.map (·.2))), some bd, some (.ptr S.length), some (.int (a : Int)), some (.int (b : Int)), v6, v7, v8, v9] (S ++ [.ml (acc.map fr)]) = some (.li (.lst ((pools (seg l ((a : Int), (b : Int)))).map pl)), S ++ [.ml (acc.map fr)]) := by
      unfold dI dF at po ⊢
      simp only [diL, dCall, dCons, dNil, dSlL, dVar, doS, List.getElem?_cons_zero, List.getElem?_cons_succ, bnd_some', rdL_lst, newL_f, c1, c2, List.append_nil, List.length_cons, List.length_nil, if_true, po]
      rfl
    have body : segB [some (dI (l.map (·.1))), some (dF (l.map (·.2))), some bd, some (.ptr S.length), some (.int (a : Int)), some (.int (b : Int)), v6, v7, v8, v9] (S ++ [.ml (acc.map fr)]) = _ := for_of it rfl e1
    simp only [List.map_cons, forL, dGTup, dGCons, dGNil, dName, List.length_cons, List.length_nil, if_true, List.set_cons_succ, List.set_cons_zero, body, kLoop]
    unfold segs at e2 ⊢
    rw [List.flatMap_cons, ← List.append_assoc]
    exact e2
theorem pairs_zip : ∀ {l : List Int}, l.Pairwise (· ≤ ·) → ∀ p ∈ l.zip (l.drop 1), p.1 ≤ p.2 ∧ p.1 ∈ l ∧ p.2 ∈ l
  | [], _, p, h => by simp at h
  | [x], _, p, h => by simp at h
  | x :: y :: l, hs, p, h => by
    obtain ⟨h1, h2⟩ := List.pairwise_cons.mp hs
    have h' : p ∈ (x, y) :: (y :: l).zip ((y :: l).drop 1) := h
    rcases List.mem_cons.mp h' with rfl | h'
    · exact ⟨h1 y (List.mem_cons_self), List.mem_cons_self, List.mem_cons_of_mem _ (List.mem_cons_self)⟩
    · obtain ⟨a, b, c⟩ := pairs_zip h2 p h'
      exact ⟨a, List.mem_cons_of_mem _ b, List.mem_cons_of_mem _ c⟩
theorem sortI_perm (ns : List Int) : (sortI ns).Perm ns := List.mergeSort_perm ns _
theorem sortI_up (ns : List Int) : (sortI ns).Pairwise (· ≤ ·) := by
  have := List.pairwise_mergeSort (le := fun (a b : Int) => decide (a ≤ b)) (fun a b c h1 h2 => by simp at *; omega) (fun a b => by simp; omega) ns
  exact this.imp fun h => by simpa using h
theorem cuts_ok {bs : List Int} {n : Nat} (h : ∀ b ∈ bs, 1 ≤ b ∧ b < (n : Int)) : (cuts bs n).Pairwise (· ≤ ·) ∧ ∀ x ∈ cuts bs n, 0 ≤ x ∧ x ≤ (n : Int) := by
  have hm : ∀ x ∈ sortI bs, 1 ≤ x ∧ x < (n : Int) := fun x hx => h x ((sortI_perm bs).mem_iff.mp hx)
  have hall : ∀ x ∈ cuts bs n, 0 ≤ x ∧ x ≤ (n : Int) := fun x hx => by
    rcases List.mem_cons.mp hx with rfl | hx
    · omega
    · rcases List.mem_append.mp hx with hx | hx
      · have := hm x hx
        omega
      · cases List.mem_singleton.mp hx
        omega
  refine ⟨List.pairwise_cons.mpr ⟨fun x hx => (hall x (List.mem_cons_of_mem _ hx)).1, List.pairwise_append.mpr ⟨sortI_up bs, List.pairwise_singleton _ _, fun x hx y hy => ?_⟩⟩, hall⟩
  cases List.mem_singleton.mp hy
  have := hm x hx
  omega
theorem pairs_ok {bs : List Int} {n : Nat} (h : ∀ b ∈ bs, 1 ≤ b ∧ b < (n : Int)) : (∀ p ∈ pairs bs n, PrOk n p) ∧ (pairs bs n).length ≤ bs.length + 1 := by
  obtain ⟨h1, h2⟩ := cuts_ok h
  refine ⟨fun p hp => ?_, ?_⟩
  · obtain ⟨a, b, c⟩ := pairs_zip h1 p hp
    have hb := h2 _ b
    have hc := h2 _ c
    obtain ⟨x, y⟩ := p
    exact ⟨x.toNat, y.toNat, by simp only [Int.toNat_of_nonneg hb.1, Int.toNat_of_nonneg hc.1], by simp at a hb hc; omega, by simp at a hb hc; omega⟩
  · unfold pairs
    rw [List.length_zip, List.length_drop]
    have : (cuts bs n).length = bs.length + 2 := by
      unfold cuts
      rw [List.length_cons, List.length_append, (sortI_perm bs).length_eq]
      rfl
    omega
/-- what settled tells -/
noncomputable def rest (l : List Tk) (bs : List Int) : List Rat := segs l (pairs bs l.length)
theorem at_rest_run {l : List Tk} {bs : List Int} {bd : DV} {m0 : Zc} {S : Sto} (hok : ∀ t ∈ l, OkT m0 t) (hL : l.length ≤ 100) (hL2 : l.length ≤ m0.L ∧ m0.B ≤ 3000) (hb : Bd S bd bs) (hbs : ∀ b ∈ bs, 1 ≤ b ∧ b < (l.length : Int)) (hbl : bs.length ≤ 100) :
    b_at_rest_k (startD 10 [dI (l.map (·.1)), dF (l.map (·.2)), bd]) S = some (.rt (.ptr S.length) (S ++ [.ml ((rest l bs).map fr)])) := by
  obtain ⟨p1, p2⟩ := pairs_ok hbs
  have st := stretches_ok (S := S ++ [.ml []]) (ns := l.map (·.1)) hb.app (by omega)
  rw [List.length_map] at st
  have hmul : (pairs bs l.length).length * l.length ≤ 101 * 100 := Nat.mul_le_mul (by omega) hL
  obtain ⟨w4, w5, w6, w7, w8, w9, e⟩ := seg_for (S := S) (bd := bd) hok (by omega) hL2 (pairs bs l.length) [] none none none none none none p1 (by simp; omega)
  have it : (diL (dCall 2 f_stretches_z [] (dCons (dVar 0) (dCons (dVar 2) dNil)))) [some (dI (l.map (·.1))), some (dF (l.map (·.2))), some bd, some (.ptr S.length), none, none, none, none, none, none] (S ++ [.ml []]) = some (.li (.lst ((pairs bs l.length).map fun p => DV.tup [.int p.1, .int p.2])), S ++ [.ml []]) := by
    simp [diL, st]
  have key : dFor (diL (dCall 2 f_stretches_z [] (dCons (dVar 0) (dCons (dVar 2) dNil)))) (dGTup 2 (dGCons (dName 4) (dGCons (dName 5) dGNil))) segB [some (dI (l.map (·.1))), some (dF (l.map (·.2))), some bd, some (.ptr S.length), none, none, none, none, none, none] (S ++ [.ml []]) = _ := for_of it rfl e
  refine seq_nx (asg_name (d := .ptr S.length) (S1 := S ++ [.ml []]) (by simp)) ?_
  exact seq_nx key (ret_of rfl)
theorem at_rest_ok {l : List Tk} {bs : List Int} {bd : DV} {m0 : Zc} {S : Sto} (hok : ∀ t ∈ l, OkT m0 t) (hL : l.length ≤ 100) (hL2 : l.length ≤ m0.L ∧ m0.B ≤ 3000) (hb : Bd S bd bs) (hbs : ∀ b ∈ bs, 1 ≤ b ∧ b < (l.length : Int)) (hbl : bs.length ≤ 100) :
    f_at_rest_k [dI (l.map (·.1)), dF (l.map (·.2)), bd] S = some (.ptr S.length, S ++ [.ml ((rest l bs).map fr)]) := by
  refine fn_rt (at_rest_run hok hL hL2 hb hbs hbl) ?_
  rw [exF_top clos_fr]
  rfl
theorem at_rest_okz {l : List Tk} {bs : List Int} {bd : DV} {m0 : Zc} {S : Sto} (hok : ∀ t ∈ l, OkT m0 t) (hL : l.length ≤ 100) (hL2 : l.length ≤ m0.L ∧ m0.B ≤ 3000) (hb : Bd S bd bs) (hbs : ∀ b ∈ bs, 1 ≤ b ∧ b < (l.length : Int)) (hbl : bs.length ≤ 100) :
    f_at_rest_z [dI (l.map (·.1)), dF (l.map (·.2)), bd] S = some (dF (rest l bs), S) := by
  refine fn_rt (at_rest_run hok hL hL2 hb hbs hbl) ?_
  rw [exF_top clos_fr]
  rfl
theorem settled_ok {l : List Tk} {bs : List Int} {bd : DV} {m0 : Zc} {S : Sto} (h0 : l ≠ []) (hok : ∀ t ∈ l, OkT m0 t ∧ 0 ≤ t.2) (hL : l.length ≤ 100) (hL2 : l.length ≤ m0.L ∧ m0.B ≤ 3000) (hb : Bd S bd bs) (hbs : ∀ b ∈ bs, 1 ≤ b ∧ b < (l.length : Int)) (hnd : bs.Nodup) (hbl : bs.length ≤ 100) :
    f_settled_k [dI (l.map (·.1)), dF (l.map (·.2)), bd] S = some (.ptr S.length, S ++ [.ml ((rest l bs).map fr)]) := by
  have c1 := check_floors_ok (S := S) (ns := l.map (·.1)) (by simpa using h0) (fun n hn => by
    obtain ⟨t, ht', rfl⟩ := List.mem_map.mp hn
    exact (hok t ht').1.lo)
  have c2 := check_water_ok (S := S) (ns := l.map (·.1)) (qs := l.map (·.2)) (n := m0.B) (by simp) (fun q hq => by
    obtain ⟨t, ht', rfl⟩ := List.mem_map.mp hq
    exact ⟨(hok t ht').2, m0.one _ (hok t ht').1.sz⟩) (by omega)
  have c3 := check_bolted_ok (S := S) (ns := l.map (·.1)) hb (by simpa using hbs) hnd
  have c4 := at_rest_ok (S := S) (fun t ht' => (hok t ht').1) hL hL2 hb hbs hbl
  refine fn_rt (d := .ptr S.length) (S1 := S ++ [.ml ((rest l bs).map fr)]) ?_ ?_
  · refine seq_nx (drop_of (d := .non) (S1 := S) (by simp [c1])) ?_
    refine seq_nx (drop_of (d := .non) (S1 := S) (by simp [c2])) ?_
    refine seq_nx (drop_of (d := .non) (S1 := S) (by simp [c3])) ?_
    exact ret_of (by simp [c4])
  · rw [exF_top clos_fr]
    rfl
theorem settled_okz {l : List Tk} {bs : List Int} {bd : DV} {m0 : Zc} {S : Sto} (h0 : l ≠ []) (hok : ∀ t ∈ l, OkT m0 t ∧ 0 ≤ t.2) (hL : l.length ≤ 100) (hL2 : l.length ≤ m0.L ∧ m0.B ≤ 3000) (hb : Bd S bd bs) (hbs : ∀ b ∈ bs, 1 ≤ b ∧ b < (l.length : Int)) (hnd : bs.Nodup) (hbl : bs.length ≤ 100) :
    f_settled_z [dI (l.map (·.1)), dF (l.map (·.2)), bd] S = some (dF (rest l bs), S) := by
  have c1 := check_floors_ok (S := S) (ns := l.map (·.1)) (by simpa using h0) (fun n hn => by
    obtain ⟨t, ht', rfl⟩ := List.mem_map.mp hn
    exact (hok t ht').1.lo)
  have c2 := check_water_ok (S := S) (ns := l.map (·.1)) (qs := l.map (·.2)) (n := m0.B) (by simp) (fun q hq => by
    obtain ⟨t, ht', rfl⟩ := List.mem_map.mp hq
    exact ⟨(hok t ht').2, m0.one _ (hok t ht').1.sz⟩) (by omega)
  have c3 := check_bolted_ok (S := S) (ns := l.map (·.1)) hb (by simpa using hbs) hnd
  have c4 := at_rest_okz (S := S) (fun t ht' => (hok t ht').1) hL hL2 hb hbs hbl
  refine fn_rt (d := dF (rest l bs)) (S1 := S) ?_ ?_
  · refine seq_nx (drop_of (d := .non) (S1 := S) (by simp [c1])) ?_
    refine seq_nx (drop_of (d := .non) (S1 := S) (by simp [c2])) ?_
    refine seq_nx (drop_of (d := .non) (S1 := S) (by simp [c3])) ?_
    exact ret_of (by simp [c4])
  · simp
end FW
end
section
namespace FW
open PySem PyProof.Rows PySem.Spec L2 DL
theorem sub_mkRat (p q : Rat) : mkRat (p.num * q.den - q.num * p.den) (p.den * q.den) = p - q := by
  have h1 : (p.den : Rat) ≠ 0 := by exact_mod_cast p.den_nz
  have h2 : (q.den : Rat) ≠ 0 := by exact_mod_cast q.den_nz
  have hp : p * (p.den : Rat) = (p.num : Rat) := by
    have h4 := Rat.mkRat_self p
    rw [Rat.mkRat_eq_div] at h4
    grind
  have hq : q * (q.den : Rat) = (q.num : Rat) := by
    have h4 := Rat.mkRat_self q
    rw [Rat.mkRat_eq_div] at h4
    grind
  rw [Rat.mkRat_eq_div, Rat.natCast_mul, Rat.intCast_sub, Rat.intCast_mul, Rat.intCast_mul, Rat.intCast_natCast, Rat.intCast_natCast, ← hp, ← hq]
  grind
theorem law_minus_ok {p q : Rat} {n m : Nat} {S : Sto} (h : Sz n p) (g : Sz m q) (hl : n + m ≤ 7000) : f_law_minus_z [fr p, fr q] S = some (fr (p - q), S) := by
  have hm : p.den * q.den < 2 ^ (n + m) := by
    rw [Nat.pow_add]
    exact Nat.mul_lt_mul'' h.2 g.2
  have key := law_low_ok (a := p.num * q.den - q.num * p.den) (b := p.den * q.den) (n := n + m + 1) (S := S) (Nat.mul_pos p.den_pos q.den_pos) (Nat.lt_of_lt_of_le hm (Nat.pow_le_pow_right (by decide) (by omega))) (by
    have h1 : p.num.natAbs * q.den < 2 ^ (n + m) := by rw [Nat.pow_add]; exact Nat.mul_lt_mul'' h.1 g.2
    have h2 : p.den * q.num.natAbs < 2 ^ (n + m) := by rw [Nat.pow_add]; exact Nat.mul_lt_mul'' h.2 g.1
    have t := Int.natAbs_sub_le (p.num * q.den) (q.num * p.den)
    rw [Int.natAbs_mul, Int.natAbs_mul, Int.natAbs_natCast, Int.natAbs_natCast, Nat.mul_comm q.num.natAbs] at t
    have e : 2 ^ (n + m + 1) = 2 ^ (n + m) + 2 ^ (n + m) := by rw [Nat.pow_succ]; omega
    omega) (by omega)
  rw [sub_mkRat] at key
  have f1 := h.fn (by omega); have f2 := h.fd (by omega); have f3 := g.fn (by omega); have f4 := g.fd (by omega)
  push_cast at key
  simp [f_law_minus_z, fnF, b_law_minus_z, fr, ixD, f1, f2, f3, f4]
  rw [key]
  simp [fr]
theorem law_under_ok {p q : Rat} {n m : Nat} {S : Sto} (h : Sz n p) (g : Sz m q) (hn : n ≤ 7000) (hm : m ≤ 7000) : f_law_under_z [fr p, fr q] S = some (.bl (decide (p < q)), S) := by
  have f1 := h.fn (by omega); have f2 := h.fd (by omega); have f3 := g.fn (by omega); have f4 := g.fd (by omega)
  simp [f_law_under_z, fnF, b_law_under_z, fr, ixD, f1, f2, f3, f4, Rat.lt_iff]
/-- the line, of its ends' values -/
theorem line_mkRat {p q : Rat} {u v w : Int} (hw : 0 < w) : mkRat (p.num * q.den * u + q.num * p.den * v) (p.den * q.den * w.toNat) = (p * u + q * v) / w := by
  have h1 : (p.den : Rat) ≠ 0 := by exact_mod_cast p.den_nz
  have h2 : (q.den : Rat) ≠ 0 := by exact_mod_cast q.den_nz
  have h3 : (w : Rat) ≠ 0 := by
    intro z
    have : w = 0 := by exact_mod_cast z
    omega
  have h4 : (w.toNat : Rat) = (w : Rat) := by
    rw [← Rat.intCast_natCast, Int.toNat_of_nonneg (Int.le_of_lt hw)]
  have hp : p * (p.den : Rat) = (p.num : Rat) := by
    have h4 := Rat.mkRat_self p
    rw [Rat.mkRat_eq_div] at h4
    grind
  have hq : q * (q.den : Rat) = (q.num : Rat) := by
    have h4 := Rat.mkRat_self q
    rw [Rat.mkRat_eq_div] at h4
    grind
  rw [Rat.mkRat_eq_div, Rat.natCast_mul, Rat.natCast_mul, h4, Rat.intCast_add, Rat.intCast_mul, Rat.intCast_mul, Rat.intCast_mul, Rat.intCast_mul, Rat.intCast_natCast, Rat.intCast_natCast, ← hp, ← hq]
  grind
theorem law_chord_ok {xs : List Int} {hs : List Rat} {i k j : Nat} {xi xk xj : Int} {n : Nat} {S : Sto} (hi : xs[i]? = some xi) (hk : xs[k]? = some xk) (hj : xs[j]? = some xj) (yi yk yj : Rat) (gi : hs[i]? = some yi) (gk : hs[k]? = some yk) (gj : hs[j]? = some yj)
    (zi : Sz n yi) (zj : Sz n yj) (hn : n ≤ 3000) (x0 : 0 ≤ xi) (x1 : xi ≤ xk) (x2 : xk ≤ xj) (x3 : xj < 2 ^ 50) (hlt : i < j → xi < xj) (hij : i ≤ j) :
    f_law_chord_z [dI xs, dF hs, .int (i : Nat), .int (k : Nat), .int (j : Nat)] S = some (fr (if i = j then yk else (yi * ((xj : Rat) - xk) + yj * ((xk : Rat) - xi)) / ((xj : Rat) - xi)), S) := by
  have ix : ∀ (m : Nat) (x : Int), xs[m]? = some x → ∀ S, ixD (dI xs) (.int (m : Nat)) S = some (.int x, S) := fun m x hx S => ixD_lst (at_nat rfl (by rw [List.getElem?_map, hx]; rfl))
  have iy : ∀ (m : Nat) (x : Rat), hs[m]? = some x → ∀ S, ixD (dF hs) (.int (m : Nat)) S = some (fr x, S) := fun m x hx S => ixD_lst (at_nat rfl (by rw [List.getElem?_map, hx]; rfl))
  by_cases e : i = j
  · subst e
    simp [f_law_chord_z, fnF, b_law_chord_z, iy k yk gk]
  · rw [if_neg e]
    have hne : ¬ (i : Int) = (j : Int) := by omega
    have hx := hlt (by omega)
    have f1 := zi.fn (by omega); have f2 := zi.fd (by omega); have f3 := zj.fn (by omega); have f4 := zj.fd (by omega)
    have g1 : Fits (xj - xk) := fits_of (n := 50) (by omega) (by decide)
    have g2 : Fits (xk - xi) := fits_of (n := 50) (by omega) (by decide)
    have g3 : Fits (xj - xi) := fits_of (n := 50) (by omega) (by decide)
    have pm : ∀ (a : Int) (b : Nat), a.natAbs < 2 ^ n → b < 2 ^ n → (a * (b : Int)).natAbs < 2 ^ (n + n) := fun a b h1 h2 => by
      rw [Int.natAbs_mul, Int.natAbs_natCast, Nat.pow_add]
      exact Nat.mul_lt_mul'' h1 h2
    have b1 := pm yi.num yj.den zi.1 zj.2
    have b2 := pm yj.num yi.den zj.1 zi.2
    have b3 := pm (yi.den : Int) yj.den (by simpa using zi.2) zj.2
    have g4 : Fits (yi.num * (yj.den : Int)) := fits_of b1 (by omega)
    have g5 : Fits (yj.num * (yi.den : Int)) := fits_of b2 (by omega)
    have g6 : Fits ((yi.den : Int) * (yj.den : Int)) := fits_of b3 (by omega)
    have big : ∀ (a b : Int), a.natAbs < 2 ^ (n + n) → b.natAbs < 2 ^ 50 → (a * b).natAbs < 2 ^ (n + n + 50) := fun a b h1 h2 => by
      rw [Int.natAbs_mul, Nat.pow_add]
      exact Nat.mul_lt_mul'' h1 h2
    have c1 := big _ (xj - xk) b1 (by omega)
    have c2 := big _ (xk - xi) b2 (by omega)
    have hd : yi.den * yj.den * (xj - xi).toNat < 2 ^ 8000 := by
      have d1 := Nat.mul_lt_mul'' zi.2 zj.2
      rw [← Nat.pow_add] at d1
      have d2 := Nat.mul_lt_mul'' d1 (show (xj - xi).toNat < 2 ^ 50 by omega)
      rw [← Nat.pow_add] at d2
      exact Nat.lt_of_lt_of_le d2 (Nat.pow_le_pow_right (by decide) (by omega))
    have key := law_low_ok (S := S) (a := yi.num * yj.den * (xj - xk) + yj.num * yi.den * (xk - xi)) (b := yi.den * yj.den * (xj - xi).toNat) (n := n + n + 51) (Nat.mul_pos (Nat.mul_pos yi.den_pos yj.den_pos) (by omega)) hd (by
      have t := Int.natAbs_add_le (yi.num * yj.den * (xj - xk)) (yj.num * yi.den * (xk - xi))
      have e : 2 ^ (n + n + 51) = 2 ^ (n + n + 50) + 2 ^ (n + n + 50) := by rw [Nat.pow_succ]; omega
      omega) (by omega)
    rw [line_mkRat (by omega)] at key
    have eb : ((yi.den * yj.den * (xj - xi).toNat : Nat) : Int) = (yi.den : Int) * (yj.den : Int) * (xj - xi) := by
      rw [Int.natCast_mul, Int.natCast_mul, Int.toNat_of_nonneg (by omega)]
    rw [eb, Rat.intCast_sub, Rat.intCast_sub, Rat.intCast_sub] at key
    have i0 : ∀ (q : Rat) S, ixD (fr q) (.int 0) S = some (.int q.num, S) := fun q S => ixD_tup (by simp)
    have i1 : ∀ (q : Rat) S, ixD (fr q) (.int 1) S = some (.int (q.den : Int), S) := fun q S => ixD_tup (by simp)
    simp [f_law_chord_z, fnF, b_law_chord_z, hne, ix i xi hi, ix k xk hk, ix j xj hj, iy i yi gi, iy j yj gj, i0, i1, f1, f2, f3, f4, g1, g2, g3, g4, g5, g6, key]
end FW
end
section
namespace FW
open PySem PyProof.Rows PySem.Spec L2 DL
/-! ### heaps at rest of a whole row -/
def rsum : List Rat → Rat
  | [] => 0
  | q :: l => q + rsum l
theorem rsum_app : ∀ a b : List Rat, rsum (a ++ b) = rsum a + rsum b
  | [], b => by simp [rsum, Rat.zero_add]
  | t :: a, b => by simp only [List.cons_append, rsum, rsum_app a b, Rat.add_assoc]
theorem lay_fl : ∀ ps : List (List Tk), ps.flatMap lay = (fl ps).map fun x => x.2 * (x.1.1 : Rat)
  | [] => rfl
  | p :: ps => by
    rw [List.flatMap_cons, lay_fl ps]
    show _ = (sl p ++ fl ps).map _
    rw [List.map_append]
    congr 1
    unfold lay sl
    rw [List.map_map]
    rfl
theorem rsum_Zi : ∀ F : List Sk, rsum (F.map fun x => x.2 * (x.1.1 : Rat)) = Zi F
  | [] => rfl
  | x :: F => by simp only [List.map_cons, rsum, Zi, rsum_Zi F]
theorem rsum_lay (ps : List (List Tk)) (k : Nat) : rsum ((ps.flatMap lay).take k) = Za (fl ps) k := by
  rw [lay_fl, ← List.map_take, rsum_Zi]
  rfl
/-- the rest of stretch after stretch, from a cut on -/
noncomputable def ss (l : List Tk) : List Int → List Rat
  | c :: d :: cs => (pools (seg l (c, d))).flatMap lay ++ ss l (d :: cs)
  | _ => []
theorem ss_eq (l : List Tk) : ∀ L : List Int, segs l (L.zip (L.drop 1)) = ss l L
  | [] => rfl
  | [_] => rfl
  | c :: d :: cs => by
    show segs l ((c, d) :: (d :: cs).zip ((d :: cs).drop 1)) = _
    unfold segs
    rw [List.flatMap_cons]
    congr 1
    exact ss_eq l (d :: cs)
theorem rest_eq (l : List Tk) (bs : List Int) : rest l bs = ss l (cuts bs l.length) := ss_eq l _
theorem seg_Am {l : List Tk} {a b : Nat} (h : a ≤ b) (k : Nat) (hk : k ≤ b - a) : Ya l (a + k) = Ya l a + Ya (seg l ((a : Int), (b : Int))) k := by
  have e : l.take (a + k) = l.take a ++ (seg l ((a : Int), (b : Int))).take k := by
    unfold seg
    simp only [Int.toNat_natCast]
    rw [List.take_take, Nat.min_eq_left hk, List.take_add]
  unfold Ya
  rw [e, Am_app]
theorem seg_Wi {l : List Tk} {a b : Nat} (h : a ≤ b) (k : Nat) (hk : k ≤ b - a) : Xa l (a + k) = Xa l a + Xa (seg l ((a : Int), (b : Int))) k := by
  have e : l.take (a + k) = l.take a ++ (seg l ((a : Int), (b : Int))).take k := by
    unfold seg
    simp only [Int.toNat_natCast]
    rw [List.take_take, Nat.min_eq_left hk, List.take_add]
  unfold Xa
  rw [e, Wi_app]
theorem seg_length {l : List Tk} {a b : Nat} (hb : b ≤ l.length) (h : a ≤ b) : (seg l ((a : Int), (b : Int))).length = b - a := by
  unfold seg
  simp
  omega
/-- a pair of neighbours in a list of cuts -/
inductive Nb : List Int → Int → Int → Prop
  | here {c d : Int} {cs : List Int} : Nb (c :: d :: cs) c d
  | there {c d : Int} {cs : List Int} {a b : Int} : Nb (d :: cs) a b → Nb (c :: d :: cs) a b
theorem Nb.ge {L : List Int} {a b : Int} (h : Nb L a b) : ∀ {c : Int} {cs : List Int}, L = c :: cs → L.Pairwise (· ≤ ·) → c ≤ a ∧ a ≤ b := by
  induction h with
  | here =>
    intro c cs e hs
    cases e
    exact ⟨Int.le_refl _, (List.pairwise_cons.mp hs).1 _ (List.mem_cons_self)⟩
  | there h ih =>
    intro c cs e hs
    cases e
    obtain ⟨h1, h2⟩ := List.pairwise_cons.mp hs
    obtain ⟨k1, k2⟩ := ih rfl h2
    exact ⟨Int.le_trans (h1 _ (List.mem_cons_self)) k1, k2⟩
theorem Nb.mem {L : List Int} {a b : Int} (h : Nb L a b) : a ∈ L ∧ b ∈ L := by
  induction h with
  | here => exact ⟨List.mem_cons_self, List.mem_cons_of_mem _ List.mem_cons_self⟩
  | there h ih => exact ⟨List.mem_cons_of_mem _ ih.1, List.mem_cons_of_mem _ ih.2⟩
/-- what is left of a place, by its stretch -/
theorem ss_sum {l : List Tk} {m0 : Zc} (hok : ∀ t ∈ l, OkT m0 t) {L : List Int} {a b : Int} (h : Nb L a b) : ∀ {c : Nat} {cs : List Int}, L = (c : Int) :: cs → L.Pairwise (· ≤ ·) → (∀ x ∈ L, 0 ≤ x ∧ x ≤ (l.length : Int)) → ∀ k : Nat, a ≤ (k : Int) → (k : Int) ≤ b →
    rsum ((ss l L).take (k - c)) = Ya l a.toNat - Ya l c + Za (fl (pools (seg l (a, b)))) (k - a.toNat) := by
  induction h with
  | @here c d cs =>
    intro c' cs' e hs hin k ha hb
    cases e
    have hd := hin d (by simp)
    have hcd := (List.pairwise_cons.mp hs).1 d (by simp)
    obtain ⟨d', rfl⟩ : ∃ d' : Nat, d = (d' : Int) := ⟨d.toNat, by omega⟩
    have okS : ∀ t ∈ seg l ((c' : Int), (d' : Int)), OkT m0 t := fun t h => hok t (seg_mem h)
    obtain ⟨_, _, q3⟩ := pools_ok okS
    have ln : ((pools (seg l ((c' : Int), (d' : Int)))).flatMap lay).length = d' - c' := by
      rw [lay_len, q3, seg_length (by omega) (by omega)]
    unfold ss
    rw [tk_lo (by rw [ln]; omega), rsum_lay, Int.toNat_natCast]
    grind
  | @there c d cs a b h ih =>
    intro c' cs' e hs hin k ha hb
    cases e
    have hd := hin d (by simp)
    obtain ⟨h1, h2⟩ := List.pairwise_cons.mp hs
    have hcd := h1 d (by simp)
    obtain ⟨d', rfl⟩ : ∃ d' : Nat, d = (d' : Int) := ⟨d.toNat, by omega⟩
    have hda := (h.ge rfl h2).1
    have okS : ∀ t ∈ seg l ((c' : Int), (d' : Int)), OkT m0 t := fun t h => hok t (seg_mem h)
    obtain ⟨q1, _, q3⟩ := pools_ok okS
    have ls := seg_length (l := l) (a := c') (b := d') (by omega) (by omega)
    have ln : ((pools (seg l ((c' : Int), (d' : Int)))).flatMap lay).length = d' - c' := by
      rw [lay_len, q3, ls]
    have key := ih rfl h2 (fun x hx => hin x (List.mem_cons_of_mem _ hx)) k ha hb
    have ek : k - c' = ((pools (seg l ((c' : Int), (d' : Int)))).flatMap lay).length + (k - d') := by rw [ln]; omega
    unfold ss
    rw [ek, tk_hi, rsum_app, key]
    have full : rsum ((pools (seg l ((c' : Int), (d' : Int)))).flatMap lay) = Ya l d' - Ya l c' := by
      have e1 := rsum_lay (pools (seg l ((c' : Int), (d' : Int)))) (d' - c')
      rw [← ln, List.take_length] at e1
      rw [e1, ln]
      obtain ⟨i, j, s, f⟩ := flat_of (fun q hq => (q1 q hq).1) (d' - c') (by rw [q3, ls]; exact Nat.le_refl _)
      have fj : j = d' - c' := by
        have := f.kj; have := f.jn
        rw [q3, ls] at this
        omega
      have f2 := f.zj
      rw [fj, q3] at f2
      rw [f2]
      have := seg_Am (l := l) (a := c') (b := d') (by omega) (d' - c') (Nat.le_refl _)
      rw [show c' + (d' - c') = d' by omega] at this
      rw [this]
      grind
    rw [full]
    grind
end FW
end
section
namespace FW
open PySem PyProof.Rows PySem.Spec L2 DL
theorem nb_find : ∀ (m : List Int) (c n k : Int), c ≤ k → k ≤ n → (c :: (m ++ [n])).Pairwise (· ≤ ·) →
    ∃ a b, Nb (c :: (m ++ [n])) a b ∧ a ≤ k ∧ k ≤ b ∧ (∀ x ∈ c :: m, x ≤ k → x ≤ a) ∧ (∀ x ∈ m ++ [n], k ≤ x → ¬ x ≤ a → b ≤ x) ∧ a ∈ c :: m ∧ b ∈ m ++ [n]
  | [], c, n, k, h1, h2, hs => ⟨c, n, .here, h1, h2, fun x hx _ => by cases List.mem_singleton.mp hx; exact Int.le_refl _, fun x hx _ _ => by cases List.mem_singleton.mp hx; exact Int.le_refl _, List.mem_cons_self, by simp⟩
  | d :: m, c, n, k, h1, h2, hs => by
    obtain ⟨s1, s2⟩ := List.pairwise_cons.mp hs
    have s2' : (d :: (m ++ [n])).Pairwise (· ≤ ·) := s2
    obtain ⟨s3, s4⟩ := List.pairwise_cons.mp s2'
    by_cases hk : k < d
    · refine ⟨c, d, .here, h1, Int.le_of_lt hk, fun x hx hxk => ?_, fun x hx _ _ => ?_, List.mem_cons_self, List.mem_cons_self⟩
      · rcases List.mem_cons.mp hx with rfl | hx
        · exact Int.le_refl _
        · rcases List.mem_cons.mp hx with rfl | hx
          · omega
          · have := s3 x (List.mem_append_left _ hx)
            omega
      · rcases List.mem_cons.mp hx with rfl | hx
        · exact Int.le_refl _
        · exact s3 x hx
    · obtain ⟨a, b, e, k1, k2, k3, k4, k5, k6⟩ := nb_find m d n k (by omega) h2 s2'
      have da := k3 d (List.mem_cons_self) (by omega)
      have cd := s1 d (List.mem_cons_self)
      refine ⟨a, b, .there e, k1, k2, fun x hx hxk => ?_, fun x hx hkx hxa => ?_, List.mem_cons_of_mem _ k5, List.mem_cons_of_mem _ k6⟩
      · rcases List.mem_cons.mp hx with rfl | hx
        · omega
        · exact k3 x hx hxk
      · rcases List.mem_cons.mp hx with rfl | hx
        · omega
        · exact k4 x hx hkx hxa
theorem chord_seg {l : List Tk} (hf : Fl l) {a b i k j : Nat} (hab : a ≤ b) (hb : b ≤ l.length) (h1 : a ≤ i) (h2 : i ≤ k) (h3 : k ≤ j) (h4 : j ≤ b) : chord l i k j = Ya l a + chord (seg l ((a : Int), (b : Int))) (i - a) (k - a) (j - a) := by
  have y : ∀ m, a ≤ m → m ≤ b → Ya l m = Ya l a + Ya (seg l ((a : Int), (b : Int))) (m - a) := fun m h g => by
    have := seg_Am (l := l) hab (m - a) (by omega)
    rw [show a + (m - a) = m by omega] at this
    exact this
  have x : ∀ m, a ≤ m → m ≤ b → Xa l m = Xa l a + Xa (seg l ((a : Int), (b : Int))) (m - a) := fun m h g => by
    have := seg_Wi (l := l) hab (m - a) (by omega)
    rw [show a + (m - a) = m by omega] at this
    exact this
  unfold chord
  by_cases e : i = j
  · rw [if_pos e, if_pos (by omega), y k (by omega) (by omega)]
  · rw [if_neg e, if_neg (by omega)]
    have fs : Fl (seg l ((a : Int), (b : Int))) := fun t h => hf t (seg_mem h)
    have lt := Xa_lt fs (show i - a < j - a by omega) (by rw [seg_length hb hab]; omega)
    rw [x i h1 (by omega), x j (by omega) h4, x k (by omega) (by omega), y i h1 (by omega), y j (by omega) h4]
    have h0 : Xa (seg l ((a : Int), (b : Int))) (j - a) - Xa (seg l ((a : Int), (b : Int))) (i - a) ≠ 0 := by grind
    grind
/-- what is left of a place at rest: the lowest line over it within its stretch -/
structure Low (l : List Tk) (bs : List Int) (k a h : Nat) : Prop where
  ak : a ≤ k
  kh : k ≤ h
  hn : h ≤ l.length
  lo : ∀ i j, a ≤ i → i ≤ k → k ≤ j → j ≤ h → rsum ((rest l bs).take k) ≤ chord l i k j
  at_ : ∃ i j, a ≤ i ∧ i ≤ k ∧ k ≤ j ∧ j ≤ h ∧ chord l i k j = rsum ((rest l bs).take k)
theorem low_ok {l : List Tk} {bs : List Int} {m0 : Zc} (h0 : l ≠ []) (hok : ∀ t ∈ l, OkT m0 t) (hbs : ∀ b ∈ bs, 1 ≤ b ∧ b < (l.length : Int)) {k : Nat} (hk : k ≤ l.length) :
    ∃ a h : Nat, Low l bs k a h ∧ (a : Int) ∈ 0 :: bs ∧ (∀ x ∈ (0 : Int) :: bs, x ≤ k → x ≤ a) ∧ (h : Int) ∈ (l.length : Int) :: bs ∧ ∀ x ∈ (l.length : Int) :: bs, (k : Int) ≤ x → (h : Int) ≤ x := by
  have hn1 : 1 ≤ l.length := List.length_pos_iff.mpr h0
  have hf : Fl l := fun t ht => (hok t ht).lo
  obtain ⟨c1, c2⟩ := cuts_ok hbs
  have mem : ∀ x, x ∈ sortI bs ↔ x ∈ bs := fun x => (sortI_perm bs).mem_iff
  obtain ⟨a, b, e, k1, k2, k3, k4, k5, k6⟩ := nb_find (sortI bs) 0 (l.length : Int) k (by omega) (by omega) c1
  have ha := c2 a e.mem.1
  have hb := c2 b e.mem.2
  obtain ⟨a', rfl⟩ : ∃ a' : Nat, a = (a' : Int) := ⟨a.toNat, by omega⟩
  obtain ⟨b', rfl⟩ : ∃ b' : Nat, b = (b' : Int) := ⟨b.toNat, by omega⟩
  have sum := ss_sum hok e (c := 0) rfl c1 c2 k k1 k2
  rw [← show rest l bs = ss l (0 :: (sortI bs ++ [(l.length : Int)])) from rest_eq l bs, Nat.sub_zero, Int.toNat_natCast] at sum
  have sum' : rsum ((rest l bs).take k) = Ya l a' + Za (fl (pools (seg l ((a' : Int), (b' : Int))))) (k - a') := by
    rw [sum, Y0]
    grind
  have okS : ∀ t ∈ seg l ((a' : Int), (b' : Int)), OkT m0 t := fun t h => hok t (seg_mem h)
  obtain ⟨q1, q2, q3⟩ := pools_ok okS
  have ls := seg_length (l := l) (a := a') (b := b') (by omega) (by omega)
  obtain ⟨r1, r2⟩ := rest_lines (fun q hq => (q1 q hq).1) q2 (k := k - a') (by rw [q3, ls]; omega)
  rw [q3] at r1 r2
  rw [ls] at r1 r2
  have mem0 : (a' : Int) ∈ 0 :: bs := by
    rcases List.mem_cons.mp k5 with h | h
    · rw [h]; exact List.mem_cons_self
    · exact List.mem_cons_of_mem _ ((mem _).mp h)
  have max0 : ∀ x ∈ (0 : Int) :: bs, x ≤ k → x ≤ a' := fun x hx hxk => by
    refine k3 x ?_ hxk
    rcases List.mem_cons.mp hx with h | h
    · rw [h]; exact List.mem_cons_self
    · exact List.mem_cons_of_mem _ ((mem _).mpr h)
  by_cases hkb : (k : Int) ∈ bs
  · have ka : k = a' := by
      have := max0 k (List.mem_cons_of_mem _ hkb) (Int.le_refl _)
      omega
    have zk : rsum ((rest l bs).take k) = Ya l k := by
      rw [sum', ← ka, Nat.sub_self, Z0, Rat.add_zero]
    refine ⟨a', k, ⟨by omega, Nat.le_refl _, hk, fun i j h1 h2 h3 h4 => ?_, k, k, by omega, Nat.le_refl _, Nat.le_refl _, Nat.le_refl _, ?_⟩, mem0, max0, List.mem_cons_of_mem _ hkb, fun x hx hkx => hkx⟩
    · unfold chord
      rw [if_pos (by omega), zk]
      exact Rat.le_refl
    · unfold chord
      rw [if_pos rfl, zk]
  · have memb : (b' : Int) ∈ (l.length : Int) :: bs := by
      rcases List.mem_append.mp k6 with h | h
      · exact List.mem_cons_of_mem _ ((mem _).mp h)
      · rw [List.mem_singleton.mp h]; exact List.mem_cons_self
    refine ⟨a', b', ⟨by omega, by omega, by omega, fun i j h1 h2 h3 h4 => ?_, ?_⟩, mem0, max0, memb, fun x hx hkx => ?_⟩
    · rw [chord_seg hf (by omega) (by omega) h1 h2 h3 h4, sum']
      have := r1 (i - a') (j - a') (by omega) (by omega) (by omega)
      grind
    · obtain ⟨i, j, h1, h2, h3, h4⟩ := r2
      refine ⟨i + a', j + a', by omega, by omega, by omega, by omega, ?_⟩
      rw [chord_seg hf (a := a') (b := b') (by omega) (by omega) (by omega) (by omega) (by omega) (by omega), sum', Nat.add_sub_cancel, Nat.add_sub_cancel, h4]
    · refine k4 x ?_ hkx fun hxa => ?_
      · rcases List.mem_cons.mp hx with h | h
        · rw [h]; simp
        · exact List.mem_append_left _ ((mem _).mpr h)
      · have hxk : x = (k : Int) := by omega
        rcases List.mem_cons.mp hx with h | h
        · rcases List.mem_cons.mp mem0 with z | z
          · omega
          · have := hbs _ z
            omega
        · exact hkb (by rw [← hxk]; exact h)
end FW
end
section
namespace FW
open PySem PyProof.Rows PySem.Spec L2 DL
theorem lcL_filter {tgt : DG} {tt : DT} {te : DE} {vs : List Nat} {s : Sl} {S : Sto} {P : Int → Bool} : ∀ {xs : List Int} {acc : List DV}, (∀ x ∈ xs, ∃ s1, tgt (.int x) (wipeD s vs) S = some (s1, S) ∧ tt s1 S = some (P x, S) ∧ te s1 S = some (.int x, S)) →
    lcL tgt tt te vs (xs.map DV.int) acc s S = some (acc ++ (xs.filter P).map DV.int, S)
  | [], acc, _ => by simp [lcL]
  | x :: xs, acc, h => by
    obtain ⟨s1, h1, h2, h3⟩ := h x (List.mem_cons_self)
    have ih := fun acc => lcL_filter (tgt := tgt) (tt := tt) (te := te) (vs := vs) (s := s) (S := S) (P := P) (xs := xs) (acc := acc) fun y hy => h y (List.mem_cons_of_mem _ hy)
    simp only [List.map_cons, lcL, h1, h2, bnd_some']
    cases hp : P x with
    | true => simp [hp, h3, ih]
    | false => simp [hp, ih]
theorem law_ends_ok {n : Nat} {bs : List Int} {k a h : Nat} {S : Sto} (hl : bs.length ≤ 1000) (ha : (a : Int) ∈ 0 :: bs) (hak : a ≤ k) (hmax : ∀ x ∈ (0 : Int) :: bs, x ≤ k → x ≤ a) (hh : (h : Int) ∈ (n : Int) :: bs) (hkh : k ≤ h) (hmin : ∀ x ∈ (n : Int) :: bs, (k : Int) ≤ x → (h : Int) ≤ x) (hn : k ≤ n) :
    f_law_ends_z [.int (n : Nat), dI bs, .int (k : Nat)] S = some (.tup [.int (a : Nat), .int (h : Nat)], S) := by
  have l1 := lcL_filter (tgt := dName 3) (tt := dTest (dOp leD (dVar 3) (dVar 2))) (te := dVar 3) (vs := [3]) (s := [some (.int (n : Nat)), some (dI bs), some (.int (k : Nat)), none]) (S := S) (P := fun x => decide (x ≤ (k : Int))) (xs := bs) (acc := []) fun x _ => ⟨_, rfl, by simp [wipeD], by simp [wipeD]⟩
  have l2 := lcL_filter (tgt := dName 3) (tt := dTest (dOp geD (dVar 3) (dVar 2))) (te := dVar 3) (vs := [3]) (s := [some (.int (n : Nat)), some (dI bs), some (.int (k : Nat)), none]) (S := S) (P := fun x => decide ((k : Int) ≤ x)) (xs := bs) (acc := []) fun x _ => ⟨_, rfl, by simp [wipeD], by simp [wipeD]⟩
  have g1 := List.length_filter_le (fun x => decide (x ≤ (k : Int))) bs
  have g2 := List.length_filter_le (fun x => decide ((k : Int) ≤ x)) bs
  have c1 : dLc false (diL (dVar 1)) (dName 3) (dTest (dOp leD (dVar 3) (dVar 2))) (dVar 3) [3] [some (.int (n : Nat)), some (dI bs), some (.int (k : Nat)), none] S = some (dI (bs.filter fun x => decide (x ≤ (k : Int))), S) :=
    (lc_of (it := .li (dI bs)) (S1 := S) (by simp [diL, dI]) rfl l1 (by simp only [List.nil_append, List.length_map]; omega)).trans rfl
  have c2 : dLc false (diL (dVar 1)) (dName 3) (dTest (dOp geD (dVar 3) (dVar 2))) (dVar 3) [3] [some (.int (n : Nat)), some (dI bs), some (.int (k : Nat)), none] S = some (dI (bs.filter fun x => decide ((k : Int) ≤ x)), S) :=
    (lc_of (it := .li (dI bs)) (S1 := S) (by simp [diL, dI]) rfl l2 (by simp only [List.nil_append, List.length_map]; omega)).trans rfl
  have m1 : maxD [dI (0 :: bs.filter fun x => decide (x ≤ (k : Int)))] S = some (.int (a : Nat), S) := by
    obtain ⟨e1, e2⟩ := maxI_mem (ns := 0 :: bs.filter fun x => decide (x ≤ (k : Int))) (by simp)
    have : maxI (0 :: bs.filter fun x => decide (x ≤ (k : Int))) = (a : Int) := by
      have u1 : maxI (0 :: bs.filter fun x => decide (x ≤ (k : Int))) ≤ a := by
        rcases List.mem_cons.mp e1 with z | z
        · rw [z]; omega
        · obtain ⟨z1, z2⟩ := List.mem_filter.mp z
          exact hmax _ (List.mem_cons_of_mem _ z1) (by simpa using z2)
      have u2 : (a : Int) ≤ maxI (0 :: bs.filter fun x => decide (x ≤ (k : Int))) := by
        refine e2 _ ?_
        rcases List.mem_cons.mp ha with z | z
        · rw [z]; exact List.mem_cons_self
        · exact List.mem_cons_of_mem _ (List.mem_filter.mpr ⟨z, by simp; omega⟩)
      omega
    have tt := toIs_map (0 :: bs.filter fun x => decide (x ≤ (k : Int)))
    unfold dI
    simp only [maxD, rdL_lst, tt, List.length_cons, Nat.zero_lt_succ, if_true, this]
  have m2 : minD [dI ((n : Int) :: bs.filter fun x => decide ((k : Int) ≤ x))] S = some (.int (h : Nat), S) := by
    obtain ⟨e1, e2⟩ := minI_mem (ns := (n : Int) :: bs.filter fun x => decide ((k : Int) ≤ x)) (by simp)
    have : minI ((n : Int) :: bs.filter fun x => decide ((k : Int) ≤ x)) = (h : Int) := by
      have u1 : (h : Int) ≤ minI ((n : Int) :: bs.filter fun x => decide ((k : Int) ≤ x)) := by
        rcases List.mem_cons.mp e1 with z | z
        · rw [z]; exact hmin _ List.mem_cons_self (by omega)
        · obtain ⟨z1, z2⟩ := List.mem_filter.mp z
          exact hmin _ (List.mem_cons_of_mem _ z1) (by simpa using z2)
      have u2 : minI ((n : Int) :: bs.filter fun x => decide ((k : Int) ≤ x)) ≤ h := by
        refine e2 _ ?_
        rcases List.mem_cons.mp hh with z | z
        · rw [z]; exact List.mem_cons_self
        · exact List.mem_cons_of_mem _ (List.mem_filter.mpr ⟨z, by simp; omega⟩)
      omega
    have tt := toIs_map ((n : Int) :: bs.filter fun x => decide ((k : Int) ≤ x))
    unfold dI
    simp only [minD, rdL_lst, tt, List.length_cons, Nat.zero_lt_succ, if_true, this]
  have a1 : addD false (.lst [.int 0]) (dI (bs.filter fun x => decide (x ≤ (k : Int)))) S = some (dI (0 :: bs.filter fun x => decide (x ≤ (k : Int))), S) := by
    rw [dI, addD_lst, gate_ok (by simp; omega)]
    simp [dI]
  have a2 : addD false (.lst [.int (n : Nat)]) (dI (bs.filter fun x => decide ((k : Int) ≤ x))) S = some (dI ((n : Int) :: bs.filter fun x => decide ((k : Int) ≤ x)), S) := by
    rw [dI, addD_lst, gate_ok (by simp; omega)]
    simp [dI]
  refine fn_rt (d := .tup [.int (a : Nat), .int (h : Nat)]) (S1 := S) (ret_of ?_) exF_same
  show dTup _ [some (.int (n : Nat)), some (dI bs), some (.int (k : Nat)), none] S = _
  simp [c1, c2, a1, a2, m1, m2]
end FW
end
section
namespace FW
open PySem PyProof.Rows PySem.Spec L2 DL
theorem sz_line {p q : Rat} {u v w : Int} {n : Nat} (h : Sz n p) (g : Sz n q) (hu : u.natAbs < 2 ^ 50) (hv : v.natAbs < 2 ^ 50) (hw : 0 < w) (hw2 : w < 2 ^ 50) : Sz (n + n + 51) ((p * u + q * v) / w) := by
  rw [← line_mkRat hw]
  have b1 : (p.num * q.den * u).natAbs < 2 ^ (n + n + 50) := by
    rw [Int.natAbs_mul, Int.natAbs_mul, Int.natAbs_natCast, Nat.pow_add, Nat.pow_add]
    exact Nat.mul_lt_mul'' (Nat.mul_lt_mul'' h.1 g.2) hu
  have b2 : (q.num * p.den * v).natAbs < 2 ^ (n + n + 50) := by
    rw [Int.natAbs_mul, Int.natAbs_mul, Int.natAbs_natCast, Nat.pow_add, Nat.pow_add]
    exact Nat.mul_lt_mul'' (Nat.mul_lt_mul'' g.1 h.2) hv
  have b3 : p.den * q.den * w.toNat < 2 ^ (n + n + 50) := by
    rw [Nat.pow_add, Nat.pow_add]
    exact Nat.mul_lt_mul'' (Nat.mul_lt_mul'' h.2 g.2) (by omega)
  have e : 2 ^ (n + n + 51) = 2 ^ (n + n + 50) + 2 ^ (n + n + 50) := by rw [Nat.pow_succ]; omega
  refine sz_mkRat (Nat.mul_pos (Nat.mul_pos p.den_pos q.den_pos) (by omega)) ?_ (by omega)
  have t := Int.natAbs_add_le (p.num * q.den * u) (q.num * p.den * v)
  omega
def XI (l : List Tk) (k : Nat) : Int := ((l.take k).map (·.1)).sum
theorem XI_Xa (l : List Tk) (k : Nat) : ((XI l k : Int) : Rat) = Xa l k := sum_Wi _
theorem hfI_get {l : List Tk} {k : Nat} (hk : k ≤ l.length) : (hfI 0 (l.map (·.1)))[k]? = some (XI l k) := by
  rw [← hfI_takes, List.getElem?_map, List.getElem?_range (by simp; omega)]
  simp [XI, List.map_take]
theorem hf_get : ∀ {l : List Tk} {k : Nat} (a : Rat), k ≤ l.length → (hf a (l.map (·.2)))[k]? = some (a + Ya l k)
  | [], k, a, hk => by
    have : k = 0 := by simpa using hk
    subst this
    simp [hf, Y0, Rat.add_zero]
  | t :: l, 0, a, _ => by simp [hf, Y0, Rat.add_zero]
  | t :: l, k + 1, a, hk => by
    have := hf_get (l := l) (k := k) (a + t.2) (by simpa using hk)
    simp only [List.map_cons, hf, List.getElem?_cons_succ, this]
    congr 1
    show _ = a + Am (t :: l.take k)
    rw [Am]
    unfold Ya
    grind
theorem XI_mono {l : List Tk} {m0 : Zc} (hok : ∀ t ∈ l, OkT m0 t) {i j : Nat} (h : i ≤ j) : XI l i ≤ XI l j ∧ (i < j → j ≤ l.length → XI l i < XI l j) := by
  have hf : Fl l := fun t ht => (hok t ht).lo
  have h1 := Xa_mono hf h
  rw [← XI_Xa, ← XI_Xa] at h1
  refine ⟨by exact_mod_cast h1, fun hlt hj => ?_⟩
  have h2 := Xa_lt hf hlt hj
  rw [← XI_Xa, ← XI_Xa] at h2
  exact_mod_cast h2
theorem XI_small {l : List Tk} {m0 : Zc} (hok : ∀ t ∈ l, OkT m0 t) (hl : l.length ≤ 1000) (k : Nat) : 0 ≤ XI l k ∧ XI l k ≤ 1000000 := by
  obtain ⟨h1, h2⟩ := sum_small (p := l.take k) fun t ht => ⟨(hok t (List.mem_of_mem_take ht)).lo, (hok t (List.mem_of_mem_take ht)).hi⟩
  have h3 : (l.take k).length ≤ 1000 := by
    rw [List.length_take]
    omega
  unfold XI
  omega
theorem sz_Ya {l : List Tk} {m0 : Zc} (hok : ∀ t ∈ l, OkT m0 t) (hl : l.length ≤ m0.L) (k : Nat) : Sz m0.B (Ya l k) :=
  m0.sum (l.take k) (fun t ht => (hok t (List.mem_of_mem_take ht)).sz) (by rw [List.length_take]; omega)
theorem hz_l {l : List Tk} {m0 : Zc} (hok : ∀ t ∈ l, OkT m0 t) (hl : l.length ≤ m0.L) : Hz m0.B (l.map (·.2)) := by
  refine ⟨fun q hq => ?_, fun x hx => ?_⟩
  · obtain ⟨t, ht', rfl⟩ := List.mem_map.mp hq
    exact m0.one _ (hok t ht').sz
  · obtain ⟨k, hk, rfl⟩ := List.getElem_of_mem hx
    have hl2 : (hf 0 (l.map (·.2))).length = l.length + 1 := by
      have : ∀ (qs : List Rat) (q : Rat), (hf q qs).length = qs.length + 1 := fun qs => by
        induction qs with
        | nil => intro q; rfl
        | cons a qs ih => intro q; simp [hf, ih]
      rw [this, List.length_map]
    have e := hf_get (l := l) (k := k) 0 (by omega)
    rw [List.getElem?_eq_getElem hk] at e
    rw [Option.some.inj e, Rat.zero_add]
    exact sz_Ya hok hl k
/-- the law's line over a place -/
theorem chord_told {l : List Tk} {m0 : Zc} {B : Nat} {S : Sto} (hok : ∀ t ∈ l, OkT m0 t) (hl : l.length ≤ 1000) (hB : l.length ≤ m0.L ∧ m0.B ≤ B) (hB2 : B ≤ 3000) {i k j : Nat} (h1 : i ≤ k) (h2 : k ≤ j) (h3 : j ≤ l.length) :
    f_law_chord_z [dI (hfI 0 (l.map (·.1))), dF (hf 0 (l.map (·.2))), .int (i : Nat), .int (k : Nat), .int (j : Nat)] S = some (fr (chord l i k j), S) ∧ Sz (B + B + 51) (chord l i k j) := by
  have y : ∀ m, m ≤ l.length → (hf 0 (l.map (·.2)))[m]? = some (Ya l m) := fun m hm => by
    rw [hf_get 0 hm, Rat.zero_add]
  have zy : ∀ m, Sz B (Ya l m) := fun m => (sz_Ya hok hB.1 m).mono hB.2
  have sm := fun m => XI_small hok hl m
  have mono : ∀ a b, a ≤ b → XI l a ≤ XI l b := fun a b h => (XI_mono hok h).1
  have key := law_chord_ok (S := S) (xs := hfI 0 (l.map (·.1))) (hs := hf 0 (l.map (·.2))) (i := i) (k := k) (j := j) (n := B) (hfI_get (by omega)) (hfI_get (by omega)) (hfI_get h3) (Ya l i) (Ya l k) (Ya l j) (y i (by omega)) (y k (by omega)) (y j h3) (zy i) (zy j) hB2 (sm i).1 (mono _ _ h1) (mono _ _ h2) (by have := (sm j).2; omega) (fun h => (XI_mono hok (by omega)).2 h h3) (by omega)
  rw [XI_Xa, XI_Xa, XI_Xa] at key
  refine ⟨key, ?_⟩
  unfold chord
  split
  · exact (zy k).mono (by omega)
  · rename_i hne
    have hlt := (XI_mono hok (show i ≤ j by omega)).2 (by omega) h3
    have s1 := sm i; have s2 := sm k; have s3 := sm j
    have m1 := mono _ _ h1; have m2 := mono _ _ h2
    have := sz_line (u := XI l j - XI l k) (v := XI l k - XI l i) (w := XI l j - XI l i) (zy i) (zy j) (by omega) (by omega) (by omega) (by omega)
    rw [Rat.intCast_sub, Rat.intCast_sub, Rat.intCast_sub, XI_Xa, XI_Xa, XI_Xa] at this
    exact this
noncomputable def inB : DS := (dSeq (dAsg (dCall 5 f_law_chord_z [] (dCons (dVar 3) (dCons (dVar 4) (dCons (dVar 10) (dCons (dVar 6) (dCons (dVar 11) dNil)))))) (dName 12))
    (dIfS (dTest (dCall 2 f_law_under_z [] (dCons (dVar 12) (dCons (dVar 9) dNil))))
    (dAsg (dVar 12) (dName 9)) dNext))
section
variable {l : List Tk} {m0 : Zc} {B : Nat} {S : Sto} {k : Nat} {Z : Rat} {x0 x1 x2 x5 x7 x8 : Option DV}
abbrev rs (l : List Tk) (k : Nat) (x0 x1 x2 x5 x7 x8 : Option DV) (q : Rat) (v10 v11 v12 : Option DV) : Sl := [x0, x1, x2, some (dI (hfI 0 (l.map (·.1)))), some (dF (hf 0 (l.map (·.2)))), x5, some (.int (k : Nat)), x7, x8, some (fr q), v10, v11, v12]
theorem in_for (hok : ∀ t ∈ l, OkT m0 t) (hl : l.length ≤ 1000) (hB : l.length ≤ m0.L ∧ m0.B ≤ B) (hB2 : B ≤ 3000) {i : Nat} (hi : i ≤ k) : ∀ (js : List Nat) (q : Rat) (v11 v12 : Option DV), (∀ j ∈ js, k ≤ j ∧ j ≤ l.length ∧ Z ≤ chord l i k j) → Z ≤ q → Sz (B + B + 51) q →
    ∃ q' w11 w12, forL (dName 11) inB (js.map fun j => DV.int ((j : Nat) : Int)) (rs l k x0 x1 x2 x5 x7 x8 q (some (.int (i : Nat))) v11 v12) S = some (.nx (rs l k x0 x1 x2 x5 x7 x8 q' (some (.int (i : Nat))) w11 w12) S) ∧ Z ≤ q' ∧ Sz (B + B + 51) q' ∧ q' ≤ q ∧ ∀ j ∈ js, q' ≤ chord l i k j
  | [], q, v11, v12, _, h1, h2 => ⟨q, v11, v12, rfl, h1, h2, Rat.le_refl, fun j hj => by cases hj⟩
  | j :: js, q, v11, v12, hjs, h1, h2 => by
    obtain ⟨j1, j2, j3⟩ := hjs j (List.mem_cons_self)
    obtain ⟨e1, z1⟩ := chord_told (S := S) hok hl hB hB2 hi j1 j2
    have e2 := law_under_ok (S := S) z1 h2 (by omega) (by omega)
    by_cases hlt : chord l i k j < q
    · obtain ⟨q', w11, w12, e, g1, g2, g3, g4⟩ := in_for hok hl hB hB2 hi js (chord l i k j) (some (.int (j : Nat))) (some (fr (chord l i k j))) (fun y hy => hjs y (List.mem_cons_of_mem _ hy)) j3 z1
      refine ⟨q', w11, w12, ?_, g1, g2, Rat.le_trans g3 (Rat.le_of_lt hlt), fun y hy => ?_⟩
      · have body : inB (rs l k x0 x1 x2 x5 x7 x8 q (some (.int (i : Nat))) (some (.int (j : Nat))) v12) S = some (.nx (rs l k x0 x1 x2 x5 x7 x8 (chord l i k j) (some (.int (i : Nat))) (some (.int (j : Nat))) (some (fr (chord l i k j)))) S) := by
          unfold inB
          refine seq_nx (asg_name (d := fr (chord l i k j)) (S1 := S) (by simp [e1])) ?_
          exact if_t (S1 := S) (by simp [e2, hlt]) (asg_name (d := fr (chord l i k j)) (S1 := S) (by simp))
        simp only [List.map_cons, forL, dName, List.set_cons_succ, List.set_cons_zero, body, kLoop]
        exact e
      · rcases List.mem_cons.mp hy with rfl | hy
        · exact g3
        · exact g4 y hy
    · obtain ⟨q', w11, w12, e, g1, g2, g3, g4⟩ := in_for hok hl hB hB2 hi js q (some (.int (j : Nat))) (some (fr (chord l i k j))) (fun y hy => hjs y (List.mem_cons_of_mem _ hy)) h1 h2
      refine ⟨q', w11, w12, ?_, g1, g2, g3, fun y hy => ?_⟩
      · have body : inB (rs l k x0 x1 x2 x5 x7 x8 q (some (.int (i : Nat))) (some (.int (j : Nat))) v12) S = some (.nx (rs l k x0 x1 x2 x5 x7 x8 q (some (.int (i : Nat))) (some (.int (j : Nat))) (some (fr (chord l i k j)))) S) := by
          unfold inB
          refine seq_nx (asg_name (d := fr (chord l i k j)) (S1 := S) (by simp [e1])) ?_
          exact if_f (S1 := S) (by simp [e2, hlt]) rfl
        simp only [List.map_cons, forL, dName, List.set_cons_succ, List.set_cons_zero, body, kLoop]
        exact e
      · rcases List.mem_cons.mp hy with rfl | hy
        · exact Rat.le_trans g3 (Rat.not_lt.mp hlt)
        · exact g4 y hy
end
end FW
end
section
namespace FW
open PySem PyProof.Rows PySem.Spec L2 DL
noncomputable def outB : DS := (dFor (diR2 (dCons (dVar 6) (dCons (dOp (addD false) (dVar 8) (dC (.int 1))) dNil))) (dName 11) inB)
section
variable {l : List Tk} {m0 : Zc} {B : Nat} {S : Sto} {k a h : Nat} {Z : Rat} {x0 x1 x2 x5 : Option DV}
theorem rg_items (lo n : Nat) : (List.range n).map (fun i => DV.int ((lo : Int) + (i : Nat))) = ((List.range n).map fun i => lo + i).map fun j => DV.int ((j : Nat) : Int) := by
  rw [List.map_map]
  exact List.map_congr_left fun i _ => by simp
theorem mem_rg {lo hi j : Nat} (h : lo ≤ hi) : j ∈ ((List.range (hi + 1 - lo)).map fun i => lo + i) ↔ lo ≤ j ∧ j ≤ hi := by
  rw [List.mem_map]
  constructor
  · rintro ⟨i, hi', rfl⟩
    have := List.mem_range.mp hi'
    omega
  · rintro ⟨h1, h2⟩
    exact ⟨j - lo, List.mem_range.mpr (by omega), by omega⟩
theorem out_for (hok : ∀ t ∈ l, OkT m0 t) (hl : l.length ≤ 1000) (hB : l.length ≤ m0.L ∧ m0.B ≤ B) (hB2 : B ≤ 3000) (hkh : k ≤ h) (hh : h ≤ l.length) : ∀ (is : List Nat) (q : Rat) (v10 v11 v12 : Option DV), (∀ i ∈ is, i ≤ k ∧ ∀ j, k ≤ j → j ≤ h → Z ≤ chord l i k j) → Z ≤ q → Sz (B + B + 51) q →
    ∃ q' w10 w11 w12, forL (dName 10) outB (is.map fun j => DV.int ((j : Nat) : Int)) (rs l k x0 x1 x2 x5 (some (.int (a : Nat))) (some (.int (h : Nat))) q v10 v11 v12) S = some (.nx (rs l k x0 x1 x2 x5 (some (.int (a : Nat))) (some (.int (h : Nat))) q' w10 w11 w12) S) ∧ Z ≤ q' ∧ Sz (B + B + 51) q' ∧ q' ≤ q ∧ ∀ i ∈ is, ∀ j, k ≤ j → j ≤ h → q' ≤ chord l i k j
  | [], q, v10, v11, v12, _, h1, h2 => ⟨q, v10, v11, v12, rfl, h1, h2, Rat.le_refl, fun j hj => by cases hj⟩
  | i :: is, q, v10, v11, v12, his, h1, h2 => by
    obtain ⟨i1, i2⟩ := his i (List.mem_cons_self)
    obtain ⟨q1, u11, u12, e1, g1, g2, g3, g4⟩ := in_for (S := S) (x0 := x0) (x1 := x1) (x2 := x2) (x5 := x5) (x7 := some (.int (a : Nat))) (x8 := some (.int (h : Nat))) (Z := Z) hok hl hB hB2 i1 ((List.range (h + 1 - k)).map fun t => k + t) q v11 v12 (fun j hj => by
      obtain ⟨j1, j2⟩ := (mem_rg hkh).mp hj
      exact ⟨j1, by omega, i2 j j1 j2⟩) h1 h2
    obtain ⟨q', w10, w11, w12, e2, g5, g6, g7, g8⟩ := out_for hok hl hB hB2 hkh hh is q1 (some (.int (i : Nat))) u11 u12 (fun y hy => his y (List.mem_cons_of_mem _ hy)) g1 g2
    refine ⟨q', w10, w11, w12, ?_, g5, g6, Rat.le_trans g7 g3, fun y hy j j1 j2 => ?_⟩
    · have r1 : RgS (k : Int) := rgS_of (by omega) (by omega)
      have r2 : RgS ((h : Int) + 1) := rgS_of (by omega) (by omega)
      have ex : ((h : Int) + 1 - (k : Int)).toNat = h + 1 - k := by omega
      rw [← rg_items] at e1
      have body : outB (rs l k x0 x1 x2 x5 (some (.int (a : Nat))) (some (.int (h : Nat))) q (some (.int (i : Nat))) v11 v12) S = _ := for_of (it := .rg (k : Int) (h + 1 - k)) (S1 := S) (by simp [r1, r2, ex]) rfl e1
      simp only [List.map_cons, forL, dName, List.set_cons_succ, List.set_cons_zero, body, kLoop]
      exact e2
    · rcases List.mem_cons.mp hy with rfl | hy
      · exact Rat.le_trans g7 (g4 j ((mem_rg hkh).mpr ⟨j1, j2⟩))
      · exact g8 y hy j j1 j2
end
noncomputable def Zr (l : List Tk) (bs : List Int) (k : Nat) : Rat := rsum ((rest l bs).take k)
noncomputable def kB : DS := (dSeq (dAsg (dCall 3 f_law_ends_z [] (dCons (dCB lenD (dCons (dVar 0) dNil)) (dCons (dVar 2) (dCons (dVar 6) dNil)))) (dGTup 2 (dGCons (dName 7) (dGCons (dName 8) dGNil))))
    (dSeq (dAsg (dOp ixD (dVar 4) (dVar 6)) (dName 9))
    (dSeq (dFor (diR2 (dCons (dVar 7) (dCons (dOp (addD false) (dVar 6) (dC (.int 1))) dNil))) (dName 10)
    outB)
    (dDrop (dBM "list" appendD (dVar 5) (dCons (dVar 9) dNil))))))
theorem k_step {l : List Tk} {bs : List Int} {m0 : Zc} {B : Nat} {S : Sto} {k : Nat} {acc : List DV} {v6 v7 v8 v9 v10 v11 v12 : Option DV} (h0 : l ≠ []) (hok : ∀ t ∈ l, OkT m0 t) (hl : l.length ≤ 1000) (hB : l.length ≤ m0.L ∧ m0.B ≤ B) (hB2 : B ≤ 3000) (hbs : ∀ b ∈ bs, 1 ≤ b ∧ b < (l.length : Int)) (hbl : bs.length ≤ 1000) (hk : k ≤ l.length) (hacc : acc.length < 90000) :
    ∃ w7 w8 w9 w10 w11 w12, kB [some (dI (l.map (·.1))), some (dF (l.map (·.2))), some (dI bs), some (dI (hfI 0 (l.map (·.1)))), some (dF (hf 0 (l.map (·.2)))), some (.ptr S.length), some (.int (k : Nat)), v7, v8, v9, v10, v11, v12] (S ++ [.ml acc]) =
      some (.nx [some (dI (l.map (·.1))), some (dF (l.map (·.2))), some (dI bs), some (dI (hfI 0 (l.map (·.1)))), some (dF (hf 0 (l.map (·.2)))), some (.ptr S.length), some (.int (k : Nat)), w7, w8, w9, w10, w11, w12] (S ++ [.ml (acc ++ [fr (Zr l bs k)])])) ∧ Sz (B + B + 51) (Zr l bs k) := by
  obtain ⟨a, h, lo, ma, mx, mh, mn⟩ := low_ok h0 hok hbs hk
  have en := law_ends_ok (S := S ++ [.ml acc]) hbl ma lo.ak mx mh lo.kh mn hk
  have y : (hf 0 (l.map (·.2)))[k]? = some (Ya l k) := by rw [hf_get 0 hk, Rat.zero_add]
  have iy : ∀ S, ixD (dF (hf 0 (l.map (·.2)))) (.int (k : Nat)) S = some (fr (Ya l k), S) := fun S => ixD_lst (at_nat rfl (by rw [List.getElem?_map, y]; rfl))
  have ykk : chord l k k k = Ya l k := by unfold chord; rw [if_pos rfl]
  have hZ : Zr l bs k ≤ Ya l k := by
    rw [← ykk]
    exact lo.lo k k lo.ak (Nat.le_refl _) (Nat.le_refl _) lo.kh
  obtain ⟨q', w10, w11, w12, e, g1, g2, g3, g4⟩ := out_for (S := S ++ [.ml acc]) (a := a) (h := h) (k := k) (x0 := some (dI (l.map (·.1)))) (x1 := some (dF (l.map (·.2)))) (x2 := some (dI bs)) (x5 := some (.ptr S.length)) (Z := Zr l bs k) hok hl hB hB2 lo.kh lo.hn ((List.range (k + 1 - a)).map fun t => a + t) (Ya l k) v10 v11 v12 (fun i hi => by
    obtain ⟨i1, i2⟩ := (mem_rg lo.ak).mp hi
    exact ⟨i2, fun j j1 j2 => lo.lo i j i1 i2 j1 j2⟩) hZ ((sz_Ya hok hB.1 k).mono (by omega))
  obtain ⟨i, j, i1, i2, j1, j2, hc⟩ := lo.at_
  have hq : q' = Zr l bs k := by
    have := g4 i ((mem_rg lo.ak).mpr ⟨i1, i2⟩) j j1 j2
    rw [hc] at this
    exact Rat.le_antisymm this g1
  rw [hq] at e g2
  refine ⟨some (.int (a : Nat)), some (.int (h : Nat)), some (fr (Zr l bs k)), w10, w11, w12, ?_, g2⟩
  have r1 : RgS (a : Int) := rgS_of (by omega) (by have := lo.ak; omega)
  have r2 : RgS ((k : Int) + 1) := rgS_of (by omega) (by omega)
  have ex : ((k : Int) + 1 - (a : Int)).toNat = k + 1 - a := by omega
  have hlen : ∀ S, lenD [dI (l.map (·.1))] S = some (.int (l.length : Nat), S) := fun S => by simp [dI]
  have ap := appendD_top (S := S) (ds := acc) (d := fr (Zr l bs k)) (by omega)
  rw [← rg_items] at e
  have key : dFor (diR2 (dCons (dVar 7) (dCons (dOp (addD false) (dVar 6) (dC (.int 1))) dNil))) (dName 10) outB (rs l k (some (dI (l.map (·.1)))) (some (dF (l.map (·.2)))) (some (dI bs)) (some (.ptr S.length)) (some (.int (a : Nat))) (some (.int (h : Nat))) (Ya l k) v10 v11 v12) (S ++ [.ml acc]) = _ :=
    for_of (it := .rg (a : Int) (k + 1 - a)) (S1 := S ++ [.ml acc]) (by simp [r1, r2, ex]) rfl e
  unfold kB
  refine seq_nx (s1 := [some (dI (l.map (·.1))), some (dF (l.map (·.2))), some (dI bs), some (dI (hfI 0 (l.map (·.1)))), some (dF (hf 0 (l.map (·.2)))), some (.ptr S.length), some (.int (k : Nat)), some (.int (a : Nat)), some (.int (h : Nat)), v9, v10, v11, v12]) (S1 := S ++ [.ml acc]) (by simp [hlen, en]) ?_
  refine seq_nx (asg_name (d := fr (Ya l k)) (S1 := S ++ [.ml acc]) (by simp [iy])) ?_
  refine seq_nx key ?_
  exact drop_of (d := .non) (by simp [ap])
theorem ss_len {l : List Tk} {m0 : Zc} (hok : ∀ t ∈ l, OkT m0 t) : ∀ (m : List Int) (c n : Nat), ((c : Int) :: (m ++ [(n : Int)])).Pairwise (· ≤ ·) → n ≤ l.length → (ss l ((c : Int) :: (m ++ [(n : Int)]))).length = n - c
  | [], c, n, hs, hn => by
    have hcn := (List.pairwise_cons.mp hs).1 (n : Int) (by simp)
    have okS : ∀ t ∈ seg l ((c : Int), (n : Int)), OkT m0 t := fun t h => hok t (seg_mem h)
    obtain ⟨_, _, q3⟩ := pools_ok okS
    show ((pools (seg l ((c : Int), (n : Int)))).flatMap lay ++ []).length = _
    rw [List.append_nil, lay_len, q3, seg_length hn (by omega)]
  | d :: m, c, n, hs, hn => by
    obtain ⟨h1, h2⟩ := List.pairwise_cons.mp hs
    have h2' : (d :: (m ++ [(n : Int)])).Pairwise (· ≤ ·) := h2
    have hcd := h1 d (by simp)
    have hdn := (List.pairwise_cons.mp h2').1 (n : Int) (by simp)
    obtain ⟨d', rfl⟩ : ∃ d' : Nat, d = (d' : Int) := ⟨d.toNat, by omega⟩
    have okS : ∀ t ∈ seg l ((c : Int), (d' : Int)), OkT m0 t := fun t h => hok t (seg_mem h)
    obtain ⟨_, _, q3⟩ := pools_ok okS
    have ih := ss_len hok m d' n h2' hn
    show ((pools (seg l ((c : Int), (d' : Int)))).flatMap lay ++ ss l ((d' : Int) :: (m ++ [(n : Int)]))).length = _
    rw [List.length_append, lay_len, q3, seg_length (by omega) (by omega), ih]
    omega
theorem rest_len {l : List Tk} {bs : List Int} {m0 : Zc} (hok : ∀ t ∈ l, OkT m0 t) (hbs : ∀ b ∈ bs, 1 ≤ b ∧ b < (l.length : Int)) : (rest l bs).length = l.length := by
  rw [rest_eq]
  have := ss_len hok (sortI bs) 0 l.length (cuts_ok hbs).1 (Nat.le_refl _)
  exact this
theorem rsum_step : ∀ {r : List Rat} {k : Nat} {q : Rat}, r[k]? = some q → rsum (r.take (k + 1)) - rsum (r.take k) = q
  | [], _, _, h => by cases h
  | x :: r, 0, q, h => by
    cases h
    simp [rsum]
    grind
  | x :: r, k + 1, q, h => by
    have := rsum_step (r := r) (k := k) (q := q) (by simpa using h)
    simp only [List.take_succ_cons, rsum]
    grind
theorem xs_told {ws : List Int} {x1 x2 x3 x4 x5 x6 x7 x8 x9 x10 x11 x12 : Option DV} {S : Sto} (hl : ws.length ≤ 1000) : dLc false (diR1 (dCons (dOp (addD false) (dCB lenD (dCons (dVar 0) dNil)) (dC (.int 1))) dNil)) (dName 6) dYes (dCB sumD (dCons (dSlL false (dVar 0) doN (doS (dVar 6))) dNil)) [6] [some (dI ws), x1, x2, x3, x4, x5, x6, x7, x8, x9, x10, x11, x12] S = some (dI (hfI 0 ws), S) := by
  have hr : RgS ((ws.length : Int) + 1) := rgS_of (by omega) (by omega)
  refine (lc_of (it := .rg 0 (ws.length + 1)) (xs := (List.range (ws.length + 1)).map fun i => DV.int (0 + (i : Nat))) (acc := ((List.range (ws.length + 1)).map fun i => DV.int (0 + (ws.take i).sum))) (S1 := S) (S2 := S) ?_ rfl ?_ (by simp; omega)).trans ?_
  · simp [dI, hr]
  · rw [lcL_map (g := fun x => match x with
      | .int i => .int (0 + (ws.take i.toNat).sum)
      | d => d) fun x hx => ?_]
    · rw [List.nil_append, List.map_map]
      refine congrArg (fun z => some (z, S)) (List.map_congr_left fun i _ => ?_)
      simp
    · obtain ⟨i, hi, rfl⟩ := List.mem_map.mp hx
      have hi' : i ≤ (ws.map DV.int).length := by simp at hi ⊢; omega
      refine ⟨_, rfl, rfl, ?_⟩
      have hc : cutL (ws.map DV.int) none (some (0 + (i : Int))) = (ws.take i).map DV.int := by
        rw [Int.zero_add, cut_take hi', List.map_take]
      have h2 : toIs (List.take i (ws.map DV.int)) = some (ws.take i) := by rw [← List.map_take, toIs_map]
      simp [dSlL, dI, wipeD]
      rw [← Int.zero_add (i : Int), hc]
      simp [sumD, h2]
  · rw [newL_f, ← hfI_takes]
    simp [dI, Function.comp_def]
theorem hf_length : ∀ (qs : List Rat) (q : Rat), (hf q qs).length = qs.length + 1
  | [], _ => rfl
  | p :: ps, q => by simp [hf, hf_length ps]
theorem hfI_length : ∀ (qs : List Int) (q : Int), (hfI q qs).length = qs.length + 1
  | [], _ => rfl
  | p :: ps, q => by simp [hfI, hfI_length ps]
theorem exF_cut {S X : Sto} {d : DV} (h : clo S.length d = true) (hp : ∀ n, d ≠ .ptr n) : exF (some false) S d (S ++ X) = some (d, S) := by
  unfold exF exF1
  simp only
  split
  · rename_i hx
    have : X = [] := by simpa using hx
    subst this
    rw [List.append_nil]
  · rename_i hx
    rw [if_pos ⟨by simp at hx ⊢; exact List.length_pos_iff.mpr (fun z => hx (by simp [z])), fun n hn => .inl (by rw [List.getElem?_append_left hn])⟩]
    unfold exR
    split
    · exact absurd rfl (hp _)
    · rw [if_pos h, List.take_left]
theorem law_rest_ok {l : List Tk} {bs : List Int} {m0 : Zc} {B : Nat} {S : Sto} (h0 : l ≠ []) (hok : ∀ t ∈ l, OkT m0 t) (hl : l.length ≤ 100) (hB : l.length ≤ m0.L ∧ m0.B ≤ B) (hB2 : B ≤ 1500) (hbs : ∀ b ∈ bs, 1 ≤ b ∧ b < (l.length : Int)) (hbl : bs.length ≤ 1000) :
    f_law_rest_z [dI (l.map (·.1)), dF (l.map (·.2)), dI bs] S = some (dF (rest l bs), S) := by
  have hs := law_heaps_okB (S := S) (hz_l hok hB.1) (by omega) (by rw [List.length_map]; omega)
  have xs := fun x1 x2 x3 x4 x5 x6 x7 x8 x9 x10 x11 x12 => xs_told (ws := l.map (·.1)) (x1 := x1) (x2 := x2) (x3 := x3) (x4 := x4) (x5 := x5) (x6 := x6) (x7 := x7) (x8 := x8) (x9 := x9) (x10 := x10) (x11 := x11) (x12 := x12) (S := S) (by rw [List.length_map]; omega)
  have hxl : (hfI 0 (l.map (·.1))).length = l.length + 1 := by rw [hfI_length, List.length_map]
  have szZ : ∀ k, k ≤ l.length → Sz (B + B + 51) (Zr l bs k) := fun k hk =>
    (k_step (S := S) (acc := []) (v6 := none) (v7 := none) (v8 := none) (v9 := none) (v10 := none) (v11 := none) (v12 := none) h0 hok (by omega) hB (by omega) hbs hbl hk (by simp)).choose_spec.choose_spec.choose_spec.choose_spec.choose_spec.choose_spec.2
  obtain ⟨s', S', e, w6, w7, w8, w9, w10, w11, w12, rfl, rfl⟩ := forL_inv (tgt := dName 6) (body := kB) (fun k s S' => ∃ w6 w7 w8 w9 w10 w11 w12, s = [some (dI (l.map (·.1))), some (dF (l.map (·.2))), some (dI bs), some (dI (hfI 0 (l.map (·.1)))), some (dF (hf 0 (l.map (·.2)))), some (.ptr S.length), w6, w7, w8, w9, w10, w11, w12] ∧ S' = S ++ [.ml ((List.range k).map fun i => fr (Zr l bs i))])
    (xs := (List.range (l.length + 1)).map fun i => DV.int (0 + (i : Nat))) (s := [some (dI (l.map (·.1))), some (dF (l.map (·.2))), some (dI bs), some (dI (hfI 0 (l.map (·.1)))), some (dF (hf 0 (l.map (·.2)))), some (.ptr S.length), none, none, none, none, none, none, none]) (S := S ++ [.ml []]) (k := 0)
    ⟨_, _, _, _, _, _, _, rfl, rfl⟩ (by
      rintro i x s S1 hx ⟨w6, w7, w8, w9, w10, w11, w12, rfl, rfl⟩
      obtain ⟨n, hn, rfl⟩ := map_at hx
      obtain ⟨hi, hn⟩ := List.getElem?_eq_some_iff.mp hn
      have hi' : i < l.length + 1 := by simpa using hi
      have hni : n = i := by rw [← hn]; simp
      subst hni
      obtain ⟨u7, u8, u9, u10, u11, u12, e, _⟩ := k_step (S := S) (acc := (List.range (0 + n)).map fun i => fr (Zr l bs i)) (v6 := none) (v7 := w7) (v8 := w8) (v9 := w9) (v10 := w10) (v11 := w11) (v12 := w12) h0 hok (by omega) hB (by omega) hbs hbl (show n ≤ l.length by omega) (by simp; omega)
      refine ⟨_, _, _, _, rfl, .inl ?_, some (.int (n : Nat)), u7, u8, u9, u10, u11, u12, rfl, rfl⟩
      rw [Int.zero_add]
      refine e.trans ?_
      rw [List.range_succ, List.map_append]
      simp)
  have len : (rest l bs).length = l.length := rest_len hok hbs
  have fin : lcL (dName 6) dYes (dCall 2 f_law_minus_z [] (dCons (dOp ixD (dVar 5) (dOp (addD false) (dVar 6) (dC (.int 1)))) (dCons (dOp ixD (dVar 5) (dVar 6)) dNil))) [6] ((List.range l.length).map fun i => DV.int (0 + (i : Nat))) [] [some (dI (l.map (·.1))), some (dF (l.map (·.2))), some (dI bs), some (dI (hfI 0 (l.map (·.1)))), some (dF (hf 0 (l.map (·.2)))), some (.ptr S.length), w6, w7, w8, w9, w10, w11, w12] (S ++ [.ml ((List.range (l.length + 1)).map fun i => fr (Zr l bs i))]) = some ((rest l bs).map fr, S ++ [.ml ((List.range (l.length + 1)).map fun i => fr (Zr l bs i))]) := by
    rw [lcL_map (g := fun x => match x with
      | .int i => fr ((rest l bs).getD i.toNat 0)
      | d => d) fun x hx => ?_]
    · rw [List.nil_append, List.map_map]
      refine congrArg (fun z => some (z, _)) (List.ext_getElem (by simp [len]) fun i h1 h2 => ?_)
      have hi : i < (rest l bs).length := by simpa using h2
      simp [hi]
    · obtain ⟨i, hi, rfl⟩ := List.mem_map.mp hx
      have hi' : i < l.length := by simpa using hi
      refine ⟨_, rfl, rfl, ?_⟩
      have ix : ∀ m : Nat, m ≤ l.length → ixD (.ptr S.length) (.int (m : Int)) (S ++ [.ml ((List.range (l.length + 1)).map fun i => fr (Zr l bs i))]) = some (fr (Zr l bs m), S ++ [.ml ((List.range (l.length + 1)).map fun i => fr (Zr l bs i))]) := fun m hm => by
        have : L2.atI ((List.range (l.length + 1)).map fun i => fr (Zr l bs i)) (m : Int) = some (fr (Zr l bs m)) := at_nat rfl (by rw [List.getElem?_map, List.getElem?_range (by omega)]; rfl)
        simp only [ixD, rdL_top, Option.or, this]
      have i1 := ix i (by omega)
      have i2 := ix (i + 1) (by omega)
      have mn := law_minus_ok (S := S ++ [.ml ((List.range (l.length + 1)).map fun i => fr (Zr l bs i))]) (szZ (i + 1) (by omega)) (szZ i (by omega)) (by omega)
      have st : Zr l bs (i + 1) - Zr l bs i = (rest l bs).getD i 0 := rsum_step (by rw [List.getElem?_eq_getElem (by omega)]; simp [len, hi'])
      rw [st] at mn
      have c1 : ((i + 1 : Nat) : Int) = (i : Int) + 1 := by omega
      rw [c1] at i2
      simp [wipeD, i1, i2, mn]
  have hrg1 : RgS ((l.length + 1 : Nat) : Int) := rgS_of (by omega) (by omega)
  have hrg2 : RgS (l.length : Int) := rgS_of (by omega) (by omega)
  have hn100 : (rest l bs).length ≤ 100000 := by omega
  have hlx : ∀ S, lenD [dI (hfI 0 (l.map (·.1)))] S = some (.int ((l.length + 1 : Nat) : Int), S) := fun S => by simp only [dI, lenD_lst, List.length_map, hxl]
  have hlw : ∀ S, lenD [dI (l.map (·.1))] S = some (.int (l.length : Nat), S) := fun S => by simp [dI]
  rw [Nat.zero_add, List.length_map, List.length_range] at e
  have key : dFor (diR1 (dCons (dCB lenD (dCons (dVar 3) dNil)) dNil)) (dName 6) kB [some (dI (l.map (·.1))), some (dF (l.map (·.2))), some (dI bs), some (dI (hfI 0 (l.map (·.1)))), some (dF (hf 0 (l.map (·.2)))), some (.ptr S.length), none, none, none, none, none, none, none] (S ++ [.ml []]) = _ :=
    for_of (it := .rg 0 (l.length + 1)) (S1 := S ++ [.ml []]) (by
      simp only [diR1_eq, dCons, dCB, dVar, dNil, List.getElem?_cons_zero, List.getElem?_cons_succ, bnd_some', hlx, rg1_int hrg1]
      rfl) rfl e
  refine fn_rt (d := dF (rest l bs)) (S1 := S ++ [.ml ((List.range (l.length + 1)).map fun i => fr (Zr l bs i))]) ?_ (exF_cut clos_fr fun n z => by cases z)
  show b_law_rest_z [some (dI (l.map (·.1))), some (dF (l.map (·.2))), some (dI bs), none, none, none, none, none, none, none, none, none, none] S = _
  have e1 := xs (some (dF (l.map (·.2)))) (some (dI bs)) none none none none none none none none none none
  have e2 : dCall 1 f_law_heaps_z [] (dCons (dVar 1) dNil) [some (dI (l.map (·.1))), some (dF (l.map (·.2))), some (dI bs), some (dI (hfI 0 (l.map (·.1)))), none, none, none, none, none, none, none, none, none] S = some (dF (hf 0 (l.map (·.2))), S) := by
    simp only [dCall, dCons, dVar, dNil, List.getElem?_cons_zero, List.getElem?_cons_succ, bnd_some', List.append_nil, List.length_cons, List.length_nil, if_true]
    exact hs
  refine seq_nx (asg_name e1) ?_
  refine seq_nx (asg_name e2) ?_
  refine seq_nx (asg_name (d := .ptr S.length) (S1 := S ++ [.ml []]) (by simp)) ?_
  refine seq_nx key ?_
  refine ret_of ((lc_of (it := .rg 0 l.length) (S1 := S ++ [.ml ((List.range (l.length + 1)).map fun i => fr (Zr l bs i))]) ?_ rfl fin (by rw [List.length_map]; exact hn100)).trans rfl)
  simp only [diR1_eq, dCons, dCB, dVar, dNil, List.getElem?_cons_zero, List.getElem?_cons_succ, bnd_some', hlw, rg1_int hrg2]
  rfl
end FW
end
section
namespace FW
open PySem PyProof.Rows PySem.Spec L2 DL
theorem law_shuffled_ok {t : Tr} {G : Sto} {N : Int} {xs : List Int} (h : t.ok N) (hN : N < 2 ^ 40) (hl : xs.length ≤ 1000) :
    ∃ (out : List Int) (t' : Tr), f_law_shuffled_z [.ptr 1, dI xs] (t.st G) = some (dI out, t'.st G) ∧ out.Perm xs ∧ t'.ok (N + xs.length) := by
  obtain ⟨acc, S', e, out, left, t3, rfl, rfl, hp, hlen, k3⟩ := lcL_inv (tgt := dName 3) (tt := dYes) (te := (dBM "list" popAtD (dVar 2) (dCons (dCall 2 f_law_draw_z [] (dCons (dVar 0) (dCons (dCB lenD (dCons (dVar 2) dNil)) dNil))) dNil))) (vs := [3])
    (s := [some (.ptr 1), some (dI xs), some (.ptr (G.length + 2)), none]) (fun k acc S => ∃ (out left : List Int) (t' : Tr), acc = out.map DV.int ∧ S = t'.st (G ++ [.ml (left.map DV.int)]) ∧ (out ++ left).Perm xs ∧ left.length + k = xs.length ∧ t'.ok (N + k))
    (xs := (List.range xs.length).map fun i => DV.int (0 + (i : Nat))) (acc := []) (S := t.st (G ++ [.ml (xs.map DV.int)])) (k := 0) ⟨[], xs, t, rfl, rfl, List.Perm.refl _, rfl, by simpa using h⟩ (by
      rintro i x acc S hx ⟨out, left, t', rfl, rfl, hp, hlen, hk⟩
      have hi : i < xs.length := by simpa using (List.getElem?_eq_some_iff.mp hx).1
      obtain ⟨r, t'', e, r0, r1, k⟩ := draw_ok (G := G ++ [.ml (left.map DV.int)]) (m := left.length) hk (by omega) (by omega) (by omega)
      have hr : r.toNat < left.length := by omega
      have hlr : lenD [.ptr (G.length + 2)] (t'.st (G ++ [.ml (left.map DV.int)])) = some (.int (left.length : Nat), t'.st (G ++ [.ml (left.map DV.int)])) := by
        simp [lenD]
      have hix : L2.ixN (left.map DV.int).length r = some r.toNat := by
        unfold L2.ixN
        rw [if_pos r0, if_pos (by simp; omega)]
      have hpop : popAtD (.ptr (G.length + 2)) [.int r] (t''.st (G ++ [.ml (left.map DV.int)])) = some (.int (left[r.toNat]), t''.st (G ++ [.ml ((left.eraseIdx r.toNat).map DV.int)])) := by
        have hb : left.length ≤ 100000 := by omega
        have hp : ptrL (t''.st (G ++ [.ml (left.map DV.int)])) (.ptr (G.length + 2)) = some (G.length + 2, left.map DV.int) := ptrL_top (S := t''.st G)
        have hs : (t''.st (G ++ [.ml (left.map DV.int)])).set (G.length + 2) (.ml ((left.eraseIdx r.toNat).map DV.int)) = t''.st (G ++ [.ml ((left.eraseIdx r.toNat).map DV.int)]) := top_set (S := t''.st G)
        have hg : (left.map DV.int)[r.toNat]? = some (.int left[r.toNat]) := by rw [List.getElem?_map, List.getElem?_eq_getElem hr]; rfl
        have he : (left.map DV.int).eraseIdx r.toNat = (left.eraseIdx r.toNat).map DV.int := by
          rw [List.eraseIdx_eq_take_drop_succ, List.eraseIdx_eq_take_drop_succ, List.map_append, List.map_take, List.map_drop]
        unfold popAtD
        simp only [hp, hix, hg]
        rw [gate_ok (by rw [List.length_map]; exact hb), he, hs]
      refine ⟨_, _, true, _, rfl, rfl, ?_⟩
      rw [if_pos rfl]
      refine ⟨.int left[r.toNat], t''.st (G ++ [.ml ((left.eraseIdx r.toNat).map DV.int)]), ?_, out ++ [left[r.toNat]], left.eraseIdx r.toNat, t'', by simp, rfl, ?_, ?_, k.mono (by omega)⟩
      · simp [wipeD, hlr, e, hpop]
      · refine List.Perm.trans ?_ hp
        rw [List.append_assoc]
        refine List.Perm.append_left _ ?_
        rw [List.eraseIdx_eq_take_drop_succ]
        have e3 : left = left.take r.toNat ++ left[r.toNat] :: left.drop (r.toNat + 1) := by
          rw [← List.drop_eq_getElem_cons hr, List.take_append_drop]
        refine List.Perm.trans (List.perm_middle.symm : (left[r.toNat] :: (left.take r.toNat ++ left.drop (r.toNat + 1))).Perm _) ?_
        rw [← e3]
      · rw [List.length_eraseIdx_of_lt hr]
        omega)
  have hz : left = [] := by
    have : left.length = 0 := by
      simp only [List.length_map, List.length_range, Nat.zero_add] at hlen
      omega
    exact List.length_eq_zero_iff.mp this
  subst hz
  rw [List.append_nil] at hp
  refine ⟨out, t3, ?_, hp, k3.mono (by simp)⟩
  have hol : out.length ≤ 100000 := by rw [hp.length_eq]; omega
  have hrg : RgS (xs.length : Int) := rgS_of (by omega) (by omega)
  have hlx : lenD [.ptr (G.length + 2)] (t.st (G ++ [.ml (xs.map DV.int)])) = some (.int (xs.length : Nat), t.st (G ++ [.ml (xs.map DV.int)])) := by
    simp [lenD]
  refine fn_rt (d := dI out) (S1 := t3.st (G ++ [.ml []])) ?_ (exF_tray (clos_map (fun _ => rfl) out) fun n z => by cases z)
  refine seq_nx (asg_name (d := .ptr (G.length + 2)) (S1 := t.st (G ++ [.ml (xs.map DV.int)])) (by simp [dI, listD])) ?_
  refine ret_of ((lc_of (it := .rg 0 xs.length) (S1 := t.st (G ++ [.ml (xs.map DV.int)])) ?_ rfl e (by rw [List.length_map]; exact hol)).trans rfl)
  simp [hlx, hrg]
theorem law_bolts_ok {t : Tr} {G : Sto} {N : Int} {n : Nat} (h : t.ok N) (hN : N < 2 ^ 30) (h1 : 1 ≤ n) (hl : n ≤ 500) :
    ∃ (bs : List Int) (t' : Tr), f_law_bolts_z [.ptr 1, .int (n : Nat)] (t.st G) = some (dI bs, t'.st G) ∧ (∀ b ∈ bs, 1 ≤ b ∧ b < (n : Int)) ∧ bs.Nodup ∧ bs.length ≤ n ∧ t'.ok (N + 1 + 2 * n) := by
  obtain ⟨fs, hfs⟩ : ∃ fs : List Int, fs = (List.range (n - 1)).map (fun (i : Nat) => (1 : Int) + (i : Int)) := ⟨_, rfl⟩
  have fm : ∀ b ∈ fs, 1 ≤ b ∧ b < (n : Int) := fun b hb => by
    rw [hfs] at hb
    obtain ⟨i, hi, rfl⟩ := List.mem_map.mp hb
    have := List.mem_range.mp hi
    omega
  have fn : fs.Nodup := by
    rw [hfs]
    exact List.pairwise_map.mpr (List.nodup_range.imp fun h => by omega)
  have fl' : fs.length = n - 1 := by rw [hfs]; simp
  have e0 : dLr2 false (dC (.int 1)) (dVar 1) [some (.ptr 1), some (.int (n : Nat)), none, none, none] (t.st G) = some (dI fs, t.st G) := by
    have hg : (0 : Int) ≤ 1 ∧ (1 : Int) ≤ 100000 ∧ 0 ≤ (n : Int) ∧ (n : Int) ≤ 100000 := by omega
    have ht : ((n : Int) - 1).toNat = n - 1 := by omega
    simp only [dLr2, dC, dVar, List.getElem?_cons_zero, List.getElem?_cons_succ, bnd_some', gate_ok hg, rgD, ht, newL_f, dI, hfs, List.map_map]
    rfl
  obtain ⟨r, t1, e1, a1, b1, k1⟩ := draw_ok (G := G) (m := 4) h (by omega) (by decide) (by decide)
  have mem_of : ∀ {bs : List Int}, bs.Perm fs → (∀ b ∈ bs, 1 ≤ b ∧ b < (n : Int)) ∧ bs.Nodup ∧ bs.length ≤ n := fun hp => ⟨fun b hb => fm b (hp.mem_iff.mp hb), hp.nodup_iff.mpr fn, by rw [hp.length_eq, fl']; omega⟩
  by_cases hr : r < 2
  · by_cases hr1 : r = 1
    · obtain ⟨out, t2, e2, hp, k2⟩ := law_shuffled_ok (G := G) (xs := fs) k1 (by omega) (by omega)
      obtain ⟨m1, m2, m3⟩ := mem_of hp
      refine ⟨out, t2, fn_rt (d := dI out) (S1 := t2.st G) ?_ (exF_len rfl), m1, m2, m3, k2.mono (by omega)⟩
      refine seq_nx (asg_name e0) ?_
      refine seq_nx (asg_name (d := .int r) (S1 := t1.st G) (by simp [e1])) ?_
      exact seq_rt (if_t (S1 := t1.st G) (by simp [hr]) (ret_of (by simp [hr1, e2])))
    · refine ⟨[], t1, fn_rt (d := dI []) (S1 := t1.st G) ?_ (exF_len rfl), (fun b hb => by cases hb), List.nodup_nil, Nat.zero_le _, k1.mono (by omega)⟩
      refine seq_nx (asg_name e0) ?_
      refine seq_nx (asg_name (d := .int r) (S1 := t1.st G) (by simp [e1])) ?_
      exact seq_rt (if_t (S1 := t1.st G) (by simp [hr]) (ret_of (by simp [hr1, dI])))
  · obtain ⟨acc, S', e, sub, t2, rfl, rfl, hs, k2⟩ := lcL_inv (tgt := dName 4) (tt := dTest (dOp eqD (dCall 2 f_law_draw_z [] (dCons (dVar 0) (dCons (dVar 3) dNil))) (dC (.int 0)))) (te := dVar 4) (vs := [4])
      (s := [some (.ptr 1), some (.int (n : Nat)), some (dI fs), some (.int r), none]) (fun k acc S => ∃ (sub : List Int) (t' : Tr), acc = sub.map DV.int ∧ S = t'.st G ∧ sub.Sublist (fs.take k) ∧ t'.ok (N + 1 + k))
      (xs := fs.map DV.int) (acc := []) (S := t1.st G) (k := 0) ⟨[], t1, rfl, rfl, List.nil_sublist _, by simpa using k1⟩ (by
        rintro i x acc S hx ⟨sub, t', rfl, rfl, hs, hk⟩
        obtain ⟨f, hf, rfl⟩ := map_at hx
        have hi : i < fs.length := (List.getElem?_eq_some_iff.mp hf).1
        obtain ⟨r2, t'', e, r0, r1, k⟩ := draw_ok (G := G) (m := r) hk (by omega) (by omega) (by omega)
        have ht : fs.take (0 + i + 1) = fs.take (0 + i) ++ [f] := by
          rw [Nat.zero_add, List.take_succ, hf]
          rfl
        have hk' : t''.ok (N + 1 + ((0 + i + 1 : Nat) : Int)) := k.mono (by omega)
        by_cases hz : r2 = 0
        · refine ⟨_, _, true, t''.st G, rfl, by simp [wipeD, e, hz], ?_⟩
          rw [if_pos rfl]
          exact ⟨.int f, t''.st G, by simp [wipeD], sub ++ [f], t'', by simp, rfl, by rw [ht]; exact List.Sublist.append hs (List.Sublist.refl _), hk'⟩
        · refine ⟨_, _, false, t''.st G, rfl, by simp [wipeD, e, hz], ?_⟩
          rw [if_neg (by decide)]
          exact ⟨sub, t'', rfl, rfl, by rw [ht]; exact hs.trans (List.sublist_append_left _ _), hk'⟩)
    rw [Nat.zero_add, List.length_map] at hs k2
    rw [List.take_length] at hs
    have sl' := hs.length_le
    obtain ⟨out, t3, e3, hp, k3⟩ := law_shuffled_ok (G := G) (xs := sub) k2 (by omega) (by omega)
    refine ⟨out, t3, fn_rt (d := dI out) (S1 := t3.st G) ?_ (exF_len rfl), fun b hb => fm b (hs.subset (hp.mem_iff.mp hb)), hp.nodup_iff.mpr (hs.nodup fn), by rw [hp.length_eq]; omega, k3.mono (by omega)⟩
    have lc := lc_of (m := false) (it := .li (dI fs)) (S1 := t1.st G) (fi := diL (dVar 2)) (s := [some (.ptr 1), some (.int (n : Nat)), some (dI fs), some (.int r), none]) (S := t1.st G) (by simp [diL, dI]) rfl e (by rw [List.length_map]; omega)
    rw [newL_f] at lc
    refine seq_nx (asg_name e0) ?_
    refine seq_nx (asg_name (d := .int r) (S1 := t1.st G) (by simp [e1])) ?_
    refine seq_nx (if_f (S1 := t1.st G) (by simp [hr]) rfl) ?_
    refine ret_of ?_
    show dCall 2 f_law_shuffled_z [] _ [some (.ptr 1), some (.int (n : Nat)), some (dI fs), some (.int r), none] (t1.st G) = _
    unfold dI at e3 lc ⊢
    simp only [dCall, dCons, dNil, dVar, List.getElem?_cons_zero, List.getElem?_cons_succ, bnd_some', List.append_nil, List.length_cons, List.length_nil, if_true, lc]
    exact e3
end FW
end
section
namespace FW
open PySem PyProof.Rows PySem.Spec L2 DL
theorem hf_cons (q : Rat) (qs : List Rat) : ∃ r, hf q qs = q :: r := by
  cases qs with
  | nil => exact ⟨[], rfl⟩
  | cons p ps => exact ⟨_, rfl⟩
theorem hfI_cons (q : Int) (qs : List Int) : ∃ r, hfI q qs = q :: r := by
  cases qs with
  | nil => exact ⟨[], rfl⟩
  | cons p ps => exact ⟨_, rfl⟩
theorem hf_len : ∀ (qs : List Rat) (q : Rat), (hf q qs).length = qs.length + 1
  | [], _ => rfl
  | p :: ps, q => by simp [hf, hf_len ps]
theorem hfI_len : ∀ (qs : List Int) (q : Int), (hfI q qs).length = qs.length + 1
  | [], _ => rfl
  | p :: ps, q => by simp [hfI, hfI_len ps]
theorem ty_ptr {S : Sto} {n : Nat} {ds : List DV} (h : rdL S (.ptr n) = some ds) : tyS S (.ptr n) = some "list" := by
  unfold rdL at h
  unfold tyS
  simp only at h ⊢
  split at h <;> simp_all
def pfr (q : Rat) : PyData := .tuple [.int q.num, .int (q.den : Int)]
theorem py_fr {r : Nat → Option PyData} (q : Rat) : py r (fr q) = some (pfr q) := rfl
theorem eqv_pfr (x y : Rat) : PyData.eqv (pfr x) (pfr y) = decide (x = y) := by
  have h : x = y ↔ x.num = y.num ∧ (x.den : Int) = (y.den : Int) := ⟨fun h => by rw [h]; exact ⟨rfl, rfl⟩, fun h => Rat.ext h.1 (by omega)⟩
  simp [pfr, PyData.eqv, PyData.eqvAll, h, Bool.beq_eq_decide_eq]
theorem sh_pfr (q : Rat) : ShN 1 (pfr q) := shN_tuple fun p hp => by
  rcases List.mem_cons.mp hp with rfl | hp
  · exact shN_int
  · cases List.mem_singleton.mp hp
    exact shN_int
theorem py_dI {S : Sto} (ws : List Int) : pyS S (dI ws) = some (.list (ws.map PyData.int)) := by
  unfold pyS dI
  simp only [py, pys_map (f := DV.int) (g := PyData.int) (fun _ => rfl), Option.map_some]
theorem py_dF {S : Sto} (ws : List Rat) : pyS S (dF ws) = some (.list (ws.map pfr)) := by
  unfold pyS dF
  simp only [py, pys_map (f := fr) (g := pfr) py_fr, Option.map_some]
theorem sh_dI (ws : List Int) : ShN 1 (.list (ws.map PyData.int)) := shN_list fun p hp => by
  obtain ⟨i, _, rfl⟩ := List.mem_map.mp hp
  exact shN_int
theorem sh_dF (ws : List Rat) : ShN 2 (.list (ws.map pfr)) := shN_list fun p hp => by
  obtain ⟨i, _, rfl⟩ := List.mem_map.mp hp
  exact sh_pfr i
theorem eqv_dI (x y : List Int) : PyData.eqv (.list (x.map PyData.int)) (.list (y.map PyData.int)) = decide (x = y) := by
  show PyData.eqvAll _ _ = _
  exact eqv_map (fun a b => by simp [PyData.eqv, Bool.beq_eq_decide_eq]) x y
theorem eqv_dF (x y : List Rat) : PyData.eqv (.list (x.map pfr)) (.list (y.map pfr)) = decide (x = y) := by
  show PyData.eqvAll _ _ = _
  exact eqv_map eqv_pfr x y
theorem kept_ok {S : Sto} {ws : List Int} {qs : List Rat} : neD (.tup [dI ws, dF qs]) (.tup [dI ws, dF qs]) S = some (.bl false, S) := by
  have h : pyS S (.tup [dI ws, dF qs]) = some (.tuple [.list (ws.map PyData.int), .list (qs.map pfr)]) := by
    have h1 := py_dI (S := S) ws
    have h2 := py_dF (S := S) qs
    unfold pyS at h1 h2 ⊢
    simp only [py, pys, h1, h2, Option.map_some]
  have hs : ShN 3 (.tuple [.list (ws.map PyData.int), .list (qs.map pfr)]) := shN_tuple fun p hp => by
    rcases List.mem_cons.mp hp with rfl | hp
    · exact ⟨(sh_dI ws).1, Nat.le_trans (sh_dI ws).2 (by decide)⟩
    · cases List.mem_singleton.mp hp
      exact sh_dF qs
  rw [neD_of h h hs hs (by decide)]
  have e : PyData.eqv (.tuple [.list (ws.map PyData.int), .list (qs.map pfr)]) (.tuple [.list (ws.map PyData.int), .list (qs.map pfr)]) = (PyData.eqv (.list (ws.map PyData.int)) (.list (ws.map PyData.int)) && (PyData.eqv (.list (qs.map pfr)) (.list (qs.map pfr)) && true)) := rfl
  rw [e, eqv_dI, eqv_dF]
  simp
section
variable {t : Tr} {G : Sto} {x y z : MO} {ds es : List DV}
theorem tr_s2 : (t.st (G ++ [x, y])).set (G.length + 2) z = t.st (G ++ [z, y]) := by
  simp [Tr.st]
theorem tr_s3 : (t.st (G ++ [x, y])).set (G.length + 3) z = t.st (G ++ [x, z]) := by
  simp [Tr.st, List.set_append]
theorem tr_g2 : (t.st (G ++ [x, y]))[G.length + 2]? = some x := by
  simp [Tr.st]
theorem tr_g3 : (t.st (G ++ [x, y]))[G.length + 3]? = some y := by
  simp [Tr.st, List.getElem?_append]
theorem rd_of {S : Sto} {n : Nat} (h : S[n]? = some (.ml ds)) : rdL S (.ptr n) = some ds := by
  unfold rdL
  simp only [h]
end
/-- both told lists are as they must be -/
theorem alike_told {S : Sto} {p q : Nat} {ws : List Int} {qs : List Rat} (hp : rdL S (.ptr p) = some (ws.map DV.int)) (hq : rdL S (.ptr q) = some (qs.map fr)) (h1 : ws.length ≤ 1000) (h2 : qs.length ≤ 1000) :
    f_law_alike_z 6 [.lst [.ptr p, .ptr q], .lst [dI ws, dF qs]] S = some (.bl true, S) := by
  refine alike_go (k := 5) (.inl ⟨rfl, rfl, rfl⟩) rfl rfl rfl (by simp) fun i x y hx hy => ?_
  match i with
  | 0 => cases hx; cases hy; exact alike_map (k := 4) (f := DV.int) (fun _ => alike_int (k := 3)) (by omega) hp rfl (ty_ptr hp) rfl
  | 1 => cases hx; cases hy; exact alike_map (k := 4) (f := fr) (fun _ => alike_fr (k := 2)) (by omega) hq rfl (ty_ptr hq) rfl
  | n + 2 => cases hx
theorem exF_bl {S : Sto} {b : Bool} : exF (some false) [] (.bl b) S = some (.bl b, []) := by
  unfold exF exF1
  simp only
  split
  · rename_i h
    have : S = [] := by simpa using h
    rw [this]
  · rename_i h
    have hp : 0 < S.length := by simp at h; exact List.length_pos_iff.mpr h
    rw [if_pos ⟨by simpa using hp, fun n hn => absurd hn (Nat.not_lt_zero _)⟩]
    rfl
theorem kept3_ok {S : Sto} {ws bs : List Int} {qs : List Rat} : neD (.tup [dI ws, dF qs, dI bs]) (.tup [dI ws, dF qs, dI bs]) S = some (.bl false, S) := by
  have h : pyS S (.tup [dI ws, dF qs, dI bs]) = some (.tuple [.list (ws.map PyData.int), .list (qs.map pfr), .list (bs.map PyData.int)]) := by
    have h1 := py_dI (S := S) ws
    have h2 := py_dF (S := S) qs
    have h3 := py_dI (S := S) bs
    unfold pyS at h1 h2 h3 ⊢
    simp only [py, pys, h1, h2, h3, Option.map_some]
  have hs : ShN 3 (.tuple [.list (ws.map PyData.int), .list (qs.map pfr), .list (bs.map PyData.int)]) := shN_tuple fun p hp => by
    rcases List.mem_cons.mp hp with rfl | hp
    · exact ⟨(sh_dI ws).1, Nat.le_trans (sh_dI ws).2 (by decide)⟩
    · rcases List.mem_cons.mp hp with rfl | hp
      · exact sh_dF qs
      · cases List.mem_singleton.mp hp
        exact ⟨(sh_dI bs).1, Nat.le_trans (sh_dI bs).2 (by decide)⟩
  rw [neD_of h h hs hs (by decide)]
  have e : PyData.eqv (.tuple [.list (ws.map PyData.int), .list (qs.map pfr), .list (bs.map PyData.int)]) (.tuple [.list (ws.map PyData.int), .list (qs.map pfr), .list (bs.map PyData.int)]) = (PyData.eqv (.list (ws.map PyData.int)) (.list (ws.map PyData.int)) && (PyData.eqv (.list (qs.map pfr)) (.list (qs.map pfr)) && (PyData.eqv (.list (bs.map PyData.int)) (.list (bs.map PyData.int)) && true))) := rfl
  rw [e, eqv_dI, eqv_dF, eqv_dI]
  simp
theorem alike_frs {S : Sto} {p : Nat} {qs : List Rat} (hp : rdL S (.ptr p) = some (qs.map fr)) (hn : qs.length ≤ 1000) {k : Nat} : f_law_alike_z (k + 3) [.ptr p, dF qs] S = some (.bl true, S) :=
  alike_map (k := k + 2) (f := fr) (fun _ => alike_fr (k := k)) (by omega) hp rfl (ty_ptr hp) rfl
theorem alike_two {S : Sto} {p q : Nat} {qs : List Rat} (hp : rdL S (.ptr p) = some (qs.map fr)) (hq : rdL S (.ptr q) = some (qs.map fr)) (hn : qs.length ≤ 1000) : f_law_alike_z 6 [.lst [.ptr p, .ptr q], .lst [dF qs, dF qs]] S = some (.bl true, S) := by
  refine alike_go (k := 5) (.inl ⟨rfl, rfl, rfl⟩) rfl rfl rfl (by simp) fun i x y hx hy => ?_
  match i with
  | 0 => cases hx; cases hy; exact alike_frs (k := 2) hp hn
  | 1 => cases hx; cases hy; exact alike_frs (k := 2) hq hn
  | n + 2 => cases hx
theorem st_get {t : Tr} {G X : Sto} {y : MO} : (t.st (G ++ y :: X))[G.length + 2]? = some y := by
  simp [Tr.st]
end FW
end
section
namespace FW
open PySem PyProof.Rows PySem.Spec L2 DL
/-! ### at a flap that isn't bolted -/
theorem Za_step {F : List Sk} {m : Nat} {x : Sk} (h : F[m]? = some x) : Za F (m + 1) - Za F m = x.2 * (x.1.1 : Rat) := by
  have e : F.take (m + 1) = F.take m ++ [x] := by rw [List.take_succ, h]; rfl
  unfold Za
  rw [e, Zi_app]
  simp only [Zi]
  grind
/-- between pools just as much is left as ahead -/
theorem bound_of : ∀ {ps : List (List Tk)}, (∀ p ∈ ps, Good p) → ∀ (m : Nat) (x y : Sk), (fl ps)[m]? = some x → (fl ps)[m + 1]? = some y → x.2 ≠ y.2 → Za (fl ps) (m + 1) = Ya ps.flatten (m + 1)
  | [], _, m, x, y, h, _, _ => by cases h
  | p :: ps, hg, m, x, y, hx, hy, hne => by
    have g := hg p (List.mem_cons_self)
    have hx' : (sl p ++ fl ps)[m]? = some x := hx
    have hy' : (sl p ++ fl ps)[m + 1]? = some y := hy
    by_cases h1 : m + 1 < p.length
    · rw [List.getElem?_append_left (by rw [sl_len]; omega)] at hx' hy'
      unfold sl at hx' hy'
      rw [List.getElem?_map] at hx' hy'
      rw [List.getElem?_eq_getElem (by omega)] at hx' hy'
      cases hx'
      cases hy'
      exact absurd rfl hne
    · by_cases h2 : m + 1 = p.length
      · rw [h2, Za_lo (Nat.le_refl _), List.flatten_cons, Ya_lo (Nat.le_refl _)]
        unfold Xa Ya
        rw [List.take_length, ht_mul g.fl g.ne]
      · obtain ⟨n, rfl⟩ : ∃ n, m = p.length + n := ⟨m - p.length, by omega⟩
        rw [List.getElem?_append_right (by rw [sl_len]; omega), sl_len] at hx' hy'
        rw [Nat.add_sub_cancel_left] at hx'
        rw [show p.length + n + 1 - p.length = n + 1 by omega] at hy'
        have := bound_of (ps := ps) (fun q hq => hg q (List.mem_cons_of_mem _ hq)) n x y hx' hy' hne
        rw [show p.length + n + 1 = p.length + (n + 1) by omega, Za_hi g, List.flatten_cons, Ya_hi, this]
structure Flap (l : List Tk) (bs : List Int) (k : Nat) (s u : Rat) : Prop where
  le : s ≤ u
  left : Zr l bs k - Zr l bs (k - 1) = s * (Xa l k - Xa l (k - 1))
  right : Zr l bs (k + 1) - Zr l bs k = u * (Xa l (k + 1) - Xa l k)
  same : s < u → Zr l bs k = Ya l k
theorem flap_ok {l : List Tk} {bs : List Int} {m0 : Zc} (hok : ∀ t ∈ l, OkT m0 t) (hbs : ∀ b ∈ bs, 1 ≤ b ∧ b < (l.length : Int)) {k : Nat} (hk0 : 0 < k) (hkn : k < l.length) (hkb : (k : Int) ∉ bs) : ∃ s u, Flap l bs k s u := by
  obtain ⟨c1, c2⟩ := cuts_ok hbs
  have mem : ∀ x, x ∈ sortI bs ↔ x ∈ bs := fun x => (sortI_perm bs).mem_iff
  obtain ⟨a, b, e, k1, k2, _, _, k5, k6⟩ := nb_find (sortI bs) 0 (l.length : Int) k (by omega) (by omega) c1
  have ha := c2 a e.mem.1
  have hb := c2 b e.mem.2
  obtain ⟨a', rfl⟩ : ∃ a' : Nat, a = (a' : Int) := ⟨a.toNat, by omega⟩
  obtain ⟨b', rfl⟩ : ∃ b' : Nat, b = (b' : Int) := ⟨b.toNat, by omega⟩
  have hak : a' < k := by
    have : a' ≠ k := fun z => by
      rcases List.mem_cons.mp k5 with h | h
      · omega
      · exact hkb (by rw [← z]; exact (mem _).mp h)
    omega
  have hkb' : k < b' := by
    have : b' ≠ k := fun z => by
      rcases List.mem_append.mp k6 with h | h
      · exact hkb (by rw [← z]; exact (mem _).mp h)
      · have := List.mem_singleton.mp h
        omega
    omega
  have zr : ∀ m : Nat, a' ≤ m → m ≤ b' → Zr l bs m = Ya l a' + Za (fl (pools (seg l ((a' : Int), (b' : Int))))) (m - a') := fun m h1 h2 => by
    have sum := ss_sum hok e (c := 0) rfl c1 c2 m (by omega) (by omega)
    rw [← show rest l bs = ss l (0 :: (sortI bs ++ [(l.length : Int)])) from rest_eq l bs, Nat.sub_zero, Int.toNat_natCast, Y0] at sum
    unfold Zr
    rw [sum]
    grind
  have okS : ∀ t ∈ seg l ((a' : Int), (b' : Int)), OkT m0 t := fun t h => hok t (seg_mem h)
  obtain ⟨q1, q2, q3⟩ := pools_ok okS
  have ls := seg_length (l := l) (a := a') (b := b') (by omega) (by omega)
  obtain ⟨F, hF⟩ : ∃ F, F = fl (pools (seg l ((a' : Int), (b' : Int)))) := ⟨_, rfl⟩
  have uF : un F = seg l ((a' : Int), (b' : Int)) := by rw [hF, un_fl, q3]
  have lF : F.length = b' - a' := by
    have := congrArg List.length uF
    unfold un at this
    rw [List.length_map, ls] at this
    exact this
  rw [← hF] at zr
  have hx : F[k - 1 - a']? = some (F[k - 1 - a']'(by omega)) := List.getElem?_eq_getElem _
  have hy : F[k - a']? = some (F[k - a']'(by omega)) := List.getElem?_eq_getElem _
  obtain ⟨x, hxe⟩ : ∃ x, x = F[k - 1 - a']'(by omega) := ⟨_, rfl⟩
  obtain ⟨y, hye⟩ : ∃ y, y = F[k - a']'(by omega) := ⟨_, rfl⟩
  rw [← hxe] at hx
  rw [← hye] at hy
  have up : x.2 ≤ y.2 := by
    rw [hxe, hye]
    have := fl_up q2
    rw [← hF] at this
    exact List.pairwise_iff_getElem.mp this _ _ _ _ (by omega)
  have wi : ∀ (m : Nat) (z : Sk), a' ≤ m → m < b' → F[m - a']? = some z → Xa l (m + 1) - Xa l m = (z.1.1 : Rat) := fun m z h1 h2 hz => by
    have s1 := seg_Wi (l := l) (a := a') (b := b') (by omega) (m - a') (by omega)
    have s2 := seg_Wi (l := l) (a := a') (b := b') (by omega) (m + 1 - a') (by omega)
    rw [show a' + (m - a') = m by omega] at s1
    rw [show a' + (m + 1 - a') = m + 1 by omega] at s2
    have hg : (seg l ((a' : Int), (b' : Int)))[m - a']? = some z.1 := by
      rw [← uF]
      unfold un
      rw [List.getElem?_map, hz]
      rfl
    have e2 : (seg l ((a' : Int), (b' : Int))).take (m + 1 - a') = (seg l ((a' : Int), (b' : Int))).take (m - a') ++ [z.1] := by
      rw [show m + 1 - a' = m - a' + 1 by omega, List.take_succ, hg]
      rfl
    rw [s1, s2]
    unfold Xa
    rw [e2, Wi_app]
    simp only [Wi]
    grind
  have zx := Za_step hx
  have zy := Za_step hy
  rw [show k - 1 - a' + 1 = k - a' by omega] at zx
  refine ⟨x.2, y.2, up, ?_, ?_, fun hlt => ?_⟩
  · rw [zr k (by omega) (by omega), zr (k - 1) (by omega) (by omega), show k - 1 - a' = k - 1 - a' from rfl]
    have := wi (k - 1) x (by omega) (by omega) hx
    rw [show k - 1 + 1 = k by omega] at this
    rw [this]
    grind
  · rw [zr k (by omega) (by omega), zr (k + 1) (by omega) (by omega), show k + 1 - a' = k - a' + 1 by omega, wi k y (by omega) (by omega) hy]
    grind
  · have bd := bound_of (fun q hq => (q1 q hq).1) (k - 1 - a') x y (by rw [← hF]; exact hx) (by rw [← hF, show k - 1 - a' + 1 = k - a' by omega]; exact hy) (fun z => by rw [z] at hlt; exact absurd hlt (by grind))
    rw [q3, ← hF, show k - 1 - a' + 1 = k - a' by omega] at bd
    have sy := seg_Am (l := l) (a := a') (b := b') (by omega) (k - a') (by omega)
    rw [show a' + (k - a') = k by omega] at sy
    rw [zr k (by omega) (by omega), sy, bd]
end FW
end
section
namespace FW
open PySem PyProof.Rows PySem.Spec L2 DL
/-! ### each def as a function of data -/
noncomputable def b_law_higher_z : DS :=
    (dSeq (dAsg (dOp mulD (dOp mulD (dOp ixD (dOp ixD (dVar 1) (dVar 2)) (dC (.int 0))) (dOp ixD (dVar 0) (dVar 3))) (dOp ixD (dOp ixD (dVar 1) (dVar 3)) (dC (.int 1)))) (dName 4))
    (dSeq (dAsg (dOp mulD (dOp mulD (dOp ixD (dOp ixD (dVar 1) (dVar 3)) (dC (.int 0))) (dOp ixD (dVar 0) (dVar 2))) (dOp ixD (dOp ixD (dVar 1) (dVar 2)) (dC (.int 1)))) (dName 5))
    (dRet (dOp gtD (dVar 4) (dVar 5)))))
noncomputable def f_law_higher_z : List DV → Sto → Option (DV × Sto) := fnF (some false) 6 b_law_higher_z
noncomputable def b_law_judged_z : DS :=
    (dSeq (dIfS (dOr (dTest (dOp neD (dCB lenD (dCons (dVar 3) dNil)) (dCB lenD (dCons (dVar 0) dNil)))) (dTest (dOp neD (dLc false (diL (dVar 3)) (dName 8) (dOr (dTest (dOp ltD (dOp ixD (dVar 8) (dC (.int 0))) (dC (.int 0)))) (dTest (dOp ltD (dOp ixD (dVar 8) (dC (.int 1))) (dC (.int 1))))) (dC (.int 1)) [8]) (dLst false dNil))))
    (dRet (dC (.bl false))) dNext)
    (dSeq (dPar 4 5 (dCons (dCall 1 f_law_heaps_z [] (dCons (dVar 1) dNil)) (dCons (dCall 1 f_law_heaps_z [] (dCons (dVar 3) dNil)) dNil)))
    (dSeq (dFor (diR1 (dCons (dCB lenD (dCons (dVar 5) dNil)) dNil)) (dName 6)
    (dSeq (dAsg (dOrV (dOp eqD (dVar 6) (dC (.int 0))) (dOrV (dOp eqD (dVar 6) (dCB lenD (dCons (dVar 0) dNil))) (dOp (inD false) (dVar 6) (dVar 2)))) (dName 7))
    (dSeq (dIfS (dOr (dTest (dCall 2 f_law_under_z [] (dCons (dOp ixD (dVar 4) (dVar 6)) (dCons (dOp ixD (dVar 5) (dVar 6)) dNil)))) (dAnd (dTest (dVar 7)) (dTest (dOp neD (dOp ixD (dVar 5) (dVar 6)) (dOp ixD (dVar 4) (dVar 6))))))
    (dRet (dC (.bl false))) dNext)
    (dSeq (dIfS (dAnd (dNot (dTest (dVar 7))) (dTest (dCall 4 f_law_higher_z [] (dCons (dVar 0) (dCons (dVar 3) (dCons (dOp subD (dVar 6) (dC (.int 1))) (dCons (dVar 6) dNil)))))))
    (dRet (dC (.bl false))) dNext)
    (dIfS (dAnd (dNot (dTest (dVar 7))) (dAnd (dTest (dCall 4 f_law_higher_z [] (dCons (dVar 0) (dCons (dVar 3) (dCons (dVar 6) (dCons (dOp subD (dVar 6) (dC (.int 1))) dNil)))))) (dTest (dOp neD (dOp ixD (dVar 5) (dVar 6)) (dOp ixD (dVar 4) (dVar 6))))))
    (dRet (dC (.bl false))) dNext)))))
    (dRet (dC (.bl true))))))
noncomputable def f_law_judged_z : List DV → Sto → Option (DV × Sto) := fnF (some false) 9 b_law_judged_z
end FW
end
section
namespace FW
open PySem PyProof.Rows PySem.Spec L2 DL
theorem ht_nonneg {p : List Tk} (hf : Fl p) (h0 : p ≠ []) (h : ∀ t ∈ p, 0 ≤ t.2) : 0 ≤ ht p := by
  have : 0 ≤ Am p := by
    have gen : ∀ z : List Tk, (∀ t ∈ z, 0 ≤ t.2) → 0 ≤ Am z := fun z => by
      induction z with
      | nil => intro _; exact Rat.le_refl
      | cons t z ih =>
        intro hz
        have h1 := hz t (List.mem_cons_self)
        have h2 := ih fun x hx => hz x (List.mem_cons_of_mem _ hx)
        simp only [Am]
        grind
    exact gen p h
  have hw := Wi_pos hf h0
  exact le_div hw (by rw [Rat.zero_mul]; exact this)
theorem rest_mem {l : List Tk} {bs : List Int} {m0 : Zc} (hok : ∀ t ∈ l, OkT m0 t ∧ 0 ≤ t.2) (hL : l.length ≤ 1000) (hL2 : l.length ≤ m0.L ∧ m0.B ≤ 3000) {q : Rat} (hq : q ∈ rest l bs) : 0 ≤ q ∧ Sz (m0.B + 100) q := by
  unfold rest segs at hq
  obtain ⟨pr, _, hq⟩ := List.mem_flatMap.mp hq
  obtain ⟨p, hp, hq⟩ := List.mem_flatMap.mp hq
  obtain ⟨t, ht', rfl⟩ := List.mem_map.mp hq
  have okS : ∀ t ∈ seg l pr, OkT m0 t := fun t h => (hok t (seg_mem h)).1
  obtain ⟨q1, _, q3⟩ := pools_ok okS
  have hsub : ∀ x ∈ p, x ∈ seg l pr := fun x hx => by
    rw [← q3]
    exact List.mem_flatten.mpr ⟨p, hp, hx⟩
  have op := (q1 p hp).2
  have pl' : p.length ≤ l.length := by
    have h1 : p.length ≤ (pools (seg l pr)).flatten.length := (List.sublist_flatten_of_mem hp).length_le
    rw [q3] at h1
    exact Nat.le_trans h1 seg_len
  have hn := ht_nonneg (q1 p hp).1.fl op.1 fun x hx => (hok x (seg_mem (hsub x hx))).2
  have tf := op.fl t ht'
  refine ⟨Rat.mul_nonneg hn (by have := cast_one_le tf.1; grind), ?_⟩
  obtain ⟨h1, h2⟩ := sum_small op.fl
  have h3 : 0 < p.length := List.length_pos_iff.mpr op.1
  have key := sz_share (p := t.1) (w := (p.map (·.1)).sum) (op.am pl') (by omega) (by omega) (by omega)
  have e : Am p * (t.1 : Rat) / (((p.map (·.1)).sum : Int) : Rat) = ht p * (t.1 : Rat) := by
    rw [sum_Wi]
    unfold ht
    grind
  rw [e] at key
  exact key
theorem neD_fr {x y : Rat} {S : Sto} : neD (fr x) (fr y) S = some (.bl (!decide (x = y)), S) := by
  rw [neD_of (n := 1) (show pyS S (fr x) = some (pfr x) from rfl) (show pyS S (fr y) = some (pfr y) from rfl) (sh_pfr x) (sh_pfr y) (by decide), eqv_pfr]
theorem higher_ok {ws : List Int} {rs : List Rat} {i j : Nat} {wi wj : Int} {ri rj : Rat} {n : Nat} {S : Sto} (hi : ws[i]? = some wi) (hj : ws[j]? = some wj) (gi : rs[i]? = some ri) (gj : rs[j]? = some rj) (zi : Sz n ri) (zj : Sz n rj) (hn : n ≤ 3000) (fi : 0 < wi ∧ wi < 2 ^ 50) (fj : 0 < wj ∧ wj < 2 ^ 50) :
    f_law_higher_z [dI ws, dF rs, .int (i : Nat), .int (j : Nat)] S = some (.bl (decide (rj * (wi : Rat) < ri * (wj : Rat))), S) := by
  have ix : ∀ (m : Nat) (x : Int), ws[m]? = some x → ∀ S, ixD (dI ws) (.int (m : Nat)) S = some (.int x, S) := fun m x hx S => ixD_lst (at_nat rfl (by rw [List.getElem?_map, hx]; rfl))
  have iy : ∀ (m : Nat) (x : Rat), rs[m]? = some x → ∀ S, ixD (dF rs) (.int (m : Nat)) S = some (fr x, S) := fun m x hx S => ixD_lst (at_nat rfl (by rw [List.getElem?_map, hx]; rfl))
  have i0 : ∀ (q : Rat) S, ixD (fr q) (.int 0) S = some (.int q.num, S) := fun q S => ixD_tup (by simp)
  have i1 : ∀ (q : Rat) S, ixD (fr q) (.int 1) S = some (.int (q.den : Int), S) := fun q S => ixD_tup (by simp)
  have f1 := zi.fn (by omega); have f2 := zi.fd (by omega); have f3 := zj.fn (by omega); have f4 := zj.fd (by omega)
  have g1 : Fits wi := fits_of (n := 50) (by omega) (by decide)
  have g2 : Fits wj := fits_of (n := 50) (by omega) (by decide)
  have mul : ∀ (a b : Int), a.natAbs < 2 ^ n → b.natAbs < 2 ^ 50 → Fits (a * b) := fun a b h1 h2 => by
    refine fits_of (n := n + 50) ?_ (by omega)
    rw [Int.natAbs_mul, Nat.pow_add]
    exact Nat.mul_lt_mul'' h1 h2
  have g3 := mul ri.num wj zi.1 (by omega)
  have g4 := mul rj.num wi zj.1 (by omega)
  have key : (rj.num * wi * (ri.den : Int) < ri.num * wj * (rj.den : Int)) ↔ rj * (wi : Rat) < ri * (wj : Rat) := by
    have d1 : (0 : Rat) < (ri.den : Rat) := by exact_mod_cast ri.den_pos
    have d2 : (0 : Rat) < (rj.den : Rat) := by exact_mod_cast rj.den_pos
    have hp : ri * (ri.den : Rat) = (ri.num : Rat) := by
      have h4 := Rat.mkRat_self ri
      rw [Rat.mkRat_eq_div] at h4
      grind
    have hq : rj * (rj.den : Rat) = (rj.num : Rat) := by
      have h4 := Rat.mkRat_self rj
      rw [Rat.mkRat_eq_div] at h4
      grind
    have e : (rj.num * wi * (ri.den : Int) < ri.num * wj * (rj.den : Int)) ↔ ((rj.num : Rat) * wi * (ri.den : Rat) < (ri.num : Rat) * wj * (rj.den : Rat)) := by
      have c : ∀ (a b c : Int), ((a * b * c : Int) : Rat) = (a : Rat) * b * c := fun a b c => by rw [Rat.intCast_mul, Rat.intCast_mul]
      rw [← Rat.intCast_natCast ri.den, ← Rat.intCast_natCast rj.den, ← c, ← c]
      exact (Rat.intCast_lt_intCast).symm
    rw [e, ← hp, ← hq]
    have dd : (0 : Rat) < (ri.den : Rat) * (rj.den : Rat) := Rat.mul_pos d1 d2
    constructor
    · intro h
      refine Rat.not_le.mp fun z => ?_
      have m := mul_le_left z (Rat.le_of_lt dd)
      grind
    · intro h
      have m := Rat.mul_lt_mul_of_pos_right h dd
      grind
  simp [f_law_higher_z, fnF, b_law_higher_z, ix i wi hi, ix j wj hj, iy i ri gi, iy j rj gj, i0, i1, f1, f2, f3, f4, g1, g2, g3, g4, key]
end FW
end
section
namespace FW
open PySem PyProof.Rows PySem.Spec L2 DL
theorem lcL_none {tgt : DG} {tt : DT} {te : DE} {vs : List Nat} {s : Sl} {S : Sto} : ∀ {xs acc : List DV}, (∀ x ∈ xs, ∃ s1, tgt x (wipeD s vs) S = some (s1, S) ∧ tt s1 S = some (false, S)) → lcL tgt tt te vs xs acc s S = some (acc, S)
  | [], acc, _ => by simp [lcL]
  | x :: xs, acc, h => by
    obtain ⟨s1, h1, h2⟩ := h x (List.mem_cons_self)
    have ih := lcL_none (tgt := tgt) (tt := tt) (te := te) (vs := vs) (s := s) (S := S) (xs := xs) (acc := acc) fun y hy => h y (List.mem_cons_of_mem _ hy)
    simp [lcL, h1, h2, ih]
theorem hf_rsum : ∀ {r : List Rat} {k : Nat} (a : Rat), k ≤ r.length → (hf a r)[k]? = some (a + rsum (r.take k))
  | [], k, a, hk => by
    have : k = 0 := by simpa using hk
    subst this
    simp [hf, rsum, Rat.add_zero]
  | t :: l, 0, a, _ => by simp [hf, rsum, Rat.add_zero]
  | t :: l, k + 1, a, hk => by
    have := hf_rsum (r := l) (k := k) (a + t) (by simpa using hk)
    simp only [List.take_succ_cons, hf, List.getElem?_cons_succ, this, rsum]
    congr 1
    grind
noncomputable def jB : DS := (dSeq (dAsg (dOrV (dOp eqD (dVar 6) (dC (.int 0))) (dOrV (dOp eqD (dVar 6) (dCB lenD (dCons (dVar 0) dNil))) (dOp (inD false) (dVar 6) (dVar 2)))) (dName 7))
    (dSeq (dIfS (dOr (dTest (dCall 2 f_law_under_z [] (dCons (dOp ixD (dVar 4) (dVar 6)) (dCons (dOp ixD (dVar 5) (dVar 6)) dNil)))) (dAnd (dTest (dVar 7)) (dTest (dOp neD (dOp ixD (dVar 5) (dVar 6)) (dOp ixD (dVar 4) (dVar 6))))))
    (dRet (dC (.bl false))) dNext)
    (dSeq (dIfS (dAnd (dNot (dTest (dVar 7))) (dTest (dCall 4 f_law_higher_z [] (dCons (dVar 0) (dCons (dVar 3) (dCons (dOp subD (dVar 6) (dC (.int 1))) (dCons (dVar 6) dNil)))))))
    (dRet (dC (.bl false))) dNext)
    (dIfS (dAnd (dNot (dTest (dVar 7))) (dAnd (dTest (dCall 4 f_law_higher_z [] (dCons (dVar 0) (dCons (dVar 3) (dCons (dVar 6) (dCons (dOp subD (dVar 6) (dC (.int 1))) dNil)))))) (dTest (dOp neD (dOp ixD (dVar 5) (dVar 6)) (dOp ixD (dVar 4) (dVar 6))))))
    (dRet (dC (.bl false))) dNext))))
theorem chord_end {l : List Tk} (hf : Fl l) {i k : Nat} (hi : i ≤ k) (hk : k ≤ l.length) : chord l i k k = Ya l k := by
  unfold chord
  split
  · rfl
  · have hx := Xa_lt hf (show i < k by omega) hk
    have : Xa l k - Xa l i ≠ 0 := by grind
    grind
theorem zr_le {l : List Tk} {bs : List Int} {m0 : Zc} (h0 : l ≠ []) (hok : ∀ t ∈ l, OkT m0 t) (hbs : ∀ b ∈ bs, 1 ≤ b ∧ b < (l.length : Int)) {k : Nat} (hk : k ≤ l.length) : Zr l bs k ≤ Ya l k ∧ (k = 0 ∨ k = l.length ∨ (k : Int) ∈ bs → Zr l bs k = Ya l k) := by
  have hf : Fl l := fun t ht => (hok t ht).lo
  obtain ⟨a, h, lo, ma, mx, mh, mn⟩ := low_ok h0 hok hbs hk
  have e : chord l k k k = Ya l k := chord_end hf (Nat.le_refl _) hk
  refine ⟨by rw [← e]; exact lo.lo k k lo.ak (Nat.le_refl _) (Nat.le_refl _) lo.kh, fun hs => ?_⟩
  rcases hs with rfl | hs
  · rfl
  · have hh : h = k := by
      have h1 := lo.kh
      have h2 : (h : Int) ≤ k := by
        rcases hs with rfl | hs
        · exact mn _ List.mem_cons_self (Int.le_refl _)
        · exact mn _ (List.mem_cons_of_mem _ hs) (Int.le_refl _)
      omega
    obtain ⟨i, j, h1, h2, h3, h4, hc⟩ := lo.at_
    have hj : j = k := by omega
    rw [hj, chord_end hf h2 hk] at hc
    exact hc.symm
theorem law_judged_ok {l : List Tk} {bs : List Int} {m0 : Zc} {B : Nat} {S : Sto} (h0 : l ≠ []) (hok : ∀ t ∈ l, OkT m0 t ∧ 0 ≤ t.2) (hl : l.length ≤ 100) (hB : l.length ≤ m0.L ∧ m0.B + 100 ≤ B) (hB2 : l.length * (B + 1) ≤ 5000) (hB3 : B ≤ 2000) (hbs : ∀ b ∈ bs, 1 ≤ b ∧ b < (l.length : Int)) (hbl : bs.length ≤ 1000) :
    f_law_judged_z [dI (l.map (·.1)), dF (l.map (·.2)), dI bs, dF (rest l bs)] S = some (.bl true, S) := by
  have ok1 : ∀ t ∈ l, OkT m0 t := fun t ht' => (hok t ht').1
  have rl : (rest l bs).length = l.length := rest_len ok1 hbs
  have rm : ∀ q ∈ rest l bs, 0 ≤ q ∧ Sz B q := fun q hq => by
    have := rest_mem hok (by omega) (by omega) hq
    exact ⟨this.1, this.2.mono (by omega)⟩
  have hs1 := law_heaps_okB (S := S) (hz_l ok1 hB.1) (by omega) (by rw [List.length_map]; omega)
  have hs2 := law_heaps_ok (S := S) (qs := rest l bs) (m := B) (fun q hq => (rm q hq).2) (by rw [rl]; omega) (by omega)
  have gA : ∀ k, k ≤ l.length → (hf 0 (l.map (·.2)))[k]? = some (Ya l k) := fun k hk => by rw [hf_get 0 hk, Rat.zero_add]
  have gN : ∀ k, k ≤ l.length → (hf 0 (rest l bs))[k]? = some (Zr l bs k) := fun k hk => by
    rw [hf_rsum 0 (by omega), Rat.zero_add]
    rfl
  have iA : ∀ (k : Nat), k ≤ l.length → ∀ S, ixD (dF (hf 0 (l.map (·.2)))) (.int (k : Nat)) S = some (fr (Ya l k), S) := fun k hk S => ixD_lst (at_nat rfl (by rw [List.getElem?_map, gA k hk]; rfl))
  have iN : ∀ (k : Nat), k ≤ l.length → ∀ S, ixD (dF (hf 0 (rest l bs))) (.int (k : Nat)) S = some (fr (Zr l bs k), S) := fun k hk S => ixD_lst (at_nat rfl (by rw [List.getElem?_map, gN k hk]; rfl))
  have lw : ∀ S, lenD [dI (l.map (·.1))] S = some (.int (l.length : Nat), S) := fun S => by simp [dI]
  have lt' : ∀ S, lenD [dF (rest l bs)] S = some (.int (l.length : Nat), S) := fun S => by simp [dF, rl]
  -- the turns
  have turn : ∀ (k : Nat) (v7 : Option DV), k ≤ l.length → ∃ w7, jB [some (dI (l.map (·.1))), some (dF (l.map (·.2))), some (dI bs), some (dF (rest l bs)), some (dF (hf 0 (l.map (·.2)))), some (dF (hf 0 (rest l bs))), some (.int (k : Nat)), v7, none] S = some (.nx [some (dI (l.map (·.1))), some (dF (l.map (·.2))), some (dI bs), some (dF (rest l bs)), some (dF (hf 0 (l.map (·.2)))), some (dF (hf 0 (rest l bs))), some (.int (k : Nat)), w7, none] S) := by
    intro k v7 hk
    obtain ⟨zl, zs⟩ := zr_le h0 ok1 hbs hk
    have un := law_under_ok (S := S) (n := B) (m := B + B + 51) (p := Ya l k) (q := Zr l bs k) ((sz_Ya ok1 hB.1 k).mono (by omega)) (by
      obtain ⟨_, _, _, _, _, _, _, hz⟩ := k_step (S := S) (acc := []) (v6 := none) (v7 := none) (v8 := none) (v9 := none) (v10 := none) (v11 := none) (v12 := none) h0 ok1 (by omega) (show l.length ≤ m0.L ∧ m0.B ≤ B by omega) (by omega) hbs hbl hk (by simp)
      exact hz) (by omega) (by omega)
    have nlt : ¬ Ya l k < Zr l bs k := Rat.not_lt.mpr zl
    have hin := inD_ints (f := (k : Int)) (ns := bs) (S := S)
    have nf := neD_fr (x := Zr l bs k) (y := Ya l k) (S := S)
    by_cases hsh : k = 0 ∨ k = l.length ∨ (k : Int) ∈ bs
    · have hz := zs hsh
      have un' := un
      have nf' := nf
      have nlt' := nlt
      rw [hz] at un' nf' nlt'
      refine ⟨some (.bl true), ?_⟩
      unfold jB
      refine seq_nx (asg_name (d := .bl true) (S1 := S) ?_) ?_
      · have hb : (decide ((k : Int) = 0) || (decide ((k : Int) = (l.length : Int)) || decide ((k : Int) ∈ bs))) = true := by
          rcases hsh with h | h | h
          · have : (k : Int) = 0 := by omega
            simp [this]
          · have : (k : Int) = (l.length : Int) := by omega
            simp [this]
          · simp [h]
        rw [← hb]
        simp only [dOrV, dOp, dVar, dC, dCB, dCons, dNil, List.getElem?_cons_zero, List.getElem?_cons_succ, bnd_some', eqD_int, lw, hin]
        cases decide ((k : Int) = 0) <;> cases decide ((k : Int) = (l.length : Int)) <;> rfl
      refine seq_nx (if_f (S1 := S) (by simp [iA k hk, iN k hk, hz, un', nf', nlt']) rfl) ?_
      refine seq_nx (if_f (S1 := S) (by simp) rfl) ?_
      exact if_f (S1 := S) (by simp) rfl
    · have hk0 : 0 < k := by omega
      have hkn : k < l.length := by omega
      have hkb : (k : Int) ∉ bs := fun z => hsh (.inr (.inr z))
      obtain ⟨s, u, f⟩ := flap_ok ok1 hbs hk0 hkn hkb
      refine ⟨some (.bl false), ?_⟩
      have z1 : ¬ (k : Int) = 0 := by omega
      have z2 : ¬ (k : Int) = (l.length : Int) := by omega
      have ek : ((k : Int) - 1) = ((k - 1 : Nat) : Int) := by omega
      have wk : ∀ m, m < l.length → ∃ w : Int, (l.map (·.1))[m]? = some w ∧ (0 < w ∧ w < 2 ^ 50) ∧ Xa l (m + 1) - Xa l m = (w : Rat) := fun m hm => by
        have hg : l[m]? = some l[m] := List.getElem?_eq_getElem hm
        have o := ok1 l[m] (List.getElem_mem hm)
        refine ⟨l[m].1, by rw [List.getElem?_map, hg]; rfl, by have := o.lo; have := o.hi; omega, ?_⟩
        have e : l.take (m + 1) = l.take m ++ [l[m]] := by rw [List.take_succ, hg]; rfl
        unfold Xa
        rw [e, Wi_app]
        simp only [Wi]
        grind
      obtain ⟨w1, g1, b1, x1⟩ := wk (k - 1) (by omega)
      obtain ⟨w2, g2, b2, x2⟩ := wk k hkn
      rw [show k - 1 + 1 = k by omega] at x1
      have r1 : (rest l bs)[k - 1]? = some ((rest l bs)[k - 1]'(by omega)) := List.getElem?_eq_getElem _
      have r2 : (rest l bs)[k]? = some ((rest l bs)[k]'(by omega)) := List.getElem?_eq_getElem _
      obtain ⟨p, hp⟩ : ∃ p, p = (rest l bs)[k - 1]'(by omega) := ⟨_, rfl⟩
      obtain ⟨q, hq⟩ : ∃ q, q = (rest l bs)[k]'(by omega) := ⟨_, rfl⟩
      have mp : p ∈ rest l bs := by rw [hp]; exact List.getElem_mem _
      have mq : q ∈ rest l bs := by rw [hq]; exact List.getElem_mem _
      rw [← hp] at r1
      rw [← hq] at r2
      have s1 := rsum_step r1
      have s2 := rsum_step r2
      rw [show k - 1 + 1 = k by omega] at s1
      have fl1 := f.left
      have fl2 := f.right
      unfold Zr at fl1 fl2
      rw [s1, x1] at fl1
      rw [s2, x2] at fl2
      have h1 := higher_ok (S := S) g1 g2 r1 r2 (rm p mp).2 (rm q mq).2 (by omega) b1 b2
      have h2 := higher_ok (S := S) g2 g1 r2 r1 (rm q mq).2 (rm p mp).2 (by omega) b2 b1
      have c1 : (0 : Rat) < (w1 : Rat) := by exact_mod_cast b1.1
      have c2 : (0 : Rat) < (w2 : Rat) := by exact_mod_cast b2.1
      have cc : (0 : Rat) < (w1 : Rat) * (w2 : Rat) := Rat.mul_pos c1 c2
      have d1 : ¬ q * (w1 : Rat) < p * (w2 : Rat) := by
        rw [fl1, fl2]
        have := mul_le_left f.le (Rat.le_of_lt cc)
        grind
      have d2 : p * (w2 : Rat) < q * (w1 : Rat) → Zr l bs k = Ya l k := fun z => by
        refine f.same (Rat.not_le.mp fun y => ?_)
        rw [fl1, fl2] at z
        have := mul_le_left y (Rat.le_of_lt cc)
        grind
      unfold jB
      refine seq_nx (asg_name (d := .bl false) (S1 := S) (by
        have y1 : decide ((k : Int) = 0) = false := decide_eq_false z1
        have y2 : decide ((k : Int) = (l.length : Int)) = false := decide_eq_false z2
        have y3 : decide ((k : Int) ∈ bs) = false := decide_eq_false hkb
        simp only [dOrV, dOp, dVar, dC, dCB, dCons, dNil, List.getElem?_cons_zero, List.getElem?_cons_succ, bnd_some', eqD_int, lw, hin, y1, y2, y3])) ?_
      refine seq_nx (if_f (S1 := S) (by simp [iA k hk, iN k hk, un, nlt]) rfl) ?_
      refine seq_nx (if_f (S1 := S) (by simp [ek, h1, d1]) rfl) ?_
      by_cases hz : p * (w2 : Rat) < q * (w1 : Rat)
      · have nf' := nf
        rw [d2 hz] at nf'
        exact if_f (S1 := S) (by simp [ek, h2, hz, iA k hk, iN k hk, nf', d2 hz]) rfl
      · exact if_f (S1 := S) (by simp [ek, h2, hz]) rfl
  have lnow : (hf 0 (rest l bs)).length = l.length + 1 := by rw [hf_length, rl]
  have ln : ∀ S, lenD [dF (hf 0 (rest l bs))] S = some (.int ((l.length + 1 : Nat) : Int), S) := fun S => by simp only [dF, lenD_lst, List.length_map, lnow]
  have hrg : RgS ((l.length + 1 : Nat) : Int) := rgS_of (by omega) (by omega)
  obtain ⟨s', e, _⟩ := forL_same (tgt := dName 6) (body := jB) (S := S) (fun s => ∃ w6 w7, s = [some (dI (l.map (·.1))), some (dF (l.map (·.2))), some (dI bs), some (dF (rest l bs)), some (dF (hf 0 (l.map (·.2)))), some (dF (hf 0 (rest l bs))), w6, w7, none]) (xs := (List.range (l.length + 1)).map fun i => DV.int (0 + (i : Nat))) (s := [some (dI (l.map (·.1))), some (dF (l.map (·.2))), some (dI bs), some (dF (rest l bs)), some (dF (hf 0 (l.map (·.2)))), some (dF (hf 0 (rest l bs))), none, none, none]) ⟨_, _, rfl⟩ (by
    rintro x hx s ⟨w6, w7, rfl⟩
    obtain ⟨i, hi, rfl⟩ := List.mem_map.mp hx
    have hi : i < l.length + 1 := by simpa using hi
    obtain ⟨w7', e⟩ := turn i w7 (by omega)
    exact ⟨_, _, rfl, by rw [Int.zero_add]; exact e, _, _, rfl⟩)
  have key : dFor (diR1 (dCons (dCB lenD (dCons (dVar 5) dNil)) dNil)) (dName 6) jB [some (dI (l.map (·.1))), some (dF (l.map (·.2))), some (dI bs), some (dF (rest l bs)), some (dF (hf 0 (l.map (·.2)))), some (dF (hf 0 (rest l bs))), none, none, none] S = _ :=
    for_of (it := .rg 0 (l.length + 1)) (S1 := S) (by
      simp only [diR1_eq, dCons, dCB, dVar, dNil, List.getElem?_cons_zero, List.getElem?_cons_succ, bnd_some', ln, rg1_int hrg]
      rfl) rfl e
  have lc : dLc false (diL (dVar 3)) (dName 8) (dOr (dTest (dOp ltD (dOp ixD (dVar 8) (dC (.int 0))) (dC (.int 0)))) (dTest (dOp ltD (dOp ixD (dVar 8) (dC (.int 1))) (dC (.int 1))))) (dC (.int 1)) [8] [some (dI (l.map (·.1))), some (dF (l.map (·.2))), some (dI bs), some (dF (rest l bs)), none, none, none, none, none] S = some (.lst [], S) :=
    (lc_of (it := .li (dF (rest l bs))) (S1 := S) (by simp [diL, dF]) rfl (lcL_none fun x hx => by
      obtain ⟨q, hq, rfl⟩ := List.mem_map.mp hx
      have i0 : ∀ S, ixD (fr q) (.int 0) S = some (.int q.num, S) := fun S => ixD_tup (by simp)
      have i1 : ∀ S, ixD (fr q) (.int 1) S = some (.int (q.den : Int), S) := fun S => ixD_tup (by simp)
      have n0 : ¬ q.num < 0 := by
        have := Rat.num_nonneg.mpr (rm q hq).1
        omega
      have n1 : ¬ (q.den : Int) < 1 := by
        have := q.den_pos
        omega
      exact ⟨_, rfl, by simp [wipeD, i0, i1, n0, n1]⟩) (by simp)).trans rfl
  refine fn_rt (d := .bl true) (S1 := S) ?_ exF_same
  show b_law_judged_z [some (dI (l.map (·.1))), some (dF (l.map (·.2))), some (dI bs), some (dF (rest l bs)), none, none, none, none, none] S = _
  have ne0 := neD_ints (S := S) (x := .lst []) (gs := []) rfl
  have e2 : dPar 4 5 (dCons (dCall 1 f_law_heaps_z [] (dCons (dVar 1) dNil)) (dCons (dCall 1 f_law_heaps_z [] (dCons (dVar 3) dNil)) dNil)) [some (dI (l.map (·.1))), some (dF (l.map (·.2))), some (dI bs), some (dF (rest l bs)), none, none, none, none, none] S = some (.nx [some (dI (l.map (·.1))), some (dF (l.map (·.2))), some (dI bs), some (dF (rest l bs)), some (dF (hf 0 (l.map (·.2)))), some (dF (hf 0 (rest l bs))), none, none, none] S) := by
    simp only [dPar, dCall, dCons, dVar, dNil, List.getElem?_cons_zero, List.getElem?_cons_succ, bnd_some', List.append_nil, List.length_cons, List.length_nil, if_true, hs1, hs2, List.set_cons_succ, List.set_cons_zero]
  refine seq_nx (if_f (S1 := S) (by simp [lw, lt', lc, ne0]) rfl) ?_
  refine seq_nx e2 ?_
  exact seq_nx key (ret_of rfl)
end FW
end
section
namespace FW
open PySem PyProof.Rows PySem.Spec L2 DL
/-! ### what is left at rest is the greatest of its shape -/
/-- shaped between the bolted places -/
def Shp (l : List Tk) (bs : List Int) (W : Nat → Rat) : Prop := ∀ k, 0 < k → k < l.length → (k : Int) ∉ bs → (W k - W (k - 1)) * (Xa l (k + 1) - Xa l k) ≤ (W (k + 1) - W k) * (Xa l k - Xa l (k - 1))
structure Rst (l : List Tk) (bs : List Int) (Z : Nat → Rat) : Prop where
  le : ∀ k, k ≤ l.length → Z k ≤ Ya l k
  ends : ∀ k, k ≤ l.length → (k = 0 ∨ k = l.length ∨ (k : Int) ∈ bs) → Z k = Ya l k
  flap : ∀ k, 0 < k → k < l.length → (k : Int) ∉ bs → ∃ s u, s ≤ u ∧ Z k - Z (k - 1) = s * (Xa l k - Xa l (k - 1)) ∧ Z (k + 1) - Z k = u * (Xa l (k + 1) - Xa l k) ∧ (s < u → Z k = Ya l k)
theorem mul_le2 {s u a b : Rat} (h : s ≤ u) (ha : 0 ≤ a) (hb : 0 ≤ b) : s * a * b ≤ u * b * a := by
  have h1 := mul_le_left h ha
  have h2 := mul_le_left h1 hb
  have e : u * b * a = u * a * b := by grind
  rw [e]
  exact h2
theorem Rst.shp {l : List Tk} {bs : List Int} {Z : Nat → Rat} (R : Rst l bs Z) (hf : Fl l) : Shp l bs Z := by
  intro k h0 h1 h2
  obtain ⟨s, u, h, e1, e2, _⟩ := R.flap k h0 h1 h2
  rw [e1, e2]
  have a1 := Xa_mono hf (show k - 1 ≤ k by omega)
  have a2 := Xa_mono hf (show k ≤ k + 1 by omega)
  exact mul_le2 h (by grind) (by grind)
/-- the place farthest left where most of the difference is -/
theorem most_left (D : Nat → Rat) : ∀ n : Nat, ∃ k, k ≤ n ∧ (∀ j, j ≤ n → D j ≤ D k) ∧ ∀ j, j < k → D j < D k
  | 0 => ⟨0, Nat.le_refl _, fun j hj => by rw [show j = 0 by omega]; exact Rat.le_refl, fun j hj => by omega⟩
  | n + 1 => by
    obtain ⟨k, h1, h2, h3⟩ := most_left D n
    by_cases h : D (n + 1) ≤ D k
    · refine ⟨k, by omega, fun j hj => ?_, h3⟩
      by_cases e : j = n + 1
      · rw [e]; exact h
      · exact h2 j (by omega)
    · have h' := Rat.not_le.mp h
      refine ⟨n + 1, Nat.le_refl _, fun j hj => ?_, fun j hj => ?_⟩
      · by_cases e : j = n + 1
        · rw [e]; exact Rat.le_refl
        · have := h2 j (by omega)
          grind
      · have := h2 j (by omega)
        grind
theorem slopes {a b p q s : Rat} (ha : 0 < a) (hb : 0 < b) (h : p * b ≤ q * a) (hp : s * a < p) : s * b < q := by
  refine Rat.not_le.mp fun z => ?_
  have h1 := mul_le_left z (Rat.le_of_lt ha)
  have h2 := Rat.mul_lt_mul_of_pos_right hp hb
  grind
/-- nothing of that shape that is not above is above what is left -/
theorem Rst.most {l : List Tk} {bs : List Int} {Z W : Nat → Rat} (R : Rst l bs Z) (hf : Fl l) (hW : ∀ k, k ≤ l.length → W k ≤ Ya l k) (hs : Shp l bs W) : ∀ k, k ≤ l.length → W k ≤ Z k := by
  intro k hk
  obtain ⟨m, h1, h2, h3⟩ := most_left (fun k => W k - Z k) l.length
  have hkm := h2 k hk
  refine Rat.not_lt.mp fun hlt => ?_
  have pos : 0 < W m - Z m := by grind
  have wm := hW m h1
  have ne : Z m ≠ Ya l m := fun e => by grind
  have m0 : 0 < m := by
    refine Nat.pos_of_ne_zero fun e => ne (R.ends m h1 (.inl e))
  have mn : m < l.length := by
    refine Nat.lt_of_le_of_ne h1 fun e => ne (R.ends m h1 (.inr (.inl e)))
  have mb : (m : Int) ∉ bs := fun e => ne (R.ends m h1 (.inr (.inr e)))
  obtain ⟨s, u, su, e1, e2, e3⟩ := R.flap m m0 mn mb
  have hsu : s = u := by
    refine Classical.byContradiction fun z => ne (e3 ?_)
    exact Rat.lt_of_le_of_ne su z
  have c := hs m m0 mn mb
  have d1 := h3 (m - 1) (by omega)
  have d2 := h2 (m + 1) (by omega)
  have x1 := Xa_lt hf (show m - 1 < m by omega) h1
  have x2 := Xa_lt hf (show m < m + 1 by omega) (by omega)
  have := slopes (a := Xa l m - Xa l (m - 1)) (b := Xa l (m + 1) - Xa l m) (s := s) (by grind) (by grind) c (by grind)
  subst hsu
  grind
theorem Rst.uniq {l : List Tk} {bs : List Int} {Z W : Nat → Rat} (R : Rst l bs Z) (R' : Rst l bs W) (hf : Fl l) {k : Nat} (hk : k ≤ l.length) : W k = Z k :=
  Rat.le_antisymm (R.most hf R'.le (R'.shp hf) k hk) (R'.most hf R.le (R.shp hf) k hk)
theorem zr_rst {l : List Tk} {bs : List Int} {m0 : Zc} (h0 : l ≠ []) (hok : ∀ t ∈ l, OkT m0 t) (hbs : ∀ b ∈ bs, 1 ≤ b ∧ b < (l.length : Int)) : Rst l bs (Zr l bs) where
  le := fun k hk => (zr_le h0 hok hbs hk).1
  ends := fun k hk h => (zr_le h0 hok hbs hk).2 h
  flap := fun k h1 h2 h3 => by
    obtain ⟨s, u, F⟩ := flap_ok hok hbs h1 h2 h3
    exact ⟨s, u, F.le, F.left, F.right, F.same⟩
/-- lists from what is left -/
theorem rest_of {l : List Tk} {bs : List Int} {m0 : Zc} (h0 : l ≠ []) (hok : ∀ t ∈ l, OkT m0 t) (hbs : ∀ b ∈ bs, 1 ≤ b ∧ b < (l.length : Int)) {r : List Rat} (hl : r.length = l.length) (h : ∀ k, k ≤ l.length → rsum (r.take k) = Zr l bs k) : rest l bs = r := by
  have e := rest_len (l := l) (bs := bs) hok hbs
  refine List.ext_getElem (by omega) fun k h1 h2 => ?_
  have a := rsum_step (r := rest l bs) (k := k) (List.getElem?_eq_getElem h1)
  have b := rsum_step (r := r) (k := k) (List.getElem?_eq_getElem h2)
  rw [h (k + 1) (by omega), h k (by omega)] at b
  rw [← a, ← b]
  rfl
theorem Xa_fst {l l' : List Tk} (h : l.map (·.1) = l'.map (·.1)) (k : Nat) : Xa l k = Xa l' k := by
  unfold Xa
  rw [← sum_Wi, ← sum_Wi, List.map_take, List.map_take, h]
theorem Ya_rsum : ∀ (l : List Tk) (k : Nat), Ya l k = rsum ((l.map (·.2)).take k)
  | [], k => by simp [Ya, Am, rsum]
  | t :: l, 0 => rfl
  | t :: l, k + 1 => by
    have := Ya_rsum l k
    unfold Ya at this ⊢
    simp [Am, rsum, this]
theorem len_fst {l l' : List Tk} (h : l.map (·.1) = l'.map (·.1)) : l.length = l'.length := by
  have := congrArg List.length h
  simpa using this
theorem Shp.fst {l l' : List Tk} {bs : List Int} {W : Nat → Rat} (h : l.map (·.1) = l'.map (·.1)) (g : Shp l bs W) : Shp l' bs W := by
  intro k h0 h1 h2
  have := g k h0 (by rw [len_fst h]; exact h1) h2
  rw [Xa_fst h, Xa_fst h, Xa_fst h] at this
  exact this
theorem Shp.sub {l : List Tk} {bs bs' : List Int} {W : Nat → Rat} (h : ∀ b ∈ bs, b ∈ bs') (g : Shp l bs W) : Shp l bs' W := fun k h0 h1 h2 => g k h0 h1 fun z => h2 (h _ z)
theorem Shp.add {l : List Tk} {bs : List Int} {W V : Nat → Rat} (g : Shp l bs W) (f : Shp l bs V) : Shp l bs fun k => W k + V k := by
  intro k h0 h1 h2
  have a := g k h0 h1 h2
  have b := f k h0 h1 h2
  grind
theorem Shp.mul {l : List Tk} {bs : List Int} {W : Nat → Rat} {c : Rat} (hc : 0 ≤ c) (g : Shp l bs W) : Shp l bs fun k => W k * c := by
  intro k h0 h1 h2
  have a := mul_le_left (g k h0 h1 h2) hc
  grind
theorem Rst.mul {l l' : List Tk} {bs : List Int} {Z : Nat → Rat} {c : Rat} (hc : 0 ≤ c) (h : l.map (·.1) = l'.map (·.1)) (hy : ∀ k, Ya l' k = Ya l k * c) (R : Rst l bs Z) : Rst l' bs fun k => Z k * c where
  le := fun k hk => by rw [hy]; exact mul_le_left (R.le k (by rw [len_fst h]; exact hk)) hc
  ends := fun k hk z => by rw [hy, R.ends k (by rw [len_fst h]; exact hk) (by rw [len_fst h]; exact z)]
  flap := fun k h0 h1 h2 => by
    obtain ⟨s, u, su, e1, e2, e3⟩ := R.flap k h0 (by rw [len_fst h]; exact h1) h2
    refine ⟨s * c, u * c, mul_le_left su hc, ?_, ?_, fun z => ?_⟩
    · rw [← Xa_fst h, ← Xa_fst h]; grind
    · rw [← Xa_fst h, ← Xa_fst h]; grind
    · rw [hy, e3 (by
        refine Rat.not_le.mp fun y => ?_
        have := mul_le_left y hc
        grind)]
section
variable {l l' l2 : List Tk} {bs bs' : List Int} {m0 m1 m2 : Zc}
theorem zr_mono (h0 : l ≠ []) (hok : ∀ t ∈ l, OkT m0 t) (hok' : ∀ t ∈ l', OkT m1 t) (hbs : ∀ b ∈ bs, 1 ≤ b ∧ b < (l.length : Int)) (hbs' : ∀ b ∈ bs', 1 ≤ b ∧ b < (l.length : Int)) (h : l.map (·.1) = l'.map (·.1))
    (hy : ∀ k, k ≤ l.length → Ya l k ≤ Ya l' k) (hb : ∀ b ∈ bs, b ∈ bs') {k : Nat} (hk : k ≤ l.length) : Zr l bs k ≤ Zr l' bs' k := by
  have e := len_fst h
  have R := zr_rst h0 hok hbs
  have R' := zr_rst (l := l') (bs := bs') (fun z => h0 (by rw [z] at e; exact List.length_eq_zero_iff.mp e)) hok' (by rw [← e]; exact hbs')
  exact R'.most (fun t ht => (hok' t ht).lo) (fun j hj => Rat.le_trans (R.le j (by omega)) (hy j (by omega))) (((R.shp fun t ht => (hok t ht).lo).fst h).sub hb) k (by omega)
theorem zr_add (h0 : l ≠ []) (hok : ∀ t ∈ l, OkT m0 t) (hok' : ∀ t ∈ l', OkT m1 t) (hok2 : ∀ t ∈ l2, OkT m2 t) (hbs : ∀ b ∈ bs, 1 ≤ b ∧ b < (l.length : Int)) (h : l.map (·.1) = l'.map (·.1)) (h2 : l.map (·.1) = l2.map (·.1))
    (hy : ∀ k, k ≤ l.length → Ya l k + Ya l' k ≤ Ya l2 k) {k : Nat} (hk : k ≤ l.length) : Zr l bs k + Zr l' bs k ≤ Zr l2 bs k := by
  have e := len_fst h
  have e2 := len_fst h2
  have ne : ∀ {m : List Tk}, l.length = m.length → m ≠ [] := fun e z => h0 (by rw [z] at e; exact List.length_eq_zero_iff.mp e)
  have R := zr_rst h0 hok hbs
  have R' := zr_rst (l := l') (bs := bs) (ne e) hok' (by rw [← e]; exact hbs)
  have R2 := zr_rst (l := l2) (bs := bs) (ne e2) hok2 (by rw [← e2]; exact hbs)
  refine R2.most (fun t ht => (hok2 t ht).lo) (W := fun k => Zr l bs k + Zr l' bs k) (fun j hj => ?_) (((R.shp fun t ht => (hok t ht).lo).fst h2).add ((R'.shp fun t ht => (hok' t ht).lo).fst (h.symm.trans h2))) k (by omega)
  have a := R.le j (by omega)
  have b := R'.le j (by omega)
  have c := hy j (by omega)
  grind
theorem zr_mul {c : Rat} (hc : 0 ≤ c) (h0 : l ≠ []) (hok : ∀ t ∈ l, OkT m0 t) (hok' : ∀ t ∈ l', OkT m1 t) (hbs : ∀ b ∈ bs, 1 ≤ b ∧ b < (l.length : Int)) (h : l.map (·.1) = l'.map (·.1)) (hy : ∀ k, Ya l' k = Ya l k * c) {k : Nat} (hk : k ≤ l.length) : Zr l' bs k = Zr l bs k * c := by
  have e := len_fst h
  have R := zr_rst h0 hok hbs
  have R' := zr_rst (l := l') (bs := bs) (fun z => h0 (by rw [z] at e; exact List.length_eq_zero_iff.mp e)) hok' (by rw [← e]; exact hbs)
  exact ((R'.uniq (R.mul hc h hy) fun t ht => (hok' t ht).lo) (by omega)).symm
end
theorem rsum_mul (c : Rat) : ∀ r : List Rat, rsum (r.map (· * c)) = rsum r * c
  | [] => by simp [rsum]
  | q :: r => by
    simp only [List.map_cons, rsum]
    rw [rsum_mul c r]
    grind
theorem rest_mul {l l' : List Tk} {bs : List Int} {m0 m1 : Zc} {c : Rat} (hc : 0 ≤ c) (h0 : l ≠ []) (hok : ∀ t ∈ l, OkT m0 t) (hok' : ∀ t ∈ l', OkT m1 t) (hbs : ∀ b ∈ bs, 1 ≤ b ∧ b < (l.length : Int)) (h : l.map (·.1) = l'.map (·.1)) (hy : ∀ k, Ya l' k = Ya l k * c) : rest l' bs = (rest l bs).map (· * c) := by
  have e := len_fst h
  refine rest_of (fun z => h0 (by rw [z] at e; exact List.length_eq_zero_iff.mp e)) hok' (by rw [← e]; exact hbs) (by rw [List.length_map, rest_len hok hbs, e]) fun k hk => ?_
  rw [← List.map_take, rsum_mul]
  exact (zr_mul hc h0 hok hok' hbs h hy (by omega)).symm
theorem rest_all {l : List Tk} {bs : List Int} {m0 : Zc} (h0 : l ≠ []) (hok : ∀ t ∈ l, OkT m0 t) (hbs : ∀ b ∈ bs, 1 ≤ b ∧ b < (l.length : Int)) (ha : ∀ k : Nat, 0 < k → k < l.length → (k : Int) ∈ bs) : rest l bs = l.map (·.2) := by
  refine rest_of h0 hok hbs (by simp) fun k hk => ?_
  rw [← Ya_rsum]
  refine ((zr_rst h0 hok hbs).ends k hk ?_).symm
  by_cases h1 : k = 0
  · exact .inl h1
  · by_cases h2 : k = l.length
    · exact .inr (.inl h2)
    · exact .inr (.inr (ha k (by omega) (by omega)))
end FW
end
section
namespace FW
open PySem PyProof.Rows PySem.Spec L2 DL
theorem sz_Zr {l : List Tk} {bs : List Int} {m0 : Zc} {B : Nat} (h0 : l ≠ []) (hok : ∀ t ∈ l, OkT m0 t) (hl : l.length ≤ 1000) (hB : l.length ≤ m0.L ∧ m0.B ≤ B) (hB2 : B ≤ 3000) (hbs : ∀ b ∈ bs, 1 ≤ b ∧ b < (l.length : Int)) {k : Nat} (hk : k ≤ l.length) : Sz (B + B + 51) (Zr l bs k) := by
  obtain ⟨a, h, lo, _⟩ := low_ok h0 hok hbs hk
  obtain ⟨i, j, h1, h2, h3, h4, e⟩ := lo.at_
  have e' : Zr l bs k = chord l i k j := e.symm
  rw [e']
  exact (chord_told (S := []) hok hl hB hB2 h2 h3 (Nat.le_trans h4 lo.hn)).2
theorem hf_rest {l : List Tk} {bs : List Int} {m0 : Zc} (hok : ∀ t ∈ l, OkT m0 t) (hbs : ∀ b ∈ bs, 1 ≤ b ∧ b < (l.length : Int)) {k : Nat} (hk : k ≤ l.length) : (hf 0 (rest l bs))[k]? = some (Zr l bs k) := by
  rw [hf_rsum 0 (by rw [rest_len hok hbs]; exact hk), Rat.zero_add]
  rfl
theorem mem_hf {qs : List Rat} {x : Rat} (h : x ∈ hf 0 qs) : ∃ k, k ≤ qs.length ∧ x = rsum (qs.take k) := by
  obtain ⟨k, hk, rfl⟩ := List.getElem_of_mem h
  rw [hf_length] at hk
  have e := hf_rsum (r := qs) (k := k) 0 (by omega)
  refine ⟨k, by omega, ?_⟩
  rw [List.getElem?_eq_getElem (by rw [hf_length]; exact hk), Rat.zero_add] at e
  exact Option.some.inj e
structure Row (z : Zc) (ws : List Int) (qs : List Rat) : Prop where
  ne : ws ≠ []
  fl : ∀ w ∈ ws, 1 ≤ w ∧ w ≤ 1000
  len : qs.length = ws.length
  c : ∀ q ∈ qs, z.C q
  n : ws.length ≤ 100
  zl : ws.length ≤ z.L
  zb : z.B ≤ 3000
def Bo (n : Nat) (bs : List Int) : Prop := (∀ b ∈ bs, 1 ≤ b ∧ b < (n : Int)) ∧ bs.Nodup ∧ bs.length ≤ 100
section
variable {z : Zc} {ws : List Int} {qs : List Rat} {bs : List Int} {S : Sto}
theorem Row.l1 (h : Row z ws qs) : (ws.zip qs).map (·.1) = ws := List.map_fst_zip (by have := h.len; omega)
theorem Row.l2 (h : Row z ws qs) : (ws.zip qs).map (·.2) = qs := List.map_snd_zip (by have := h.len; omega)
theorem Row.ll (h : Row z ws qs) : (ws.zip qs).length = ws.length := by rw [List.length_zip, h.len, Nat.min_self]
theorem Row.zne (h : Row z ws qs) : ws.zip qs ≠ [] := fun e => by
  have := h.ll
  rw [e] at this
  exact h.ne (List.length_eq_zero_iff.mp this.symm)
theorem Row.ok (h : Row z ws qs) : ∀ t ∈ ws.zip qs, OkT z t := fun t ht => by
  have m1 : t.1 ∈ ws := by
    have := List.mem_map_of_mem (f := (·.1)) ht
    rw [h.l1] at this
    exact this
  have m2 : t.2 ∈ qs := by
    have := List.mem_map_of_mem (f := (·.2)) ht
    rw [h.l2] at this
    exact this
  exact ⟨(h.fl _ m1).1, (h.fl _ m1).2, h.c _ m2⟩
theorem Row.bb (h : Row z ws qs) (hb : Bo ws.length bs) : ∀ b ∈ bs, 1 ≤ b ∧ b < ((ws.zip qs).length : Int) := by
  rw [h.ll]
  exact hb.1
theorem Row.sett (h : Row z ws qs) (h0 : ∀ q ∈ qs, 0 ≤ q) (hb : Bo ws.length bs) : f_settled_z [dI ws, dF qs, dI bs] S = some (dF (rest (ws.zip qs) bs), S) := by
  have := settled_okz (S := S) (bs := bs) (bd := dI bs) (m0 := z) h.zne (fun t ht => ⟨h.ok t ht, by
    refine h0 _ ?_
    have := List.mem_map_of_mem (f := (·.2)) ht
    rw [h.l2] at this
    exact this⟩) (by rw [h.ll]; exact h.n) (by rw [h.ll]; exact ⟨h.zl, h.zb⟩) (.inl rfl) (h.bb hb) hb.2.1 hb.2.2
  rw [h.l1, h.l2] at this
  exact this
theorem Row.settk (h : Row z ws qs) (h0 : ∀ q ∈ qs, 0 ≤ q) (hb : Bo ws.length bs) : f_settled_k [dI ws, dF qs, dI bs] S = some (.ptr S.length, S ++ [.ml ((rest (ws.zip qs) bs).map fr)]) := by
  have := settled_ok (S := S) (bs := bs) (bd := dI bs) (m0 := z) h.zne (fun t ht => ⟨h.ok t ht, by
    refine h0 _ ?_
    have := List.mem_map_of_mem (f := (·.2)) ht
    rw [h.l2] at this
    exact this⟩) (by rw [h.ll]; exact h.n) (by rw [h.ll]; exact ⟨h.zl, h.zb⟩) (.inl rfl) (h.bb hb) hb.2.1 hb.2.2
  rw [h.l1, h.l2] at this
  exact this
theorem Row.rlen (h : Row z ws qs) (hb : Bo ws.length bs) : (rest (ws.zip qs) bs).length = ws.length := by
  rw [rest_len h.ok (h.bb hb), h.ll]
theorem Row.rpos (h : Row z ws qs) (h0 : ∀ q ∈ qs, 0 ≤ q) {q : Rat} (hq : q ∈ rest (ws.zip qs) bs) : 0 ≤ q ∧ Sz (z.B + 100) q :=
  rest_mem (m0 := z) (fun t ht => ⟨h.ok t ht, by
    refine h0 _ ?_
    have := List.mem_map_of_mem (f := (·.2)) ht
    rw [h.l2] at this
    exact this⟩) (by rw [h.ll]; have := h.n; omega) (by rw [h.ll]; exact ⟨h.zl, h.zb⟩) hq
theorem Row.hz (h : Row z ws qs) (h0 : ∀ q ∈ qs, 0 ≤ q) (hb : Bo ws.length bs) : Hz (z.B + z.B + 100) (rest (ws.zip qs) bs) := by
  refine ⟨fun q hq => (h.rpos h0 hq).2.mono (by omega), fun x hx => ?_⟩
  obtain ⟨k, hk, rfl⟩ := mem_hf hx
  have e : rsum ((rest (ws.zip qs) bs).take k) = Zr (ws.zip qs) bs k := rfl
  rw [e]
  rw [h.rlen hb] at hk
  refine (sz_Zr h.zne h.ok (by rw [h.ll]; have := h.n; omega) (by rw [h.ll]; exact ⟨h.zl, Nat.le_refl _⟩) h.zb (h.bb hb) (by rw [h.ll]; exact hk)).mono (by omega)
theorem Row.get (h : Row z ws qs) (hb : Bo ws.length bs) {k : Nat} (hk : k ≤ ws.length) : (hf 0 (rest (ws.zip qs) bs))[k]? = some (Zr (ws.zip qs) bs k) :=
  hf_rest h.ok (h.bb hb) (by rw [h.ll]; exact hk)
theorem Row.ya (h : Row z ws qs) (k : Nat) : Ya (ws.zip qs) k = rsum (qs.take k) := by rw [Ya_rsum, h.l2]
theorem rsum_nonneg : ∀ {r : List Rat}, (∀ q ∈ r, 0 ≤ q) → 0 ≤ rsum r
  | [], _ => Rat.le_refl
  | q :: r, h => by
    have h1 := h q (List.mem_cons_self)
    have h2 := rsum_nonneg fun x hx => h x (List.mem_cons_of_mem _ hx)
    simp only [rsum]
    grind
theorem rsum_zip : ∀ (a b : List Rat) (k : Nat), a.length = b.length → rsum ((List.zipWith (· + ·) a b).take k) = rsum (a.take k) + rsum (b.take k)
  | [], [], k, _ => by simp [rsum, Rat.add_zero]
  | x :: a, y :: b, 0, _ => by simp [rsum, Rat.add_zero]
  | x :: a, y :: b, k + 1, h => by
    have := rsum_zip a b k (by simpa using h)
    simp only [List.zipWith_cons_cons, List.take_succ_cons, rsum, this]
    grind
  | [], _ :: _, _, h => by cases h
  | _ :: _, [], _, h => by cases h
end
/-! ### a comparison, place by place -/
theorem no_less_items {tgt : DG} {tt : DT} {te : DE} {vs : List Nat} {s : Sl} {S : Sto} (xs ys : List Rat) (hs : ∀ (k : Nat) (x y : Rat), xs[k]? = some x → ys[k]? = some y → ∃ s1, tgt (.tup [fr x, fr y]) (wipeD s vs) S = some (s1, S) ∧ tt s1 S = some (false, S)) :
    lcL tgt tt te vs (List.zipWith (fun x y => DV.tup [x, y]) (xs.map fr) (ys.map fr)) [] s S = some ([], S) := by
  refine lcL_none fun d hd => ?_
  obtain ⟨k, hk, rfl⟩ := List.getElem_of_mem hd
  rw [List.length_zipWith, List.length_map, List.length_map] at hk
  have h1 : xs[k]? = some xs[k] := List.getElem?_eq_getElem (by omega)
  have h2 : ys[k]? = some ys[k] := List.getElem?_eq_getElem (by omega)
  have := hs k _ _ h1 h2
  simpa using this
theorem eq_nil {S : Sto} : eqD (.lst []) (.lst []) S = some (.bl true, S) := by
  rw [eqD_of (n := 1) (p := .list []) (q := .list []) rfl rfl (shN_list (n := 0) fun p hp => by cases hp) (shN_list (n := 0) fun p hp => by cases hp) (by decide)]
  simp [PyData.eqv, PyData.eqvAll]
theorem eq_dF {S : Sto} (a b : List Rat) : eqD (dF a) (dF b) S = some (.bl (decide (a = b)), S) := by
  rw [eqD_of (n := 2) (py_dF a) (py_dF b) (sh_dF a) (sh_dF b) (by decide), eqv_dF]
theorem ne_dF {S : Sto} (a b : List Rat) : neD (dF a) (dF b) S = some (.bl (!decide (a = b)), S) := by
  rw [neD_of (n := 2) (py_dF a) (py_dF b) (sh_dF a) (sh_dF b) (by decide), eqv_dF]
theorem eq_dI {S : Sto} (a b : List Int) : eqD (dI a) (dI b) S = some (.bl (decide (a = b)), S) := by
  rw [eqD_of (n := 1) (py_dI a) (py_dI b) (sh_dI a) (sh_dI b) (by decide), eqv_dI]
theorem ne_dI {S : Sto} (a b : List Int) : neD (dI a) (dI b) S = some (.bl (!decide (a = b)), S) := by
  rw [neD_of (n := 1) (py_dI a) (py_dI b) (sh_dI a) (sh_dI b) (by decide), eqv_dI]
theorem mul_mkRat {q : Rat} {p : Int} : mkRat (q.num * p) q.den = q * p := by
  have := mkRat_mul_div (q := q) (p := p) (w := 1) (by decide)
  simp at this
  rw [this]
  grind
end FW
end
section
namespace FW
open PySem PyProof.Rows PySem.Spec L2 DL
theorem cut_drop {α : Type} {xs : List α} {i : Nat} : cutL xs (some (i : Int)) none = xs.drop i := by
  unfold cutL
  have h := HT.sIx_nat xs.length 0 i
  rw [h, HT.sIx_none]
  by_cases hi : i ≤ xs.length
  · rw [Nat.min_eq_left hi, List.take_of_length_le (by simp)]
  · rw [Nat.min_eq_right (by omega), List.drop_eq_nil_of_le (Nat.le_refl _), List.drop_eq_nil_of_le (by omega)]
    simp
theorem slD_take {m : Bool} {α : Type} {f : α → DV} {xs : List α} {i : Nat} {fe fh : DE} {s : Sl} {S : Sto} (h1 : fe s S = some (.lst (xs.map f), S)) (h2 : fh s S = some (.int (i : Nat), S)) (hi : i ≤ xs.length) : dSlL m fe doN (doS fh) s S = some (newL m ((xs.take i).map f) S) := by
  have := cut_take (xs := xs.map f) (i := i) (by simpa using hi)
  simp only [dSlL, h1, h2, bnd_some', doN, doS, rdL_lst, this, List.map_take]
theorem slD_drop {m : Bool} {α : Type} {f : α → DV} {xs : List α} {i : Nat} {fe fh : DE} {s : Sl} {S : Sto} (h1 : fe s S = some (.lst (xs.map f), S)) (h2 : fh s S = some (.int (i : Nat), S)) : dSlL m fe (doS fh) doN s S = some (newL m ((xs.drop i).map f) S) := by
  have := cut_drop (xs := xs.map f) (i := i)
  simp only [dSlL, h1, h2, bnd_some', doN, doS, rdL_lst, this, List.map_drop]
theorem notInD_ints {f : Int} {ns : List Int} {S : Sto} : inD true (.int f) (dI ns) S = some (.bl (!decide (f ∈ ns)), S) := by
  have h := toVs_map ns
  have h2 := inV_map f ns
  simp [inD, dI, toV, h, h2]
theorem law_plus_raw {p : Rat} {a : Int} {b n : Nat} {S : Sto} (h : Sz n p) (hb : 0 < b) (ha : a.natAbs < 2 ^ 100) (hb2 : b < 2 ^ 100) (hn : n ≤ 6000) : f_law_plus_z [fr p, .tup [.int a, .int (b : Nat)]] S = some (fr (p + mkRat a b), S) := by
  have hm : p.den * b < 2 ^ (n + 100) := by
    rw [Nat.pow_add]
    exact Nat.mul_lt_mul'' h.2 hb2
  have key := law_low_ok (a := p.num * b + a * p.den) (b := p.den * b) (n := n + 100 + 1) (S := S) (Nat.mul_pos p.den_pos hb) (Nat.lt_of_lt_of_le hm (Nat.pow_le_pow_right (by decide) (by omega))) (by
    have h1 : p.num.natAbs * b < 2 ^ (n + 100) := by rw [Nat.pow_add]; exact Nat.mul_lt_mul'' h.1 hb2
    have h2 : p.den * a.natAbs < 2 ^ (n + 100) := by rw [Nat.pow_add]; exact Nat.mul_lt_mul'' h.2 ha
    have t := Int.natAbs_add_le (p.num * b) (a * p.den)
    rw [Int.natAbs_mul, Int.natAbs_mul, Int.natAbs_natCast, Int.natAbs_natCast, Nat.mul_comm a.natAbs] at t
    have e : 2 ^ (n + 100 + 1) = 2 ^ (n + 100) + 2 ^ (n + 100) := by rw [Nat.pow_succ]; omega
    omega) (by omega)
  have e1 : mkRat (p.num * b + a * p.den) (p.den * b) = p + mkRat a b := by
    have l := line_mkRat (p := p) (q := (a : Rat)) (u := (b : Int)) (v := 1) (w := (b : Int)) (by omega)
    have hbd : (b : Rat) ≠ 0 := by
      intro z
      have : b = 0 := by exact_mod_cast z
      omega
    simp at l
    rw [l, Rat.mkRat_eq_div, Rat.intCast_natCast]
    clear key l hm hb hb2 h
    grind
  rw [e1] at key
  have f1 := h.fn (by omega); have f2 := h.fd (by omega)
  have f3 : Fits a := fits_of ha (by decide)
  have f4 : Fits (b : Int) := fits_of (n := 100) (by simpa using hb2) (by decide)
  push_cast at key
  simp [f_law_plus_z, fnF, b_law_plus_z, fr, ixD, f1, f2, f3, f4]
  rw [key]
  simp [fr]
theorem rsum_le : ∀ {a b : List Rat} (k : Nat), a.length = b.length → (∀ (i : Nat) (x y : Rat), a[i]? = some x → b[i]? = some y → x ≤ y) → rsum (a.take k) ≤ rsum (b.take k)
  | [], [], _, _, _ => by simp [rsum, Rat.le_refl]
  | x :: a, y :: b, 0, _, _ => by simp [rsum, Rat.le_refl]
  | x :: a, y :: b, k + 1, h, g => by
    have h1 := rsum_le (a := a) (b := b) k (by simpa using h) fun i x y hx hy => g (i + 1) x y (by simpa using hx) (by simpa using hy)
    have h2 := g 0 x y rfl rfl
    simp only [List.take_succ_cons, rsum]
    grind
  | [], _ :: _, _, h, _ => by cases h
  | _ :: _, [], _, h, _ => by cases h
/-- all so many times -/
theorem times_items {vs : List Nat} {i j k : Nat} {s : Sl} {S : Sto} {m : Int} (qs : List Rat) {B : Nat} (hq : ∀ q ∈ qs, Sz B q) (hB : B ≤ 6000) (hm : 0 ≤ m) (hm2 : m < 2 ^ 50)
    (hs : ∀ q : Rat, ∃ s1, dGTup 2 (dGCons (dName i) (dGCons (dName j) dGNil)) (fr q) (wipeD s vs) S = some (s1, S) ∧ s1[i]? = some (some (.int q.num)) ∧ s1[j]? = some (some (.int (q.den : Nat))) ∧ s1[k]? = some (some (.int m))) :
    lcL (dGTup 2 (dGCons (dName i) (dGCons (dName j) dGNil))) dYes (dCall 2 f_law_low_z [] (dCons (dOp mulD (dVar i) (dVar k)) (dCons (dVar j) dNil))) vs (qs.map fr) [] s S = some ((qs.map (· * (m : Rat))).map fr, S) := by
  have := lcL_map (tgt := dGTup 2 (dGCons (dName i) (dGCons (dName j) dGNil))) (tt := dYes) (te := dCall 2 f_law_low_z [] (dCons (dOp mulD (dVar i) (dVar k)) (dCons (dVar j) dNil))) (vs := vs) (s := s) (S := S)
    (g := fun d => match d with | .tup [.int a, .int b] => fr (mkRat (a * m) b.toNat) | d => d) (xs := qs.map fr) (acc := []) (fun d hd => by
      obtain ⟨q, hq', rfl⟩ := List.mem_map.mp hd
      obtain ⟨s1, e1, e2, e3, e4⟩ := hs q
      have z := hq q hq'
      have f1 := z.fn (by omega)
      have f2 : Fits m := fits_lt hm (by omega)
      have key := law_low_ok (S := S) (a := q.num * m) (b := q.den) (n := B + 50) q.den_pos (Nat.lt_of_lt_of_le z.2 (Nat.pow_le_pow_right (by decide) (by omega))) (by
        rw [Int.natAbs_mul, Nat.pow_add]
        exact Nat.mul_lt_mul'' z.1 (by omega)) (by omega)
      exact ⟨s1, e1, rfl, by simp [dVar, e2, e3, e4, f1, f2, key, fr]⟩)
  rw [this, List.nil_append, List.map_map, List.map_map]
  congr 2
  refine List.map_congr_left fun q _ => ?_
  simp only [Function.comp, fr, Int.toNat_natCast]
  rw [mul_mkRat]
theorem Sz.times {q : Rat} {B : Nat} {m : Int} (h : Sz B q) (hm : m.natAbs < 2 ^ 50) : Sz (B + 50) (q * m) := by
  rw [← mul_mkRat]
  exact sz_mkRat q.den_pos (by rw [Int.natAbs_mul, Nat.pow_add]; exact Nat.mul_lt_mul'' h.1 hm) (Nat.lt_of_lt_of_le h.2 (Nat.pow_le_pow_right (by decide) (by omega)))
theorem put_mem {a b : List Rat} {q : Rat} (h : q ∈ List.zipWith (· + ·) a b) : ∃ x y, x ∈ a ∧ y ∈ b ∧ q = x + y := by
  obtain ⟨k, hk, rfl⟩ := List.getElem_of_mem h
  rw [List.length_zipWith] at hk
  exact ⟨a[k], b[k], List.getElem_mem (by omega), List.getElem_mem (by omega), by simp⟩
end FW
end
section
namespace FW
open PySem PyProof.Rows PySem.Spec L2 DL
/-! ### a tank parted -/
noncomputable def partZ (Z : Nat → Rat) (i : Nat) (e : Rat) (k : Nat) : Rat := if k ≤ i then Z k else if k = i + 1 then Z i + (Z (i + 1) - Z i) * e else Z (k - 1)
section
variable {Z : Nat → Rat} {i : Nat} {e : Rat}
theorem part_lo {k : Nat} (h : k ≤ i) : partZ Z i e k = Z k := by unfold partZ; rw [if_pos h]
theorem part_at : partZ Z i e (i + 1) = Z i + (Z (i + 1) - Z i) * e := by unfold partZ; rw [if_neg (by omega), if_pos rfl]
theorem part_hi {k : Nat} (h : i + 1 ≤ k) : partZ Z i e (k + 1) = Z k := by unfold partZ; rw [if_neg (by omega), if_neg (by omega)]; rfl
end
structure Parted (l l' : List Tk) (bs bs' : List Int) (i : Nat) (w c d : Rat) : Prop where
  hi : i < l.length
  hl : l'.length = l.length + 1
  hw : Xa l (i + 1) = Xa l i + w
  c0 : 0 < c
  cw : c < w
  x1 : ∀ k, k ≤ i → Xa l' k = Xa l k
  x2 : Xa l' (i + 1) = Xa l i + c
  x3 : ∀ k, i + 1 ≤ k → Xa l' (k + 1) = Xa l k
  y0 : Ya l (i + 1) = Ya l i + d * w
  y1 : ∀ k, k ≤ i → Ya l' k = Ya l k
  y2 : Ya l' (i + 1) = Ya l i + d * c
  y3 : ∀ k, i + 1 ≤ k → Ya l' (k + 1) = Ya l k
  b1 : ∀ k : Nat, k ≤ i → ((k : Int) ∈ bs' ↔ (k : Int) ∈ bs)
  b2 : ((i + 1 : Nat) : Int) ∉ bs'
  b3 : ∀ k : Nat, i + 1 ≤ k → (((k + 1 : Nat) : Int) ∈ bs' ↔ (k : Int) ∈ bs)
theorem mix_le {a b c d e w : Rat} (h1 : a ≤ c) (h2 : b ≤ c + d * w) (he : 0 ≤ e) (he1 : e ≤ 1) : a + (b - a) * e ≤ c + d * (w * e) := by
  have m1 := mul_le_left h1 (show 0 ≤ 1 - e by grind)
  have m2 := mul_le_left h2 he
  grind
theorem Rst.part {l l' : List Tk} {bs bs' : List Int} {Z : Nat → Rat} {i : Nat} {w c d : Rat} (R : Rst l bs Z) (P : Parted l l' bs bs' i w c d) : Rst l' bs' (partZ Z i (c / w)) := by
  have w0 : (0 : Rat) < w := by
    have := P.c0
    have := P.cw
    grind
  have ew : c / w * w = c := by grind
  have we : w * (c / w) = c := by grind
  have e0 : 0 ≤ c / w := le_div w0 (by have := P.c0; grind)
  have e1 : c / w ≤ 1 := by
    refine Rat.not_lt.mp fun z => ?_
    have := Rat.mul_lt_mul_of_pos_right z w0
    have := P.cw
    grind
  refine ⟨fun k hk => ?_, fun k hk h => ?_, fun k h0 h1 h2 => ?_⟩
  · rw [P.hl] at hk
    by_cases h : k ≤ i
    · rw [part_lo h, P.y1 k h]
      exact R.le k (by have := P.hi; omega)
    · by_cases h' : k = i + 1
      · subst h'
        rw [part_at, P.y2]
        have a := R.le i (by have := P.hi; omega)
        have b := R.le (i + 1) (by have := P.hi; omega)
        rw [P.y0] at b
        have := mix_le a b e0 e1
        rw [we] at this
        exact this
      · obtain ⟨j, rfl⟩ : ∃ j, k = j + 1 := ⟨k - 1, by omega⟩
        rw [part_hi (by omega), P.y3 j (by omega)]
        exact R.le j (by omega)
  · rw [P.hl] at hk h
    by_cases h' : k ≤ i
    · rw [part_lo h', P.y1 k h']
      refine R.ends k (by have := P.hi; omega) ?_
      rcases h with h | h | h
      · exact .inl h
      · have := P.hi; omega
      · exact .inr (.inr ((P.b1 k h').mp h))
    · by_cases h2 : k = i + 1
      · subst h2
        rcases h with h | h | h
        · omega
        · have := P.hi; omega
        · exact absurd h P.b2
      · obtain ⟨j, rfl⟩ : ∃ j, k = j + 1 := ⟨k - 1, by omega⟩
        rw [part_hi (by omega), P.y3 j (by omega)]
        refine R.ends j (by omega) ?_
        rcases h with h | h | h
        · omega
        · exact .inr (.inl (by omega))
        · exact .inr (.inr ((P.b3 j (by omega)).mp h))
  · rw [P.hl] at h1
    by_cases hk : k < i
    · obtain ⟨s, u, su, g1, g2, g3⟩ := R.flap k h0 (by have := P.hi; omega) fun z => h2 ((P.b1 k (by omega)).mpr z)
      refine ⟨s, u, su, ?_, ?_, fun z => ?_⟩
      · rw [part_lo (by omega), part_lo (by omega), P.x1 k (by omega), P.x1 (k - 1) (by omega)]
        exact g1
      · rw [part_lo (show k + 1 ≤ i by omega), part_lo (by omega), P.x1 (k + 1) (by omega), P.x1 k (by omega)]
        exact g2
      · rw [part_lo (by omega), P.y1 k (by omega)]
        exact g3 z
    · by_cases hk1 : k = i
      · subst hk1
        obtain ⟨s, u, su, g1, g2, g3⟩ := R.flap k h0 P.hi fun z => h2 ((P.b1 k (by omega)).mpr z)
        refine ⟨s, u, su, ?_, ?_, fun z => ?_⟩
        · rw [part_lo (by omega), part_lo (by omega), P.x1 k (by omega), P.x1 (k - 1) (by omega)]
          exact g1
        · rw [part_at, part_lo (Nat.le_refl _), P.x2, P.x1 k (Nat.le_refl _), g2, P.hw]
          grind
        · rw [part_lo (Nat.le_refl _), P.y1 k (Nat.le_refl _)]
          exact g3 z
      · by_cases hk2 : k = i + 1
        · subst hk2
          refine ⟨(Z (i + 1) - Z i) / w, (Z (i + 1) - Z i) / w, Rat.le_refl, ?_, ?_, fun z => absurd z (Rat.not_lt.mpr Rat.le_refl)⟩
          · rw [show i + 1 - 1 = i by omega, part_at, part_lo (Nat.le_refl _), P.x2, P.x1 i (Nat.le_refl _)]
            grind
          · rw [part_hi (Nat.le_refl _), part_at, P.x3 _ (Nat.le_refl _), P.x2, P.hw]
            grind
        · obtain ⟨j, rfl⟩ : ∃ j, k = j + 1 := ⟨k - 1, by omega⟩
          have hj : i + 1 ≤ j := by omega
          obtain ⟨s, u, su, g1, g2, g3⟩ := R.flap j (by omega) (by omega) fun z => h2 ((P.b3 j hj).mpr z)
          refine ⟨s, u, su, ?_, ?_, fun z => ?_⟩
          · rw [part_hi hj, show j + 1 - 1 = j by omega, P.x3 j hj]
            by_cases hj1 : j = i + 1
            · subst hj1
              rw [part_at, P.x2]
              rw [show i + 1 - 1 = i by omega] at g1
              rw [P.hw] at g1 ⊢
              have : Z (i + 1) = Z i + s * w := by grind
              rw [this]
              grind
            · obtain ⟨m, rfl⟩ : ∃ m, j = m + 1 := ⟨j - 1, by omega⟩
              rw [part_hi (by omega), P.x3 m (by omega)]
              rw [show m + 1 - 1 = m by omega] at g1
              exact g1
          · rw [part_hi hj, part_hi (by omega), P.x3 j hj, P.x3 (j + 1) (by omega)]
            exact g2
          · rw [part_hi hj, P.y3 j hj]
            exact g3 z
theorem Xa_cons (t : Tk) (b : List Tk) (k : Nat) : Xa (t :: b) (k + 1) = (t.1 : Rat) + Xa b k := rfl
theorem Ya_cons (t : Tk) (b : List Tk) (k : Nat) : Ya (t :: b) (k + 1) = t.2 + Ya b k := rfl
def upF (i : Nat) (b : Int) : Int := b + if (i : Int) < b then 1 else 0
theorem parted_of {a b : List Tk} {bs : List Int} {w c d : Int} (c0 : 0 < c) (cw : c < w) :
    Parted (a ++ (w, ((d * w : Int) : Rat)) :: b) (a ++ (c, ((d * c : Int) : Rat)) :: (w - c, ((d * (w - c) : Int) : Rat)) :: b) bs (bs.map (upF a.length)) a.length w c d where
  hi := by simp
  hl := by simp; omega
  hw := by
    have h := Xa_hi (a := a) (b := (w, ((d * w : Int) : Rat)) :: b) 1
    have h0 := Xa_hi (a := a) (b := (w, ((d * w : Int) : Rat)) :: b) 0
    rw [Nat.add_zero, X0] at h0
    rw [h, h0, Xa_cons, X0]
    grind
  c0 := by exact_mod_cast c0
  cw := by exact_mod_cast cw
  x1 := fun k hk => by rw [Xa_lo hk, Xa_lo hk]
  x2 := by
    have h := Xa_hi (a := a) (b := (c, ((d * c : Int) : Rat)) :: (w - c, ((d * (w - c) : Int) : Rat)) :: b) 1
    have h0 := Xa_hi (a := a) (b := (w, ((d * w : Int) : Rat)) :: b) 0
    rw [Nat.add_zero, X0] at h0
    rw [h, h0, Xa_cons, X0]
    grind
  x3 := fun k hk => by
    obtain ⟨j, rfl⟩ : ∃ j, k = a.length + (j + 1) := ⟨k - a.length - 1, by omega⟩
    have h := Xa_hi (a := a) (b := (c, ((d * c : Int) : Rat)) :: (w - c, ((d * (w - c) : Int) : Rat)) :: b) (j + 1 + 1)
    have h0 := Xa_hi (a := a) (b := (w, ((d * w : Int) : Rat)) :: b) (j + 1)
    rw [show a.length + (j + 1) + 1 = a.length + (j + 1 + 1) by omega, h, h0, Xa_cons, Xa_cons, Xa_cons]
    simp only [Rat.intCast_sub]
    grind
  y0 := by
    have h := Ya_hi (a := a) (b := (w, ((d * w : Int) : Rat)) :: b) 1
    have h0 := Ya_hi (a := a) (b := (w, ((d * w : Int) : Rat)) :: b) 0
    rw [Nat.add_zero, Y0] at h0
    rw [h, h0, Ya_cons, Y0]
    simp only [Rat.intCast_mul]
    grind
  y1 := fun k hk => by rw [Ya_lo hk, Ya_lo hk]
  y2 := by
    have h := Ya_hi (a := a) (b := (c, ((d * c : Int) : Rat)) :: (w - c, ((d * (w - c) : Int) : Rat)) :: b) 1
    have h0 := Ya_hi (a := a) (b := (w, ((d * w : Int) : Rat)) :: b) 0
    rw [Nat.add_zero, Y0] at h0
    rw [h, h0, Ya_cons, Y0]
    simp only [Rat.intCast_mul]
    grind
  y3 := fun k hk => by
    obtain ⟨j, rfl⟩ : ∃ j, k = a.length + (j + 1) := ⟨k - a.length - 1, by omega⟩
    have h := Ya_hi (a := a) (b := (c, ((d * c : Int) : Rat)) :: (w - c, ((d * (w - c) : Int) : Rat)) :: b) (j + 1 + 1)
    have h0 := Ya_hi (a := a) (b := (w, ((d * w : Int) : Rat)) :: b) (j + 1)
    rw [show a.length + (j + 1) + 1 = a.length + (j + 1 + 1) by omega, h, h0, Ya_cons, Ya_cons, Ya_cons]
    simp only [Rat.intCast_sub, Rat.intCast_mul]
    grind
  b1 := fun k hk => by
    rw [List.mem_map]
    refine ⟨fun ⟨b, hb, e⟩ => ?_, fun h => ⟨k, h, ?_⟩⟩
    · unfold upF at e
      split at e
      · omega
      · rw [← e, Int.add_zero]; exact hb
    · unfold upF
      rw [if_neg (by omega), Int.add_zero]
  b2 := fun h => by
    obtain ⟨b, hb, e⟩ := List.mem_map.mp h
    unfold upF at e
    split at e <;> omega
  b3 := fun k hk => by
    rw [List.mem_map]
    refine ⟨fun ⟨b, hb, e⟩ => ?_, fun h => ⟨k, h, ?_⟩⟩
    · unfold upF at e
      split at e
      · rw [show (k : Int) = b by omega]; exact hb
      · omega
    · unfold upF
      rw [if_pos (by omega)]
      omega
/-! ### each stretch by itself -/
theorem pairs_nil (n : Nat) : pairs [] n = [(0, (n : Int))] := by
  simp [pairs, cuts, sortI]
theorem seg_all {α : Type} (l : List α) : seg l (0, (l.length : Int)) = l := by
  unfold seg
  simp
theorem rest_nil (l : List Tk) : rest l [] = (pools l).flatMap lay := by
  unfold rest segs
  rw [pairs_nil, List.flatMap_singleton, seg_all]
theorem rest_segs (l : List Tk) (bs : List Int) : rest l bs = (pairs bs l.length).flatMap fun p => rest (seg l p) [] := by
  simp only [rest_nil]
  rfl
end FW
end
section
namespace FW
open PySem PyProof.Rows PySem.Spec L2 DL
/-! ### amounts by one bottom -/
def Dv (D M : Nat) (q : Rat) : Prop := ∃ x : Int, q * (D : Rat) = (x : Rat) ∧ x.natAbs ≤ M * D
theorem Dv.mk_ {D M : Nat} {q : Rat} (hD : 0 < D) (h : Dv D M q) : ∃ x : Int, q = mkRat x D ∧ x.natAbs ≤ M * D := by
  obtain ⟨x, e, b⟩ := h
  refine ⟨x, ?_, b⟩
  have hd : (D : Rat) ≠ 0 := by
    intro z
    have : D = 0 := by exact_mod_cast z
    omega
  rw [Rat.mkRat_eq_div, ← e]
  grind
theorem Dv.sz {D M B : Nat} {q : Rat} (hD : 0 < D) (h : Dv D M q) (h1 : D < 2 ^ B) (h2 : M * D < 2 ^ B) : Sz B q := by
  obtain ⟨x, rfl, b⟩ := h.mk_ hD
  exact sz_mkRat hD (by omega) h1
theorem Dv.add {D M N : Nat} {p q : Rat} (h : Dv D M p) (g : Dv D N q) : Dv D (M + N) (p + q) := by
  obtain ⟨x, e, b⟩ := h
  obtain ⟨y, f, c⟩ := g
  refine ⟨x + y, ?_, ?_⟩
  · rw [Rat.intCast_add, ← e, ← f]
    grind
  · have := Int.natAbs_add_le x y
    rw [Nat.add_mul]
    omega
theorem Dv.zero {D M : Nat} : Dv D M 0 := ⟨0, by grind, by simp⟩
theorem Dv.le {D M N : Nat} {q : Rat} (h : Dv D M q) (hm : M ≤ N) : Dv D N q := by
  obtain ⟨x, e, b⟩ := h
  exact ⟨x, e, Nat.le_trans b (Nat.mul_le_mul_right _ hm)⟩
theorem Dv.up {D M : Nat} {q : Rat} (h : Dv D M q) (E : Nat) : Dv (D * E) M q := by
  obtain ⟨x, e, b⟩ := h
  refine ⟨x * E, ?_, ?_⟩
  · rw [Rat.natCast_mul, Rat.intCast_mul, ← e, Rat.intCast_natCast]
    grind
  · rw [Int.natAbs_mul, Int.natAbs_natCast, ← Nat.mul_assoc]
    exact Nat.mul_le_mul_right _ b
theorem Dv.int {M : Nat} {x : Int} (h : x.natAbs ≤ M) : Dv 1 M (x : Rat) := ⟨x, by simp, by simpa using h⟩
theorem Dv.int' {D M : Nat} {x : Int} (h : x.natAbs ≤ M) : Dv D M (x : Rat) := by
  have := (Dv.int h).up D
  rw [Nat.one_mul] at this
  exact this
/-- nought or more, and so much at most -/
theorem Dv.most {D M N : Nat} {q : Rat} (h : Dv D M q) (h0 : 0 ≤ q) (h1 : q ≤ (N : Rat)) : Dv D N q := by
  obtain ⟨x, e, b⟩ := h
  have hD : (0 : Rat) ≤ (D : Rat) := by exact_mod_cast Nat.zero_le D
  have x0 : (0 : Rat) ≤ (x : Rat) := by
    rw [← e]
    exact Rat.mul_nonneg h0 hD
  have x1 : (x : Rat) ≤ ((N * D : Nat) : Rat) := by
    rw [← e, Rat.natCast_mul]
    exact mul_le_left h1 hD
  have y0 : (0 : Int) ≤ x := by exact_mod_cast x0
  have y1 : x ≤ ((N * D : Nat) : Int) := by
    rw [← Rat.intCast_natCast] at x1
    exact_mod_cast x1
  exact ⟨x, e, by omega⟩
theorem dv_Am {D M : Nat} : ∀ (p : List Tk), (∀ t ∈ p, Dv D M t.2) → Dv D (p.length * M) (Am p)
  | [], _ => Dv.zero
  | t :: p, h => by
    have := (h t (List.mem_cons_self)).add (dv_Am p fun x hx => h x (List.mem_cons_of_mem _ hx))
    rw [List.length_cons, Nat.add_mul, Nat.one_mul, Nat.add_comm]
    exact this
def zD (D M L B : Nat) (hD : 0 < D) (h1 : D < 2 ^ B) (h2 : (L + 1) * M * D < 2 ^ B) : Zc where
  C := Dv D M
  L := L
  B := B
  one := fun q h => h.sz hD h1 (Nat.lt_of_le_of_lt (by
    rw [Nat.mul_assoc]
    exact Nat.le_mul_of_pos_left _ (by omega)) h2)
  sum := fun p h hl => ((dv_Am p h).le (Nat.mul_le_mul_right _ (show p.length ≤ L + 1 by omega))).sz hD h1 h2
/-- a number that all floors up to seventy-two in all divide -/
def LAM : Nat := 5624043567677125526551547131200
theorem lam_dvd : ∀ w : Nat, w < 73 → 0 < w → LAM % w = 0 := by decide +kernel
theorem lam_lt : LAM < 2 ^ 103 := by decide +kernel
theorem lam_pos : 0 < LAM := by decide +kernel
/-- what is told at rest -/
theorem dv_lay {D M : Nat} {p : List Tk} (hf : ∀ t ∈ p, 1 ≤ t.1) (h : ∀ t ∈ p, Dv D M t.2) (hw : (p.map (·.1)).sum ≤ 72) {q : Rat} (hq : q ∈ lay p) : Dv (D * LAM) (p.length * M) q := by
  unfold lay at hq
  obtain ⟨t, ht', rfl⟩ := List.mem_map.mp hq
  obtain ⟨x, e, b⟩ := dv_Am p h
  obtain ⟨W, hW⟩ : ∃ W : Int, W = (p.map (·.1)).sum := ⟨_, rfl⟩
  have sumge : ∀ (p : List Tk), (∀ t ∈ p, 1 ≤ t.1) → ∀ t ∈ p, t.1 ≤ (p.map (·.1)).sum ∧ 0 ≤ (p.map (·.1)).sum := by
    intro p
    induction p with
    | nil => intro _ t ht; cases ht
    | cons a p ih =>
      intro hf t ht
      have ha := hf a (List.mem_cons_self)
      have p0 : 0 ≤ (p.map (·.1)).sum := by
        cases p with
        | nil => simp
        | cons c p => exact (ih (fun x hx => hf x (List.mem_cons_of_mem _ hx)) c (List.mem_cons_self)).2
      rw [List.map_cons, List.sum_cons]
      rcases List.mem_cons.mp ht with rfl | ht
      · omega
      · have := ih (fun x hx => hf x (List.mem_cons_of_mem _ hx)) t ht
        omega
  have hs := sumge p hf t ht'
  have h1 := hf t ht'
  rw [← hW] at hs hw
  obtain ⟨w, rfl⟩ : ∃ w : Nat, W = (w : Int) := ⟨W.toNat, by omega⟩
  obtain ⟨v, hv⟩ : ∃ v : Nat, t.1 = (v : Int) := ⟨t.1.toNat, by omega⟩
  rw [hv] at hs h1 ⊢
  have hw0 : 0 < w := by omega
  have hdvd := lam_dvd w (by omega) hw0
  obtain ⟨E, hE⟩ : ∃ E, LAM = w * E := ⟨LAM / w, by have := Nat.div_add_mod LAM w; omega⟩
  have eW : Wi p = (w : Rat) := by
    rw [← sum_Wi, ← hW, Rat.intCast_natCast]
  have wne : (w : Rat) ≠ 0 := by
    intro z
    have : w = 0 := by exact_mod_cast z
    omega
  refine ⟨x * (E * v : Nat), ?_, ?_⟩
  · unfold ht
    rw [eW, hE, Rat.intCast_mul, ← e]
    simp only [Rat.natCast_mul, Rat.intCast_natCast]
    grind
  · rw [Int.natAbs_mul, Int.natAbs_natCast, hE]
    have h3 : E * v ≤ w * E := by
      rw [Nat.mul_comm w E]
      exact Nat.mul_le_mul_left _ (by omega)
    have := Nat.mul_le_mul b h3
    rw [← Nat.mul_assoc (p.length * M)]
    exact this
theorem sum_sub {p l : List Tk} (h : p.Sublist l) : (∀ t ∈ l, 1 ≤ t.1) → (p.map (·.1)).sum ≤ (l.map (·.1)).sum := by
  induction h with
  | slnil => intro _; simp
  | cons a h ih =>
    intro hf
    have := hf a (List.mem_cons_self)
    have := ih fun x hx => hf x (List.mem_cons_of_mem _ hx)
    rw [List.map_cons, List.sum_cons]
    omega
  | cons_cons a h ih =>
    intro hf
    have := ih fun x hx => hf x (List.mem_cons_of_mem _ hx)
    rw [List.map_cons, List.sum_cons, List.map_cons, List.sum_cons]
    omega
theorem seg_sub {α : Type} (l : List α) (p : Int × Int) : (seg l p).Sublist l := (List.take_sublist _ _).trans (List.drop_sublist _ _)
theorem rest_dv {D M : Nat} {l : List Tk} {bs : List Int} {m0 : Zc} (hok : ∀ t ∈ l, OkT m0 t) (hd : ∀ t ∈ l, Dv D M t.2) (hw : (l.map (·.1)).sum ≤ 72) {q : Rat} (hq : q ∈ rest l bs) : Dv (D * LAM) (l.length * M) q := by
  unfold rest segs at hq
  obtain ⟨pr, _, hq⟩ := List.mem_flatMap.mp hq
  obtain ⟨p, hp, hq⟩ := List.mem_flatMap.mp hq
  have okS : ∀ t ∈ seg l pr, OkT m0 t := fun t h => hok t (seg_mem h)
  obtain ⟨_, _, q3⟩ := pools_ok okS
  have sub : p.Sublist l := by
    have := List.sublist_flatten_of_mem hp
    rw [q3] at this
    exact this.trans (seg_sub l pr)
  have fl : ∀ t ∈ l, 1 ≤ t.1 := fun t ht => (hok t ht).lo
  have := dv_lay (D := D) (M := M) (fun t ht => fl t (sub.subset ht)) (fun t ht => hd t (sub.subset ht)) (Int.le_trans (sum_sub sub fl) hw) hq
  exact this.le (Nat.mul_le_mul_right _ sub.length_le)
/-- all that is left at rest is what was there -/
theorem rest_sum {l : List Tk} {bs : List Int} {m0 : Zc} (h0 : l ≠ []) (hok : ∀ t ∈ l, OkT m0 t) (hbs : ∀ b ∈ bs, 1 ≤ b ∧ b < (l.length : Int)) : rsum (rest l bs) = rsum (l.map (·.2)) := by
  have e := (zr_rst h0 hok hbs).ends l.length (Nat.le_refl _) (.inr (.inl rfl))
  have e1 : Zr l bs l.length = rsum (rest l bs) := by
    unfold Zr
    rw [List.take_of_length_le (by rw [rest_len hok hbs]; exact Nat.le_refl _)]
  have e2 : Ya l l.length = rsum (l.map (·.2)) := by
    rw [Ya_rsum, List.take_of_length_le (by simp)]
  rw [← e1, e, e2]
theorem le_rsum : ∀ {r : List Rat}, (∀ q ∈ r, 0 ≤ q) → ∀ q ∈ r, q ≤ rsum r
  | [], _, q, h => by cases h
  | a :: r, h0, q, h => by
    have ha := h0 a (List.mem_cons_self)
    have hr := rsum_nonneg fun x hx => h0 x (List.mem_cons_of_mem _ hx)
    simp only [rsum]
    rcases List.mem_cons.mp h with rfl | h
    · grind
    · have := le_rsum (fun x hx => h0 x (List.mem_cons_of_mem _ hx)) q h
      grind
end FW
end
section
/-! own classes: instances in the store -/
namespace DL
open PySem L2
def insOf (S : Sto) : DV → Option (Nat × Str × List (Str × DV))
  | .ptr n => match S[n]? with
    | some (.ins c fs) => some (n, c, fs)
    | _ => none
  | _ => none
def putD (f : Str) (v : DV) : List (Str × DV) → List (Str × DV)
  | [] => [(f, v)]
  | (g, x) :: r => if g = f then (g, v) :: r else (g, x) :: putD f v r
section
variable {K : PySem.W.Frag} {mg : Str → Option Value} {W W' : Wd} {S : Sto}
theorem insOf_ok {x : DV} {v : V} {n : Nat} {c : Str} {C : Addr} {fs : List (Str × DV)} (R : Rep K mg W S) (hc : mg c = some (.ref C)) (h : Den K W x v) (e : insOf S x = some (n, c, fs)) :
    ∃ a dx vfs, v = .ref a ∧ x = .ptr n ∧ S[n]? = some (.ins c fs) ∧ W.α[n]? = some a ∧ a ∈ W.α ∧ W.H a = some (.ins C dx vfs) ∧ FsR K W fs vfs := by
  cases x with
  | ptr m =>
    unfold insOf at e
    simp only at e
    split at e
    · rename_i c' fs' q
      cases e
      obtain ⟨a, rfl, ha, hm, C', dx, vfs, h0, h1, h2⟩ := ptr_ok R h q
      rw [hc] at h0
      cases h0
      exact ⟨a, dx, vfs, rfl, rfl, q, ha, hm, h1, h2⟩
    · cases e
  | _ => cases e
theorem FsR.look {f : Str} : ∀ {fs : List (Str × DV)} {vs : List (Str × V)}, FsR K W fs vs → (∀ d, fs.lookup f = some d → ∃ v, vs.lookup f = some v ∧ Den K W d v) ∧ (fs.lookup f = none → vs.lookup f = none)
  | [], _, h => by
    cases (show _ = [] from h)
    exact ⟨fun d e => (by cases e), fun _ => rfl⟩
  | p :: fs, _, h => by
    obtain ⟨v, r, rfl, h1, h2⟩ := h
    obtain ⟨i1, i2⟩ := FsR.look (f := f) h2
    obtain ⟨g, x⟩ := p
    simp only [List.lookup]
    cases e : f == g with
    | true => exact ⟨fun d q => ⟨v, rfl, by cases q; exact h1⟩, fun q => by cases q⟩
    | false => exact ⟨i1, i2⟩
theorem FsR.put {f : Str} {d : DV} {v : V} (hd : Den K W d v) : ∀ {fs : List (Str × DV)} {vs : List (Str × V)}, FsR K W fs vs → FsR K W (putD f d fs) (putF f v vs)
  | [], _, h => by
    cases (show _ = [] from h)
    exact ⟨v, [], rfl, hd, rfl⟩
  | (g, x) :: fs, _, h => by
    obtain ⟨u, r, rfl, h1, h2⟩ := h
    unfold putD putF
    by_cases e : g = f
    · rw [if_pos e, if_pos e]
      exact ⟨v, r, rfl, hd, h2⟩
    · rw [if_neg e, if_neg e]
      exact ⟨u, _, rfl, h1, FsR.put hd h2⟩
theorem FsR.len : ∀ {fs : List (Str × DV)} {vs : List (Str × V)}, FsR K W fs vs → vs.length = fs.length
  | [], _, h => by
    cases (show _ = [] from h)
    rfl
  | p :: fs, _, h => by
    obtain ⟨u, r, rfl, _, h2⟩ := h
    simp [FsR.len h2]
variable {ta tv : TE} {fe fv : DE} {taa : TA} {faa : DA} {c f m : Str} {C : Addr}
/-- o.f -/
def dFld (c f : Str) (fe : DE) : DE := fun s S => bnd (fe s S) fun x S1 => match insOf S1 x with
  | some (_, c', fs) => if c' = c then (match fs.lookup f with
    | some d => some (d, S1)
    | none => none) else none
  | none => none
theorem re_fld (hc : mg c = some (.ref C)) (cl : Cls K C) (na : NoAttr K C f) (h : RE K mg ta fe) : RE K mg (tFld K ta f) (dFld c f fe) := by
  intro W σ s S d S' Q R L e0 q
  obtain ⟨x, S1, e1, e⟩ := bnd_inv e0
  clear e0
  refine h W σ s S x S1 _ R L e1 fun v W1 x1 R1 d1 => ?_
  split at e
  · rename_i n c' fs ei
    split at e
    · rename_i hcc
      subst hcc
      split at e
      · rename_i d' el
        cases e
        obtain ⟨a, dx, vfs, rfl, _, _, _, _, h1, h2⟩ := insOf_ok R1 hc d1 ei
        obtain ⟨v, l1, l2⟩ := (FsR.look (f := f) h2).1 _ el
        exact ⟨a, C, dx, vfs, v, rfl, h1, cl, na, l1, q v W1 x1 R1 l2⟩
      · cases e
    · cases e
  · cases e
/-- o.f = e -/
def dFldS (c f : Str) (fe fv : DE) : DS := fun s S => bnd (fv s S) fun y S1 => bnd (fe s S1) fun x S2 => match insOf S2 x with
  | some (n, c', fs) => if c' = c ∧ fs.length < 1000 then some (.nx s (S2.set n (.ins c' (putD f y fs)))) else none
  | none => none
theorem rs_fld (hc : mg c = some (.ref C)) (cl : Cls K C) (na : NoAttr K C f) (h : RE K mg ta fe) (hv : RE K mg tv fv) : RS K mg (sFld K ta tv f) (dFldS c f fe fv) := by
  intro W σ s S r D R L e0 P
  obtain ⟨y, S1, e1, e01⟩ := bnd_inv e0
  obtain ⟨x, S2, e2, e⟩ := bnd_inv e01
  clear e0 e01
  refine hv W σ s S y S1 _ R L e1 fun v W1 x1 R1 d1 => ?_
  refine h W1 σ s S1 x S2 _ R1 (L.ext x1) e2 fun u W2 x2 R2 d2 => ?_
  split at e
  · rename_i n c' fs ei
    split at e
    · rename_i hcc
      obtain ⟨rfl, hl⟩ := hcc
      cases e
      obtain ⟨a, dx, vfs, rfl, _, hS, ha, hm, h1, h2⟩ := insOf_ok R2 hc d2 ei
      have xp := ext_put (o := HO.ins C dx (putF f v vfs)) R2 hm
      refine ⟨a, C, dx, vfs, rfl, h1, cl, na, by rw [h2.len]; exact hl, ?_⟩
      exact P σ (W2.put a (.ins C dx (putF f v vfs))) ((x1.trans x2).trans xp) (rep_put R2 ha ⟨C, dx, _, hc, upd_same, FsR.put ((d1.ext x2).ext xp) (FsR.ext0 xp.toEx0 h2)⟩) (L.ext ((x1.trans x2).trans xp))
    · cases e
  · cases e
/-- an instance is made -/
def mkD (c : Str) (g : List DV → Sto → Option (DV × Sto)) (xs : List DV) (S : Sto) : Option (DV × Sto) := match g (.ptr S.length :: xs) (S ++ [.ins c []]) with
  | some (.non, S2) => some (.ptr S.length, S2)
  | _ => none
theorem mk_world {x dx : Addr} (hc : mg c = some (.ref C)) (R : Rep K mg W S) (hx : W.H x = none) (hd : W.H dx = none) (ne : dx ≠ x) :
    ∃ W', W'.H = upd (upd W.H dx (.own x)) x (.ins C dx []) ∧ Ext W W' ∧ Rep K mg W' (S ++ [.ins c []]) ∧ Den K W' (.ptr S.length) (.ref x) := by
  have nP : ¬ W.P dx := fun z => R.al dx z hd
  have nA : dx ∉ W.α := fun z => R.there z hd
  have e0 := ext_loose (o := HO.own x) (Ext.refl W) hd nP nA
  have R0 := rep_loose (o := HO.own x) R nP nA (plain_none hd)
  have hx' : (W.loose dx (.own x)).H x = none := by
    show upd W.H dx (.own x) x = none
    rw [upd_ne ne.symm]
    exact hx
  refine ⟨(W.loose dx (.own x)).more x (.ins C dx []), rfl, e0.trans (ext_more hx'), rep_more R0 hx' ⟨C, dx, [], hc, upd_same, rfl⟩, x, ?_, rfl⟩
  show (W.α ++ [x])[S.length]? = some x
  rw [← R.len, List.getElem?_concat_length]
def dMake (c : Str) (n : Nat) (g : List DV → Sto → Option (DV × Sto)) (dd : List DV) (f : DA) : DE := fun s S => bnd (f s S) fun xs S1 => if (xs ++ dd).length + 1 = n then mkD c g (xs ++ dd) S1 else none
theorem re_make {n : Nat} {g : List DV → Sto → Option (DV × Sto)} {dd : List DV} {dvs : List V} {E : XK} (hc : mg c = some (.ref C)) (hd : ∀ W, Dens K W dd dvs) (h : RA K mg taa faa) : RE K mg (tMake C (spF K mg n g) dvs E taa) (dMake c n g dd faa) := by
  intro W σ s S d S' Q R L e0 q
  obtain ⟨xs, S1, e1, e⟩ := bnd_inv e0
  clear e0
  split at e
  · rename_i hl
    refine h W σ s S xs S1 _ R L e1 fun vs W1 x1 R1 d1 x dx hx hdx ne => ?_
    have da := d1.app (hd W1)
    obtain ⟨W2, h2, x2, R2, d2⟩ := mk_world hc R1 hx hdx ne
    unfold mkD at e
    split at e
    · rename_i S2 eg
      cases e
      refine ⟨by simp [← hl, da.len], W2, _, .ptr S1.length :: (xs ++ dd), .non, _, h2, R2, ⟨_, _, rfl, d2, Dens.ext x2 _ _ da⟩, eg, fun v W3 x3 R3 d3 => ⟨d3, ?_⟩⟩
      exact q _ W3 ((x1.trans x2).trans x3) R3 (d2.ext x3)
    · cases e
  · cases e
theorem re_make0 {n : Nat} {g : List DV → Sto → Option (DV × Sto)} {E : XK} (hc : mg c = some (.ref C)) (h : RA K mg taa faa) : RE K mg (tMake C (spF K mg n g) [] E taa) (dMake c n g [] faa) := re_make hc (fun _ => rfl) h
/-- with keywords -/
def dMakeK (c : Str) (n np nk : Nat) (g : List DV → Sto → Option (DV × Sto)) (G : List DV → List DV → List DV) (f fk : DA) : DE := fun s S => bnd (f s S) fun xs S1 => bnd (fk s S1) fun ys S2 => if xs.length = np ∧ ys.length = nk then (match g (G (.ptr S2.length :: xs) ys) (S2 ++ [.ins c []]) with
  | some (.non, S3) => if (G (.ptr S2.length :: xs) ys).length = n then some (.ptr S2.length, S3) else none
  | _ => none) else none
theorem re_makeK {n np nk : Nat} {g : List DV → Sto → Option (DV × Sto)} {G : List DV → List DV → List DV} {gV : List V → List V → List V} {E : XK} {tk : TA} {fk : DA} (hc : mg c = some (.ref C)) (hG : ∀ W xs ys vs us, Dens K W xs vs → Dens K W ys us → Dens K W (G xs ys) (gV vs us)) (h : RA K mg taa faa) (hk : RA K mg tk fk) :
    RE K mg (tMakeK C np nk (spF K mg n g) gV E taa tk) (dMakeK c n np nk g G faa fk) := by
  intro W σ s S d S' Q R L e q
  obtain ⟨xs, S1, e1, e⟩ := bnd_inv e
  obtain ⟨ys, S2, e2, e⟩ := bnd_inv e
  split at e
  · rename_i hl
    refine h W σ s S xs S1 _ R L e1 fun vs W1 x1 R1 d1 => ?_
    refine hk W1 σ s S1 ys S2 _ R1 (L.ext x1) e2 fun us W2 x2 R2 d2 => ⟨by rw [d1.len]; exact hl.1, by rw [d2.len]; exact hl.2, fun x dx hx hdx ne => ?_⟩
    obtain ⟨W3, h3, x3, R3, d3⟩ := mk_world hc R2 hx hdx ne
    split at e
    · rename_i S3 eg
      split at e
      · rename_i hn
        cases e
        have da := hG W3 _ _ _ _ (show Dens K W3 (.ptr S2.length :: xs) (.ref x :: vs) from ⟨_, _, rfl, d3, Dens.ext (x2.trans x3) _ _ d1⟩) (Dens.ext x3 _ _ d2)
        refine ⟨by rw [da.len]; exact hn, W3, _, _, .non, _, h3, R3, da, eg, fun v W4 x4 R4 d4 => ⟨d4, ?_⟩⟩
        exact q _ W4 (((x1.trans x2).trans x3).trans x4) R4 (d3.ext x4)
      · cases e
    · cases e
  · cases e
/-- o.m(..) -/
def dMeth (c m : Str) (n : Nat) (g : List DV → Sto → Option (DV × Sto)) (dd : List DV) (fe : DE) (f : DA) : DE := fun s S => bnd (fe s S) fun x S1 => match insOf S1 x with
  | some (_, c', fs) => if c' = c ∧ fs.lookup m = none then bnd (f s S1) fun xs S2 => if (x :: (xs ++ dd)).length = n then g (x :: (xs ++ dd)) S2 else none else none
  | none => none
theorem re_meth {n : Nat} {g : List DV → Sto → Option (DV × Sto)} {dd : List DV} {dvs : List V} {E : XK} (hc : mg c = some (.ref C)) (hd : ∀ W, Dens K W dd dvs) (ho : RE K mg ta fe) (h : RA K mg taa faa) : RE K mg (tMeth C m (spF K mg n g) dvs E ta taa) (dMeth c m n g dd fe faa) := by
  intro W σ s S d S' Q R L e0 q
  obtain ⟨x, S1, e1, e⟩ := bnd_inv e0
  clear e0
  refine ho W σ s S x S1 _ R L e1 fun v W1 x1 R1 d1 => ?_
  split at e
  · rename_i n' c' fs ei
    split at e
    · rename_i hcc
      obtain ⟨rfl, hm⟩ := hcc
      obtain ⟨xs, S2, e2, e'⟩ := bnd_inv e
      clear e
      split at e'
      · rename_i hl
        obtain ⟨a, dx, vfs, rfl, _, _, _, _, h1, h2⟩ := insOf_ok R1 hc d1 ei
        refine ⟨a, dx, vfs, rfl, h1, (FsR.look (f := m) h2).2 hm, ?_⟩
        refine h W1 σ s S1 xs S2 _ R1 (L.ext x1) e2 fun vs W2 x2 R2 d2 => ?_
        have da : Dens K W2 (x :: (xs ++ dd)) (.ref a :: (vs ++ dvs)) := ⟨_, _, rfl, d1.ext x2, d2.app (hd W2)⟩
        exact ⟨by rw [da.len]; exact hl, W2, S2, _, d, S', rfl, R2, da, e', fun v W' x' R' d' => q v W' ((x1.trans x2).trans x') R' d'⟩
      · cases e'
    · cases e
  · cases e
theorem re_meth0 {n : Nat} {g : List DV → Sto → Option (DV × Sto)} {E : XK} (hc : mg c = some (.ref C)) (ho : RE K mg ta fe) (h : RA K mg taa faa) : RE K mg (tMeth C m (spF K mg n g) [] E ta taa) (dMeth c m n g [] fe faa) := re_meth hc (fun _ => rfl) ho h
end
end DL
end
section
namespace DL
open PySem PyProof.Rows PySem.Spec L2
section
variable {K : PySem.W.Frag} {mg : Str → Option Value} {W W' : Wd} {S : Sto}
/-- what is never come to -/
def tNeverE : TE := fun _ _ _ => False
def dNeverE : DE := fun _ _ => none
theorem pe_never {X : Cx} {e : Expr} : PE X e tNeverE := ⟨fun _ _ _ _ _ _ h => h.elim⟩
theorem re_never : RE K mg tNeverE dNeverE := fun _ _ _ _ _ _ _ _ _ e _ => by cases e
/-- a list so many times -/
noncomputable def repD (m : Bool) : D2 := fun x y S => match trL S x, y with
  | some ds, .int k => gate (0 ≤ k ∧ k ≤ 100000 ∧ ds.length * k.toNat ≤ 100000) (some (newL m (List.replicate k.toNat ds).flatten S))
  | _, _ => none
theorem dens_rep {ds : List DV} {vs : List V} (h : Dens K W ds vs) : ∀ n : Nat, Dens K W (List.replicate n ds).flatten (List.replicate n vs).flatten
  | 0 => by
    show _ = []
    rfl
  | n + 1 => by
    rw [List.replicate_succ, List.replicate_succ, List.flatten_cons, List.flatten_cons]
    exact h.app (dens_rep h n)
theorem ro_rep {m : Bool} : RO K mg rRep (repD m) := by
  intro W S x y v u d S' Q R hx hy e q
  unfold repD at e
  split at e
  · rename_i ds k e1
    obtain ⟨hk, e⟩ := gate_inv e
    obtain ⟨a, vs, rfl, h1, h2⟩ := trL_ok R hx e1
    cases (show u = V.int k from hy)
    refine ⟨a, k, vs, rfl, rfl, h1, by omega, by omega, by rw [h2.len]; exact lim_le hk.2.2, fun p hp => ?_⟩
    obtain ⟨W2, e2, x2, R2, d2⟩ := newL_ok R hp (dens_rep h2 k.toNat) (Option.some.inj e)
    rw [← e2]
    exact q _ W2 x2 R2 d2
  · cases e
/-! ### in range(n) -/
def rRg1 : List V → Hp → VK → Prop := fun vs H Q => ∃ j, vs = [V.int j] ∧ ∀ p, H p = none → Q (.ref p) (upd H p (.rng 0 j))
theorem cr_rg1 {X : Cx} : CallR X (.type "range") rRg1 := by
  intro pins s σ H vs us Q I r h
  obtain ⟨j, rfl, q⟩ := h
  cases r with
  | cons rj rn =>
    cases rn
    obtain ⟨u, rfl⟩ := rj
    refine call_range_1 ⟨.ref s.heap.objs.size, upd H s.heap.objs.size (.rng 0 j), I.laid (t' := s.toks + 1 + 1) (fun b o e => Heap.get?_push_of_some _ e) (Nat.le_refl _) ?_, rfl, q _ (I.hok.fresh (Nat.le_refl _))⟩
    exact ⟨s.toks, u, s.toks + 1, Heap.get?_push_size _ rfl⟩
variable {te : TE} {fe : DE} {ta : TA} {fa : DA}
@[simp] def dInRg1 (neg : Bool) (f : DE) (g : DA) : DE := fun s S => bnd (f s S) fun x S1 => bnd (g s S1) fun ds S2 => match x, ds with
  | .int i, [.int hi] => some (.bl (if neg then !decide (0 ≤ i ∧ i < hi) else decide (0 ≤ i ∧ i < hi)), S2)
  | _, _ => none
theorem re_inRg1 {neg : Bool} (h : RE K mg te fe) (g : RA K mg ta fa) : RE K mg (tOp (rInRg neg) te (tCB rRg1 ta)) (dInRg1 neg fe fa) := by
  intro W σ s S d S' Q R L e q
  obtain ⟨x, S1, e1, e⟩ := bnd_inv e
  obtain ⟨ds, S2, e2, e⟩ := bnd_inv e
  split at e
  · rename_i i hi _
    cases e
    refine h W σ s S _ S1 _ R L e1 fun v W1 x1 R1 d1 => ?_
    refine g W1 σ s S1 _ _ _ R1 (L.ext x1) e2 fun vs W2 x2 R2 d2 => ?_
    obtain ⟨u, r, rfl, du, dr⟩ := d2
    cases (show u = V.int hi from du)
    cases (show r = [] from dr)
    refine ⟨hi, rfl, fun p hp => ?_⟩
    cases (show v = V.int i from d1)
    exact ⟨i, p, 0, hi, rfl, rfl, upd_same, q _ (W2.froz p (.rng 0 hi)) ((x1.trans x2).trans (ext_froz hp)) (rep_froz R2 hp) rfl⟩
  · cases e
end
end DL
end
section
namespace FW
end FW
end
section
namespace FW
open PySem PyProof.Rows PySem.Spec L2 DL
/-! ### each def as a function of data -/
noncomputable def b_History_left_z : DS :=
    (dSeq (dIfS (dTest (dInRg1 true (dVar 1) (dCons (dOp (addD false) (dCB lenD (dCons (dFld "History" "_floors" (dVar 0)) dNil)) (dC (.int 1))) dNil)))
    dNever dNext)
    (dRet (dOp ixD (dCall 2 f_heaped_z [] (dCons (dFld "History" "_floors" (dVar 0)) (dCons (dOp ixD (dFld "History" "_waters" (dVar 0)) (dUn negD (dC (.int 1)))) dNil))) (dVar 1))))
noncomputable def f_History_left_z : List DV → Sto → Option (DV × Sto) := fnF (some false) 2 b_History_left_z
noncomputable def b_History_water_z : DS :=
    (dSeq (dIfS (dTest (dIsN false (dVar 1)))
    (dRet (dCB (listD false) (dCons (dOp ixD (dFld "History" "_waters" (dVar 0)) (dUn negD (dC (.int 1)))) dNil))) dNext)
    (dSeq (dIfS (dTest (dInRg1 true (dVar 1) (dCons (dCB lenD (dCons (dFld "History" "_waters" (dVar 0)) dNil)) dNil)))
    dNever dNext)
    (dRet (dCB (listD false) (dCons (dOp ixD (dFld "History" "_waters" (dVar 0)) (dVar 1)) dNil)))))
noncomputable def f_History_water_z : List DV → Sto → Option (DV × Sto) := fnF (some false) 2 b_History_water_z
noncomputable def b_History_step_z : DS :=
    (dSeq (dDrop (dCall 2 f_check_bolted_z [] (dCons (dFld "History" "_floors" (dVar 0)) (dCons (dVar 1) dNil))))
    (dSeq (dDrop (dCall 2 f_check_water_z [] (dCons (dFld "History" "_floors" (dVar 0)) (dCons (dVar 2) dNil))))
    (dSeq (dAsg (dLc false (diZ (dCons (dOp ixD (dFld "History" "_waters" (dVar 0)) (dUn negD (dC (.int 1)))) (dCons (dVar 2) dNil))) (dGTup 2 (dGCons (dName 4) (dGCons (dName 5) dGNil))) dYes (dCall 2 f_plus_z [] (dCons (dVar 4) (dCons (dVar 5) dNil))) [4, 5]) (dName 3))
    (dSeq (dDrop (dBM "list" appendD (dFld "History" "_waters" (dVar 0)) (dCons (dCall 3 f_settled_z [] (dCons (dFld "History" "_floors" (dVar 0)) (dCons (dVar 3) (dCons (dVar 1) dNil)))) dNil)))
    (dDrop (dBM "list" appendD (dFld "History" "_steps" (dVar 0)) (dCons (dTup (dCons (dCB (sortBD false) (dCons (dVar 1) dNil)) (dCons (dCB (listD false) (dCons (dVar 2) dNil)) dNil))) dNil)))))))
noncomputable def f_History_step_z : List DV → Sto → Option (DV × Sto) := fnF (some false) 6 b_History_step_z
noncomputable def b_History_init_r : DS :=
    (dSeq (dDrop (dCall 1 f_check_floors_z [] (dCons (dVar 1) dNil)))
    (dSeq (dAsg (dIf (dTest (dIsN false (dVar 2))) (dOp (repD false) (dLst false (dCons (dC (.tup [(.int 0), (.int 1)])) dNil)) (dCB lenD (dCons (dVar 1) dNil))) (dCB (listD false) (dCons (dVar 2) dNil))) (dName 3))
    (dSeq (dDrop (dCall 2 f_check_water_z [] (dCons (dVar 1) (dCons (dVar 3) dNil))))
    (dSeq (dFldS "History" "_floors" (dVar 0) (dCB (listD false) (dCons (dVar 1) dNil)))
    (dSeq (dFldS "History" "_steps" (dVar 0) (dLst true dNil))
    (dFldS "History" "_waters" (dVar 0) (dLst true (dCons (dVar 3) dNil))))))))
noncomputable def f_History_init_r : List DV → Sto → Option (DV × Sto) := fnF none 4 b_History_init_r
end FW
end
section
namespace FB
open PySem PyProof.Rows PySem.Spec L2 DL FW
/-! ### each def as a function of data -/
noncomputable def b_law_take_z : DS :=
    (dSeq (dWhile (dAnd (dTest (dOp neD (dOp ixD (dVar 0) (dC (.int 0))) (dLst false dNil))) (dTest (dOp ltD (dOp ixD (dOp ixD (dVar 0) (dC (.int 0))) (dUn negD (dC (.int 1)))) (dC (.int 2)))))
    (dDrop (dBM0 "list" popD (dOp ixD (dVar 0) (dC (.int 0))))))
    (dSeq (dIfS (dTest (dOp neD (dOp ixD (dVar 0) (dC (.int 0))) (dLst false dNil)))
    (dSeq (dAsg (dOp modD (dOp ixD (dOp ixD (dVar 0) (dC (.int 0))) (dUn negD (dC (.int 1)))) (dVar 1)) (dName 2))
    (dSeq (dAsg (dOp fdivD (dOp ixD (dOp ixD (dVar 0) (dC (.int 0))) (dUn negD (dC (.int 1)))) (dVar 1)) (dSub (dOp ixD (dVar 0) (dC (.int 0))) (dUn negD (dC (.int 1)))))
    (dRet (dVar 2)))) dNext)
    (dSeq (dAsg (dOp (addD false) (dOp ixD (dVar 0) (dC (.int 2))) (dC (.int 1))) (dSub (dVar 0) (dC (.int 2))))
    (dSeq (dAsg (dOp ixD (dVar 0) (dC (.int 2))) (dName 3))
    (dSeq (dAsg (dOp (addD false) (dOp mulD (dOp (addD false) (dOp ixD (dVar 0) (dC (.int 1))) (dC (.int 40503))) (dOp powD (dOp (addD false) (dVar 3) (dC (.int 5))) (dC (.int 3)))) (dOp mulD (dC (.int 69621)) (dVar 3))) (dName 4))
    (dRet (dOp modD (dOp fdivD (dOp modD (dOp powD (dOp modD (dVar 4) (dC (.int 2305843009213693951))) (dC (.int 3))) (dC (.int 1000000007))) (dC (.int 64))) (dVar 1))))))))
noncomputable def f_law_take_z : List DV → Sto → Option (DV × Sto) := fnF (some false) 5 b_law_take_z
noncomputable def b_law_low_z : DS :=
    (dSeq (dPar 2 3 (dCons (dCB absD (dCons (dVar 0) dNil)) (dCons (dVar 1) dNil)))
    (dSeq (dWhile (dTest (dOp neD (dVar 3) (dC (.int 0))))
    (dPar 2 3 (dCons (dVar 3) (dCons (dOp modD (dVar 2) (dVar 3)) dNil))))
    (dRet (dTup (dCons (dOp fdivD (dVar 0) (dVar 2)) (dCons (dOp fdivD (dVar 1) (dVar 2)) dNil))))))
noncomputable def f_law_low_z : List DV → Sto → Option (DV × Sto) := fnF (some false) 4 b_law_low_z
noncomputable def b_law_sum_z : DS :=
    (dRet (dCall 2 f_law_low_z [] (dCons (dOp (addD false) (dOp mulD (dOp ixD (dVar 0) (dC (.int 0))) (dOp ixD (dVar 1) (dC (.int 1)))) (dOp mulD (dOp ixD (dVar 1) (dC (.int 0))) (dOp ixD (dVar 0) (dC (.int 1))))) (dCons (dOp mulD (dOp ixD (dVar 0) (dC (.int 1))) (dOp ixD (dVar 1) (dC (.int 1)))) dNil))))
noncomputable def f_law_sum_z : List DV → Sto → Option (DV × Sto) := fnF (some false) 2 b_law_sum_z
noncomputable def b_law_shut_z : DS :=
    (dSeq (dAsg (dLr2 true (dC (.int 1)) (dCB lenD (dCons (dVar 1) dNil))) (dName 2))
    (dSeq (dAsg (dOp ixD (dLst false (dCons (dC (.int 0)) (dCons (dCB lenD (dCons (dVar 2) dNil)) (dCons (dCall 2 f_law_take_z [] (dCons (dVar 0) (dCons (dCB lenD (dCons (dVar 1) dNil)) dNil))) (dCons (dCall 2 f_law_take_z [] (dCons (dVar 0) (dCons (dCB lenD (dCons (dVar 1) dNil)) dNil))) dNil))))) (dCall 2 f_law_take_z [] (dCons (dVar 0) (dCons (dC (.int 4)) dNil)))) (dName 3))
    (dRet (dLc false (diR1 (dCons (dVar 3) dNil)) (dName 4) dYes (dBM "list" popAtD (dVar 2) (dCons (dCall 2 f_law_take_z [] (dCons (dVar 0) (dCons (dCB lenD (dCons (dVar 2) dNil)) dNil))) dNil)) [4]))))
noncomputable def f_law_shut_z : List DV → Sto → Option (DV × Sto) := fnF (some false) 5 b_law_shut_z
noncomputable def b_law_amount_z : DS :=
    (dSeq (dAsg (dLst false (dCons (dC (.int 0)) (dCons (dCall 2 f_law_take_z [] (dCons (dVar 0) (dCons (dC (.int 10)) dNil))) (dCons (dCall 2 f_law_take_z [] (dCons (dVar 0) (dCons (dC (.int 100)) dNil))) (dCons (dOp (addD false) (dOp mulD (dCall 2 f_law_take_z [] (dCons (dVar 0) (dCons (dOp powD (dC (.int 10)) (dC (.int 6))) dNil))) (dOp powD (dC (.int 10)) (dC (.int 6)))) (dCall 2 f_law_take_z [] (dCons (dVar 0) (dCons (dOp powD (dC (.int 10)) (dC (.int 6))) dNil)))) dNil))))) (dName 1))
    (dSeq (dAsg (dCall 2 f_law_take_z [] (dCons (dVar 0) (dCons (dC (.int 4)) dNil))) (dName 2))
    (dRet (dCall 2 f_law_low_z [] (dCons (dOp ixD (dVar 1) (dVar 2)) (dCons (dOp ixD (dLst false (dCons (dC (.int 1)) (dCons (dC (.int 1)) (dCons (dOp (addD false) (dC (.int 1)) (dCall 2 f_law_take_z [] (dCons (dVar 0) (dCons (dC (.int 12)) dNil)))) (dCons (dOp (addD false) (dC (.int 1)) (dCall 2 f_law_take_z [] (dCons (dVar 0) (dCons (dC (.int 60)) dNil)))) dNil))))) (dVar 2)) dNil))))))
noncomputable def f_law_amount_z : List DV → Sto → Option (DV × Sto) := fnF (some false) 3 b_law_amount_z
noncomputable def b_law_fall_z : DS :=
    (dSeq (dAsg (dCall 2 f_law_take_z [] (dCons (dVar 0) (dCons (dC (.int 8)) dNil))) (dName 2))
    (dSeq (dIfS (dTest (dOp eqD (dVar 2) (dC (.int 0))))
    (dRet (dLc false (diL (dVar 1)) (dName 5) dYes (dTup (dCons (dC (.int 0)) (dCons (dC (.int 1)) dNil))) [5])) dNext)
    (dSeq (dAsg (dLc false (diL (dVar 1)) (dName 5) dYes (dCall 1 f_law_amount_z [] (dCons (dVar 0) dNil)) [5]) (dName 3))
    (dSeq (dIfS (dTest (dOp ltD (dVar 2) (dC (.int 3))))
    (dSeq (dAsg (dOp ixD (dLst false (dCons (dC (.int 0)) (dCons (dOp subD (dCB lenD (dCons (dVar 1) dNil)) (dC (.int 1))) (dCons (dCall 2 f_law_take_z [] (dCons (dVar 0) (dCons (dCB lenD (dCons (dVar 1) dNil)) dNil))) dNil)))) (dCall 2 f_law_take_z [] (dCons (dVar 0) (dCons (dC (.int 3)) dNil)))) (dName 4))
    (dAsg (dLc false (diR1 (dCons (dCB lenD (dCons (dVar 1) dNil)) dNil)) (dName 6) dYes (dIf (dTest (dOp eqD (dVar 6) (dVar 4))) (dOp ixD (dVar 3) (dVar 6)) (dTup (dCons (dC (.int 0)) (dCons (dC (.int 1)) dNil)))) [6]) (dName 3))) dNext)
    (dSeq (dIfS (dAnd (dTest (dOp ltD (dVar 2) (dC (.int 5)))) (dTest (dOp gtD (dVar 2) (dC (.int 2)))))
    (dAsg (dLc false (diL (dVar 1)) (dName 5) dYes (dTup (dCons (dOp mulD (dVar 5) (dCall 2 f_law_take_z [] (dCons (dVar 0) (dCons (dC (.int 4)) dNil)))) (dCons (dC (.int 1)) dNil))) [5]) (dName 3)) dNext)
    (dRet (dVar 3)))))))
noncomputable def f_law_fall_z : List DV → Sto → Option (DV × Sto) := fnF (some false) 7 b_law_fall_z
noncomputable def b_law_tanks_z : DS :=
    (dSeq (dAsg (dTup (dCons (dOp (addD false) (dC (.int 1)) (dCall 2 f_law_take_z [] (dCons (dVar 0) (dCons (dVar 1) dNil)))) (dCons (dCall 2 f_law_take_z [] (dCons (dVar 0) (dCons (dC (.int 3)) dNil))) dNil))) (dGTup 2 (dGCons (dName 2) (dGCons (dName 3) dGNil))))
    (dRet (dLc false (diR1 (dCons (dVar 2) dNil)) (dName 4) dYes (dOp (addD false) (dC (.int 1)) (dCall 2 f_law_take_z [] (dCons (dVar 0) (dCons (dOp ixD (dLst false (dCons (dC (.int 1)) (dCons (dC (.int 3)) (dCons (dC (.int 9)) dNil)))) (dVar 3)) dNil)))) [4])))
noncomputable def f_law_tanks_z : List DV → Sto → Option (DV × Sto) := fnF (some false) 5 b_law_tanks_z
noncomputable def b_law_deck_r : DS :=
    (dSeq (dAsg (dLst true dNil) (dName 1))
    (dSeq (dAsg (dC (.int 11)) (dName 2))
    (dSeq (dFor (diL (dVar 0)) (dName 3)
    (dSeq (dAsg (dOp modD (dOp (addD false) (dOp mulD (dVar 2) (dC (.int 1000003))) (dVar 3)) (dC (.int 2305843009213693951))) (dName 2))
    (dIfS (dTest (dOp geD (dCB absD (dCons (dVar 3) dNil)) (dOp powD (dC (.int 10)) (dC (.int 18)))))
    (dDrop (dBM "list" insertD (dVar 1) (dCons (dC (.int 0)) (dCons (dOp subD (dCB absD (dCons (dVar 3) dNil)) (dOp powD (dC (.int 10)) (dC (.int 18)))) dNil)))) dNext)))
    (dRet (dLst true (dCons (dVar 1) (dCons (dVar 2) (dCons (dC (.int 0)) dNil))))))))
noncomputable def f_law_deck_r : List DV → Sto → Option (DV × Sto) := fnF none 4 b_law_deck_r
end FB
end
section
namespace FW
open PySem PyProof.Rows PySem.Spec L2 DL
/-! ### a History in the store -/
def stD (p : List Int × List Rat) : DV := .tup [dI p.1, dF p.2]
def hfl (n : Nat) (ws : List Int) : List (Str × DV) := [("_floors", dI ws), ("_steps", .ptr (n + 1)), ("_waters", .ptr (n + 2))]
def hobj (n : Nat) (ws : List Int) (wss : List (List Rat)) (sts : List (List Int × List Rat)) : Sto := [.ins "History" (hfl n ws), .ml (sts.map stD), .ml (wss.map dF)]
structure HAt (S : Sto) (n : Nat) (ws : List Int) (wss : List (List Rat)) (sts : List (List Int × List Rat)) : Prop where
  o : S[n]? = some (.ins "History" (hfl n ws))
  s : S[n + 1]? = some (.ml (sts.map stD))
  w : S[n + 2]? = some (.ml (wss.map dF))
theorem lk_f {n : Nat} {ws : List Int} : (hfl n ws).lookup ("_floors" : Str) = some (dI ws) := rfl
theorem lk_s {n : Nat} {ws : List Int} : (hfl n ws).lookup ("_steps" : Str) = some (.ptr (n + 1)) := by
  unfold hfl
  rw [List.lookup, show (("_steps" : Str) == ("_floors" : Str)) = false by decide +kernel]
  rfl
theorem lk_w {n : Nat} {ws : List Int} : (hfl n ws).lookup ("_waters" : Str) = some (.ptr (n + 2)) := by
  unfold hfl
  rw [List.lookup, show (("_waters" : Str) == ("_floors" : Str)) = false by decide +kernel, List.lookup, show (("_waters" : Str) == ("_steps" : Str)) = false by decide +kernel]
  rfl
theorem lk_no {n : Nat} {ws : List Int} {m : Str} (h1 : (m == "_floors") = false) (h2 : (m == "_steps") = false) (h3 : (m == "_waters") = false) : (hfl n ws).lookup m = none := by
  unfold hfl
  rw [List.lookup, h1, List.lookup, h2, List.lookup, h3]
  rfl
theorem lk_step {n : Nat} {ws : List Int} : (hfl n ws).lookup ("step" : Str) = none := lk_no (by decide +kernel) (by decide +kernel) (by decide +kernel)
theorem lk_left {n : Nat} {ws : List Int} : (hfl n ws).lookup ("left" : Str) = none := lk_no (by decide +kernel) (by decide +kernel) (by decide +kernel)
theorem lk_water {n : Nat} {ws : List Int} : (hfl n ws).lookup ("water" : Str) = none := lk_no (by decide +kernel) (by decide +kernel) (by decide +kernel)
theorem lk_undo {n : Nat} {ws : List Int} : (hfl n ws).lookup ("undo" : Str) = none := lk_no (by decide +kernel) (by decide +kernel) (by decide +kernel)
theorem lk_steps {n : Nat} {ws : List Int} : (hfl n ws).lookup ("steps" : Str) = none := lk_no (by decide +kernel) (by decide +kernel) (by decide +kernel)
theorem lk_floors {n : Nat} {ws : List Int} : (hfl n ws).lookup ("floors" : Str) = none := lk_no (by decide +kernel) (by decide +kernel) (by decide +kernel)
section
variable {S : Sto} {n : Nat} {ws : List Int} {wss : List (List Rat)} {sts : List (List Int × List Rat)} {fe : DE} {s : Sl}
theorem HAt.ins (h : HAt S n ws wss sts) : insOf S (.ptr n) = some (n, ("History" : Str), hfl n ws) := by
  simp only [insOf, h.o]
theorem HAt.fF (h : HAt S n ws wss sts) (e : fe s S = some (.ptr n, S)) : dFld "History" "_floors" fe s S = some (dI ws, S) := by
  unfold dFld
  rw [e, bnd_some', h.ins]
  simp only [if_true, lk_f]
theorem HAt.fS (h : HAt S n ws wss sts) (e : fe s S = some (.ptr n, S)) : dFld "History" "_steps" fe s S = some (.ptr (n + 1), S) := by
  unfold dFld
  rw [e, bnd_some', h.ins]
  simp only [if_true, lk_s]
theorem HAt.fW (h : HAt S n ws wss sts) (e : fe s S = some (.ptr n, S)) : dFld "History" "_waters" fe s S = some (.ptr (n + 2), S) := by
  unfold dFld
  rw [e, bnd_some', h.ins]
  simp only [if_true, lk_w]
theorem HAt.rdW (h : HAt S n ws wss sts) : rdL S (.ptr (n + 2)) = some (wss.map dF) := by
  unfold rdL
  simp only [h.w]
theorem HAt.rdS (h : HAt S n ws wss sts) : rdL S (.ptr (n + 1)) = some (sts.map stD) := by
  unfold rdL
  simp only [h.s]
theorem HAt.ptW (h : HAt S n ws wss sts) : ptrL S (.ptr (n + 2)) = some (n + 2, wss.map dF) := by
  unfold ptrL
  simp only [h.w]
theorem HAt.ptS (h : HAt S n ws wss sts) : ptrL S (.ptr (n + 1)) = some (n + 1, sts.map stD) := by
  unfold ptrL
  simp only [h.s]
/-- the water now -/
theorem ix_last {S : Sto} {d : DV} {xs : List (List Rat)} {w : List Rat} (h : rdL S d = some ((xs ++ [w]).map dF)) : ixD d (.int (-1)) S = some (dF w, S) := by
  have : L2.atI ((xs ++ [w]).map dF) (-1) = some (dF w) := by
    rw [List.map_append]
    exact L2.atI_last _ _
  simp only [ixD, h, Option.or, this]
variable {w : List Rat} {xs : List (List Rat)}
theorem HAt.now (h : HAt S n ws (xs ++ [w]) sts) (e : fe s S = some (.ptr n, S)) : dOp ixD (dFld "History" "_waters" fe) (dUn negD (dC (.int 1))) s S = some (dF w, S) := by
  rw [dOp, h.fW e, bnd_some']
  simp only [dUn, dC, bnd_some', negD_int]
  exact ix_last h.rdW
theorem list_ok {S : Sto} {m : Bool} {d : DV} {ds : List DV} (h : rdL S d = some ds) : listD m [d] S = some (newL m ds S) := by
  unfold listD
  simp [h]
theorem water_now (h : HAt S n ws (xs ++ [w]) sts) : f_History_water_z [.ptr n, .non] S = some (dF w, S) := by
  refine fn_rt (d := dF w) (S1 := S) ?_ (by simp)
  refine seq_rt (if_t (S1 := S) (by simp) (ret_of ?_))
  have e := h.now (fe := dVar 0) (s := [some (.ptr n), some .non]) (by simp)
  show dCB _ (dCons _ dNil) [some (.ptr n), some .non] S = _
  rw [dCB, dCons, e]
  simp only [bnd_some', dNil]
  exact list_ok rfl
theorem water_at (h : HAt S n ws wss sts) {k : Nat} {v : List Rat} (hk : wss[k]? = some v) (hl : wss.length ≤ 1000) : f_History_water_z [.ptr n, .int (k : Nat)] S = some (dF v, S) := by
  have hk' : k < wss.length := (List.getElem?_eq_some_iff.mp hk).1
  refine fn_rt (d := dF v) (S1 := S) ?_ (by simp)
  have e := h.fW (fe := dVar 0) (s := [some (.ptr n), some (.int (k : Nat))]) (by simp)
  have hln : lenD [.ptr (n + 2)] S = some (.int (wss.length : Nat), S) := by
    unfold lenD
    simp [h.rdW]
  refine seq_nx (if_f (S1 := S) (by simp) rfl) ?_
  refine seq_nx (if_f (S1 := S) ?_ rfl) (ret_of ?_)
  · show dTest (dInRg1 true (dVar 1) (dCons (dCB lenD (dCons (dFld "History" "_waters" (dVar 0)) dNil)) dNil)) [some (.ptr n), some (.int (k : Nat))] S = _
    revert e
    generalize dFld _ _ _ = F
    intro e
    simp [e, hln]
    omega
  · show dCB _ (dCons (dOp ixD (dFld "History" "_waters" (dVar 0)) (dVar 1)) dNil) [some (.ptr n), some (.int (k : Nat))] S = _
    have e2 : ixD (.ptr (n + 2)) (.int (k : Nat)) S = some (dF v, S) := by
      have : L2.atI (wss.map dF) ((k : Nat) : Int) = some (dF v) := at_nat rfl (by rw [List.getElem?_map, hk]; rfl)
      simp only [ixD, h.rdW, Option.or, this]
    revert e
    generalize dFld _ _ _ = F
    intro e
    simp only [dCB, dCons, dOp, e, dVar, List.getElem?_cons_succ, List.getElem?_cons_zero, bnd_some', e2, dNil]
    exact list_ok rfl
theorem left_ok (h : HAt S n ws (xs ++ [w]) sts) {z : Zc} (R : Row z ws w) (p : ∀ q ∈ w, 0 ≤ q) {k : Nat} (hk : k ≤ ws.length) : f_History_left_z [.ptr n, .int (k : Nat)] S = some (fr (rsum (w.take k)), S) := by
  refine fn_rt (d := fr (rsum (w.take k))) (S1 := S) ?_ (by simp)
  have e := h.fF (fe := dVar 0) (s := [some (.ptr n), some (.int (k : Nat))]) (by simp)
  have e2 := h.now (fe := dVar 0) (s := [some (.ptr n), some (.int (k : Nat))]) (by simp)
  have hz : Hz z.B w := by
    have := hz_l R.ok (by rw [R.ll]; exact R.zl)
    rw [R.l2] at this
    exact this
  have hp := heaped_okzB (S := S) R.ne (fun n hn => (R.fl n hn).1) R.len p hz (by have := R.zb; omega) (by rw [R.len]; have := R.n; omega)
  have hln : lenD [dI ws] S = some (.int (ws.length : Nat), S) := by simp [dI]
  refine seq_nx (if_f (S1 := S) ?_ rfl) (ret_of ?_)
  · show dTest (dInRg1 true (dVar 1) (dCons (dOp (addD false) (dCB lenD (dCons (dFld "History" "_floors" (dVar 0)) dNil)) (dC (.int 1))) dNil)) [some (.ptr n), some (.int (k : Nat))] S = _
    revert e
    generalize dFld _ _ _ = F
    intro e
    simp [e, hln]
    omega
  · show dOp ixD (dCall 2 f_heaped_z [] (dCons (dFld "History" "_floors" (dVar 0)) (dCons (dOp ixD (dFld "History" "_waters" (dVar 0)) (dUn negD (dC (.int 1)))) dNil))) (dVar 1) [some (.ptr n), some (.int (k : Nat))] S = _
    have e3 : ixD (dF (hf 0 w)) (.int (k : Nat)) S = some (fr (rsum (w.take k)), S) := ixD_lst (at_nat rfl (by
      rw [List.getElem?_map, hf_rsum 0 (by rw [R.len]; exact hk), Rat.zero_add]
      rfl))
    revert e e2
    generalize dOp ixD (dFld "History" "_waters" (dVar 0)) (dUn negD (dC (.int 1))) = F2
    generalize dFld "History" "_floors" (dVar 0) = F
    intro e e2
    simp [e, e2, hp, e3]
end
end FW
end
section
namespace FW
open PySem PyProof.Rows PySem.Spec L2 DL
/-! ### waters behind so many steps -/
def TOT (j : Nat) : Nat := (j + 1) * 2 ^ 45
noncomputable def DN (j : Nat) : Nat := LAM ^ (j + 1)
theorem dn_pos (j : Nat) : 0 < DN j := Nat.pow_pos lam_pos
theorem dn_succ (j : Nat) : DN (j + 1) = DN j * LAM := by
  unfold DN
  rw [Nat.pow_succ]
theorem dn_le {j : Nat} (h : j ≤ 11) : DN j ≤ 2 ^ 1236 := by
  have h1 : LAM ^ (j + 1) ≤ (2 ^ 103) ^ (j + 1) := Nat.pow_le_pow_left (Nat.le_of_lt lam_lt) _
  rw [← Nat.pow_mul] at h1
  exact Nat.le_trans h1 (Nat.pow_le_pow_right (by decide) (by omega))
theorem zj_1 {j : Nat} (h : j ≤ 11) : DN j < 2 ^ 1400 := Nat.lt_of_le_of_lt (dn_le h) (Nat.pow_lt_pow_right (by decide) (by decide))
theorem zj_2 {j : Nat} (h : j ≤ 11) : (9 + 1) * TOT (j + 1) * DN j < 2 ^ 1400 := by
  have h1 : (9 + 1) * TOT (j + 1) ≤ 2 ^ 53 := by
    unfold TOT
    have : (j + 1 + 1) * 2 ^ 45 ≤ 13 * 2 ^ 45 := Nat.mul_le_mul_right _ (by omega)
    have e : (2 : Nat) ^ 53 = 256 * 2 ^ 45 := by decide
    omega
  have h2 := Nat.mul_le_mul h1 (dn_le h)
  rw [← Nat.pow_add] at h2
  exact Nat.lt_of_le_of_lt h2 (Nat.pow_lt_pow_right (by decide) (by decide))
/-- the kind of amounts behind j steps, with some rain upon them -/
noncomputable def zj (j : Nat) : Zc := if h : j ≤ 11 then zD (DN j) (TOT (j + 1)) 9 1400 (dn_pos j) (zj_1 h) (zj_2 h) else zS 1 9
theorem zj_eq {j : Nat} (h : j ≤ 11) : zj j = zD (DN j) (TOT (j + 1)) 9 1400 (dn_pos j) (zj_1 h) (zj_2 h) := dif_pos h
theorem zj_C {j : Nat} (h : j ≤ 11) (q : Rat) : (zj j).C q = Dv (DN j) (TOT (j + 1)) q := by rw [zj_eq h]; rfl
theorem zj_L {j : Nat} (h : j ≤ 11) : (zj j).L = 9 := by rw [zj_eq h]; rfl
theorem zj_B {j : Nat} (h : j ≤ 11) : (zj j).B = 1400 := by rw [zj_eq h]; rfl
structure Flo (ws : List Int) : Prop where
  ne : ws ≠ []
  fl : ∀ w ∈ ws, 1 ≤ w ∧ w ≤ 9
  n : ws.length ≤ 8
theorem Flo.sum {ws : List Int} (h : Flo ws) : ws.sum ≤ 72 := by
  have : ∀ ws : List Int, (∀ w ∈ ws, 1 ≤ w ∧ w ≤ 9) → ws.sum ≤ 9 * ws.length := by
    intro ws
    induction ws with
    | nil => intro _; simp
    | cons w ws ih =>
      intro h
      have h1 := ih fun x hx => h x (List.mem_cons_of_mem _ hx)
      have h2 := (h w (List.mem_cons_self)).2
      rw [List.sum_cons, List.length_cons]
      push_cast
      omega
  have := this ws h.fl
  have := h.n
  omega
structure Wt (j : Nat) (ws : List Int) (w : List Rat) : Prop where
  len : w.length = ws.length
  pos : ∀ q ∈ w, 0 ≤ q
  dv : ∀ q ∈ w, Dv (DN j) (TOT j) q
  tot : rsum w ≤ (TOT j : Rat)
theorem rsum_put {a b : List Rat} (h : a.length = b.length) : rsum (List.zipWith (· + ·) a b) = rsum a + rsum b := by
  have := rsum_zip a b a.length h
  rw [List.take_of_length_le (by rw [List.length_zipWith]; omega), List.take_of_length_le (Nat.le_refl _), List.take_of_length_le (by omega)] at this
  exact this
theorem tot_le {i j : Nat} (h : i ≤ j) : TOT i ≤ TOT j := Nat.mul_le_mul_right _ (by omega)
theorem dv_up {i j M : Nat} {q : Rat} (h : Dv (DN i) M q) (hij : i ≤ j) : Dv (DN j) M q := by
  obtain ⟨e, rfl⟩ : ∃ e, j = i + e := ⟨j - i, by omega⟩
  have e1 : DN (i + e) = DN i * LAM ^ e := by
    unfold DN
    rw [← Nat.pow_add]
    congr 1
    omega
  rw [e1]
  exact h.up _
theorem Wt.row {j : Nat} {ws : List Int} {w : List Rat} (h : Wt j ws w) (f : Flo ws) (hj : j ≤ 11) : Row (zj j) ws w :=
  ⟨f.ne, fun x hx => by have := f.fl x hx; omega, h.len, fun q hq => by rw [zj_C hj]; exact (h.dv q hq).le (tot_le (by omega)), by have := f.n; omega, by rw [zj_L hj]; have := f.n; omega, by rw [zj_B hj]; decide⟩
/-- with rain upon it -/
theorem Wt.put {j : Nat} {ws : List Int} {w r : List Rat} (h : Wt j ws w) (g : Wt 0 ws r) (f : Flo ws) (hj : j ≤ 11) :
    Row (zj j) ws (List.zipWith (· + ·) w r) ∧ (∀ q ∈ List.zipWith (· + ·) w r, 0 ≤ q ∧ Dv (DN j) (TOT (j + 1)) q) ∧ rsum (List.zipWith (· + ·) w r) ≤ (TOT (j + 1) : Rat) := by
  have m : ∀ q ∈ List.zipWith (· + ·) w r, 0 ≤ q ∧ Dv (DN j) (TOT (j + 1)) q := fun q hq => by
    obtain ⟨x, y, hx, hy, rfl⟩ := put_mem hq
    refine ⟨Rat.add_nonneg (h.pos x hx) (g.pos y hy), ?_⟩
    have := (h.dv x hx).add (dv_up (g.dv y hy) (Nat.zero_le j))
    refine this.le ?_
    unfold TOT
    omega
  refine ⟨⟨f.ne, fun x hx => by have := f.fl x hx; omega, by simp [h.len, g.len], fun q hq => by rw [zj_C hj]; exact (m q hq).2, by have := f.n; omega, by rw [zj_L hj]; have := f.n; omega, by rw [zj_B hj]; decide⟩, m, ?_⟩
  rw [rsum_put (by rw [h.len, g.len])]
  have e : (TOT (j + 1) : Rat) = (TOT j : Rat) + (TOT 0 : Rat) := by
    have e0 : TOT (j + 1) = TOT j + TOT 0 := by
      unfold TOT
      omega
    rw [e0, Rat.natCast_add]
  rw [e]
  have a := h.tot
  have b := g.tot
  grind
theorem Wt.step {j : Nat} {ws bs : List Int} {w r : List Rat} (h : Wt j ws w) (g : Wt 0 ws r) (f : Flo ws) (hj : j ≤ 11) (hb : Bo ws.length bs) : Wt (j + 1) ws (rest (ws.zip (List.zipWith (· + ·) w r)) bs) := by
  obtain ⟨R, m, t⟩ := h.put g f hj
  have rs := rest_sum R.zne R.ok (R.bb hb)
  rw [R.l2] at rs
  have pos : ∀ q ∈ rest (ws.zip (List.zipWith (· + ·) w r)) bs, 0 ≤ q := fun q hq => (R.rpos (fun q hq => (m q hq).1) hq).1
  refine ⟨R.rlen hb, pos, fun q hq => ?_, by rw [rs]; exact t⟩
  have d := rest_dv (D := DN j) (M := TOT (j + 1)) R.ok (fun x hx => by
    refine (m _ ?_).2
    have := List.mem_map_of_mem (f := (·.2)) hx
    rw [R.l2] at this
    exact this) (by rw [R.l1]; exact f.sum) hq
  rw [← dn_succ] at d
  refine d.most (pos q hq) ?_
  refine Rat.le_trans (le_rsum pos q hq) ?_
  rw [rs]
  exact t
theorem lcL_zipmap {tgt : DG} {te : DE} {vs : List Nat} {s : Sl} {S : Sto} {g : Rat → Rat → DV} (xs ys : List Rat) (h : ∀ (k : Nat) (x y : Rat), xs[k]? = some x → ys[k]? = some y → ∃ s1, tgt (.tup [fr x, fr y]) (wipeD s vs) S = some (s1, S) ∧ te s1 S = some (g x y, S)) :
    lcL tgt dYes te vs (List.zipWith (fun x y => DV.tup [x, y]) (xs.map fr) (ys.map fr)) [] s S = some (List.zipWith g xs ys, S) := by
  have key : ∀ (xs ys : List Rat) (acc : List DV), (∀ (k : Nat) (x y : Rat), xs[k]? = some x → ys[k]? = some y → ∃ s1, tgt (.tup [fr x, fr y]) (wipeD s vs) S = some (s1, S) ∧ te s1 S = some (g x y, S)) →
      lcL tgt dYes te vs (List.zipWith (fun x y => DV.tup [x, y]) (xs.map fr) (ys.map fr)) acc s S = some (acc ++ List.zipWith g xs ys, S) := by
    intro xs
    induction xs with
    | nil => intro ys acc _; simp [lcL]
    | cons x xs ih =>
      intro ys acc h
      cases ys with
      | nil => simp [lcL]
      | cons y ys =>
        obtain ⟨s1, e1, e2⟩ := h 0 x y rfl rfl
        have ih' := ih ys (acc ++ [g x y]) fun k x y hx hy => h (k + 1) x y (by simpa using hx) (by simpa using hy)
        simp only [List.map_cons, List.zipWith_cons_cons, lcL, e1, dYes, bnd_some', if_true, e2]
        rw [ih']
        simp
  have := key xs ys [] h
  simpa using this
def hset (S : Sto) (n : Nat) (wss : List (List Rat)) (sts : List (List Int × List Rat)) : Sto := (S.set (n + 2) (.ml (wss.map dF))).set (n + 1) (.ml (sts.map stD))
section
variable {S : Sto} {n j : Nat} {ws bs : List Int} {sts : List (List Int × List Rat)} {w r : List Rat} {xs : List (List Rat)} {bd : DV}
theorem HAt.hset {wss : List (List Rat)} (h : HAt S n ws wss sts) (wss' : List (List Rat)) (sts' : List (List Int × List Rat)) : HAt (hset S n wss' sts') n ws wss' sts' := by
  have l1 := (List.getElem?_eq_some_iff.mp h.w).1
  refine ⟨?_, ?_, ?_⟩
  · unfold FW.hset
    rw [List.getElem?_set_ne (by omega), List.getElem?_set_ne (by omega)]
    exact h.o
  · unfold FW.hset
    rw [List.getElem?_set_self (by rw [List.length_set]; omega)]
  · unfold FW.hset
    rw [List.getElem?_set_ne (by omega), List.getElem?_set_self l1]
theorem hset_ne {wss : List (List Rat)} {m : Nat} (h1 : m ≠ n + 1) (h2 : m ≠ n + 2) : (hset S n wss sts)[m]? = S[m]? := by
  unfold FW.hset
  rw [List.getElem?_set_ne (by omega), List.getElem?_set_ne (by omega)]
theorem hset_len {wss : List (List Rat)} : (hset S n wss sts).length = S.length := by
  unfold FW.hset
  rw [List.length_set, List.length_set]
theorem append_at {S : Sto} {n : Nat} {ds : List DV} {d : DV} (h : S[n]? = some (.ml ds)) (hl : ds.length < 100000) : appendD (.ptr n) [d] S = some (.non, S.set n (.ml (ds ++ [d]))) := by
  have : ptrL S (.ptr n) = some (n, ds) := by
    unfold ptrL
    simp only [h]
  simp [appendD, this, hl]
theorem step_ok (h : HAt S n ws (xs ++ [w]) sts) (f : Flo ws) (W : Wt j ws w) (R0 : Wt 0 ws r) (hj : j ≤ 11) (hb : Bo ws.length bs) (hbd : Bd S bd bs) (hbt : ∀ X : Sto, (X[n + 1]? = S[n + 1]? ∨ bd ≠ .ptr (n + 1)) → X.length = S.length → (∀ m, m ≠ n + 2 → m ≠ n + 1 → X[m]? = S[m]?) → Bd X bd bs) (hl1 : xs.length ≤ 1000) (hl2 : sts.length ≤ 1000) :
    f_History_step_z [.ptr n, bd, dF r] S = some (.non, hset S n (xs ++ [w] ++ [rest (ws.zip (List.zipWith (· + ·) w r)) bs]) (sts ++ [(sortI bs, r)])) := by
  obtain ⟨RP, mP, _⟩ := W.put R0 f hj
  have RW := W.row f hj
  have fl : ∀ x ∈ ws, 1 ≤ x := fun x hx => (f.fl x hx).1
  have c1 := check_bolted_ok (S := S) (ns := ws) hbd (fun b hb' => hb.1 b hb') hb.2.1
  have c2 := check_water_ok (S := S) (ns := ws) (qs := r) (n := 1400) R0.len (fun q hq => ⟨R0.pos q hq, (R0.dv q hq).sz (dn_pos 0) (zj_1 (by omega)) (by
    have := zj_2 (j := 0) (by omega)
    have e : TOT 0 * DN 0 ≤ (9 + 1) * TOT (0 + 1) * DN 0 := Nat.mul_le_mul_right _ (by unfold TOT; omega)
    omega)⟩) (by decide)
  have sz1 : ∀ q ∈ w, Sz 1400 q := fun q hq => by
    have := (zj j).one q (RW.c q hq)
    rw [zj_B hj] at this
    exact this
  have sz2 : ∀ q ∈ r, Sz 1400 q := fun q hq => by
    have := (zj 0).one q ((R0.row f (by omega)).c q hq)
    rw [zj_B (by omega)] at this
    exact this
  obtain ⟨fallen, hfal⟩ : ∃ x : List Rat, x = List.zipWith (· + ·) w r := ⟨_, rfl⟩
  rw [← hfal] at RP mP ⊢
  have e0 : ∀ s : Sl, s[0]? = some (some (.ptr n)) → dFld "History" "_floors" (dVar 0) s S = some (dI ws, S) := fun s hs => h.fF (by simp [hs])
  have e1 : ∀ s : Sl, s[0]? = some (some (.ptr n)) → dOp ixD (dFld "History" "_waters" (dVar 0)) (dUn negD (dC (.int 1))) s S = some (dF w, S) := fun s hs => h.now (by simp [hs])
  have e2 : ∀ s : Sl, s[0]? = some (some (.ptr n)) → dFld "History" "_waters" (dVar 0) s S = some (.ptr (n + 2), S) := fun s hs => h.fW (by simp [hs])
  have st : f_settled_z [dI ws, dF fallen, bd] S = some (dF (rest (ws.zip fallen) bs), S) := by
    have := settled_okz (S := S) (bs := bs) (bd := bd) (m0 := zj j) RP.zne (fun t ht => ⟨RP.ok t ht, by
      refine (mP _ ?_).1
      have := List.mem_map_of_mem (f := (·.2)) ht
      rw [RP.l2] at this
      exact this⟩) (by rw [RP.ll]; exact RP.n) (by rw [RP.ll]; exact ⟨RP.zl, RP.zb⟩) hbd (RP.bb hb) hb.2.1 hb.2.2
    rw [RP.l1, RP.l2] at this
    exact this
  obtain ⟨S1, hS1⟩ : ∃ S1 : Sto, S1 = S.set (n + 2) (.ml ((xs ++ [w] ++ [rest (ws.zip fallen) bs]).map dF)) := ⟨_, rfl⟩
  have lS := (List.getElem?_eq_some_iff.mp h.w).1
  have a1 : appendD (.ptr (n + 2)) [dF (rest (ws.zip fallen) bs)] S = some (.non, S1) := by
    rw [append_at h.w (by simp; omega), hS1]
    simp
  have hS1s : S1[n + 1]? = some (.ml (sts.map stD)) := by
    rw [hS1, List.getElem?_set_ne (by omega)]
    exact h.s
  have hS1o : S1[n]? = some (.ins "History" (hfl n ws)) := by
    rw [hS1, List.getElem?_set_ne (by omega)]
    exact h.o
  have hS1w : S1[n + 2]? = some (.ml ((xs ++ [w] ++ [rest (ws.zip fallen) bs]).map dF)) := by
    rw [hS1, List.getElem?_set_self lS]
  have h1 : HAt S1 n ws (xs ++ [w] ++ [rest (ws.zip fallen) bs]) sts := ⟨hS1o, hS1s, hS1w⟩
  have hbd1 : Bd S1 bd bs := hbt S1 (.inl (by rw [hS1s, h.s])) (by rw [hS1, List.length_set]) fun m h1 h2 => by rw [hS1, List.getElem?_set_ne (by omega)]
  have so : sortBD false [bd] S1 = some (dI (sortI bs), S1) := by
    rcases hbd1 with hb' | ⟨rfl, rfl⟩
    · have := toIs_map bs
      simp [sortBD, dI, this, hb']
    · rfl
  have li : listD false [dF r] S1 = some (dF r, S1) := by simp [listD, dF]
  have e3 : ∀ s : Sl, s[0]? = some (some (.ptr n)) → dFld "History" "_steps" (dVar 0) s S1 = some (.ptr (n + 1), S1) := fun s hs => h1.fS (by simp [hs])
  have a2 : appendD (.ptr (n + 1)) [.tup [dI (sortI bs), dF r]] S1 = some (.non, FW.hset S n (xs ++ [w] ++ [rest (ws.zip fallen) bs]) (sts ++ [(sortI bs, r)])) := by
    rw [append_at hS1s (by simp; omega)]
    unfold FW.hset
    rw [hS1]
    simp [stD]
  have lcE : dLc false (diZ (dCons (dOp ixD (dFld "History" "_waters" (dVar 0)) (dUn negD (dC (.int 1)))) (dCons (dVar 2) dNil))) (dGTup 2 (dGCons (dName 4) (dGCons (dName 5) dGNil))) dYes (dCall 2 f_plus_z [] (dCons (dVar 4) (dCons (dVar 5) dNil))) [4, 5] [some (.ptr n), some bd, some (dF r), none, none, none] S = some (dF fallen, S) := by
    have e := lcL_zipmap (tgt := dGTup 2 (dGCons (dName 4) (dGCons (dName 5) dGNil))) (te := dCall 2 f_plus_z [] (dCons (dVar 4) (dCons (dVar 5) dNil))) (vs := [4, 5]) (s := [some (.ptr n), some bd, some (dF r), none, none, none]) (S := S) (g := fun x y => fr (x + y)) w r (fun k x y hx hy => by
      have := plus_ok (S := S) (sz1 x (List.mem_of_getElem? hx)) (sz2 y (List.mem_of_getElem? hy)) (by decide)
      exact ⟨[some (.ptr n), some bd, some (dF r), none, some (fr x), some (fr y)], by simp [wipeD], by simp [this]⟩)
    have en := e1 [some (.ptr n), some bd, some (dF r), none, none, none] rfl
    rw [lc_of (it := .zp (dF w) (dF r)) (S1 := S) (xs := List.zipWith (fun x y => DV.tup [x, y]) (w.map fr) (r.map fr)) (by
      revert en
      generalize dOp ixD (dFld "History" "_waters" (dVar 0)) (dUn negD (dC (.int 1))) = F
      intro en
      simp only [diZ, dCons, dNil, en, dVar, List.getElem?_cons_succ, List.getElem?_cons_zero, bnd_some']
      exact if_pos ⟨rfl, rfl⟩) rfl e (by simp; have := W.len; have := f.n; omega)]
    rw [newL_f, hfal, dF, List.map_zipWith]
  refine fn_nx (s := [some (.ptr n), some bd, some (dF r), some (dF fallen), none, none]) (S1 := FW.hset S n (xs ++ [w] ++ [rest (ws.zip fallen) bs]) (sts ++ [(sortI bs, r)])) ?_ (exF_len hset_len)
  have hs0 : ∀ x y z : Option DV, ([some (.ptr n), some bd, some (dF r), x, y, z] : Sl)[0]? = some (some (.ptr n)) := fun _ _ _ => rfl
  have n1 := e0 [some (.ptr n), some bd, some (dF r), none, none, none] rfl
  have n2 := e0 [some (.ptr n), some bd, some (dF r), some (dF fallen), none, none] rfl
  have n3 := e2 [some (.ptr n), some bd, some (dF r), some (dF fallen), none, none] rfl
  have n4 := e3 [some (.ptr n), some bd, some (dF r), some (dF fallen), none, none] rfl
  refine seq_nx (drop_of (d := .non) (S1 := S) ?_) ?_
  · revert n1
    generalize dFld "History" "_floors" (dVar 0) = F
    intro n1
    simp [n1, c1]
  refine seq_nx (drop_of (d := .non) (S1 := S) ?_) ?_
  · revert n1
    generalize dFld "History" "_floors" (dVar 0) = F
    intro n1
    simp [n1, c2]
  refine seq_nx (asg_name lcE) ?_
  refine seq_nx (drop_of (d := .non) (S1 := S1) ?_) ?_
  · have rd : (rdL S (.ptr (n + 2))).isSome = true := by rw [h.rdW]; rfl
    revert n2 n3
    generalize dFld "History" "_floors" (dVar 0) = F
    generalize dFld "History" "_waters" (dVar 0) = F2
    intro n2 n3
    simp [n2, n3, rd, st, a1]
  refine drop_of (d := .non) ?_
  · have rd : (rdL S1 (.ptr (n + 1))).isSome = true := by rw [h1.rdS]; rfl
    revert n4
    generalize dFld "History" "_steps" (dVar 0) = F
    intro n4
    simp [n4, rd, so, li, a2]
end
end FW
end
section
namespace FW
open PySem PyProof.Rows PySem.Spec L2 DL
theorem fldS_at {c f : Str} {fe fv : DE} {s : Sl} {S S1 : Sto} {y : DV} {n : Nat} {fs : List (Str × DV)} (hv : fv s S = some (y, S1)) (he : fe s S1 = some (.ptr n, S1)) (hS : S1[n]? = some (.ins c fs)) (hl : fs.length < 1000) :
    dFldS c f fe fv s S = some (.nx s (S1.set n (.ins c (putD f y fs)))) := by
  unfold dFldS
  rw [hv, bnd_some', he, bnd_some']
  simp only [insOf, hS]
  rw [if_pos ⟨trivial, hl⟩]
theorem put_f {d : DV} : putD "_floors" d [] = ([("_floors", d)] : List (Str × DV)) := rfl
theorem put_s {d e : DV} : putD "_steps" d [("_floors", e)] = ([("_floors", e), ("_steps", d)] : List (Str × DV)) := by
  unfold putD
  rw [if_neg (show ¬ (("_floors" : Str) = "_steps") by decide +kernel)]
  rfl
theorem put_w {d e g : DV} : putD "_waters" d [("_floors", e), ("_steps", g)] = ([("_floors", e), ("_steps", g), ("_waters", d)] : List (Str × DV)) := by
  unfold putD
  rw [if_neg (show ¬ (("_floors" : Str) = "_waters") by decide +kernel)]
  unfold putD
  rw [if_neg (show ¬ (("_steps" : Str) = "_waters") by decide +kernel)]
  rfl
theorem init_ok {S : Sto} {ws : List Int} {r : List Rat} (f : Flo ws) (R0 : Wt 0 ws r) : mkD "History" f_History_init_r [dI ws, dF r] S = some (.ptr S.length, S ++ hobj S.length ws [r] []) := by
  have fl : ∀ x ∈ ws, 1 ≤ x := fun x hx => (f.fl x hx).1
  obtain ⟨S0, hS0⟩ : ∃ S0 : Sto, S0 = S ++ [.ins "History" []] := ⟨_, rfl⟩
  have c1 := check_floors_ok (S := S0) f.ne fl
  have sz2 : ∀ q ∈ r, Sz 1400 q := fun q hq => by
    have := (zj 0).one q ((R0.row f (by omega)).c q hq)
    rw [zj_B (by omega)] at this
    exact this
  have c2 := check_water_ok (S := S0) (ns := ws) (qs := r) (n := 1400) R0.len (fun q hq => ⟨R0.pos q hq, sz2 q hq⟩) (by decide)
  have l0 : S0[S.length]? = some (.ins "History" []) := by
    rw [hS0]
    exact List.getElem?_concat_length
  have lf : listD false [dF r] S0 = some (dF r, S0) := by simp [listD, dF]
  have lw : listD false [dI ws] S0 = some (dI ws, S0) := by simp [listD, dI]
  have nb : nonB (dF r) = false := rfl
  have run : b_History_init_r (startD 4 [.ptr S.length, dI ws, dF r]) S0 = some (.nx [some (.ptr S.length), some (dI ws), some (dF r), some (dF r)] (S ++ hobj S.length ws [r] [])) := by
    refine seq_nx (drop_of (d := .non) (S1 := S0) (by simp [c1])) ?_
    refine seq_nx (asg_name (d := dF r) (S1 := S0) (by unfold dF at lf ⊢; simp [lf])) ?_
    refine seq_nx (drop_of (d := .non) (S1 := S0) (by simp [c2])) ?_
    refine seq_nx (fldS_at (y := dI ws) (S1 := S0) (n := S.length) (fs := []) (by simp [lw]) (by simp) l0 (by decide)) ?_
    rw [put_f]
    obtain ⟨S1, hS1⟩ : ∃ S1 : Sto, S1 = S ++ [.ins "History" [("_floors", dI ws)]] := ⟨_, rfl⟩
    have e1 : S0.set S.length (.ins "History" [("_floors", dI ws)]) = S1 := by
      rw [hS0, hS1]
      exact top_set
    rw [e1]
    refine seq_nx (fldS_at (y := .ptr (S.length + 1)) (S1 := S1 ++ [.ml []]) (n := S.length) (fs := [("_floors", dI ws)]) (by simp [hS1]) (by simp) (by rw [hS1]; simp) (by show 1 < 1000; decide)) ?_
    rw [put_s]
    obtain ⟨S2, hS2⟩ : ∃ S2 : Sto, S2 = S ++ [.ins "History" [("_floors", dI ws), ("_steps", .ptr (S.length + 1))], .ml []] := ⟨_, rfl⟩
    have e2 : (S1 ++ [MO.ml []]).set S.length (.ins "History" [("_floors", dI ws), ("_steps", .ptr (S.length + 1))]) = S2 := by
      rw [hS1, hS2, List.append_assoc, List.set_append_right _ _ (Nat.le_refl _)]
      simp
    rw [e2]
    refine (fldS_at (y := .ptr (S.length + 2)) (S1 := S2 ++ [.ml [dF r]]) (n := S.length) (fs := [("_floors", dI ws), ("_steps", .ptr (S.length + 1))]) (by simp [hS2]) (by simp) (by rw [hS2]; simp) (by show 2 < 1000; decide)).trans ?_
    rw [put_w]
    have e3 : (S2 ++ [MO.ml [dF r]]).set S.length (.ins "History" [("_floors", dI ws), ("_steps", .ptr (S.length + 1)), ("_waters", .ptr (S.length + 2))]) = S ++ hobj S.length ws [r] [] := by
      rw [hS2, List.append_assoc, List.set_append_right _ _ (Nat.le_refl _)]
      simp [hobj, hfl]
    rw [e3]
    simp
  unfold mkD
  rw [← hS0]
  have := fn_nx (m := none) (n := 4) run (exF_raw (S := S0) (d := DV.non))
  unfold f_History_init_r
  rw [this]
theorem hobj_at {S X : Sto} {ws : List Int} {wss : List (List Rat)} {sts : List (List Int × List Rat)} : HAt (S ++ (hobj S.length ws wss sts ++ X)) S.length ws wss sts := by
  refine ⟨?_, ?_, ?_⟩
  · rw [List.getElem?_append_right (by omega)]
    simp [hobj]
  · rw [List.getElem?_append_right (by omega)]
    simp [hobj]
  · rw [List.getElem?_append_right (by omega)]
    simp [hobj]
end FW
end
section
namespace FB
open PySem PyProof.Rows PySem.Spec L2 DL FW
/-! ### fractions -/
theorem low_loop {d0 d1 : DV} {S : Sto} : ∀ (m x y : Nat), y < m → whileF (dTest (dOp neD (dVar 3) (dC (.int 0)))) (dPar 2 3 (dCons (dVar 3) (dCons (dOp modD (dVar 2) (dVar 3)) dNil))) m [some d0, some d1, some (.int (x : Int)), some (.int (y : Int))] S =
    some (.nx [some d0, some d1, some (.int ((x.gcd y : Nat) : Int)), some (.int 0)] S)
  | 0, x, y, h => by omega
  | m + 1, x, y, h => by
    by_cases hy : y = 0
    · subst hy
      rw [while_end (S1 := S) (by simp)]
      simp
    · have hy0 : 0 < y := by omega
      have hyi : ¬ ((y : Int) = 0) := by omega
      rw [while_step (S1 := S) (s2 := [some d0, some d1, some (.int (y : Int)), some (.int ((x % y : Nat) : Int))]) (S2 := S) (by simp [hyi, hy]) (by simp [hy0]), low_loop m y (x % y) (by have := Nat.mod_lt x hy0; omega)]
      rw [Nat.gcd_comm x y, Nat.gcd_rec y x, Nat.gcd_comm y (x % y)]
theorem law_low_ok {a : Int} {b : Nat} {S : Sto} (hb : 0 < b) (h : b < 2 ^ 8000) : f_law_low_z [.int a, .int (b : Int)] S = some (fr (mkRat a b), S) := by
  have g : FitsD ((a.natAbs.gcd b : Nat) : Int) := gcd_fitsD hb h
  have e : (if a < 0 then -a else a) = ((a.natAbs : Nat) : Int) := by split <;> omega
  rw [← mkRat_fr hb]
  simp only [f_law_low_z, fnF, b_law_low_z, startD, dSeq, dPar, dCB, dCons, dNil, dVar, dOp, dC, bnd_some', absD_int, List.map, List.length, List.replicate, List.cons_append, List.nil_append, List.getElem?_cons_zero, List.getElem?_cons_succ, List.set, kNx, e]
  simp only [dWhile, low_loop _ _ _ (lt_fuel (k := 8000) h (by decide)), kNx]
  simp [g]
theorem law_sum_ok {p q : Rat} {n m : Nat} {S : Sto} (h : Sz n p) (g : Sz m q) (hl : n + m ≤ 7000) : f_law_sum_z [fr p, fr q] S = some (fr (p + q), S) := by
  have hm : p.den * q.den < 2 ^ (n + m) := by
    rw [Nat.pow_add]
    exact Nat.mul_lt_mul'' h.2 g.2
  have key := law_low_ok (a := p.num * q.den + q.num * p.den) (b := p.den * q.den) (S := S) (Nat.mul_pos p.den_pos q.den_pos) (Nat.lt_of_lt_of_le hm (Nat.pow_le_pow_right (by decide) (by omega)))
  rw [← Rat.add_def'] at key
  have f1 := h.fn (by omega); have f2 := h.fd (by omega); have f3 := g.fn (by omega); have f4 := g.fd (by omega)
  push_cast at key
  simp [f_law_sum_z, fnF, b_law_sum_z, fr, ixD, f1, f2, f3, f4]
  rw [key]
  simp [fr]
/-! ### the deck -/
structure Dk where
  gs : List Int
  f : Int
  n : Int
def Dk.st (t : Dk) (G : Sto) : Sto := .ml (t.gs.map DV.int) :: .ml [.ptr 0, .int t.f, .int t.n] :: G
structure Dk.ok (N : Int) (t : Dk) : Prop where
  f0 : 0 ≤ t.f
  f1 : t.f < 2 ^ 61
  n0 : 0 ≤ t.n
  n1 : t.n ≤ N
  l : t.gs.length ≤ 63
theorem Dk.ok.mono {N M : Int} {t : Dk} (h : t.ok N) (hm : N ≤ M) : t.ok M := ⟨h.f0, h.f1, h.n0, Int.le_trans h.n1 hm, h.l⟩
section
variable {t t' : Dk} {G : Sto} {i : Int} {ds : List DV} {d : DV}
@[simp] theorem dk_rd1 : rdL (t.st G) (.ptr 1) = some [.ptr 0, .int t.f, .int t.n] := rfl
@[simp] theorem dk_rd0 : rdL (t.st G) (.ptr 0) = some (t.gs.map DV.int) := rfl
@[simp] theorem dk_ptr0 : ptrL (t.st G) (.ptr 0) = some (0, t.gs.map DV.int) := rfl
@[simp] theorem dk_ix0 : ixD (.ptr 1) (.int 0) (t.st G) = some (.ptr 0, t.st G) := by simp [ixD]
@[simp] theorem dk_ix1 : ixD (.ptr 1) (.int 1) (t.st G) = some (.int t.f, t.st G) := by simp [ixD]
@[simp] theorem dk_ix2 : ixD (.ptr 1) (.int 2) (t.st G) = some (.int t.n, t.st G) := by simp [ixD]
@[simp] theorem dk_set2 : setL (.ptr 1) (.int 2) (.int i) (t.st G) = some (({ t with n := i } : Dk).st G) := rfl
theorem dk_py0 : pyS (t.st G) (.ptr 0) = some (.list (t.gs.map PyData.int)) := by
  show (pys _ (t.gs.map DV.int)).map PyData.list = _
  rw [pys_map (g := PyData.int) fun _ => rfl]
  rfl
theorem dk_ne : neD (.ptr 0) (.lst []) (t.st G) = some (.bl (!t.gs.isEmpty), t.st G) := neD_ints dk_py0
theorem dk_last {gs : List Int} {g : Int} (h : t.gs = gs ++ [g]) : ixD (.ptr 0) (.int (-1)) (t.st G) = some (.int g, t.st G) := by
  have : L2.atI (t.gs.map DV.int) (-1) = some (.int g) := by
    rw [h, List.map_append]
    exact L2.atI_last _ _
  simp only [ixD, dk_rd0, Option.or, this]
theorem dk_pop {gs : List Int} {g : Int} (h : t.gs = gs ++ [g]) : popD (.ptr 0) [] (t.st G) = some (.int g, ({ t with gs := gs } : Dk).st G) := by
  unfold popD
  simp only [dk_ptr0]
  rw [h]
  simp [Dk.st]
theorem dk_setl {gs : List Int} {g : Int} (h : t.gs = gs ++ [g]) (hl : t.gs.length ≤ 63) : setL (.ptr 0) (.int (-1)) (.int i) (t.st G) = some (({ t with gs := gs ++ [i] } : Dk).st G) := by
  have e : L2.ixN ((gs ++ [g]).map DV.int).length (-1) = some gs.length := by
    unfold L2.ixN
    simp
    omega
  unfold setL
  simp only [Dk.st, List.getElem?_cons_zero, h, e]
  simp
end
theorem snoc_of {gs : List Int} (h : gs ≠ []) : ∃ xs g, gs = xs ++ [g] := ⟨gs.dropLast, gs.getLast h, (List.dropLast_concat_getLast h).symm⟩
theorem take_loop {d : DV} {x y z : Option DV} {G : Sto} : ∀ (m : Nat) (t : Dk), t.gs.length < m → t.gs.length ≤ 63 →
    ∃ gs, whileF (dAnd (dTest (dOp neD (dOp ixD (dVar 0) (dC (.int 0))) (dLst false dNil))) (dTest (dOp ltD (dOp ixD (dOp ixD (dVar 0) (dC (.int 0))) (dUn negD (dC (.int 1)))) (dC (.int 2)))))
      (dDrop (dBM0 "list" popD (dOp ixD (dVar 0) (dC (.int 0))))) m [some (.ptr 1), some d, x, y, z] (t.st G) = some (.nx [some (.ptr 1), some d, x, y, z] (({ t with gs := gs } : Dk).st G)) ∧ gs.length ≤ 63 ∧ (gs = [] ∨ ∃ xs g, gs = xs ++ [g] ∧ 2 ≤ g)
  | 0, t, h, _ => by omega
  | m + 1, t, h, hl => by
    by_cases h0 : t.gs = []
    · refine ⟨[], ?_, by simp, .inl rfl⟩
      rw [while_end (S1 := t.st G) (by simp [dk_ne, h0])]
      obtain ⟨gs, f, n⟩ := t
      cases h0
      rfl
    · obtain ⟨xs, g, hg⟩ := snoc_of h0
      have hlx : t.gs.length = xs.length + 1 := by rw [hg]; simp
      have he : t.gs.isEmpty = false := by rw [hg]; simp
      by_cases h2 : g < 2
      · obtain ⟨gs, e, e1, e2⟩ := take_loop (d := d) (x := x) (y := y) (z := z) (G := G) m { t with gs := xs } (by show xs.length < m; omega) (by show xs.length ≤ 63; omega)
        refine ⟨gs, ?_, e1, e2⟩
        rw [while_step (S1 := t.st G) (s2 := [some (.ptr 1), some d, x, y, z]) (S2 := ({ t with gs := xs } : Dk).st G) (by simp [dk_ne, he, dk_last hg, h2]) (by simp [dk_pop hg])]
        exact e
      · refine ⟨t.gs, ?_, hl, .inr ⟨xs, g, hg, by omega⟩⟩
        rw [while_end (S1 := t.st G) (by simp [dk_ne, he, dk_last hg, h2])]
theorem take_ok {t : Dk} {G : Sto} {m N : Int} (h : t.ok N) (hN : N < 2 ^ 60) (hm : 0 < m) (hm2 : m < 2 ^ 200) :
    ∃ (r : Int) (t' : Dk), f_law_take_z [.ptr 1, .int m] (t.st G) = some (.int r, t'.st G) ∧ 0 ≤ r ∧ r < m ∧ t'.ok (N + 1) := by
  obtain ⟨gs, e, e1, e2⟩ := take_loop (d := .int m) (x := none) (y := none) (z := none) (G := G) FUEL t (lt_fuel (k := 6) (by have := h.l; omega) (by decide)) h.l
  have hf0 := h.f0; have hf1 := h.f1; have hn0 := h.n0; have hn1 := h.n1
  have fm : FitsD m := fitsD_small hm (by omega)
  obtain ⟨u, hu⟩ : ∃ u : Dk, u = { t with gs := gs } := ⟨_, rfl⟩
  have ug : u.gs = gs := by rw [hu]
  have uf : u.f = t.f := by rw [hu]
  have un : u.n = t.n := by rw [hu]
  rw [← hu] at e
  rcases e2 with e2 | ⟨xs, g, e2, g2⟩
  · have he : u.gs.isEmpty = true := by rw [ug, e2]; rfl
    have hn3 : 0 ≤ t.n + 1 + 5 ∧ t.n + 1 + 5 < 2 ^ 62 := by omega
    have p3 : ∀ S, powD (.int (t.n + 1 + 5)) (.int 3) S = some (.int ((t.n + 1 + 5) ^ 3), S) := fun S => powD_int (by decide) (by decide) (by omega)
    have c3 : 0 ≤ (t.n + 1 + 5) ^ 3 ∧ (t.n + 1 + 5) ^ 3 < 2 ^ 186 := by
      refine ⟨Int.pow_nonneg hn3.1, ?_⟩
      have h1 : (t.n + 1 + 5).toNat ^ 3 < (2 ^ 62) ^ 3 := Nat.pow_lt_pow_left (by omega) (by decide)
      have h2 : (t.n + 1 + 5) ^ 3 = (((t.n + 1 + 5).toNat ^ 3 : Nat) : Int) := by
        rw [Int.natCast_pow, Int.toNat_of_nonneg hn3.1]
      rw [h2]
      omega
    have f1 : Fits (t.f + 40503) := fits_lt (by omega) (by omega)
    have f2 : Fits ((t.n + 1 + 5) ^ 3) := fits_lt c3.1 (by omega)
    have f3 : Fits 69621 := fits_lt (by decide) (by decide)
    have f4 : Fits (t.n + 1) := fits_lt (by omega) (by omega)
    obtain ⟨x, hx⟩ : ∃ x : Int, x = ((t.f + 40503) * (t.n + 1 + 5) ^ 3 + 69621 * (t.n + 1)) % 2305843009213693951 := ⟨_, rfl⟩
    have x0 : 0 ≤ x ∧ x < 2305843009213693951 := by
      rw [hx]
      exact ⟨Int.emod_nonneg _ (by decide), Int.emod_lt_of_pos _ (by decide)⟩
    have p5 : ∀ S, powD (.int x) (.int 3) S = some (.int (x ^ 3), S) := fun S => powD_int (by decide) (by decide) (by omega)
    have f64 : FitsD 64 := fitsD_small (by decide) (by decide)
    have ne := dk_ne (t := u) (G := G)
    rw [he] at ne
    refine ⟨x ^ 3 % 1000000007 / 64 % m, { u with n := t.n + 1 }, ?_, Int.emod_nonneg _ (by omega), Int.emod_lt_of_pos _ hm, ⟨by show 0 ≤ u.f; omega, by show u.f < _; omega, by show 0 ≤ t.n + 1; omega, by show t.n + 1 ≤ N + 1; omega, by show u.gs.length ≤ 63; rw [ug]; exact e1⟩⟩
    simp only [f_law_take_z, fnF, b_law_take_z, dSeq, dWhile, startD, List.map, List.length, List.replicate, List.cons_append, List.nil_append, e, kNx]
    simp [ne, p3, f1, f2, f3, f4, uf, un]
    rw [← hx]
    simp [p5, hm, f64]
    exact exF_len rfl
  · have he : u.gs.isEmpty = false := by rw [ug, e2]; simp
    have hg : u.gs = xs ++ [g] := by rw [ug, e2]
    have ne := dk_ne (t := u) (G := G)
    rw [he] at ne
    have l1 := dk_last (G := G) hg
    have l2 := dk_setl (G := G) (i := g / m) hg (by rw [ug]; exact e1)
    refine ⟨g % m, { u with gs := xs ++ [g / m] }, ?_, Int.emod_nonneg _ (by omega), Int.emod_lt_of_pos _ hm, ⟨by show 0 ≤ u.f; omega, by show u.f < _; omega, by show 0 ≤ u.n; omega, by show u.n ≤ N + 1; omega, by show (xs ++ [g / m]).length ≤ 63; rw [e2] at e1; simpa using e1⟩⟩
    simp only [f_law_take_z, fnF, b_law_take_z, dSeq, dWhile, startD, List.map, List.length, List.replicate, List.cons_append, List.nil_append, e, kNx]
    simp [ne, l1, l2, hm, fm]
    exact exF_len rfl
end FB
end
section
namespace FB
open PySem PyProof.Rows PySem.Spec L2 DL FW
theorem law_deck_ok {ns : List Int} (hl : ns.length ≤ 63) : ∃ t : Dk, f_law_deck_r [.rls (ns.map DV.int)] [] = some (.ptr 1, t.st []) ∧ t.ok 0 := by
  have f3 : Fits 1000003 := fits_lt (by decide) (by decide)
  obtain ⟨s', S', e, fold, gs, z, rfl, rfl, h1, h2, h3⟩ := forL_inv (tgt := dName 3) (body := (dSeq (dAsg (dOp modD (dOp (addD false) (dOp mulD (dVar 2) (dC (.int 1000003))) (dVar 3)) (dC (.int 2305843009213693951))) (dName 2))
    (dIfS (dTest (dOp geD (dCB absD (dCons (dVar 3) dNil)) (dOp powD (dC (.int 10)) (dC (.int 18)))))
    (dDrop (dBM "list" insertD (dVar 1) (dCons (dC (.int 0)) (dCons (dOp subD (dCB absD (dCons (dVar 3) dNil)) (dOp powD (dC (.int 10)) (dC (.int 18)))) dNil)))) dNext)))
    (xs := ns.map DV.int) (s := [some (.rls (ns.map DV.int)), some (.ptr 0), some (.int 11), none]) (S := [.ml []]) (k := 0)
    (fun k s S => ∃ fold gs z, s = [some (.rls (ns.map DV.int)), some (.ptr 0), some (.int fold), z] ∧ S = [.ml (gs.map DV.int)] ∧ 0 ≤ fold ∧ fold < 2 ^ 61 ∧ gs.length ≤ k)
    ⟨11, [], none, rfl, rfl, by decide, by decide, Nat.le_refl _⟩ (by
      rintro i x s S hx ⟨fold, gs, z, rfl, rfl, h1, h2, h3⟩
      obtain ⟨n, hn, rfl⟩ := map_at hx
      have hi : i < ns.length := (List.getElem?_eq_some_iff.mp hn).1
      have ff : Fits fold := fits_lt h1 (by omega)
      have hgl : gs.length < 100000 := by omega
      by_cases hc : 1000000000000000000 ≤ (if n < 0 then -n else n)
      · refine ⟨_, _, [some (.rls (ns.map DV.int)), some (.ptr 0), some (.int ((fold * 1000003 + n) % 2305843009213693951)), some (.int n)], [.ml ((((if n < 0 then -n else n) - 1000000000000000000) :: gs).map DV.int)], rfl, .inl ?_, _, _, _, rfl, rfl, Int.emod_nonneg _ (by decide), by have := Int.emod_lt_of_pos (fold * 1000003 + n) (show (0 : Int) < 2305843009213693951 by decide); omega, by simp; omega⟩
        simp [ff, f3, hc, rdL, insertD, ptrL, hgl]
      · refine ⟨_, _, [some (.rls (ns.map DV.int)), some (.ptr 0), some (.int ((fold * 1000003 + n) % 2305843009213693951)), some (.int n)], [.ml (gs.map DV.int)], rfl, .inl ?_, _, _, _, rfl, rfl, Int.emod_nonneg _ (by decide), by have := Int.emod_lt_of_pos (fold * 1000003 + n) (show (0 : Int) < 2305843009213693951 by decide); omega, by omega⟩
        simp [ff, f3, hc])
  refine ⟨Dk.mk gs fold 0, ?_, ⟨h1, h2, Int.le_refl _, Int.le_refl _, by simp at h3 ⊢; omega⟩⟩
  simp [f_law_deck_r, fnF, b_law_deck_r, dFor_eq, diL] at e ⊢
  rw [e]
  simp
  rfl
section
variable {t t' : Dk} {G : Sto} {d : DV} {ds : List DV} {mo : MO}
@[simp] theorem dk_len : (t.st G).length = G.length + 2 := rfl
@[simp] theorem dk_app {X : Sto} : t.st G ++ X = t.st (G ++ X) := rfl
theorem dk_append (h : ds.length < 100000) : appendD (.ptr (G.length + 2)) [d] (t.st (G ++ [.ml ds])) = some (.non, t.st (G ++ [.ml (ds ++ [d])])) := appendD_top (S := t.st G) h
@[simp] theorem dk_rd : rdL (t.st (G ++ [.ml ds])) (.ptr (G.length + 2)) = some ds := rdL_top (S := t.st G)
theorem exF_dk {X : Sto} {d : DV} (h : clo (G.length + 2) d = true) (hp : ∀ n, d ≠ .ptr n) : exF (some false) (t.st G) d (t'.st (G ++ X)) = some (d, t'.st G) := by
  unfold exF exF1
  simp only
  split
  · rename_i hx
    have : X = [] := by simpa using hx
    subst this
    rw [List.append_nil]
  · rename_i hx
    have hc : (t.st G).length < (t'.st (G ++ X)).length ∧ ∀ n : Nat, n < (t.st G).length → (t'.st (G ++ X))[n]? = (t.st G)[n]? ∨ ∃ mo, (t'.st (G ++ X))[n]? = some mo ∧ cloM (t.st G).length mo = true := by
      refine ⟨?_, fun n hn => ?_⟩
      · simp at hx ⊢
        have : X.length ≠ 0 := fun z => hx (List.length_eq_zero_iff.mp z)
        omega
      · match n with
        | 0 => exact .inr ⟨_, rfl, clos_int⟩
        | 1 => exact .inr ⟨_, rfl, by simp [cloM, clos, clo]⟩
        | n + 2 =>
          refine .inl ?_
          show (G ++ X)[n]? = G[n]?
          have : n < G.length := by simp at hn; omega
          rw [List.getElem?_append_left this]
    rw [if_pos hc]
    unfold exR
    split
    · exact absurd rfl (hp _)
    · rw [if_pos (by simpa using h)]
      have : (t'.st (G ++ X)).take (t.st G).length = t'.st G := List.take_left (l₁ := t'.st G) (l₂ := X)
      rw [this]
end
theorem law_tanks_ok {t : Dk} {G : Sto} {m N : Int} (h : t.ok N) (hN : N < 2 ^ 50) (hm : 0 < m) (hm2 : m ≤ 1000) :
    ∃ (ws : List Int) (t' : Dk), f_law_tanks_z [.ptr 1, .int m] (t.st G) = some (dI ws, t'.st G) ∧ ws ≠ [] ∧ (ws.length : Int) ≤ m ∧ (∀ w ∈ ws, 1 ≤ w ∧ w ≤ 9) ∧ t'.ok (N + 2 + m) := by
  obtain ⟨r2, t1, e1, a2, b2, k1⟩ := take_ok (G := G) (m := m) h (by omega) hm (by omega)
  obtain ⟨r1, t2, e2, a1, b1, k2⟩ := take_ok (G := G) (m := 3) k1 (by omega) (by decide) (by decide)
  obtain ⟨d, hd, hd2⟩ := pick3 (a := .int 1) (b := .int 3) (c := .int 9) a1 b1
  obtain ⟨wd, rfl, w0, w1⟩ : ∃ wd : Int, d = .int wd ∧ 1 ≤ wd ∧ wd ≤ 9 := by
    rcases hd2 with rfl | rfl | rfl
    · exact ⟨1, rfl, by decide, by decide⟩
    · exact ⟨3, rfl, by decide, by decide⟩
    · exact ⟨9, rfl, by decide, by decide⟩
  have xd : ∀ S, ixD (.lst [.int 1, .int 3, .int 9]) (.int r1) S = some (.int wd, S) := fun S => ixD_lst hd
  obtain ⟨acc, S', e3, ws, t3, rfl, rfl, hlen, hw, k3⟩ := lcL_inv (tgt := dName 4) (tt := dYes) (te := (dOp (addD false) (dC (.int 1)) (dCall 2 f_law_take_z [] (dCons (dVar 0) (dCons (dOp ixD (dLst false (dCons (dC (.int 1)) (dCons (dC (.int 3)) (dCons (dC (.int 9)) dNil)))) (dVar 3)) dNil))))) (vs := [4])
    (s := [some (.ptr 1), some (.int m), some (.int (1 + r2)), some (.int r1), none]) (fun k acc S => ∃ (ws : List Int) (t' : Dk), acc = ws.map DV.int ∧ S = t'.st G ∧ ws.length = k ∧ (∀ w ∈ ws, 1 ≤ w ∧ w ≤ 9) ∧ t'.ok (N + 1 + 1 + k))
    (xs := (List.range (1 + r2).toNat).map fun i => DV.int (0 + (i : Nat))) (acc := []) (S := t2.st G) (k := 0) ⟨[], t2, rfl, rfl, rfl, fun w hw => (by cases hw), by simpa using k2⟩ (by
      rintro i x acc S hx ⟨ws, t', rfl, rfl, hlen, hw, hk⟩
      obtain ⟨n, hn, rfl⟩ := map_at hx
      have hi : i < (1 + r2).toNat := by simpa using (List.getElem?_eq_some_iff.mp hn).1
      obtain ⟨r, t'', e, a, b, k⟩ := take_ok (G := G) (m := wd) hk (by omega) (by omega) (by omega)
      refine ⟨_, _, true, _, rfl, rfl, ?_⟩
      rw [if_pos rfl]
      refine ⟨.int (1 + r), t''.st G, by simp [xd, e], ws ++ [1 + r], t'', by simp, rfl, by simp [hlen], fun w h => ?_, k.mono (by omega)⟩
      rcases List.mem_append.mp h with h | h
      · exact hw w h
      · cases List.mem_singleton.mp h
        omega)
  have hlen' : ws.length = (1 + r2).toNat := by simpa using hlen
  refine ⟨ws, t3, ?_, ?_, by omega, hw, k3.mono (by simp; omega)⟩
  · have hr : RgS (1 + r2) := rgS_of (by omega) (by omega)
    refine fn_rt (d := dI ws) (S1 := t3.st G) ?_ (exF_len rfl)
    refine seq_nx (s1 := [some (.ptr 1), some (.int m), some (.int (1 + r2)), some (.int r1), none]) (S1 := t2.st G) (by simp [e1, e2]) ?_
    exact ret_of (lc_of (it := .rg 0 (1 + r2).toNat) (S1 := t2.st G) (by simp [hr]) rfl e3 (by simp; omega))
  · intro z
    rw [z] at hlen'
    simp at hlen'
    omega
/-! ### amounts -/
theorem dv_mk {x : Int} {b M : Nat} (hb : 0 < b) (hb2 : b < 73) (hx : x.natAbs ≤ M) : Dv (DN 0) M (mkRat x b) := by
  have e0 : DN 0 = LAM := by
    unfold DN
    simp
  rw [e0]
  have hd := lam_dvd b hb2 hb
  obtain ⟨E, hE⟩ : ∃ E, LAM = b * E := ⟨LAM / b, by have := Nat.div_add_mod LAM b; omega⟩
  have bne : (b : Rat) ≠ 0 := by
    intro z
    have : b = 0 := by exact_mod_cast z
    omega
  refine ⟨x * (E : Nat), ?_, ?_⟩
  · rw [Rat.mkRat_eq_div, hE, Rat.natCast_mul, Rat.intCast_mul, Rat.intCast_natCast]
    grind
  · rw [Int.natAbs_mul, Int.natAbs_natCast, hE]
    refine Nat.mul_le_mul hx ?_
    exact Nat.le_mul_of_pos_left _ hb
theorem mkRat_le {x : Int} {b : Nat} (hb : 0 < b) (h0 : 0 ≤ x) : mkRat x b ≤ (x : Rat) := by
  rw [Rat.mkRat_eq_div]
  have b1 : (1 : Rat) ≤ (b : Rat) := by exact_mod_cast hb
  have x0 : (0 : Rat) ≤ (x : Rat) := by exact_mod_cast h0
  refine Rat.not_lt.mp fun z => ?_
  have k := Rat.mul_lt_mul_of_pos_right z (show (0 : Rat) < (b : Rat) by grind)
  have m := mul_le_left b1 x0
  have e : (x : Rat) / (b : Rat) * (b : Rat) = (x : Rat) := by grind
  grind
def AMO : Nat := 1000000000000
structure Amt (q : Rat) : Prop where
  pos : 0 ≤ q
  le : q ≤ (AMO : Rat)
  dv : Dv (DN 0) AMO q
theorem amt_mk {x : Int} {b : Nat} (hb : 0 < b) (hb2 : b < 73) (h0 : 0 ≤ x) (h1 : x ≤ 1000000000000) : Amt (mkRat x b) := by
  refine ⟨nonneg_mkRat h0, Rat.le_trans (mkRat_le hb h0) ?_, dv_mk hb hb2 (by unfold AMO; omega)⟩
  rw [← Rat.intCast_natCast]
  exact Rat.intCast_le_intCast.mpr (by unfold AMO; omega)
theorem amt_zero : Amt 0 := by
  have := amt_mk (x := 0) (b := 1) (by decide) (by decide) (by decide) (by decide)
  simpa using this
theorem amt_int {x : Int} (h0 : 0 ≤ x) (h1 : x ≤ 1000000000000) : Amt (x : Rat) := by
  have := amt_mk (x := x) (b := 1) (by decide) (by decide) h0 h1
  have e : mkRat x 1 = (x : Rat) := Rat.mkRat_self (x : Rat)
  rw [e] at this
  exact this
theorem wt_of {ws : List Int} {w : List Rat} (f : Flo ws) (hl : w.length = ws.length) (h : ∀ q ∈ w, Amt q) : Wt 0 ws w := by
  refine ⟨hl, fun q hq => (h q hq).pos, fun q hq => (h q hq).dv.le (by decide), ?_⟩
  have key : ∀ w : List Rat, (∀ q ∈ w, Amt q) → rsum w ≤ ((w.length * AMO : Nat) : Rat) := by
    intro w
    induction w with
    | nil => intro _; simp [rsum, Rat.le_refl]
    | cons q w ih =>
      intro h
      have h1 := ih fun x hx => h x (List.mem_cons_of_mem _ hx)
      have h2 := (h q (List.mem_cons_self)).le
      rw [List.length_cons, Nat.add_mul, Nat.one_mul, Rat.natCast_add]
      simp only [rsum]
      grind
  refine Rat.le_trans (key w h) ?_
  have : w.length * AMO ≤ TOT 0 := by
    have := f.n
    have h2 : w.length * AMO ≤ 8 * AMO := Nat.mul_le_mul_right _ (by omega)
    exact Nat.le_trans h2 (by decide)
  exact_mod_cast this
@[simp] theorem pow10_6' {S : Sto} : powD (.int 10) (.int 6) S = some (.int 1000000, S) := powD_int (by decide) (by decide) (by decide)
theorem law_amount_ok {t : Dk} {G : Sto} {N : Int} (h : t.ok N) (hN : N < 2 ^ 50) :
    ∃ (q : Rat) (t' : Dk), f_law_amount_z [.ptr 1] (t.st G) = some (fr q, t'.st G) ∧ Amt q ∧ t'.ok (N + 7) := by
  obtain ⟨r1, t1, e1, a1, b1, k1⟩ := take_ok (G := G) (m := 10) h (by omega) (by decide) (by decide)
  obtain ⟨r2, t2, e2, a2, b2, k2⟩ := take_ok (G := G) (m := 100) k1 (by omega) (by decide) (by decide)
  obtain ⟨r3, t3, e3, a3, b3, k3⟩ := take_ok (G := G) (m := 1000000) k2 (by omega) (by decide) (by decide)
  obtain ⟨r4, t4, e4, a4, b4, k4⟩ := take_ok (G := G) (m := 1000000) k3 (by omega) (by decide) (by decide)
  obtain ⟨r5, t5, e5, a5, b5, k5⟩ := take_ok (G := G) (m := 4) k4 (by omega) (by decide) (by decide)
  obtain ⟨r6, t6, e6, a6, b6, k6⟩ := take_ok (G := G) (m := 12) k5 (by omega) (by decide) (by decide)
  obtain ⟨r7, t7, e7, a7, b7, k7⟩ := take_ok (G := G) (m := 60) k6 (by omega) (by decide) (by decide)
  obtain ⟨d, hd, hd2⟩ := pick4 (a := .int 0) (b := .int r1) (c := .int r2) (e := .int (r3 * 1000000 + r4)) a5 b5
  obtain ⟨x, rfl, x0, x1⟩ : ∃ x : Int, d = .int x ∧ 0 ≤ x ∧ x ≤ 1000000000000 := by
    rcases hd2 with rfl | rfl | rfl | rfl
    · exact ⟨_, rfl, by omega, by omega⟩
    · exact ⟨_, rfl, by omega, by omega⟩
    · exact ⟨_, rfl, by omega, by omega⟩
    · exact ⟨_, rfl, by omega, by omega⟩
  obtain ⟨d', hd', hd2'⟩ := pick4 (a := .int 1) (b := .int 1) (c := .int (1 + r6)) (e := .int (1 + r7)) a5 b5
  obtain ⟨y, rfl, y0, y1⟩ : ∃ y : Int, d' = .int y ∧ 1 ≤ y ∧ y ≤ 60 := by
    rcases hd2' with rfl | rfl | rfl | rfl
    · exact ⟨_, rfl, by omega, by omega⟩
    · exact ⟨_, rfl, by omega, by omega⟩
    · exact ⟨_, rfl, by omega, by omega⟩
    · exact ⟨_, rfl, by omega, by omega⟩
  obtain ⟨b, rfl⟩ : ∃ b : Nat, y = (b : Int) := ⟨y.toNat, by omega⟩
  have f3 : Fits r3 := fits_lt a3 (by omega)
  have f6 : Fits 1000000 := fits_lt (by decide) (by decide)
  have xd : ∀ S, ixD (.lst [.int 0, .int r1, .int r2, .int (r3 * 1000000 + r4)]) (.int r5) S = some (.int x, S) := fun S => ixD_lst hd
  have xd' : ∀ S, ixD (.lst [.int 1, .int 1, .int (1 + r6), .int (1 + r7)]) (.int r5) S = some (.int b, S) := fun S => ixD_lst hd'
  have key := law_low_ok (a := x) (b := b) (S := t7.st G) (by omega) (Nat.lt_of_lt_of_le (show b < 2 ^ 6 by omega) (Nat.pow_le_pow_right (by decide) (by decide)))
  refine ⟨mkRat x b, t7, ?_, amt_mk (by omega) (by omega) x0 x1, k7.mono (by omega)⟩
  refine fn_rt (d := fr (mkRat x b)) (S1 := t7.st G) ?_ (exF_len rfl)
  refine seq_nx (asg_name (d := .lst [.int 0, .int r1, .int r2, .int (r3 * 1000000 + r4)]) (S1 := t4.st G) (by simp [e1, e2, e3, e4, f3, f6])) ?_
  refine seq_nx (asg_name (d := .int r5) (S1 := t5.st G) (by simp [e5])) ?_
  exact ret_of (by simp [xd, xd', e6, e7, key])
theorem law_fall_ok {t : Dk} {G : Sto} {N : Int} {ws : List Int} (h : t.ok N) (hN : N < 2 ^ 40) (hw : ∀ w ∈ ws, 1 ≤ w ∧ w ≤ 9) (h0 : ws ≠ []) (hl : ws.length ≤ 100) :
    ∃ (qs : List Rat) (t' : Dk), f_law_fall_z [.ptr 1, dI ws] (t.st G) = some (dF qs, t'.st G) ∧ qs.length = ws.length ∧ (∀ q ∈ qs, Amt q) ∧ t'.ok (N + 8 * ws.length + 3) := by
  have wp : 0 < ws.length := List.length_pos_iff.mpr h0
  have lw : ∀ S, lenD [dI ws] S = some (.int (ws.length : Nat), S) := fun S => by simp [dI]
  have e0 : DV.tup [.int 0, .int 1] = fr 0 := rfl
  obtain ⟨kd, t1, e1, a1, b1, k1⟩ := take_ok (G := G) (m := 8) h (by omega) (by decide) (by decide)
  by_cases hk0 : kd = 0
  · subst hk0
    refine ⟨ws.map fun _ => 0, t1, ?_, by simp, fun q hq => by obtain ⟨_, _, rfl⟩ := List.mem_map.mp hq; exact amt_zero, k1.mono (by omega)⟩
    refine fn_rt (d := dF (ws.map fun _ => 0)) (S1 := t1.st G) ?_ (exF_len rfl)
    refine seq_nx (asg_name (d := .int 0) (S1 := t1.st G) (by simp [e1])) ?_
    refine seq_rt (if_t (S1 := t1.st G) (by simp) (ret_of ?_))
    have lc := lcL_map (tgt := dName 5) (tt := dYes) (te := dTup (dCons (dC (.int 0)) (dCons (dC (.int 1)) dNil))) (vs := [5]) (s := [some (.ptr 1), some (dI ws), some (.int 0), none, none, none, none]) (S := t1.st G) (g := fun _ => fr 0) (xs := ws.map DV.int) (acc := []) (fun x hx => ⟨_, rfl, rfl, by simp [e0]⟩)
    rw [List.nil_append, List.map_map] at lc
    refine (lc_of (it := .li (dI ws)) (S1 := t1.st G) (by simp [diL, dI]) rfl lc (by simp; omega)).trans ?_
    rw [newL_f, dF, List.map_map]
    rfl
  · obtain ⟨acc, S', e2, qs, t2, rfl, rfl, hlen, hq, k2⟩ := lcL_inv (tgt := dName 5) (tt := dYes) (te := dCall 1 f_law_amount_z [] (dCons (dVar 0) dNil)) (vs := [5])
      (s := [some (.ptr 1), some (dI ws), some (.int kd), none, none, none, none]) (fun k acc S => ∃ (qs : List Rat) (t' : Dk), acc = qs.map fr ∧ S = t'.st G ∧ qs.length = k ∧ (∀ q ∈ qs, Amt q) ∧ t'.ok (N + 1 + 7 * k))
      (xs := ws.map DV.int) (acc := []) (S := t1.st G) (k := 0) ⟨[], t1, rfl, rfl, rfl, fun w hw => (by cases hw), by simpa using k1⟩ (by
        rintro i x acc S hx ⟨qs, t', rfl, rfl, hlen, hq, hk⟩
        obtain ⟨w, hn, rfl⟩ := map_at hx
        have hi : i < ws.length := (List.getElem?_eq_some_iff.mp hn).1
        obtain ⟨q, t'', e, q0, k⟩ := law_amount_ok (G := G) hk (by omega)
        refine ⟨_, _, true, _, rfl, rfl, ?_⟩
        rw [if_pos rfl]
        refine ⟨fr q, t''.st G, by simp [e], qs ++ [q], t'', by simp, rfl, by simp [hlen], fun p h => ?_, k.mono (by omega)⟩
        rcases List.mem_append.mp h with h | h
        · exact hq p h
        · cases List.mem_singleton.mp h
          exact q0)
    rw [Nat.zero_add, List.length_map] at hlen k2
    have lc2 := lc_of (m := false) (it := .li (dI ws)) (S1 := t1.st G) (fi := diL (dVar 1)) (s := [some (.ptr 1), some (dI ws), some (.int kd), none, none, none, none]) (S := t1.st G) (by simp [diL, dI]) rfl e2 (by simp; omega)
    rw [newL_f] at lc2
    -- one tank alone
    have spot : ∃ (qs' : List Rat) (x4 x6 : Option DV) (t3 : Dk), (dIfS (dTest (dOp ltD (dVar 2) (dC (.int 3))))
    (dSeq (dAsg (dOp ixD (dLst false (dCons (dC (.int 0)) (dCons (dOp subD (dCB lenD (dCons (dVar 1) dNil)) (dC (.int 1))) (dCons (dCall 2 f_law_take_z [] (dCons (dVar 0) (dCons (dCB lenD (dCons (dVar 1) dNil)) dNil))) dNil)))) (dCall 2 f_law_take_z [] (dCons (dVar 0) (dCons (dC (.int 3)) dNil)))) (dName 4))
    (dAsg (dLc false (diR1 (dCons (dCB lenD (dCons (dVar 1) dNil)) dNil)) (dName 6) dYes (dIf (dTest (dOp eqD (dVar 6) (dVar 4))) (dOp ixD (dVar 3) (dVar 6)) (dTup (dCons (dC (.int 0)) (dCons (dC (.int 1)) dNil)))) [6]) (dName 3))) dNext) [some (.ptr 1), some (dI ws), some (.int kd), some (dF qs), none, none, none] (t2.st G) = some (.nx [some (.ptr 1), some (dI ws), some (.int kd), some (dF qs'), x4, none, x6] (t3.st G)) ∧ qs'.length = ws.length ∧ (∀ q ∈ qs', Amt q) ∧ t3.ok (N + 1 + 7 * ws.length + 2) := by
      by_cases h3 : kd < 3
      · obtain ⟨r1, t3, e3, c1, d1, k3⟩ := take_ok (G := G) (m := (ws.length : Int)) k2 (by omega) (by omega) (by omega)
        obtain ⟨r2, t4, e4, c2, d2, k4⟩ := take_ok (G := G) (m := 3) k3 (by omega) (by decide) (by decide)
        obtain ⟨d, hd, hd2⟩ := pick3 (a := .int 0) (b := .int ((ws.length : Int) - 1)) (c := .int r1) c2 d2
        obtain ⟨z, rfl⟩ : ∃ z : Int, d = .int z := by
          rcases hd2 with rfl | rfl | rfl
          · exact ⟨_, rfl⟩
          · exact ⟨_, rfl⟩
          · exact ⟨_, rfl⟩
        have xd : ∀ S, ixD (.lst [.int 0, .int ((ws.length : Int) - 1), .int r1]) (.int r2) S = some (.int z, S) := fun S => ixD_lst hd
        have hRg : RgS (ws.length : Int) := rgS_of (by omega) (by omega)
        have ixk : ∀ i : Nat, i < ws.length → ∀ S, ixD (dF qs) (.int (i : Nat)) S = some (fr (qs.getD i 0), S) := fun i hi S => by
          have hi' : i < qs.length := by omega
          refine ixD_lst (at_nat rfl ?_)
          rw [List.getElem?_map, List.getD_eq_getElem?_getD, List.getElem?_eq_getElem hi']
          rfl
        have lc := lcL_map (tgt := dName 6) (tt := dYes) (te := dIf (dTest (dOp eqD (dVar 6) (dVar 4))) (dOp ixD (dVar 3) (dVar 6)) (dTup (dCons (dC (.int 0)) (dCons (dC (.int 1)) dNil)))) (vs := [6]) (s := [some (.ptr 1), some (dI ws), some (.int kd), some (dF qs), some (.int z), none, none]) (S := t4.st G)
          (g := fun x => match x with | .int i => if i = z then fr (qs.getD i.toNat 0) else fr 0 | d => d) (xs := (List.range ws.length).map fun i => DV.int (0 + (i : Nat))) (acc := []) (fun x hx => by
            obtain ⟨i, hi, rfl⟩ := List.mem_map.mp hx
            have hi : i < ws.length := List.mem_range.mp hi
            refine ⟨_, rfl, rfl, ?_⟩
            by_cases hz : (i : Int) = z
            · subst hz
              simp [wipeD, ixk i hi]
            · simp [wipeD, hz, e0])
        refine ⟨(List.range ws.length).map fun (i : Nat) => if (i : Int) = z then qs.getD i 0 else 0, some (.int z), none, t4, ?_, by simp, fun q hq' => ?_, k4.mono (by omega)⟩
        · refine if_t (S1 := t2.st G) (by simp [h3]) ?_
          refine seq_nx (asg_name (d := .int z) (S1 := t4.st G) (by simp [lw, e3, e4, xd])) ?_
          refine asg_name (d := dF ((List.range ws.length).map fun (i : Nat) => if (i : Int) = z then qs.getD i 0 else 0)) ?_
          refine (lc_of (it := .rg 0 ws.length) (S1 := t4.st G) (by simp [lw, hRg]) rfl lc (by simp; omega)).trans ?_
          rw [newL_f, List.nil_append, List.map_map, dF, List.map_map]
          congr 3
          refine List.map_congr_left fun i _ => ?_
          simp only [Function.comp, Int.zero_add, Int.toNat_natCast]
          split <;> rfl
        · obtain ⟨i, hi, rfl⟩ := List.mem_map.mp hq'
          have hi' : i < qs.length := by rw [hlen]; exact List.mem_range.mp hi
          split
          · rw [List.getD_eq_getElem?_getD, List.getElem?_eq_getElem hi']
            exact hq _ (List.getElem_mem hi')
          · exact amt_zero
      · exact ⟨qs, none, none, t2, if_f (S1 := t2.st G) (by simp [h3]) rfl, hlen, hq, k2.mono (by omega)⟩
    obtain ⟨qs1, x4, x6, t3, e3, l3, q3, k3⟩ := spot
    have whole : ∃ (qs' : List Rat) (t4 : Dk), (dIfS (dAnd (dTest (dOp ltD (dVar 2) (dC (.int 5)))) (dTest (dOp gtD (dVar 2) (dC (.int 2)))))
    (dAsg (dLc false (diL (dVar 1)) (dName 5) dYes (dTup (dCons (dOp mulD (dVar 5) (dCall 2 f_law_take_z [] (dCons (dVar 0) (dCons (dC (.int 4)) dNil)))) (dCons (dC (.int 1)) dNil))) [5]) (dName 3)) dNext) [some (.ptr 1), some (dI ws), some (.int kd), some (dF qs1), x4, none, x6] (t3.st G) = some (.nx [some (.ptr 1), some (dI ws), some (.int kd), some (dF qs'), x4, none, x6] (t4.st G)) ∧ qs'.length = ws.length ∧ (∀ q ∈ qs', Amt q) ∧ t4.ok (N + 8 * ws.length + 3) := by
      by_cases h5 : kd < 5 ∧ 2 < kd
      · obtain ⟨acc, S', e4, qs2, t4, rfl, rfl, hlen4, hq4, k4⟩ := lcL_inv (tgt := dName 5) (tt := dYes) (te := dTup (dCons (dOp mulD (dVar 5) (dCall 2 f_law_take_z [] (dCons (dVar 0) (dCons (dC (.int 4)) dNil)))) (dCons (dC (.int 1)) dNil))) (vs := [5])
          (s := [some (.ptr 1), some (dI ws), some (.int kd), some (dF qs1), x4, none, x6]) (fun k acc S => ∃ (qs : List Rat) (t' : Dk), acc = qs.map fr ∧ S = t'.st G ∧ qs.length = k ∧ (∀ q ∈ qs, Amt q) ∧ t'.ok (N + 1 + 7 * ws.length + 2 + k))
          (xs := ws.map DV.int) (acc := []) (S := t3.st G) (k := 0) ⟨[], t3, rfl, rfl, rfl, fun w hw => (by cases hw), by simpa using k3⟩ (by
            rintro i x acc S hx ⟨qs, t', rfl, rfl, hlen, hq, hk⟩
            obtain ⟨w, hn, rfl⟩ := map_at hx
            have hi : i < ws.length := (List.getElem?_eq_some_iff.mp hn).1
            have hww := hw w (List.mem_of_getElem? hn)
            obtain ⟨r, t'', e, a, b, k⟩ := take_ok (G := G) (m := 4) hk (by omega) (by decide) (by decide)
            have fw : Fits w := fits_lt (by omega) (by omega)
            have fr' : Fits r := fits_lt (by omega) (by omega)
            have hm0 : 0 ≤ w * r := Int.mul_nonneg (by omega) a
            have hm1 := Int.mul_le_mul hww.2 (show r ≤ 3 by omega) a (by decide)
            refine ⟨_, _, true, _, rfl, rfl, ?_⟩
            rw [if_pos rfl]
            refine ⟨fr ((w * r : Int) : Rat), t''.st G, ?_, qs ++ [((w * r : Int) : Rat)], t'', by simp, rfl, by simp [hlen], fun p h => ?_, k.mono (by omega)⟩
            · show _ = some (DV.tup [.int (w * r), .int 1], _)
              simp [wipeD, e, fw, fr']
            · rcases List.mem_append.mp h with h | h
              · exact hq p h
              · cases List.mem_singleton.mp h
                exact amt_int hm0 (by omega))
        rw [Nat.zero_add, List.length_map] at hlen4 k4
        refine ⟨qs2, t4, ?_, hlen4, hq4, k4.mono (by omega)⟩
        refine if_t (S1 := t3.st G) (by simp [h5.1, h5.2]) ?_
        refine asg_name (d := dF qs2) ?_
        exact lc_of (it := .li (dI ws)) (S1 := t3.st G) (by simp [diL, dI]) rfl e4 (by simp; omega)
      · refine ⟨qs1, t3, ?_, l3, q3, k3.mono (by omega)⟩
        refine if_f (S1 := t3.st G) ?_ rfl
        by_cases h5' : kd < 5
        · have : ¬ 2 < kd := fun z => h5 ⟨h5', z⟩
          simp [h5', this]
        · simp [h5']
    obtain ⟨qs2, t4, e4, l4, q4, k4⟩ := whole
    refine ⟨qs2, t4, ?_, l4, q4, k4⟩
    refine fn_rt (d := dF qs2) (S1 := t4.st G) ?_ (exF_len rfl)
    refine seq_nx (asg_name (d := .int kd) (S1 := t1.st G) (by simp [e1])) ?_
    refine seq_nx (if_f (S1 := t1.st G) (by simp [hk0]) rfl) ?_
    refine seq_nx (asg_name (d := dF qs) (S1 := t2.st G) lc2) ?_
    refine seq_nx e3 ?_
    refine seq_nx e4 ?_
    exact ret_of rfl
end FB
end
section
namespace FB
open PySem PyProof.Rows PySem.Spec L2 DL FW
theorem pop_at {S : Sto} {xs : List Int} {r : Int} (r0 : 0 ≤ r) (hr : r.toNat < xs.length) (hn : xs.length ≤ 1000) : popAtD (.ptr S.length) [.int r] (S ++ [.ml (xs.map DV.int)]) = some (.int (xs[r.toNat]), S ++ [.ml ((xs.eraseIdx r.toNat).map DV.int)]) := by
  have hb : xs.length ≤ 100000 := by omega
  have hix : L2.ixN (xs.map DV.int).length r = some r.toNat := by
    unfold L2.ixN
    rw [if_pos r0, if_pos (by simp; omega)]
  have hg : (xs.map DV.int)[r.toNat]? = some (.int xs[r.toNat]) := by rw [List.getElem?_map, List.getElem?_eq_getElem hr]; rfl
  have he : (xs.map DV.int).eraseIdx r.toNat = (xs.eraseIdx r.toNat).map DV.int := by
    rw [List.eraseIdx_eq_take_drop_succ, List.eraseIdx_eq_take_drop_succ, List.map_append, List.map_take, List.map_drop]
  unfold popAtD
  simp only [ptrL_top, hix, hg]
  rw [gate_ok (by rw [List.length_map]; exact hb), he, top_set]
theorem law_shut_ok {t : Dk} {G : Sto} {N : Int} {ws : List Int} (h : t.ok N) (hN : N < 2 ^ 30) (h0 : ws ≠ []) (hl : ws.length ≤ 100) :
    ∃ (bs : List Int) (t' : Dk), f_law_shut_z [.ptr 1, dI ws] (t.st G) = some (dI bs, t'.st G) ∧ Bo ws.length bs ∧ bs.length ≤ ws.length ∧ t'.ok (N + 3 + ws.length) := by
  have wp : 0 < ws.length := List.length_pos_iff.mpr h0
  have lw : ∀ S, lenD [dI ws] S = some (.int (ws.length : Nat), S) := fun S => by simp [dI]
  obtain ⟨fs, hfs⟩ : ∃ fs : List Int, fs = (List.range (ws.length - 1)).map (fun (i : Nat) => (1 : Int) + (i : Int)) := ⟨_, rfl⟩
  have fm : ∀ b ∈ fs, 1 ≤ b ∧ b < (ws.length : Int) := fun b hb => by
    rw [hfs] at hb
    obtain ⟨i, hi, rfl⟩ := List.mem_map.mp hb
    have := List.mem_range.mp hi
    omega
  have fn : fs.Nodup := by
    rw [hfs]
    exact List.pairwise_map.mpr (List.nodup_range.imp fun h => by omega)
  have fl' : fs.length = ws.length - 1 := by rw [hfs]; simp
  have rg : ∀ (s : Sl), s[1]? = some (some (dI ws)) → dLr2 true (dC (.int 1)) (dCB lenD (dCons (dVar 1) dNil)) s (t.st G) = some (.ptr (G.length + 2), t.st (G ++ [.ml (fs.map DV.int)])) := fun s h1 => by
    have hg : (0 : Int) ≤ 1 ∧ (1 : Int) ≤ 100000 ∧ 0 ≤ (ws.length : Int) ∧ (ws.length : Int) ≤ 100000 := by omega
    have ht : ((ws.length : Int) - 1).toNat = ws.length - 1 := by omega
    simp only [dLr2, dC, dCB, dCons, dNil, dVar, h1, lw, bnd_some']
    rw [gate_ok hg, rgD, ht, newL_t, hfs, List.map_map]
    rfl
  obtain ⟨r1, t1, e1, a1, b1, k1⟩ := take_ok (G := G ++ [.ml (fs.map DV.int)]) (m := (ws.length : Int)) h (by omega) (by omega) (by omega)
  obtain ⟨r2, t2, e2, a2, b2, k2⟩ := take_ok (G := G ++ [.ml (fs.map DV.int)]) (m := (ws.length : Int)) k1 (by omega) (by omega) (by omega)
  obtain ⟨r3, t3, e3, a3, b3, k3⟩ := take_ok (G := G ++ [.ml (fs.map DV.int)]) (m := 4) k2 (by omega) (by decide) (by decide)
  have ll : ∀ t : Dk, lenD [.ptr (G.length + 2)] (t.st (G ++ [.ml (fs.map DV.int)])) = some (.int (fs.length : Nat), t.st (G ++ [.ml (fs.map DV.int)])) := fun t => by
    simp [lenD]
  obtain ⟨d, hd, hd2⟩ := pick4 (a := .int 0) (b := .int (fs.length : Nat)) (c := .int r1) (e := .int r2) a3 b3
  obtain ⟨mo, rfl, m0⟩ : ∃ mo : Nat, d = .int (mo : Nat) ∧ mo ≤ fs.length := by
    rcases hd2 with rfl | rfl | rfl | rfl
    · exact ⟨0, rfl, by omega⟩
    · exact ⟨fs.length, rfl, by omega⟩
    · exact ⟨r1.toNat, by rw [Int.toNat_of_nonneg a1], by omega⟩
    · exact ⟨r2.toNat, by rw [Int.toNat_of_nonneg a2], by omega⟩
  have xd : ∀ S, ixD (.lst [.int 0, .int (fs.length : Nat), .int r1, .int r2]) (.int r3) S = some (.int (mo : Nat), S) := fun S => ixD_lst hd
  obtain ⟨acc, S', e, out, left, t4, rfl, rfl, hp, hlen, k4⟩ := lcL_inv (tgt := dName 4) (tt := dYes) (te := (dBM "list" popAtD (dVar 2) (dCons (dCall 2 f_law_take_z [] (dCons (dVar 0) (dCons (dCB lenD (dCons (dVar 2) dNil)) dNil))) dNil))) (vs := [4])
    (s := [some (.ptr 1), some (dI ws), some (.ptr (G.length + 2)), some (.int (mo : Nat)), none]) (fun k acc S => ∃ (out left : List Int) (t' : Dk), acc = out.map DV.int ∧ S = t'.st (G ++ [.ml (left.map DV.int)]) ∧ (out ++ left).Perm fs ∧ left.length + k = fs.length ∧ t'.ok (N + 3 + k))
    (xs := (List.range mo).map fun i => DV.int (0 + (i : Nat))) (acc := []) (S := t3.st (G ++ [.ml (fs.map DV.int)])) (k := 0) ⟨[], fs, t3, rfl, rfl, List.Perm.refl _, rfl, k3.mono (by omega)⟩ (by
      rintro i x acc S hx ⟨out, left, t', rfl, rfl, hp, hlen, hk⟩
      have hi : i < mo := by simpa using (List.getElem?_eq_some_iff.mp hx).1
      obtain ⟨r, t'', e, r0, r1, k⟩ := take_ok (G := G ++ [.ml (left.map DV.int)]) (m := left.length) hk (by omega) (by omega) (by omega)
      have hr : r.toNat < left.length := by omega
      have hlr : lenD [.ptr (G.length + 2)] (t'.st (G ++ [.ml (left.map DV.int)])) = some (.int (left.length : Nat), t'.st (G ++ [.ml (left.map DV.int)])) := by
        simp [lenD]
      have hpop : popAtD (.ptr (G.length + 2)) [.int r] (t''.st (G ++ [.ml (left.map DV.int)])) = some (.int (left[r.toNat]), t''.st (G ++ [.ml ((left.eraseIdx r.toNat).map DV.int)])) := pop_at (S := t''.st G) r0 hr (by omega)
      refine ⟨_, _, true, _, rfl, rfl, ?_⟩
      rw [if_pos rfl]
      refine ⟨.int left[r.toNat], t''.st (G ++ [.ml ((left.eraseIdx r.toNat).map DV.int)]), ?_, out ++ [left[r.toNat]], left.eraseIdx r.toNat, t'', by simp, rfl, ?_, ?_, k.mono (by omega)⟩
      · simp [wipeD, hlr, e, hpop]
      · refine List.Perm.trans ?_ hp
        rw [List.append_assoc]
        refine List.Perm.append_left _ ?_
        rw [List.eraseIdx_eq_take_drop_succ]
        have e3 : left = left.take r.toNat ++ left[r.toNat] :: left.drop (r.toNat + 1) := by
          rw [← List.drop_eq_getElem_cons hr, List.take_append_drop]
        refine List.Perm.trans (List.perm_middle.symm : (left[r.toNat] :: (left.take r.toNat ++ left.drop (r.toNat + 1))).Perm _) ?_
        rw [← e3]
      · rw [List.length_eraseIdx_of_lt hr]
        omega)
  have ol : out.length ≤ fs.length := by
    have := hp.length_eq
    rw [List.length_append] at this
    omega
  have nd : out.Nodup := (List.nodup_append.mp (hp.nodup_iff.mpr fn)).1
  have hb : Bo ws.length out := ⟨fun b hb => fm b (hp.mem_iff.mp (List.mem_append_left _ hb)), nd, by omega⟩
  rw [Nat.zero_add, List.length_map, List.length_range] at k4
  refine ⟨out, t4, ?_, hb, by omega, k4.mono (by omega)⟩
  have hrg : RgS ((mo : Nat) : Int) := rgS_of (by omega) (by omega)
  refine fn_rt (d := dI out) (S1 := t4.st (G ++ [.ml (left.map DV.int)])) ?_ (exF_dk (clos_map (fun _ => rfl) out) fun n z => by cases z)
  refine seq_nx (asg_name (rg _ rfl)) ?_
  refine seq_nx (asg_name (d := .int (mo : Nat)) (S1 := t3.st (G ++ [.ml (fs.map DV.int)])) (by simp [lw, ll, e1, e2, e3, xd])) ?_
  refine ret_of ((lc_of (it := .rg 0 mo) (S1 := t3.st (G ++ [.ml (fs.map DV.int)])) ?_ rfl e (by simp; omega)).trans rfl)
  simp [hrg]
end FB
end
section
namespace FW
open PySem PyProof.Rows PySem.Spec L2 DL
/-! ### a row and a row behind it, a bolted flap between -/
noncomputable def joinZ (a : List Tk) (Z1 Z2 : Nat → Rat) (k : Nat) : Rat := if k ≤ a.length then Z1 k else Am a + Z2 (k - a.length)
theorem Ya_all (a : List Tk) : Ya a a.length = Am a := by
  unfold Ya
  rw [List.take_length]
structure Cut (a b : List Tk) (bs bs1 bs2 : List Int) : Prop where
  c : (a.length : Int) ∈ bs
  l : ∀ k : Nat, 0 < k → k < a.length → ((k : Int) ∈ bs ↔ (k : Int) ∈ bs1)
  r : ∀ k : Nat, 0 < k → k < b.length → (((a.length + k : Nat) : Int) ∈ bs ↔ (k : Int) ∈ bs2)
theorem Rst.join {a b : List Tk} {bs bs1 bs2 : List Int} {Z1 Z2 : Nat → Rat} (R1 : Rst a bs1 Z1) (R2 : Rst b bs2 Z2) (C : Cut a b bs bs1 bs2) : Rst (a ++ b) bs (joinZ a Z1 Z2) := by
  have lo : ∀ k, k ≤ a.length → joinZ a Z1 Z2 k = Z1 k := fun k hk => by unfold joinZ; rw [if_pos hk]
  have z0 : Z2 0 = 0 := by rw [R2.ends 0 (Nat.zero_le _) (.inl rfl), Y0]
  have z1 : Z1 a.length = Am a := by rw [R1.ends a.length (Nat.le_refl _) (.inr (.inl rfl)), Ya_all]
  have hi : ∀ k, joinZ a Z1 Z2 (a.length + k) = Am a + Z2 k := fun k => by
    by_cases hk : k = 0
    · subst hk
      rw [Nat.add_zero, lo _ (Nat.le_refl _), z1, z0, Rat.add_zero]
    · unfold joinZ
      rw [if_neg (by omega), Nat.add_sub_cancel_left]
  refine ⟨fun k hk => ?_, fun k hk h => ?_, fun k h0 h1 h2 => ?_⟩
  · rw [List.length_append] at hk
    by_cases h : k ≤ a.length
    · rw [lo k h, Ya_lo h]
      exact R1.le k h
    · obtain ⟨j, rfl⟩ : ∃ j, k = a.length + j := ⟨k - a.length, by omega⟩
      rw [hi, Ya_hi]
      have := R2.le j (by omega)
      grind
  · rw [List.length_append] at hk h
    by_cases h' : k ≤ a.length
    · rw [lo k h', Ya_lo h']
      refine R1.ends k h' ?_
      rcases h with h | h | h
      · exact .inl h
      · exact .inr (.inl (by omega))
      · by_cases e : k = a.length
        · exact .inr (.inl e)
        · by_cases e0 : k = 0
          · exact .inl e0
          · exact .inr (.inr ((C.l k (by omega) (by omega)).mp h))
    · obtain ⟨j, rfl⟩ : ∃ j, k = a.length + j := ⟨k - a.length, by omega⟩
      rw [hi, Ya_hi, R2.ends j (by omega) ?_]
      rcases h with h | h | h
      · omega
      · exact .inr (.inl (by omega))
      · by_cases e : j = b.length
        · exact .inr (.inl e)
        · exact .inr (.inr ((C.r j (by omega) (by omega)).mp h))
  · rw [List.length_append] at h1
    by_cases hk : k < a.length
    · obtain ⟨s, u, su, g1, g2, g3⟩ := R1.flap k h0 hk fun z => h2 ((C.l k h0 hk).mpr z)
      refine ⟨s, u, su, ?_, ?_, fun z => ?_⟩
      · rw [lo _ (by omega), lo _ (by omega), Xa_lo (by omega), Xa_lo (by omega)]
        exact g1
      · rw [lo _ (show k + 1 ≤ a.length by omega), lo _ (by omega), Xa_lo (show k + 1 ≤ a.length by omega), Xa_lo (by omega)]
        exact g2
      · rw [lo _ (by omega), Ya_lo (by omega)]
        exact g3 z
    · have hne : k ≠ a.length := fun e => h2 (by rw [e]; exact C.c)
      obtain ⟨j, rfl⟩ : ∃ j, k = a.length + j := ⟨k - a.length, by omega⟩
      have hj : 0 < j := by omega
      obtain ⟨s, u, su, g1, g2, g3⟩ := R2.flap j hj (by omega) fun z => h2 ((C.r j hj (by omega)).mpr z)
      refine ⟨s, u, su, ?_, ?_, fun z => ?_⟩
      · rw [show a.length + j - 1 = a.length + (j - 1) by omega, hi, hi, Xa_hi, Xa_hi]
        grind
      · rw [show a.length + j + 1 = a.length + (j + 1) by omega, hi, hi, Xa_hi, Xa_hi]
        grind
      · rw [hi, Ya_hi, g3 z]
theorem rest_join {a b : List Tk} {bs bs1 bs2 : List Int} {m0 : Zc} (ha0 : a ≠ []) (hb0 : b ≠ []) (hok : ∀ t ∈ a ++ b, OkT m0 t) (hbs : ∀ x ∈ bs, 1 ≤ x ∧ x < ((a ++ b).length : Int)) (h1 : ∀ x ∈ bs1, 1 ≤ x ∧ x < (a.length : Int)) (h2 : ∀ x ∈ bs2, 1 ≤ x ∧ x < (b.length : Int)) (C : Cut a b bs bs1 bs2) :
    rest (a ++ b) bs = rest a bs1 ++ rest b bs2 := by
  have oa : ∀ t ∈ a, OkT m0 t := fun t ht => hok t (List.mem_append_left _ ht)
  have ob : ∀ t ∈ b, OkT m0 t := fun t ht => hok t (List.mem_append_right _ ht)
  have la := rest_len oa h1
  have lb := rest_len ob h2
  have R1 := zr_rst ha0 oa h1
  have R2 := zr_rst hb0 ob h2
  have hne : a ++ b ≠ [] := fun e => ha0 (List.append_eq_nil_iff.mp e).1
  refine rest_of hne hok hbs (by simp [la, lb]) fun k hk => ?_
  rw [(zr_rst hne hok hbs).uniq (R1.join R2 C) (fun t ht => (hok t ht).lo) hk |>.symm]
  rw [List.length_append] at hk
  have ra : rsum (rest a bs1) = Am a := by
    have := rest_sum ha0 oa h1
    rw [this, ← Ya_all a, Ya_rsum, List.take_of_length_le (by simp)]
  unfold joinZ
  by_cases h : k ≤ a.length
  · rw [if_pos h, List.take_append_of_le_length (by omega)]
    rfl
  · rw [if_neg h, List.take_append, List.take_of_length_le (by omega), rsum_app, ra, la]
    rfl
end FW
end
section
namespace FW
open PySem PyProof.Rows PySem.Spec L2 DL
section
variable {S S1 X : Sto} {n m : Nat} {ws ws' : List Int} {wss wss' : List (List Rat)} {sts sts' : List (List Int × List Rat)} {s : Sl}
theorem HAt.app (h : HAt S n ws wss sts) (X : Sto) : HAt (S ++ X) n ws wss sts := by
  have l1 := (List.getElem?_eq_some_iff.mp h.w).1
  exact ⟨by rw [List.getElem?_append_left (by omega)]; exact h.o, by rw [List.getElem?_append_left (by omega)]; exact h.s, by rw [List.getElem?_append_left l1]; exact h.w⟩
theorem HAt.same (h : HAt S n ws wss sts) (e : ∀ k, n ≤ k → k ≤ n + 2 → S1[k]? = S[k]?) : HAt S1 n ws wss sts :=
  ⟨(e n (by omega) (by omega)).trans h.o, (e (n + 1) (by omega) (by omega)).trans h.s, (e (n + 2) (by omega) (by omega)).trans h.w⟩
theorem HAt.other (h : HAt S n ws wss sts) (hne : n + 3 ≤ m ∨ m + 3 ≤ n) : HAt (FW.hset S m wss' sts') n ws wss sts :=
  h.same fun k h1 h2 => hset_ne (by omega) (by omega)
theorem HAt.lt (h : HAt S n ws wss sts) : n + 2 < S.length := (List.getElem?_eq_some_iff.mp h.w).1
theorem HAt.meth {mm : Str} {nn : Nat} {g : List DV → Sto → Option (DV × Sto)} {dd xs : List DV} {fe : DE} {fa : DA} (h : HAt S n ws wss sts) (e : fe s S = some (.ptr n, S)) (hm : (hfl n ws).lookup mm = none) (ha : fa s S = some (xs, S1)) (hl : (DV.ptr n :: (xs ++ dd)).length = nn) :
    dMeth "History" mm nn g dd fe fa s S = g (.ptr n :: (xs ++ dd)) S1 := by
  unfold dMeth
  rw [e, bnd_some', h.ins]
  simp only
  rw [if_pos ⟨trivial, hm⟩, ha, bnd_some', if_pos hl]
end
theorem make_ok {S S1 : Sto} {s : Sl} {ws : List Int} {r : List Rat} {fa : DA} (f : Flo ws) (R0 : Wt 0 ws r) (ha : fa s S = some ([dI ws, dF r], S1)) : dMake "History" 3 f_History_init_r [] fa s S = some (.ptr S1.length, S1 ++ hobj S1.length ws [r] []) := by
  unfold dMake
  rw [ha, bnd_some', if_pos (by rfl)]
  exact init_ok f R0
/-- chosen, and changed -/
theorem lcL_fm {tgt : DG} {tt : DT} {te : DE} {vs : List Nat} {s : Sl} {S : Sto} {P : Int → Bool} {f : Int → Int} : ∀ {xs : List Int} {acc : List DV}, (∀ x ∈ xs, ∃ s1, tgt (.int x) (wipeD s vs) S = some (s1, S) ∧ tt s1 S = some (P x, S) ∧ te s1 S = some (.int (f x), S)) →
    lcL tgt tt te vs (xs.map DV.int) acc s S = some (acc ++ ((xs.filter P).map f).map DV.int, S)
  | [], acc, _ => by simp [lcL]
  | x :: xs, acc, h => by
    obtain ⟨s1, h1, h2, h3⟩ := h x (List.mem_cons_self)
    have ih := fun acc => lcL_fm (tgt := tgt) (tt := tt) (te := te) (vs := vs) (s := s) (S := S) (P := P) (f := f) (xs := xs) (acc := acc) fun y hy => h y (List.mem_cons_of_mem _ hy)
    simp only [List.map_cons, lcL, h1, h2, bnd_some']
    cases hp : P x with
    | true => simp [hp, h3, ih]
    | false => simp [hp, ih]
theorem inD_at {neg : Bool} {f : Int} {ns : List Int} {d : DV} {S : Sto} (h : rdL S d = some (ns.map DV.int)) : inD neg (.int f) d S = some (.bl (if neg then !decide (f ∈ ns) else decide (f ∈ ns)), S) := by
  have h1 := toVs_map ns
  have h2 := inV_map f ns
  simp [inD, h, toV, h1, h2]
/-- a comprehension over numbers -/
theorem lcL_rg {tgt : DG} {te : DE} {vs : List Nat} {s : Sl} {S : Sto} (lo n : Nat) (g : Nat → Rat) (h : ∀ i, i < n → ∃ s1, tgt (.int ((lo + i : Nat) : Int)) (wipeD s vs) S = some (s1, S) ∧ te s1 S = some (fr (g i), S)) :
    lcL tgt dYes te vs ((List.range n).map fun i => DV.int ((lo : Int) + (i : Nat))) [] s S = some (((List.range n).map g).map fr, S) := by
  have key := lcL_map (tgt := tgt) (tt := dYes) (te := te) (vs := vs) (s := s) (S := S) (g := fun d => match d with | .int i => fr (g (i.toNat - lo)) | d => d) (xs := (List.range n).map fun i => DV.int ((lo : Int) + (i : Nat))) (acc := []) (fun x hx => by
    obtain ⟨i, hi, rfl⟩ := List.mem_map.mp hx
    obtain ⟨s1, e1, e2⟩ := h i (List.mem_range.mp hi)
    refine ⟨s1, ?_, rfl, ?_⟩
    · rw [← e1]
      push_cast
      rfl
    · rw [e2]
      have : (((lo : Int) + (i : Nat)).toNat - lo) = i := by omega
      simp only [this])
  rw [key, List.nil_append, List.map_map, List.map_map]
  congr 2
  refine List.map_congr_left fun i _ => ?_
  have : (((lo : Int) + (i : Nat)).toNat - lo) = i := by omega
  simp only [Function.comp, this]
theorem Wt.sz {j : Nat} {ws : List Int} {w : List Rat} (h : Wt j ws w) (f : Flo ws) (hj : j ≤ 11) (k : Nat) : Sz 1400 (rsum (w.take k)) := by
  have R := h.row f hj
  have hz := hz_l R.ok (by rw [R.ll]; exact R.zl)
  rw [R.l2, zj_B hj] at hz
  by_cases hk : k ≤ w.length
  · refine hz.2 _ ?_
    have e := hf_rsum (r := w) (k := k) 0 hk
    rw [Rat.zero_add] at e
    exact List.mem_of_getElem? e
  · rw [List.take_of_length_le (by omega)]
    refine hz.2 _ ?_
    have e := hf_rsum (r := w) (k := w.length) 0 (Nat.le_refl _)
    rw [Rat.zero_add, List.take_of_length_le (Nat.le_refl _)] at e
    exact List.mem_of_getElem? e
/-- a part of a row -/
theorem Flo.take {ws : List Int} (f : Flo ws) {c : Nat} (h : 0 < c) : Flo (ws.take c) := by
  have hp := List.length_pos_iff.mpr f.ne
  exact ⟨fun e => by have := congrArg List.length e; rw [List.length_take, List.length_nil] at this; omega, fun w hw => f.fl w (List.mem_of_mem_take hw), by rw [List.length_take]; have := f.n; omega⟩
theorem Flo.drop {ws : List Int} (f : Flo ws) {c : Nat} (h : c < ws.length) : Flo (ws.drop c) :=
  ⟨fun e => by have := congrArg List.length e; rw [List.length_drop, List.length_nil] at this; omega, fun w hw => f.fl w (List.mem_of_mem_drop hw), by rw [List.length_drop]; have := f.n; omega⟩
end FW
end
section
namespace FW
open PySem PyProof.Rows PySem.Spec L2 DL
/-- what rests, rests -/
theorem rest_again {z z' : Zc} {ws : List Int} {qs w : List Rat} {bs bs' : List Int} (R : Row z ws qs) (hb : Bo ws.length bs) (hw : w = rest (ws.zip qs) bs) (R' : Row z' ws w) (hb' : Bo ws.length bs') (hs : ∀ b ∈ bs, b ∈ bs') : rest (ws.zip w) bs' = w := by
  have Z0 := zr_rst R.zne R.ok (R.bb hb)
  have lw : w.length = ws.length := by rw [hw]; exact R.rlen hb
  have yR : ∀ k, k ≤ ws.length → Ya (ws.zip w) k = Zr (ws.zip qs) bs k := fun k hk => by rw [R'.ya, hw]; rfl
  have hx : ∀ k, Xa (ws.zip w) k = Xa (ws.zip qs) k := fun k => Xa_fst (R'.l1.trans R.l1.symm) k
  have Z2 : Rst (ws.zip w) bs' (Zr (ws.zip qs) bs) := by
    refine ⟨fun k hk => ?_, fun k hk h => ?_, fun k h0 h1 h2 => ?_⟩
    · rw [R'.ll] at hk
      rw [yR k hk]
      exact Rat.le_refl
    · rw [R'.ll] at hk
      rw [yR k hk]
    · rw [R'.ll] at h1
      obtain ⟨s, u, su, g1, g2, g3⟩ := Z0.flap k h0 (by rw [R.ll]; exact h1) fun e => h2 (hs _ e)
      refine ⟨s, u, su, by rw [hx, hx]; exact g1, by rw [hx, hx]; exact g2, fun _ => ?_⟩
      rw [yR k (by omega)]
  refine rest_of R'.zne R'.ok (R'.bb hb') (by rw [R'.ll, lw]) fun k hk => ?_
  rw [R'.ll] at hk
  have e : rsum (w.take k) = Zr (ws.zip qs) bs k := by rw [hw]; rfl
  rw [e]
  exact (zr_rst R'.zne R'.ok (R'.bb hb')).uniq Z2 (fun t ht => (R'.ok t ht).lo) (by rw [R'.ll]; exact hk)
/-- heights at a flap that isn't bolted -/
theorem rest_flap {z : Zc} {ws : List Int} {qs w : List Rat} {bs : List Int} (R : Row z ws qs) (hb : Bo ws.length bs) (hw : w = rest (ws.zip qs) bs) {k : Nat} (h0 : 0 < k) (h1 : k < ws.length) (h2 : (k : Int) ∉ bs) {p q : Rat} {V W : Int} (hp : w[k - 1]? = some p) (hq : w[k]? = some q) (hV : ws[k - 1]? = some V) (hW : ws[k]? = some W) : p * W ≤ q * V := by
  obtain ⟨s, u, su, g1, g2, _⟩ := (zr_rst R.zne R.ok (R.bb hb)).flap k h0 (by rw [R.ll]; exact h1) h2
  have r1 := rsum_step hp
  have r2 := rsum_step hq
  have e1 : Zr (ws.zip qs) bs k - Zr (ws.zip qs) bs (k - 1) = p := by
    rw [← r1, hw, show k - 1 + 1 = k by omega]
    rfl
  have e2 : Zr (ws.zip qs) bs (k + 1) - Zr (ws.zip qs) bs k = q := by
    rw [← r2, hw]
    rfl
  have x : ∀ (k : Nat) (V : Int), ws[k]? = some V → Xa (ws.zip qs) (k + 1) - Xa (ws.zip qs) k = (V : Rat) := fun k V hk => by
    unfold Xa
    rw [← sum_Wi, ← sum_Wi, List.map_take, List.map_take, R.l1, List.take_succ, hk]
    simp only [Option.toList, List.sum_append, List.sum_cons, List.sum_nil, Int.add_zero, Rat.intCast_add]
    grind
  have x1 := x (k - 1) V hV
  have x2 := x k W hW
  rw [show k - 1 + 1 = k by omega] at x1
  rw [e1, x1] at g1
  rw [e2, x2] at g2
  have hV1 := (R.fl V (List.mem_of_getElem? hV)).1
  have hW1 := (R.fl W (List.mem_of_getElem? hW)).1
  rw [g1, g2]
  exact mul_le2 su (by exact_mod_cast (by omega : (0 : Int) ≤ V)) (by exact_mod_cast (by omega : (0 : Int) ≤ W))
theorem cross_le {p q : Rat} {V W : Int} (h : p * W ≤ q * V) : p.num * q.den * W ≤ q.num * p.den * V := by
  have hp : p * (p.den : Rat) = (p.num : Rat) := by
    have h4 := Rat.mkRat_self p
    rw [Rat.mkRat_eq_div] at h4
    have : (p.den : Rat) ≠ 0 := by exact_mod_cast p.den_nz
    grind
  have hq : q * (q.den : Rat) = (q.num : Rat) := by
    have h4 := Rat.mkRat_self q
    rw [Rat.mkRat_eq_div] at h4
    have : (q.den : Rat) ≠ 0 := by exact_mod_cast q.den_nz
    grind
  have pd : (0 : Rat) ≤ (p.den : Rat) := by exact_mod_cast Nat.zero_le _
  have qd : (0 : Rat) ≤ (q.den : Rat) := by exact_mod_cast Nat.zero_le _
  have m := mul_le_left (mul_le_left h pd) qd
  refine Rat.intCast_le_intCast.mp ?_
  simp only [Rat.intCast_mul, Rat.intCast_natCast, ← hp, ← hq]
  grind
theorem nodup_le : ∀ {l m : List Int}, l.Nodup → (∀ x ∈ l, x ∈ m) → l.length ≤ m.length
  | [], _, _, _ => Nat.zero_le _
  | x :: l, m, h, hs => by
    obtain ⟨h1, h2⟩ := List.nodup_cons.mp h
    have hx := hs x (List.mem_cons_self)
    have ih := nodup_le (l := l) (m := m.erase x) h2 fun y hy => (List.mem_erase_of_ne (fun e => h1 (by rw [← e]; exact hy))).mpr (hs y (List.mem_cons_of_mem _ hy))
    have := List.length_erase_of_mem hx
    have := List.length_pos_of_mem hx
    rw [List.length_cons]
    omega
theorem bo_all {n : Nat} {bs : List Int} (hb : Bo n bs) (hl : bs.length = n - 1) {k : Nat} (h0 : 0 < k) (h1 : k < n) : (k : Int) ∈ bs := by
  refine Classical.byContradiction fun hk => ?_
  have hm : (k : Int) ∈ (List.range (n - 1)).map (fun (i : Nat) => (1 : Int) + (i : Int)) := List.mem_map.mpr ⟨k - 1, List.mem_range.mpr (by omega), by omega⟩
  have := nodup_le (l := bs) (m := ((List.range (n - 1)).map (fun (i : Nat) => (1 : Int) + (i : Int))).erase (k : Int)) hb.2.1 fun y hy => by
    refine (List.mem_erase_of_ne (fun e => hk (by rw [← e]; exact hy))).mpr ?_
    have := hb.1 y hy
    exact List.mem_map.mpr ⟨y.toNat - 1, List.mem_range.mpr (by omega), by omega⟩
  rw [List.length_erase_of_mem hm, List.length_map, List.length_range] at this
  omega
theorem hf_last : ∀ (qs : List Rat) (a : Rat), ∃ xs, hf a qs = xs ++ [a + rsum qs]
  | [], a => ⟨[], by simp [hf, rsum, Rat.add_zero]⟩
  | q :: qs, a => by
    obtain ⟨xs, e⟩ := hf_last qs (a + q)
    refine ⟨a :: xs, ?_⟩
    simp only [hf, e, rsum, List.cons_append]
    congr 3
    grind
theorem ix_hf {qs : List Rat} {S : Sto} : ixD (dF (hf 0 qs)) (.int (-1)) S = some (fr (rsum qs), S) := by
  obtain ⟨xs, e⟩ := hf_last qs 0
  have : L2.atI ((hf 0 qs).map fr) (-1) = some (fr (rsum qs)) := by
    rw [e, List.map_append, Rat.zero_add]
    exact L2.atI_last _ _
  exact ixD_lst this
end FW
end
section
namespace FB
open PySem PyProof.Rows PySem.Spec L2 DL FW
/-! ### each def as a function of data -/
noncomputable def b_law_heap_z : DS :=
    (dSeq (dAsg (dLst true (dCons (dTup (dCons (dC (.int 0)) (dCons (dC (.int 1)) dNil))) dNil)) (dName 1))
    (dSeq (dFor (diL (dVar 0)) (dName 2)
    (dDrop (dBM "list" appendD (dVar 1) (dCons (dCall 2 f_law_sum_z [] (dCons (dOp ixD (dVar 1) (dUn negD (dC (.int 1)))) (dCons (dVar 2) dNil))) dNil))))
    (dRet (dVar 1))))
noncomputable def f_law_heap_z : List DV → Sto → Option (DV × Sto) := fnF (some false) 3 b_law_heap_z
noncomputable def b_law_both_z : DS :=
    (dRet (dLc false (diZ (dCons (dVar 0) (dCons (dVar 1) dNil))) (dGTup 2 (dGCons (dName 2) (dGCons (dName 3) dGNil))) dYes (dCall 2 f_law_sum_z [] (dCons (dVar 2) (dCons (dVar 3) dNil))) [2, 3]))
noncomputable def f_law_both_z : List DV → Sto → Option (DV × Sto) := fnF (some false) 4 b_law_both_z
theorem law_heap_loop {S : Sto} {x y : Option DV} {B : Nat} (hB : B ≤ 3500) : ∀ (qs : List Rat) (a : Rat) (acc : List Rat) (y : Option DV), (∀ x ∈ hf a qs, Sz B x) → (∀ q ∈ qs, Sz B q) → acc.length + qs.length + 1 < 100000 →
    ∃ y', forL (dName 2) (dDrop (dBM "list" appendD (dVar 1) (dCons (dCall 2 f_law_sum_z [] (dCons (dOp ixD (dVar 1) (dUn negD (dC (.int 1)))) (dCons (dVar 2) dNil))) dNil))) (qs.map fr) [x, some (.ptr S.length), y] (S ++ [.ml ((acc ++ [a]).map fr)]) =
      some (.nx [x, some (.ptr S.length), y'] (S ++ [.ml ((acc ++ hf a qs).map fr)]))
  | [], a, acc, y, _, _, _ => ⟨y, by simp [forL, hf]⟩
  | q :: qs, a, acc, y, ha, hq, hl => by
    have hq0 := hq q (List.mem_cons_self)
    obtain ⟨y', e⟩ := law_heap_loop (S := S) (x := x) (y := y) hB qs (a + q) (acc ++ [a]) (some (fr q)) (fun x hx => ha x (List.mem_cons_of_mem _ hx)) (fun p hp => hq p (List.mem_cons_of_mem _ hp)) (by simp at hl ⊢; omega)
    refine ⟨y', ?_⟩
    have hp := law_sum_ok (S := S ++ [.ml ((acc ++ [a]).map fr)]) (ha a List.mem_cons_self) hq0 (by omega)
    have h1 : ixD (.ptr S.length) (.int (-1)) (S ++ [.ml ((acc ++ [a]).map fr)]) = some (fr a, S ++ [.ml ((acc ++ [a]).map fr)]) := by
      have : L2.atI ((acc ++ [a]).map fr) (-1) = some (fr a) := by
        rw [List.map_append]
        exact L2.atI_last _ _
      simp only [ixD, rdL_top, Option.or, this]
    have h2 := appendD_top (S := S) (ds := (acc ++ [a]).map fr) (d := fr (a + q)) (by simp at hl ⊢; omega)
    have e3 : ((acc ++ [a]).map fr ++ [fr (a + q)]) = (acc ++ [a] ++ [a + q]).map fr := by simp
    rw [e3] at h2
    simp only [List.map_cons, forL, dName, List.set_cons_succ, List.set_cons_zero, dDrop, dBM, dVar, List.getElem?_cons_zero, List.getElem?_cons_succ, bnd_some', rdL_top, Option.isSome_some, and_self, if_true, dCons, dCall, dOp, dUn, dC, negD_int, h1, dNil, List.append_nil, List.length_cons, List.length_nil, hp, h2, kLoop]
    rw [e]
    simp [hf]
theorem law_heap_ok {S : Sto} {qs : List Rat} {B : Nat} (h : Hz B qs) (hB : B ≤ 3500) (hl : qs.length < 10000) : f_law_heap_z [dF qs] S = some (dF (hf 0 qs), S) := by
  obtain ⟨y', e⟩ := law_heap_loop (S := S) (x := some (dF qs)) (y := none) hB qs 0 [] none h.2 h.1 (by simp; omega)
  have e0 : DV.tup [.int 0, .int 1] = fr 0 := rfl
  simp only [List.map_append, List.nil_append, List.map_cons, List.map_nil] at e
  simp [f_law_heap_z, fnF, b_law_heap_z, dFor_eq, diL, dF, e0] at e ⊢
  rw [e]
  simp [exF_top, clos_fr]
theorem law_both_ok {xs ys : List Rat} {B : Nat} {S : Sto} (hn : xs.length ≤ 1000) (hx : ∀ q ∈ xs, Sz B q) (hy : ∀ q ∈ ys, Sz B q) (hB : B ≤ 3500) :
    f_law_both_z [dF xs, dF ys] S = some (dF (List.zipWith (· + ·) xs ys), S) := by
  refine fn_rt (d := dF (List.zipWith (· + ·) xs ys)) (S1 := S) (ret_of ?_) (by simp)
  have e := lcL_zipmap (tgt := dGTup 2 (dGCons (dName 2) (dGCons (dName 3) dGNil))) (te := dCall 2 f_law_sum_z [] (dCons (dVar 2) (dCons (dVar 3) dNil))) (vs := [2, 3]) (s := [some (dF xs), some (dF ys), none, none]) (S := S) (g := fun x y => fr (x + y)) xs ys (fun k x y h1 h2 => by
    have := law_sum_ok (S := S) (hx x (List.mem_of_getElem? h1)) (hy y (List.mem_of_getElem? h2)) (by omega)
    exact ⟨[some (dF xs), some (dF ys), some (fr x), some (fr y)], by simp [wipeD], by simp [this]⟩)
  refine (lc_of (it := .zp (dF xs) (dF ys)) (S1 := S) (by simp [diZ, dF]) rfl e (by simp; omega)).trans ?_
  rw [newL_f, dF, List.map_zipWith]
theorem _root_.FW.Wt.hz {j : Nat} {ws : List Int} {w : List Rat} (h : Wt j ws w) (f : Flo ws) (hj : j ≤ 11) : Hz 1400 w := by
  have R := h.row f hj
  have hz := hz_l R.ok (by rw [R.ll]; exact R.zl)
  rw [R.l2, zj_B hj] at hz
  exact hz
theorem _root_.FW.Wt.up {i j : Nat} {ws : List Int} {w : List Rat} (h : Wt i ws w) (hij : i ≤ j) : Wt j ws w :=
  ⟨h.len, h.pos, fun q hq => (dv_up (h.dv q hq) hij).le (tot_le hij), Rat.le_trans h.tot (by exact_mod_cast tot_le hij)⟩
theorem wt_zero {ws : List Int} (f : Flo ws) : Wt 0 ws (ws.map fun _ => (0 : Rat)) := wt_of f (by simp) fun q hq => by
  obtain ⟨_, _, rfl⟩ := List.mem_map.mp hq
  exact amt_zero
theorem put_zero : ∀ {ws : List Int} {w : List Rat}, w.length = ws.length → List.zipWith (· + ·) w (ws.map fun _ => (0 : Rat)) = w
  | [], [], _ => rfl
  | _ :: ws, q :: w, h => by
    have := put_zero (ws := ws) (w := w) (by simpa using h)
    simp [this, Rat.add_zero]
  | [], _ :: _, h => by cases h
  | _ :: _, [], h => by cases h
end FB
end
section
/-! == and != of two objects of an own class, by its own __eq__ -/
namespace HQ
open PySem PySem.Spec PyProof.Rows
section
variable {M : Model} {prog : Program} {w : World} {A : Around} {E : Value → Shared → Prop} {s : Shared} {K : PySem.W.Frag} {x C f : Addr} {y : Value} {ox : Obj} {od : Option Obj}
theorem ifBound_objNe {args : List Value} {Q : Option Value → Shared → Prop} (X : K.In s.heap) (I : PySem.W.InstAt s.heap x ox C od) (hs : PySem.W.findIn K (.ref C) "__ne__" = some (some (.builtin "object.__ne__")))
    (h : wpAny M A (call (.builtin "object.__ne__") (.ref x :: args)) (fun v => Q (some v)) E s) : wpAny M A (callSpecialIfBound? (.ref x) "__ne__" args) Q E s := by
  simp only [callSpecialIfBound?, bindSpecialIfBound?]
  refine wpAny_holding (wpAny_bind (wpAny_bind (wpAny_bind (I.type.here ((PySem.W.looks_findIn X hs).here ?_)))))
  refine wpAny_bind (wpAny_askSetting (wpAny_ite ?_))
  have fin : wpAny M A (call (.builtin "object.__ne__") ([.ref x] ++ args) >>= fun v => pure (some v)) Q E s := wpAny_bind (wpAny_mono h (fun v s' h' => wpAny_pure h') fun _ _ h' => h')
  split
  · exact wpAny_bind (wpAny_of_eq (F.cmp_object.ne.bind _) (wpAny_pure (by exact fin)))
  · exact wpAny_tryCatch (wpAny_bind (wpAny_of_eq (F.cmp_object.ne.bind _) (wpAny_pure (by exact fin))))
theorem entry_ne {Q : Fin → Shared → Prop} (X : K.In s.heap) (I : PySem.W.InstAt s.heap x ox C od) (hu : A.units < cLine) (hs : PySem.W.findIn K (.ref C) "__eq__" = some (some (.ref f))) (hf : PySem.W.isFn K (.ref f) = true)
    (h : wpAny (model prog w) A (call (.ref f) [.ref x, y]) (fun v s' => ∃ b, v = .bool b ∧ Q (.done (.ret (.bool (!b)))) s') E s) : wpAny (model prog w) A (Builtin.«object.__ne__» ⟨[.ref x, y], []⟩) Q E s := by
  unfold Builtin.«object.__ne__»
  repeat (first
    | with_reducible refine wpAny_cRoomFor hu ?_
    | (refine wpAny_bind (m := callSpecialIfBound? (.ref x) (Str.ofString "__eq__") [y])
        (PySem.W.ifBound_K X I hs hf (wpAny_mono h (fun r s' hr => by
          obtain ⟨b, rfl, hq⟩ := hr
          repeat (first | exact hq | exact wpAny_pure hq | exact wpAny_truthy_bool hq | (refine wpAny_bind (m := truthy (.bool _)) (wpAny_truthy_bool ?_)) | wp_step)) fun _ _ e => e)))
    | wp_step)
theorem rc_ne {Q : Value → Shared → Prop} (hu : A.units + 1 < cLine) (X : K.In s.heap) (I : PySem.W.InstAt s.heap x ox C od) (hy : PySem.W.Looks (model prog w) s.heap (typeOf y) (.ref C)) (hm : PySem.W.mroIn K C (.type "object") = some true)
    (hn : PySem.W.findIn K (.ref C) "__ne__" = some (some (.builtin "object.__ne__"))) (hs : PySem.W.findIn K (.ref C) "__eq__" = some (some (.ref f))) (hf : PySem.W.isFn K (.ref f) = true)
    (h : wpAny (model prog w) A.in1 (call (.ref f) [.ref x, y]) (fun v s' => ∃ b, v = .bool b ∧ Q (.bool (!b)) s') E s) : wpAny (model prog w) A (richCompare .NotEq (.ref x) y) Q E s := by
  have one : wpAny (model prog w) A (tryCompare (.ref x) "__ne__" y) (fun r s' => ∃ v, r = some v ∧ Q v s') E s := by
    unfold tryCompare
    refine wpAny_bind (ifBound_objNe X I hn ?_)
    refine wpAny_call (codeAny_call_builtin F.cmp_object.ne.plain F.cmpEntry_ne (PySem.W.check_slot F.cmpKind_ne F.cmpSplit_ne (I.type.andThen (PySem.W.looks_mroIn X hm)) (F.cmpArgs_ne _ _) (entry_ne (A := A.in1) X I hu hs hf (wpAny_mono h (fun v s' hv => ?_) fun _ _ e => e))))
    obtain ⟨b, rfl, hq⟩ := hv
    exact ⟨b, rfl, wpAny_pure ⟨_, rfl, hq⟩⟩
  unfold richCompare
  simp only [oneThing_ref]
  refine wpAny_holding (wpAny_bind (wpAny_cRoomFor (Nat.lt_of_succ_lt hu) ?_))
  rw [cmpInfo_NotEq]
  dsimp only
  refine wpAny_bind (I.type.here (wpAny_bind (hy.here ?_)))
  rw [show (Value.ref C != Value.ref C) = false from by simp]
  simp only [Bool.false_eq_true, if_false]
  refine wpAny_bind (wpAny_pure ?_)
  simp only [Bool.false_eq_true, if_false]
  refine wpAny_bind (wpAny_mono one (fun r s' z => ?_) fun _ _ e => e)
  obtain ⟨v, rfl, hq⟩ := z
  exact wpAny_pure hq
end
end HQ
namespace L2
open PySem PySem.Spec PyProof.Rows
/-- x == y, x != y by the class's own __eq__, that tells a truth -/
def rOwn (neg : Bool) (C : Addr) (sp : Sp) (E : XK) : R2 := fun x y H Q => ∃ a b dx dy fs gs, x = .ref a ∧ y = .ref b ∧ H a = some (.ins C dx fs) ∧ H b = some (.ins C dy gs) ∧ sp [.ref a, .ref b] H (fun v H' => ∃ k, v = .bl k ∧ Q (.bl (if neg then !k else k)) H') E
section
variable {X : Cx} {CX : CXT} {C f : Addr} {fd : FuncData} {ps : List Str} {sp : Sp} {E : XK} {n : Nat}
theorem own_call {A : Around} {pins : List (Addr × Obj)} {s : Shared} {σ : St} {H : Hp} {a b : Addr} {Q : VK} (F : FnOk X.prog X.w X.K X.mg X.base CX n f fd ps sp) (sb : Sub X n A) (hb : Binds X.K fd ps []) (hx : Passes CX X E) (I : Inv X pins σ H s)
    (hsp : sp [.ref a, .ref b] H Q E) : wpAny (model X.prog X.w) A (call (.ref f) [.ref a, .ref b]) (EP X pins σ Q) X.xe s := by
  have e0 : Env0 X.prog X.w X.K X.mg X.base A X.stack s H := by
    have e := I.env0
    exact ⟨by rw [sb.fr]; exact e.frames, e.mod, e.bs, e.bsz, e.funs, e.frf, e.hok, e.bare⟩
  have hl := F.len _ _ _ _ hsp
  have r2 : Vals [V.ref a, V.ref b] [Value.ref a, Value.ref b] := .cons rfl (.cons rfl .nil)
  refine wpAny_call (codeAny_mono (F.run A X.stack s H ⟨[.ref a, .ref b], []⟩ [.ref a, .ref b] [.ref a, .ref b] _ E sb.room e0 (by
    have := hb s [.ref a, .ref b] I.kIn (by simpa using hl)
    simpa using this) r2 hsp) fun r s' hq => ?_)
  cases r with
  | error e => exact hx pins σ H s e s' I hq
  | ok fl =>
    cases fl with
    | ret w =>
      obtain ⟨z, H', I', rz, q⟩ := I.after hq
      exact ⟨z, H', I', rz, q⟩
    | next => exact False.elim hq
    | brk => exact False.elim hq
    | cont => exact False.elim hq
theorem op_eqOwn (F : FnOk X.prog X.w X.K X.mg X.base CX n f fd ps sp) (hr : Room (n + 1) X.A) (hm : Meth X.K C "__eq__" f) (hb : Binds X.K fd ps []) (hx : Passes CX X E) : OpR X (compareOp .Eq) (rOwn false C sp E) := by
  intro pins s σ H x y v u Q I rx ry h
  obtain ⟨a, b, dx, dy, fs, gs, rfl, rfl, ha, hb', hsp⟩ := h
  cases rx
  cases ry
  obtain ⟨mA, J, _⟩ := ins_get I.hok ha
  obtain ⟨mB, J', _⟩ := ins_get I.hok hb'
  obtain ⟨od, J, _⟩ := J.look
  obtain ⟨od', J', _⟩ := J'.look
  obtain ⟨m, hF⟩ := I.fr
  show wpAny (model X.prog X.w) X.A (richCompare .Eq (.ref a) (.ref b)) (EP X pins σ Q) X.xe s
  refine PySem.W.cmp_K (op := .Eq) (tb := .ref C) hr.units0 hF I.ok.mod.kin J J'.type (by simp [PySem.W.notFirst]) hm.at_ hm.fn ?_
  refine wpAny_mono (own_call F ⟨hr.mono (Nat.le_succ _), rfl⟩ hb hx I hsp) (fun r s' q => ?_) fun _ _ e => e
  obtain ⟨z, H', I', rz, k, rfl, q⟩ := q
  cases rz
  exact ⟨.bl k, H', I', rfl, q⟩
theorem op_neOwn (F : FnOk X.prog X.w X.K X.mg X.base CX n f fd ps sp) (hr : Room (n + 1) X.A) (hm : Meth X.K C "__eq__" f) (hb : Binds X.K fd ps []) (hx : Passes CX X E)
    (hn : PySem.W.findIn X.K (.ref C) "__ne__" = some (some (.builtin "object.__ne__"))) (ho : PySem.W.mroIn X.K C (.type "object") = some true) : OpR X (compareOp .NotEq) (rOwn true C sp E) := by
  intro pins s σ H x y v u Q I rx ry h
  obtain ⟨a, b, dx, dy, fs, gs, rfl, rfl, ha, hb', hsp⟩ := h
  cases rx
  cases ry
  obtain ⟨mA, J, _⟩ := ins_get I.hok ha
  obtain ⟨mB, J', _⟩ := ins_get I.hok hb'
  obtain ⟨od, J, _⟩ := J.look
  obtain ⟨od', J', _⟩ := J'.look
  show wpAny (model X.prog X.w) X.A (richCompare .NotEq (.ref a) (.ref b)) (EP X pins σ Q) X.xe s
  refine HQ.rc_ne hr.in1.units0 I.kIn J J'.type ho hn hm.at_ hm.fn ?_
  refine wpAny_mono (own_call F ⟨hr.in1, rfl⟩ hb hx I hsp) (fun r s' q => ?_) fun _ _ e => e
  obtain ⟨z, H', I', rz, k, rfl, q⟩ := q
  cases rz
  exact ⟨k, rfl, .bl (!k), H', I', rfl, q⟩
end
end L2
namespace DL
open PySem PyProof.Rows PySem.Spec L2
section
variable {K : PySem.W.Frag} {mg : Str → Option Value} {C : Addr} {c : Str} {g : List DV → Sto → Option (DV × Sto)}
/-- a class whose != is object's -/
structure NeObj (K : PySem.W.Frag) (C : Addr) : Prop where
  ne : PySem.W.findIn K (.ref C) "__ne__" = some (some (.builtin "object.__ne__"))
  ob : PySem.W.mroIn K C (.type "object") = some true
def ownD (neg : Bool) (c : Str) (g : List DV → Sto → Option (DV × Sto)) : D2 := fun x y S => match insOf S x, insOf S y with
  | some (_, c1, _), some (_, c2, _) => if c1 = c ∧ c2 = c then bnd (g [x, y] S) fun d S1 => match d with
    | .bl k => some (.bl (if neg then !k else k), S1)
    | _ => none else none
  | _, _ => none
theorem ro_own {neg : Bool} {E : XK} (hc : mg c = some (.ref C)) : RO K mg (rOwn neg C (spF K mg 2 g) E) (ownD neg c g) := by
  intro W S x y v u d S' Q R hx hy e q
  unfold ownD at e
  split at e
  · rename_i n1 c1 fs1 n2 c2 fs2 e1 e2
    split at e
    · rename_i hcc
      obtain ⟨rfl, rfl⟩ := hcc
      obtain ⟨k, S1, e3, e⟩ := bnd_inv e
      obtain ⟨a, dx, vfs, rfl, _, _, _, _, h1, h2⟩ := insOf_ok R hc hx e1
      obtain ⟨b, dy, vgs, rfl, _, _, _, _, h3, h4⟩ := insOf_ok R hc hy e2
      refine ⟨a, b, dx, dy, vfs, vgs, rfl, rfl, h1, h3, rfl, W, S, [x, y], k, S1, rfl, R, ⟨_, _, rfl, hx, _, _, rfl, hy, rfl⟩, e3, fun v W' x' R' d' => ?_⟩
      split at e
      · rename_i k'
        cases e
        exact ⟨k', d', q _ W' x' R' rfl⟩
      · cases e
    · cases e
  · cases e
/-- isinstance of an own class, of one of its objects -/
def dIsC (c : Str) (f : DE) : DE := fun s S => bnd (f s S) fun x S1 => match insOf S1 x with
  | some (_, c1, _) => if c1 = c then some (.bl true, S1) else none
  | none => none
theorem re_isC {te : TE} {fa : DE} (hc : mg c = some (.ref C)) (h : RE K mg te fa) : RE K mg (tCB (fun xs H Q => ∃ a dx fs, xs = [.ref a, .ref C] ∧ H a = some (.ins C dx fs) ∧ Q (.bl true) H) (tCons te (tCons (tC (.ref C)) tNil))) (dIsC c fa) := by
  intro W σ s S d S' Q R L e0 q
  obtain ⟨x, S1, e1, e⟩ := bnd_inv e0
  clear e0
  refine h W σ s S x S1 _ R L e1 fun v W1 x1 R1 d1 => ?_
  split at e
  · rename_i n c1 fs e2
    split at e
    · rename_i hcc
      subst hcc
      cases e
      obtain ⟨a, dx, vfs, rfl, _, _, _, _, h1, h2⟩ := insOf_ok R1 hc d1 e2
      exact ⟨a, dx, vfs, rfl, h1, q _ W1 x1 R1 rfl⟩
    · cases e
  · cases e
end
end DL
end
section
namespace FW
open PySem PyProof.Rows PySem.Spec L2 DL
/-! ### histories: undone, their steps told, equal -/
noncomputable def b_History_eq_z : DS :=
    (dSeq (dIfS (dNot (dTest (dIsC "History" (dVar 1))))
    (dRet dNeverE) dNext)
    (dRet (dAndV (dOp eqD (dFld "History" "_floors" (dVar 0)) (dFld "History" "_floors" (dVar 1))) (dAndV (dOp eqD (dOp ixD (dFld "History" "_waters" (dVar 0)) (dC (.int 0))) (dOp ixD (dFld "History" "_waters" (dVar 1)) (dC (.int 0)))) (dOp eqD (dFld "History" "_steps" (dVar 0)) (dFld "History" "_steps" (dVar 1)))))))
noncomputable def f_History_eq_z : List DV → Sto → Option (DV × Sto) := fnF (some false) 2 b_History_eq_z
noncomputable def b_History_undo_z : DS :=
    (dSeq (dIfS (dNot (dTru (dFld "History" "_steps" (dVar 0))))
    dNever dNext)
    (dSeq (dDrop (dBM0 "list" popD (dFld "History" "_steps" (dVar 0))))
    (dDrop (dBM0 "list" popD (dFld "History" "_waters" (dVar 0))))))
noncomputable def f_History_undo_z : List DV → Sto → Option (DV × Sto) := fnF (some false) 1 b_History_undo_z
noncomputable def b_History_steps_z : DS :=
    (dRet (dLc false (diL (dFld "History" "_steps" (dVar 0))) (dGTup 2 (dGCons (dName 1) (dGCons (dName 2) dGNil))) dYes (dTup (dCons (dCB (listD false) (dCons (dVar 1) dNil)) (dCons (dCB (listD false) (dCons (dVar 2) dNil)) dNil))) [1, 2]))
noncomputable def f_History_steps_z : List DV → Sto → Option (DV × Sto) := fnF (some false) 3 b_History_steps_z
theorem init_okJ {j : Nat} {S : Sto} {ws : List Int} {r : List Rat} (f : Flo ws) (R0 : Wt j ws r) (hj : j ≤ 11) : mkD "History" f_History_init_r [dI ws, dF r] S = some (.ptr S.length, S ++ hobj S.length ws [r] []) := by
  have fl : ∀ x ∈ ws, 1 ≤ x := fun x hx => (f.fl x hx).1
  obtain ⟨S0, hS0⟩ : ∃ S0 : Sto, S0 = S ++ [.ins "History" []] := ⟨_, rfl⟩
  have c1 := check_floors_ok (S := S0) f.ne fl
  have sz2 : ∀ q ∈ r, Sz 1400 q := fun q hq => by
    have := (zj j).one q ((R0.row f hj).c q hq)
    rw [zj_B hj] at this
    exact this
  have c2 := check_water_ok (S := S0) (ns := ws) (qs := r) (n := 1400) R0.len (fun q hq => ⟨R0.pos q hq, sz2 q hq⟩) (by decide)
  have l0 : S0[S.length]? = some (.ins "History" []) := by
    rw [hS0]
    exact List.getElem?_concat_length
  have lf : listD false [dF r] S0 = some (dF r, S0) := by simp [listD, dF]
  have lw : listD false [dI ws] S0 = some (dI ws, S0) := by simp [listD, dI]
  have nb : nonB (dF r) = false := rfl
  have run : b_History_init_r (startD 4 [.ptr S.length, dI ws, dF r]) S0 = some (.nx [some (.ptr S.length), some (dI ws), some (dF r), some (dF r)] (S ++ hobj S.length ws [r] [])) := by
    refine seq_nx (drop_of (d := .non) (S1 := S0) (by simp [c1])) ?_
    refine seq_nx (asg_name (d := dF r) (S1 := S0) (by unfold dF at lf ⊢; simp [lf])) ?_
    refine seq_nx (drop_of (d := .non) (S1 := S0) (by simp [c2])) ?_
    refine seq_nx (fldS_at (y := dI ws) (S1 := S0) (n := S.length) (fs := []) (by simp [lw]) (by simp) l0 (by decide)) ?_
    rw [put_f]
    obtain ⟨S1, hS1⟩ : ∃ S1 : Sto, S1 = S ++ [.ins "History" [("_floors", dI ws)]] := ⟨_, rfl⟩
    have e1 : S0.set S.length (.ins "History" [("_floors", dI ws)]) = S1 := by
      rw [hS0, hS1]
      exact top_set
    rw [e1]
    refine seq_nx (fldS_at (y := .ptr (S.length + 1)) (S1 := S1 ++ [.ml []]) (n := S.length) (fs := [("_floors", dI ws)]) (by simp [hS1]) (by simp) (by rw [hS1]; simp) (by show 1 < 1000; decide)) ?_
    rw [put_s]
    obtain ⟨S2, hS2⟩ : ∃ S2 : Sto, S2 = S ++ [.ins "History" [("_floors", dI ws), ("_steps", .ptr (S.length + 1))], .ml []] := ⟨_, rfl⟩
    have e2 : (S1 ++ [MO.ml []]).set S.length (.ins "History" [("_floors", dI ws), ("_steps", .ptr (S.length + 1))]) = S2 := by
      rw [hS1, hS2, List.append_assoc, List.set_append_right _ _ (Nat.le_refl _)]
      simp
    rw [e2]
    refine (fldS_at (y := .ptr (S.length + 2)) (S1 := S2 ++ [.ml [dF r]]) (n := S.length) (fs := [("_floors", dI ws), ("_steps", .ptr (S.length + 1))]) (by simp [hS2]) (by simp) (by rw [hS2]; simp) (by show 2 < 1000; decide)).trans ?_
    rw [put_w]
    have e3 : (S2 ++ [MO.ml [dF r]]).set S.length (.ins "History" [("_floors", dI ws), ("_steps", .ptr (S.length + 1)), ("_waters", .ptr (S.length + 2))]) = S ++ hobj S.length ws [r] [] := by
      rw [hS2, List.append_assoc, List.set_append_right _ _ (Nat.le_refl _)]
      simp [hobj, hfl]
    rw [e3]
    simp
  unfold mkD
  rw [← hS0]
  have := fn_nx (m := none) (n := 4) run (exF_raw (S := S0) (d := DV.non))
  unfold f_History_init_r
  rw [this]
theorem make_okJ {j : Nat} {S S1 : Sto} {s : Sl} {ws : List Int} {r : List Rat} {fa : DA} (f : Flo ws) (R0 : Wt j ws r) (hj : j ≤ 11) (ha : fa s S = some ([dI ws, dF r], S1)) : dMake "History" 3 f_History_init_r [] fa s S = some (.ptr S1.length, S1 ++ hobj S1.length ws [r] []) := by
  unfold dMake
  rw [ha, bnd_some', if_pos (by rfl)]
  exact init_okJ f R0 hj


section
variable {α : Type} {tgt : DG} {tt : DT} {te : DE} {vs : List Nat} {s : Sl} {S : Sto} {it : DIt} {l : List α} {f g : α → DV}
theorem lcF_fixH (h : ∀ i, DL.itemAt it S i = some (l.map f)[i]?) (hs : ∀ a ∈ l, ∃ s1, tgt (f a) (wipeD s vs) S = some (s1, S) ∧ tt s1 S = some (true, S) ∧ te s1 S = some (g a, S)) :
    ∀ (k i : Nat) (acc : List DV), l.length < k + i → i ≤ l.length → lcF tgt tt te it vs k i acc s S = some (acc ++ (l.drop i).map g, S)
  | 0, i, acc, h1, h2 => by omega
  | k + 1, i, acc, h1, h2 => by
    unfold lcF
    rw [h i]
    by_cases hi : i < l.length
    · have e1 : (l.map f)[i]? = some (f l[i]) := by rw [List.getElem?_map, List.getElem?_eq_getElem hi]; rfl
      obtain ⟨s1, a1, a2, a3⟩ := hs l[i] (List.getElem_mem hi)
      rw [e1]
      simp only [a1, a2, a3, bnd_some', if_true]
      rw [lcF_fixH h hs k (i + 1) _ (by omega) hi, List.drop_eq_getElem_cons hi, List.map_cons, List.append_assoc]
      rfl
    · have e1 : (l.map f)[i]? = none := by rw [List.getElem?_eq_none_iff, List.length_map]; omega
      rw [e1]
      have : l.drop i = [] := List.drop_eq_nil_iff.mpr (by omega)
      simp [this]
theorem lc_fixH {m : Bool} {fi : DI} {d : DV} (h : fi s S = some (.li d, S)) (hd : rdL S d = some (l.map f)) (hs : ∀ a ∈ l, ∃ s1, tgt (f a) (wipeD s vs) S = some (s1, S) ∧ tt s1 S = some (true, S) ∧ te s1 S = some (g a, S)) (hn : l.length ≤ 100000) :
    dLc m fi tgt tt te vs s S = some (newL m (l.map g) S) := by
  unfold dLc
  rw [h]
  simp only [bnd_some']
  have e : itLen (.li d) S = l.length := by simp only [itLen, hd, List.length_map]
  rw [lcF_fixH (fun i => by simp only [DL.itemAt, hd]) hs _ _ _ (by rw [e]; omega) (Nat.zero_le _)]
  simp only [bnd_some', List.nil_append, List.drop_zero]
  rw [gate_ok (by rw [List.length_map]; exact hn)]
theorem diL_ofH {fe : DE} {d : DV} {xs : List DV} (h : fe s S = some (d, S)) (hd : rdL S d = some xs) : diL fe s S = some (.li d, S) := by
  unfold diL
  rw [h]
  simp [hd]
end
theorem ne_self {x y : DV} {p : PyData} {n : Nat} {S : Sto} (h : pyS S x = some p) (g : pyS S y = some p) (hs : ShN n p) (hn : n ≤ 64) : neD x y S = some (.bl false, S) := by
  rw [neD_of h g hs hs hn, PySem.SeqAt.eqv_refl p hs.1]
  rfl
theorem eq_self {x y : DV} {p : PyData} {n : Nat} {S : Sto} (h : pyS S x = some p) (g : pyS S y = some p) (hs : ShN n p) (hn : n ≤ 64) : eqD x y S = some (.bl true, S) := by
  rw [eqD_of h g hs hs hn, PySem.SeqAt.eqv_refl p hs.1]
section
variable {S : Sto} {n m : Nat} {ws : List Int} {wss wss' : List (List Rat)} {sts sts' : List (List Int × List Rat)} {w : List Rat} {p : List Int × List Rat}
theorem pop_in {k : Nat} {ds : List DV} {d : DV} (h : S[k]? = some (.ml (ds ++ [d]))) : popD (.ptr k) [] S = some (d, S.set k (.ml ds)) := by
  have hp : ptrL S (.ptr k) = some (k, ds ++ [d]) := by
    unfold ptrL
    simp only [h]
  simp [popD, hp]
theorem undo_ok (h : HAt S n ws (wss ++ [w]) (sts ++ [p])) : f_History_undo_z [.ptr n] S = some (.non, hset S n wss sts) := by
  have s0 : S[n + 1]? = some (.ml (sts.map stD ++ [stD p])) := by rw [h.s, List.map_append]; rfl
  have w0 : S[n + 2]? = some (.ml (wss.map dF ++ [dF w])) := by rw [h.w, List.map_append]; rfl
  have ne : n + 1 ≠ n + 2 := by omega
  obtain ⟨S1, hS1⟩ : ∃ S1, S1 = S.set (n + 1) (.ml (sts.map stD)) := ⟨_, rfl⟩
  have w1 : S1[n + 2]? = some (.ml (wss.map dF ++ [dF w])) := by rw [hS1, List.getElem?_set_ne ne]; exact w0
  have o1 : S1[n]? = some (.ins "History" (hfl n ws)) := by rw [hS1, List.getElem?_set_ne (by omega)]; exact h.o
  have e1 := h.fS (fe := dVar 0) (s := [some (.ptr n)]) (by simp)
  have e2 : dFld "History" "_waters" (dVar 0) [some (.ptr n)] S1 = some (.ptr (n + 2), S1) := by
    unfold dFld
    rw [show (dVar 0) [some (.ptr n)] S1 = some (DV.ptr n, S1) from rfl, bnd_some', show insOf S1 (.ptr n) = some (n, ("History" : Str), hfl n ws) by simp only [insOf, o1]]
    simp only [if_true, lk_w]
  have t1 : rdL S (.ptr (n + 1)) = some (sts.map stD ++ [stD p]) := by rw [h.rdS, List.map_append]; rfl
  have tr : truD S (.ptr (n + 1)) = some true := by simp [truD, t1]
  have p1 := pop_in s0
  have p2 := pop_in w1
  rw [← hS1] at p1
  have r1 : rdL S1 (.ptr (n + 2)) = some (wss.map dF ++ [dF w]) := by
    unfold rdL
    simp only [w1]
  have hs : S1.set (n + 2) (.ml (wss.map dF)) = hset S n wss sts := by
    rw [hS1]
    unfold hset
    exact List.set_comm _ _ ne
  rw [hs] at p2
  refine fn_nx (s := [some (.ptr n)]) (S1 := hset S n wss sts) ?_ (exF_len hset_len)
  refine seq_nx (if_f (S1 := S) ?_ rfl) ?_
  · revert e1
    generalize dFld "History" "_steps" _ = F
    intro e1
    simp [startD, e1, tr]
  refine seq_nx (drop_of (d := stD p) (S1 := S1) ?_) ?_
  · revert e1
    generalize dFld "History" "_steps" _ = F
    intro e1
    simp [startD, e1, t1, p1]
  refine drop_of (d := dF w) (S1 := hset S n wss sts) ?_
  revert e2
  generalize dFld "History" "_waters" _ = F
  intro e2
  simp [startD, e2, r1, p2]
theorem steps_ok (h : HAt S n ws wss sts) (hl : sts.length ≤ 1000) : f_History_steps_z [.ptr n] S = some (.lst (sts.map stD), S) := by
  have e1 := h.fS (fe := dVar 0) (s := startD 3 [.ptr n]) (by simp [startD])
  refine fn_rt (d := .lst (sts.map stD)) (S1 := S) (ret_of ?_) exF_same
  refine (lc_fixH (d := .ptr (n + 1)) (l := sts) (f := stD) (g := stD) (diL_ofH e1 h.rdS) h.rdS (fun p hp => ⟨[some (.ptr n), some (dI p.1), some (dF p.2)], ?_, rfl, ?_⟩) (by omega)).trans rfl
  · simp [startD, wipeD, stD, dI, dF]
  · have a1 : listD false [dI p.1] S = some (dI p.1, S) := list_ok rfl
    have a2 : listD false [dF p.2] S = some (dF p.2, S) := list_ok rfl
    unfold stD
    generalize dI p.1 = x at *
    generalize dF p.2 = y at *
    simp [a1, a2]
def pst (p : List Int × List Rat) : PyData := .tuple [.list (p.1.map PyData.int), .list (p.2.map pfr)]
end
end FW
end
section
namespace FW
open PySem PyProof.Rows PySem.Spec L2 DL
theorem py_dI' {r : Nat → Option PyData} (ws : List Int) : py r (dI ws) = some (.list (ws.map PyData.int)) := by
  unfold dI
  simp only [py, pys_map (f := DV.int) (g := PyData.int) (fun _ => rfl), Option.map_some]
theorem py_dF' {r : Nat → Option PyData} (ws : List Rat) : py r (dF ws) = some (.list (ws.map pfr)) := by
  unfold dF
  simp only [py, pys_map (f := fr) (g := pfr) py_fr, Option.map_some]
theorem py_stD {r : Nat → Option PyData} (p : List Int × List Rat) : py r (stD p) = some (pst p) := by
  unfold stD pst
  simp only [py, pys, py_dI', py_dF', Option.map_some]
theorem sh_pst (p : List Int × List Rat) : ShN 3 (pst p) := shN_tuple fun q hq => by
  rcases List.mem_cons.mp hq with rfl | hq
  · exact ⟨(sh_dI p.1).1, Nat.le_trans (sh_dI p.1).2 (by decide)⟩
  · cases List.mem_singleton.mp hq
    exact sh_dF p.2
theorem sh_psts (ps : List (List Int × List Rat)) : ShN 4 (.list (ps.map pst)) := shN_list fun q hq => by
  obtain ⟨p, _, rfl⟩ := List.mem_map.mp hq
  exact sh_pst p
theorem py_sts {S : Sto} (ps : List (List Int × List Rat)) : pyS S (.lst (ps.map stD)) = some (.list (ps.map pst)) := by
  unfold pyS
  simp only [py, pys_map (f := stD) (g := pst) py_stD, Option.map_some]
theorem py_stsP {S : Sto} {k : Nat} {ps : List (List Int × List Rat)} (h : S[k]? = some (.ml (ps.map stD))) : pyS S (.ptr k) = some (.list (ps.map pst)) := by
  unfold pyS
  simp only [py, h, pys_map (f := stD) (g := pst) py_stD, Option.map_some]
section
variable {S : Sto} {n m : Nat} {ws : List Int} {t t' : List (List Rat)} {sts : List (List Int × List Rat)} {w : List Rat}
theorem ix_first {S : Sto} {d : DV} {xs : List (List Rat)} {w : List Rat} (h : rdL S d = some ((w :: xs).map dF)) : ixD d (.int 0) S = some (dF w, S) := by
  have : L2.atI ((w :: xs).map dF) 0 = some (dF w) := by rw [List.map_cons]; simp
  simp only [ixD, h, Option.or, this]
theorem hist_eq (h : HAt S n ws (w :: t) sts) (g : HAt S m ws (w :: t') sts) : f_History_eq_z [.ptr n, .ptr m] S = some (.bl true, S) := by
  have a1 := h.fF (fe := dVar 0) (s := [some (.ptr n), some (.ptr m)]) (by simp)
  have b1 := g.fF (fe := dVar 1) (s := [some (.ptr n), some (.ptr m)]) (by simp)
  have a2 := h.fW (fe := dVar 0) (s := [some (.ptr n), some (.ptr m)]) (by simp)
  have b2 := g.fW (fe := dVar 1) (s := [some (.ptr n), some (.ptr m)]) (by simp)
  have a3 := h.fS (fe := dVar 0) (s := [some (.ptr n), some (.ptr m)]) (by simp)
  have b3 := g.fS (fe := dVar 1) (s := [some (.ptr n), some (.ptr m)]) (by simp)
  have i1 := ix_first h.rdW
  have i2 := ix_first g.rdW
  have e1 : eqD (dI ws) (dI ws) S = some (.bl true, S) := eq_self (py_dI ws) (py_dI ws) (sh_dI ws) (by decide)
  have e2 : eqD (dF w) (dF w) S = some (.bl true, S) := eq_self (py_dF w) (py_dF w) (sh_dF w) (by decide)
  have e3 : eqD (.ptr (n + 1)) (.ptr (m + 1)) S = some (.bl true, S) := eq_self (py_stsP h.s) (py_stsP g.s) (sh_psts sts) (by decide)
  have isc : dIsC "History" (dVar 1) [some (.ptr n), some (.ptr m)] S = some (.bl true, S) := by
    unfold dIsC
    rw [show (dVar 1) [some (.ptr n), some (.ptr m)] S = some (DV.ptr m, S) from rfl, bnd_some', g.ins]
    simp
  refine fn_rt (d := .bl true) (S1 := S) ?_ exF_same
  refine seq_nx (s1 := [some (.ptr n), some (.ptr m)]) (S1 := S) (if_f (S1 := S) ?_ rfl) (ret_of ?_)
  · show dNot (dTest (dIsC "History" (dVar 1))) [some (.ptr n), some (.ptr m)] S = _
    simp only [dNot, dTest, isc, bnd_some']
    rfl
  · show dAndV _ _ [some (.ptr n), some (.ptr m)] S = _
    revert a1 b1 a2 b2 a3 b3
    generalize dFld "History" "_floors" (dVar 0) = F1
    generalize dFld "History" "_floors" (dVar 1) = F2
    generalize dFld "History" "_waters" (dVar 0) = F3
    generalize dFld "History" "_waters" (dVar 1) = F4
    generalize dFld "History" "_steps" (dVar 0) = F5
    generalize dFld "History" "_steps" (dVar 1) = F6
    intro a1 b1 a2 b2 a3 b3
    simp only [dAndV, dOp, dC, a1, b1, bnd_some', e1, a2, b2, i1, i2, e2, a3, b3, e3]
theorem own_ne (h : HAt S n ws (w :: t) sts) (g : HAt S m ws (w :: t') sts) : ownD true "History" f_History_eq_z (.ptr n) (.ptr m) S = some (.bl false, S) := by
  unfold ownD
  rw [h.ins, g.ins]
  simp only [and_self, if_true, hist_eq h g, bnd_some', Bool.not_true]
end
end FW
end
section
/-! == of an object of an own class, whose own __eq__ tells NotImplemented, with what is no object of its class: false -/
namespace HQ
open PySem PySem.Spec PyProof.Rows PySem.SeqAt
open AutoSeq1 (wpAny_loadPart')
section
variable {prog : Program} {w : World} {A : Around} {E : Value → Shared → Prop} {s : Shared} {K : PySem.W.Frag} {x C : Addr} {od : Option Obj} {dx : Addr}
theorem int_eq_inst (b : Int) (u : Tok) (x C dx : Addr) :
    Meets (Builtin.«int.__eq__» ⟨[.int b u, .ref x], []⟩) (fun _ R s => s.heap.get? x = some (PySem.W.instObj C dx) ∧ R (.ok (.ret .notImplemented)) s) :=
  .of_wp fun prog w A R s h => by obtain ⟨hp, g, d, tk, os⟩ := s; obtain ⟨hl, h⟩ := h; wp_walk using wpAny_loadPart' hl, wpAny_load hl; exact ⟨_, rfl, h⟩
theorem str_eq_inst (b : Str) (u : Tok) (x C dx : Addr) :
    Meets (Builtin.«str.__eq__» ⟨[.str b u, .ref x], []⟩) (fun _ R s => s.heap.get? x = some (PySem.W.instObj C dx) ∧ R (.ok (.ret .notImplemented)) s) :=
  .of_wp fun prog w A R s h => by obtain ⟨hp, g, d, tk, os⟩ := s; obtain ⟨hl, h⟩ := h; wp_walk using wpAny_loadPart' hl, wpAny_load hl; exact ⟨_, rfl, h⟩
theorem list_eq_inst (l : Addr) (items : Array Value) (n : Nat) (dd : Option Addr) (sl : Array (Option Value)) (hm : PySem.W.mroIn K C (.type "list") = some false) :
    Meets (Builtin.«list.__eq__» ⟨[.ref l, .ref x], []⟩) (fun _ R s => s.heap.get? l = some { cls := .type "list", dict := dd, data := .seq items n, slots := sl } ∧ K.In s.heap ∧ s.heap.get? x = some (PySem.W.instObj C dx) ∧ R (.ok (.ret .notImplemented)) s) :=
  .of_wp fun prog w A R s h => by
    obtain ⟨hl, X, hx, h⟩ := h
    unfold Builtin.«list.__eq__»
    wp_walk using wpAny_loadPart' hl
    refine (PySem.W.looks_mroIn X hm).here ?_
    simp only [Bool.not_false, if_true]
    wp_walk
    exact ⟨_, rfl, h⟩
theorem dict_eq_inst (l : Addr) {o : Obj} (ho : s.heap.get? l = some o) (hc : o.cls = .type "dict") (hm : PySem.W.mroIn K C (.type "dict") = some false) :
    Meets (Builtin.«dict.__eq__» ⟨[.ref l, .ref x], []⟩) (fun _ R s => s.heap.get? l = some o ∧ K.In s.heap ∧ s.heap.get? x = some (PySem.W.instObj C dx) ∧ R (.ok (.ret .notImplemented)) s) :=
  .of_wp fun prog w A R s h => by
    obtain ⟨hl, X, hx, h⟩ := h
    unfold Builtin.«dict.__eq__»
    wp_walk using wpAny_loadPart' hl
    refine (PySem.W.looks_mroIn X hm).here ?_
    simp only [Bool.not_false, if_true]
    wp_walk
    exact ⟨_, rfl, h⟩
/-- the other's own slot tells nothing either -/
inductive OtherV (s : Shared) : Value → String → Prop where
  | non : OtherV s .none "NoneType"
  | int (i : Int) (t : Tok) : OtherV s (.int i t) "int"
  | str (b : Str) (t : Tok) : OtherV s (.str b t) "str"
  | lst {l : Addr} {items : Array Value} {n : Nat} (h : s.heap.get? l = some { cls := .type "list", data := .seq items n }) : OtherV s (.ref l) "list"
  | dict {l : Addr} {o : Obj} (h : s.heap.get? l = some o) (hc : o.cls = .type "dict") : OtherV s (.ref l) "dict"
theorem OtherV.typ {y : Value} {T : String} (h : OtherV s y T) : s.TypeIs y T := by
  cases h with
  | non => rfl
  | int i t => rfl
  | str b t => rfl
  | lst h => exact ⟨_, h, rfl⟩
  | dict h hc => exact ⟨_, h, hc⟩
theorem try_other {y : Value} {T : String} {Q : Option Value → Shared → Prop} (h : OtherV s y T) (X : K.In s.heap) (hx : s.heap.get? x = some (PySem.W.instObj C dx))
    (hl : PySem.W.mroIn K C (.type "list") = some false) (hd : PySem.W.mroIn K C (.type "dict") = some false) (q : Q none s) :
    wpAny (model prog w) A (tryCompare y "__eq__" (.ref x)) Q E s := by
  have hT := h.typ
  cases h with
  | non => exact wpAny_tryCompare_declines hT F.slot_NoneType_eq_refl (call_gives F.slot_NoneType_eq_refl hT F.entry_NoneType_eq (F.args_NoneType_eq_2 _ _) (NoneType___eq___none_ref_0 x) ⟨rfl, q⟩)
  | int i t => exact wpAny_tryCompare_declines hT F.slot_int_eq_refl (call_meets F.slot_int_eq_refl hT F.entry_int_eq (F.args_int_eq_2 _ _) (int_eq_inst i t x C dx) ⟨hx, rfl, q⟩)
  | str i t => exact wpAny_tryCompare_declines hT F.slot_str_eq_refl (call_meets F.slot_str_eq_refl hT F.entry_str_eq (F.args_str_eq_2 _ _) (str_eq_inst i t x C dx) ⟨hx, rfl, q⟩)
  | lst h => exact wpAny_tryCompare_declines hT F.slot_list_eq_refl (call_meets F.slot_list_eq_refl hT F.entry_list_eq (F.args_list_eq_2 _ _) (list_eq_inst _ _ _ _ _ hl) ⟨h, X, hx, rfl, q⟩)
  | dict h hc => exact wpAny_tryCompare_declines hT F.slot_dict_eq_refl (call_meets F.slot_dict_eq_refl hT F.entry_dict_eq (F.args_dict_eq_2 _ _) (dict_eq_inst _ h hc hd) ⟨h, X, hx, rfl, q⟩)
theorem same_other {y : Value} {T : String} {Q : Bool → Shared → Prop} (h : OtherV s y T) (hx : s.heap.get? x = some (PySem.W.instObj C dx)) (q : Q false s) : wpAny (model prog w) A (isSame (.ref x) y) Q E s := by
  cases h with
  | non => exact wpAny_of_eq (rfl : isSame (.ref x) .none = pure false) q
  | int i t => exact wpAny_of_eq (rfl : isSame (.ref x) (.int i t) = pure false) q
  | str i t => exact wpAny_of_eq (rfl : isSame (.ref x) (.str i t) = pure false) q
  | @lst l _ _ h =>
    have hne : x ≠ l := fun e => by subst e; rw [hx] at h; have := congrArg Obj.cls (Option.some.inj h); exact nomatch this
    exact wpAny_isSame_ref_other' hne hx h (by simp) q
  | @dict l o h hc =>
    have hne : x ≠ l := fun e => by subst e; rw [hx] at h; have := congrArg Obj.cls (Option.some.inj h); rw [hc] at this; exact nomatch this
    exact wpAny_isSame_ref_other' hne hx h (by rw [hc]; simp) q
theorem sub_own {T : String} {C : Addr} {y : Value} (h : OtherV s y T) : PySem.W.subIn K (.type T) (.ref C) = some false := by
  cases h <;> kernel_rfl
theorem rc_eq_other {Q : Value → Shared → Prop} {f : Addr} {y : Value} {T : String} (hu : A.units < cLine) (X : K.In s.heap) (I : PySem.W.InstAt s.heap x (PySem.W.instObj C dx) C od) (hy : OtherV s y T)
    (hs : PySem.W.findIn K (.ref C) "__eq__" = some (some (.ref f))) (hf : PySem.W.isFn K (.ref f) = true)
    (hl : PySem.W.mroIn K C (.type "list") = some false) (hd : PySem.W.mroIn K C (.type "dict") = some false)
    (h : wpAny (model prog w) A (call (.ref f) [.ref x, y]) (fun v s' => v = .notImplemented ∧ OtherV s' y T ∧ K.In s'.heap ∧ s'.heap.get? x = some (PySem.W.instObj C dx) ∧ Q (.bool false) s') E s) :
    wpAny (model prog w) A (richCompare .Eq (.ref x) y) Q E s := by
  have one : wpAny (model prog w) A (tryCompare (.ref x) "__eq__" y) (fun r s' => r = none ∧ OtherV s' y T ∧ K.In s'.heap ∧ s'.heap.get? x = some (PySem.W.instObj C dx) ∧ Q (.bool false) s') E s := by
    unfold tryCompare
    refine wpAny_bind (PySem.W.ifBound_K X I hs hf (wpAny_mono h (fun v s' hv => ?_) fun _ _ e => e))
    obtain ⟨rfl, hv⟩ := hv
    exact wpAny_pure ⟨rfl, hv⟩
  have ht : s.TypeIs y T := hy.typ
  unfold richCompare
  simp only [oneThing_ref]
  refine wpAny_holding (wpAny_bind (wpAny_cRoomFor hu ?_))
  rw [show cmpInfo .Eq = (("==", ("__eq__" : Str), ("__eq__" : Str)) : String × Str × Str) from rfl]
  dsimp only
  refine wpAny_bind (I.type.here (wpAny_bind (wpAny_typeOf ht ?_)))
  rw [show (Value.ref C != Value.type T) = true from by simp]
  simp only [if_true]
  refine wpAny_bind ((PySem.W.looks_subIn X (sub_own hy)).here ?_)
  simp only [Bool.false_eq_true, if_false]
  refine wpAny_bind (wpAny_mono one (fun r s' z => ?_) fun _ _ e => e)
  obtain ⟨rfl, hy', X', hx', q⟩ := z
  simp only [Bool.not_false, if_true]
  refine wpAny_bind (try_other hy' X' hx' hl hd ?_)
  exact wpAny_bind (wpAny_rule (wpAny_bind (same_other hy' hx' (wpAny_pure q))))
end
end HQ
namespace L2
open PySem PySem.Spec PyProof.Rows
/-- a call that tells NotImplemented where pre holds; nothing else changes -/
structure NiOk (P : Program) (w : World) (K : PySem.W.Frag) (mg : Str → Option Value) (base : Heap) (k : Nat) (f : Addr) (fd : FuncData) (ps : List Str) (pre : List V → Hp → Prop) : Prop where
  len : ∀ vs H, pre vs H → vs.length = ps.length
  run : ∀ (A : Around) (outer : List Env) (s : Shared) (H : Hp) (args : Args) (us : List Value) (vs : List V), Room k A → Env0 P w K mg base A outer s H → BindsTo s fd args (ps.zip us) → Vals vs us → pre vs H →
    codeAny (model P w) A (.call (.ref f) args) (fun r s' => r = .ok (.ret .notImplemented) ∧ CE outer P w H s (fun v H' => v = .non ∧ H' = H) Value.none s') s
theorem ni_of {P : Program} {w : World} {K : PySem.W.Frag} {mg : Str → Option Value} {base : Heap} {x qual : Str} {st : Stmt} {f : Addr} {fd : FuncData} {N ps : List Str} {k : Nat} {pre : List V → Hp → Prop} {c : Expr} {b rest : List Stmt} {p1 p2 p3 : Pos}
    (F : Fun K x qual st f fd) (S : FnScope N ps (defScope st)) (len : ∀ vs H, pre vs H → vs.length = ps.length) (hm : mg "NotImplemented" = none)
    (hg : ∀ (cdv : Value) (A : Around) (outer : List Env) (s : Shared) (H : Hp), Gl (cxOf CX0 P w K mg base N qual (defScope st) f cdv A outer s H (fun _ _ _ => False)) "NotImplemented")
    (hs : defBody st = .If c [.Return (some (.Name "NotImplemented" p1)) p2] b p3 :: rest)
    (hbody : ∀ (cdv : Value) (A : Around) (outer : List Env) (s : Shared) (H : Hp) (vs : List V), Room k (A.deeper (envOfC qual (defScope st) s.heap.objs.size f cdv)) → pre vs H →
      ∃ tc, PT (cxOf CX0 P w K mg base N qual (defScope st) f cdv A outer s H (fun _ _ _ => False)).nox c tc ∧ tc (start N vs) H (fun b H' => b = true ∧ H' = H)) :
    NiOk P w K mg base (k + 1) f fd ps pre := by
  obtain ⟨oc, od, kV, doc, pm, an, cdv, ct, osl, rfl, lk, hcd⟩ := F.ex
  refine ⟨len, fun A outer s H args us vs hr e0 hb r hsp => ?_⟩
  have hl := len _ _ hsp
  have KX : K.In s.heap := e0.mod.kin.keeps fun b o e => (e0.bs b o e).1
  have lim : s.heap.NoLimit := e0.mod.nolimit.keeps fun b o e => (e0.bs b o e).1
  have hkind : ∀ y ∈ ps.zip us, (defScope st).names.lookup y.1 = some .local ∨ ((defScope st).names.lookup y.1 = some .cell ∧ ((cellsFrom (s.heap.objs.size + 1) (defScope st).names []).lookup y.1).isSome = true) := fun ⟨n, v⟩ hy => by
    rcases S.par n (List.of_mem_zip hy).1 with q | q
    · exact .inl q
    · exact .inr ⟨q, PySem.W.cellsFrom_some _ _ _ (.inl q)⟩
  refine codeAny_call_function hr.depth (KX _ _ lk) rfl S.co S.gen rfl (PySem.W.codeRec_of KX hcd) (hb _ _ _ _ ?_)
  refine wpAny_newFunctionEnv_cells S.kind hkind fun env he s1 x => ?_
  subst he
  refine ⟨lim.keeps x.toInCall.keep, codeAny_func ?_⟩
  obtain ⟨tc, ht, hq⟩ := hbody cdv A outer s H vs (hr.deeper _) hsp
  have I : Inv (cxOf CX0 P w K mg base N qual (defScope st) f cdv A outer s H (fun _ _ _ => False)) [] (start N vs) H s1 := inv_start S hr.hd e0 hl r x
  rw [hs]
  refine wpAny_execs_cons (wpAny_mono (wpAny_If (Q := fun fl s' => fl = .ret .notImplemented ∧ CE outer P w H s (fun v H' => v = .non ∧ H' = H) Value.none s') (E := fun _ _ => False) (thn (ht.run [] s1 (start N vs) H _ (I.wish _) hq) fun d s2 ⟨H1, I1', q1, q2⟩ => ?_)) (fun fl s' hs => ?_) fun e s' hs => hs.elim)
  · subst q1 q2
    have I1 := I1'.unwish
    refine wpAny_execs_cons (wpAny_mono (wpAny_Return_some (E := fun _ _ => False) (Q := fun fl s' => fl = .ret .notImplemented ∧ CE outer P w H1 s (fun v H' => v = .non ∧ H' = H1) Value.none s') (ld_blt (u := .notImplemented) I1 (hg cdv A outer s H1) hm (by decide +kernel) ?_)) (fun fl s' hs => ?_) fun e s' hs => hs)
    · exact ⟨rfl, .non, H1, I1.os, I1.bare, I1.base, I1.hok, rfl, rfl, rfl⟩
    · obtain ⟨rfl, hs⟩ := hs
      exact ⟨rfl, hs⟩
  · obtain ⟨rfl, hs⟩ := hs
    exact ⟨rfl, hs⟩
end L2
namespace L2
open PySem PySem.Spec PyProof.Rows
/-- what is no object of an own class -/
inductive Oth (H : Hp) : V → String → Prop where
  | non : Oth H .non "NoneType"
  | int (i : Int) : Oth H (.int i) "int"
  | str (b : Str) : Oth H (.str b) "str"
  | lst {a : Addr} {xs : List V} (e : H a = some (.lst xs)) : Oth H (.ref a) "list"
  | dict {a : Addr} {kvs : List (Key × V)} (e : H a = some (.dK kvs)) : Oth H (.ref a) "dict"
/-- what is known of such a class -/
structure NiC (K : PySem.W.Frag) (C : Addr) : Prop where
  li : PySem.W.mroIn K C (.type "list") = some false
  di : PySem.W.mroIn K C (.type "dict") = some false
  ty : PySem.W.typeIn K (.ref C) = some (.type "type")
  hd : PySem.W.hasDictIn K C = true
theorem NiC.cl {K : PySem.W.Frag} {C : Addr} (n : NiC K C) : ((PySem.W.clsIn K C).isSome && PySem.W.typeIn K (.ref C) == some (.type "type")) = true := by
  obtain ⟨cd, hc, _⟩ := PySem.W.any_some n.hd
  rw [hc, n.ty]
  simp
theorem Oth.ty {K : PySem.W.Frag} {C : Addr} {H : Hp} {y : V} {T : String} (c : NiC K C) (h : Oth H y T) : TyX K H y (.type T) ∧ PySem.W.kitOne K (.type T) (.ref C) = some false := by
  have k : ∀ T : String, PySem.W.subIn K (.type T) (.ref C) = some false → PySem.W.kitOne K (.type T) (.ref C) = some false := fun T e => by
    unfold PySem.W.kitOne
    rw [if_neg (by simp)]
    unfold PySem.W.kitCls
    simp only
    rw [if_pos c.cl]
    exact e
  cases h with
  | non => exact ⟨.base .non, k _ (by kernel_rfl)⟩
  | int i => exact ⟨.base (.int i), k _ (by kernel_rfl)⟩
  | str b => exact ⟨.base (.str b), k _ (by kernel_rfl)⟩
  | lst e => exact ⟨.base (.lst e), k _ (by kernel_rfl)⟩
  | dict e => exact ⟨.base (.dK e), k _ (by kernel_rfl)⟩
theorem Oth.val {P : Program} {w : World} {H : Hp} {s : Shared} {y : V} {u : Value} {T : String} (h : Oth H y T) (r : RelV y u) (hk : HOk P w H s.heap) : HQ.OtherV s u T := by
  cases h with
  | non => cases r; exact .non
  | int i => obtain ⟨t, rfl⟩ := r; exact .int i t
  | str b => obtain ⟨t, rfl⟩ := r; exact .str b t
  | @lst a xs e =>
    cases r
    obtain ⟨_, its, n, _, h1⟩ := (show ObjOk P w H s.heap a (.lst xs) from hk a _ e)
    exact .lst h1
  | @dict a kvs e =>
    cases r
    obtain ⟨_, _, vs, _, o, es, ep, h1, h2, _⟩ := (show ObjOk P w H s.heap a (.dK kvs) from hk a _ e)
    exact .dict h1 h2.1
/-- an object of the class at C is asked whether it is something else -/
def rOth (C : Addr) : R2 := fun x y H Q => ∃ a dx fs T, x = .ref a ∧ H a = some (.ins C dx fs) ∧ Oth H y T ∧ Q (.bl false) H
def preOth (C : Addr) : List V → Hp → Prop := fun vs H => ∃ a dx fs y T, vs = [.ref a, y] ∧ H a = some (.ins C dx fs) ∧ Oth H y T
section
variable {X : Cx} {C f : Addr} {fd : FuncData} {ps : List Str} {n : Nat}
theorem op_eqOth (F : NiOk X.prog X.w X.K X.mg X.base n f fd ps (preOth C)) (hr : Room (n + 1) X.A) (hm : Meth X.K C "__eq__" f) (hb : Binds X.K fd ps []) (hn : NiC X.K C) : OpR X (compareOp .Eq) (rOth C) := by
  intro pins s σ H x y v u Q I rx ry h
  obtain ⟨a, dx, fs, T, rfl, ha, ho, q⟩ := h
  cases rx
  obtain ⟨mA, J, _⟩ := ins_get I.hok ha
  obtain ⟨od, J, _⟩ := J.look
  show wpAny (model X.prog X.w) X.A (richCompare .Eq (.ref a) u) (EP X pins σ Q) X.xe s
  have ov := ho.val ry I.hok
  refine HQ.rc_eq_other (dx := dx) (T := T) hr.units0 I.kIn J ov hm.at_ hm.fn hn.li hn.di ?_
  have e0 : Env0 X.prog X.w X.K X.mg X.base X.A X.stack s H := I.env0
  have hsp : preOth C [.ref a, y] H := ⟨a, dx, fs, y, T, rfl, ha, ho⟩
  have hl := F.len _ _ hsp
  have r2 : Vals [V.ref a, y] [Value.ref a, u] := .cons rfl (.cons ry .nil)
  refine wpAny_call (codeAny_mono (F.run X.A X.stack s H ⟨[.ref a, u], []⟩ [.ref a, u] [.ref a, y] (hr.mono (Nat.le_succ _)) e0 (by
    have := hb s [.ref a, u] I.kIn (by simpa using hl)
    simpa using this) r2 hsp) fun r s' hq => ?_)
  obtain ⟨rfl, hq⟩ := hq
  obtain ⟨z, H', I', rz, rfl, rfl⟩ := I.after hq
  obtain ⟨_, h1, _⟩ := ins_get I'.hok ha
  obtain ⟨_, h2, _⟩ := h1.look
  exact ⟨rfl, ho.val ry I'.hok, I'.kIn, h2.at_, .bl false, H', I', rfl, q⟩
end
end L2
namespace DL
open PySem PyProof.Rows PySem.Spec L2
/-- what is no own object, as data -/
def isOth (S : Sto) : DV → Bool
  | .non => true
  | .int _ => true
  | .str _ => true
  | .lst _ => true
  | .ptr n => match S[n]? with
    | some (.ml _) => true
    | some (.dct _) => true
    | some (.dci _) => true
    | _ => false
  | _ => false
def othD (c : Str) : D2 := fun x y S => match insOf S x with
  | some (_, c1, _) => if c1 = c ∧ isOth S y = true then some (.bl false, S) else none
  | _ => none
section
variable {K : PySem.W.Frag} {mg : Str → Option Value} {C : Addr} {c : Str}
theorem ro_oth (hc : mg c = some (.ref C)) : RO K mg (rOth C) (othD c) := by
  intro W S x y v u d S' Q R hx hy e q
  unfold othD at e
  split at e
  · rename_i n1 c1 fs1 e1
    split at e
    · rename_i hcc
      obtain ⟨rfl, ho⟩ := hcc
      cases e
      obtain ⟨a, dx, vfs, rfl, _, _, _, _, h1, h2⟩ := insOf_ok R hc hx e1
      have fin : ∀ T, Oth W.H u T → rOth C (.ref a) u W.H Q := fun T o => ⟨a, dx, vfs, T, rfl, h1, o, q _ W (Ext.refl W) R rfl⟩
      cases y with
      | non => cases hy; exact fin _ .non
      | int i => cases hy; exact fin _ (.int i)
      | str b => cases hy; exact fin _ (.str b)
      | lst ds =>
        obtain ⟨b, vs, rfl, ⟨_, hb⟩, _⟩ := hy
        exact fin _ (.lst hb)
      | ptr m =>
        unfold isOth at ho
        simp only at ho
        split at ho
        · rename_i ds q1
          obtain ⟨b, rfl, _, _, vs, hb, _⟩ := ptr_ok R hy q1
          exact fin _ (.lst hb)
        · rename_i ds q1
          obtain ⟨b, rfl, _, _, vs, hb, _⟩ := ptr_ok R hy q1
          exact fin _ (.dict hb)
        · rename_i ds q1
          obtain ⟨b, rfl, _, _, vs, hb, _⟩ := ptr_ok R hy q1
          exact fin _ (.dict hb)
        · cases ho
      | bl b => cases ho
      | ty n => cases ho
      | tup ds => cases ho
      | rls ds => cases ho
    · cases e
  · cases e
end
end DL
end
section
/-! dicts with texts as keys, in the store -/
namespace DL
open PySem PyProof.Rows L2
def dctOf (S : Sto) : DV → Option (Nat × List (Str × DV))
  | .ptr n => match S[n]? with
    | some (.dct fs) => some (n, fs)
    | _ => none
  | _ => none
def putKD (fs : List (Str × DV)) (f : Str) (d : DV) : List (Str × DV) :=
  if (fs.any fun p => decide (p.1 = f)) = true then fs.map (fun p => if p.1 = f then (p.1, d) else p) else fs ++ [(f, d)]
def getKD (fs : List (Str × DV)) (f : Str) : Option DV := (fs.find? fun p => decide (p.1 = f)).map (·.2)
section
variable {K : PySem.W.Frag} {mg : Str → Option Value} {W W' : Wd} {S : Sto}
theorem dctOf_ok {x : DV} {v : V} {n : Nat} {fs : List (Str × DV)} (R : Rep K mg W S) (h : Den K W x v) (e : dctOf S x = some (n, fs)) :
    ∃ a kvs, v = .ref a ∧ x = .ptr n ∧ S[n]? = some (.dct fs) ∧ W.α[n]? = some a ∧ a ∈ W.α ∧ W.H a = some (.dK kvs) ∧ DkR K W fs kvs := by
  cases x with
  | ptr m =>
    unfold dctOf at e
    simp only at e
    split at e
    · rename_i fs' q
      cases e
      obtain ⟨a, rfl, ha, hm, kvs, h1, h2⟩ := ptr_ok R h q
      exact ⟨a, kvs, rfl, rfl, q, ha, hm, h1, h2⟩
    · cases e
  | _ => cases e
theorem DkR.look {f : Str} {d : DV} : ∀ {fs : List (Str × DV)} {vs : List (Key × V)}, DkR K W fs vs → getKD fs f = some d → ∃ v, valV vs (Sum.inr f) = some v ∧ Den K W d v
  | [], _, h, e => by cases e
  | p :: fs, _, h, e => by
    obtain ⟨v, r, rfl, h1, h2⟩ := h
    unfold getKD at e
    rw [List.find?_cons] at e
    by_cases q : p.1 = f
    · simp only [q, decide_true, Option.map_some, Option.some.injEq] at e
      subst e
      exact ⟨v, by rw [valV_pos (by show (Sum.inr p.1 : Key) = _; rw [q])], h1⟩
    · simp only [q, decide_false] at e
      obtain ⟨u, e1, e2⟩ := DkR.look (f := f) (d := d) h2 e
      exact ⟨u, by rw [valV_neg (by intro z; exact q (Sum.inr.inj z)), e1], e2⟩
theorem DkR.len : ∀ {fs : List (Str × DV)} {vs : List (Key × V)}, DkR K W fs vs → vs.length = fs.length
  | [], _, h => by
    cases (show _ = [] from h)
    rfl
  | p :: fs, _, h => by
    obtain ⟨u, r, rfl, _, h2⟩ := h
    simp [DkR.len h2]
theorem DkR.has {f : Str} : ∀ {fs : List (Str × DV)} {vs : List (Key × V)}, DkR K W fs vs → (vs.any fun kv => decide (kv.1 = (Sum.inr f : Key))) = (fs.any fun p => decide (p.1 = f))
  | [], _, h => by
    cases (show _ = [] from h)
    rfl
  | p :: fs, _, h => by
    obtain ⟨v, r, rfl, h1, h2⟩ := h
    simp only [List.any_cons, DkR.has h2, Sum.inr.injEq]
theorem DkR.mapped {f : Str} {d : DV} {v : V} (hd : Den K W d v) : ∀ {fs : List (Str × DV)} {vs : List (Key × V)}, DkR K W fs vs → DkR K W (fs.map fun p => if p.1 = f then (p.1, d) else p) (vs.map fun kv => if kv.1 = (Sum.inr f : Key) then (kv.1, v) else kv)
  | [], _, h => by
    cases (show _ = [] from h)
    exact rfl
  | p :: fs, _, h => by
    obtain ⟨u, r, rfl, h1, h2⟩ := h
    by_cases q : p.1 = f
    · refine ⟨v, _, ?_, ?_, DkR.mapped hd h2⟩
      · simp [q]
      · simp [q, hd]
    · refine ⟨u, _, ?_, ?_, DkR.mapped hd h2⟩
      · simp [q]
      · simp [q, h1]
theorem DkR.snoc {f : Str} {d : DV} {v : V} (hd : Den K W d v) : ∀ {fs : List (Str × DV)} {vs : List (Key × V)}, DkR K W fs vs → DkR K W (fs ++ [(f, d)]) (vs ++ [((Sum.inr f : Key), v)])
  | [], _, h => by
    cases (show _ = [] from h)
    exact ⟨v, [], rfl, hd, rfl⟩
  | p :: fs, _, h => by
    obtain ⟨u, r, rfl, h1, h2⟩ := h
    exact ⟨u, _, rfl, h1, DkR.snoc hd h2⟩
theorem DkR.put {f : Str} {d : DV} {v : V} (hd : Den K W d v) {fs : List (Str × DV)} {vs : List (Key × V)} (h : DkR K W fs vs) : DkR K W (putKD fs f d) (putK vs (Sum.inr f : Key) v) := by
  unfold putKD putK
  rw [h.has (f := f)]
  split
  · exact DkR.mapped hd h
  · exact DkR.snoc hd h
variable {td ty tv : TE} {fd fy fv : DE}
/-- d[y] -/
def dDGet (fd fy : DE) : DE := fun s S => bnd (fd s S) fun x S1 => bnd (fy s S1) fun y S2 => match dctOf S2 x, y with
  | some (_, fs), .str f => (match getKD fs f with
    | some d => some (d, S2)
    | none => none)
  | _, _ => none
theorem re_dget (hd : RE K mg td fd) (hy : RE K mg ty fy) : RE K mg (tDGet td ty) (dDGet fd fy) := by
  intro W σ s S d S' Q R L e q
  obtain ⟨x, S1, e1, e⟩ := bnd_inv e
  obtain ⟨y, S2, e2, e⟩ := bnd_inv e
  refine hd W σ s S x S1 _ R L e1 fun v W1 x1 R1 d1 => ?_
  refine hy W1 σ s S1 y S2 _ R1 (L.ext x1) e2 fun u W2 x2 R2 d2 => ?_
  split at e
  · rename_i n fs f eo
    split at e
    · rename_i d' eg
      cases e
      obtain ⟨a, kvs, rfl, _, _, _, _, h1, h2⟩ := dctOf_ok R2 (d1.ext x2) eo
      cases (show u = V.str f from d2)
      obtain ⟨z, l1, l2⟩ := h2.look eg
      exact ⟨a, z, rfl, .inl ⟨kvs, Sum.inr f, .inl h1, rfl, l1.symm⟩, q z W2 (x1.trans x2) R2 l2⟩
    · cases e
  · cases e
/-- d[y] = v -/
def dDPut (fd fy fv : DE) : DS := fun s S => bnd (fv s S) fun v S1 => bnd (fd s S1) fun x S2 => bnd (fy s S2) fun y S3 => match dctOf S3 x, y with
  | some (n, fs), .str f => if fs.length < 1000 then some (.nx s (S3.set n (.dct (putKD fs f v)))) else none
  | _, _ => none
theorem put_world {x : DV} {u : V} {n : Nat} {fs : List (Str × DV)} {f : Str} {d : DV} {v : V} (R : Rep K mg W S) (hx : Den K W x u) (hd : Den K W d v) (eo : dctOf S x = some (n, fs)) (hl : fs.length < 1000) :
    ∃ a W', u = .ref a ∧ DPut W.H a (.str f) v W'.H ∧ Ext W W' ∧ Rep K mg W' (S.set n (.dct (putKD fs f d))) := by
  obtain ⟨a, kvs, rfl, _, _, ha, hm, h1, h2⟩ := dctOf_ok R hx eo
  have xp := ext_put (o := HO.dK (putK kvs (Sum.inr f : Key) v)) R hm
  refine ⟨a, W.put a (.dK (putK kvs (Sum.inr f : Key) v)), rfl, .inl ⟨kvs, Sum.inr f, h1, rfl, ?_, rfl⟩, xp, rep_put R ha ⟨_, upd_same, DkR.put (hd.ext xp) (DkR.ext0 xp.toEx0 h2)⟩⟩
  rw [h2.len, sizeLine_eq]
  omega
theorem rs_dput (hd : RE K mg td fd) (hy : RE K mg ty fy) (hv : RE K mg tv fv) : RS K mg (sDPut td ty tv) (dDPut fd fy fv) := by
  intro W σ s S r D R L e P
  obtain ⟨v, S1, e1, e⟩ := bnd_inv e
  obtain ⟨x, S2, e2, e⟩ := bnd_inv e
  obtain ⟨y, S3, e3, e⟩ := bnd_inv e
  refine hv W σ s S v S1 _ R L e1 fun vv W1 x1 R1 d1 => ?_
  refine hd W1 σ s S1 x S2 _ R1 (L.ext x1) e2 fun u W2 x2 R2 d2 => ?_
  refine hy W2 σ s S2 y S3 _ R2 (L.ext (x1.trans x2)) e3 fun w W3 x3 R3 d3 => ?_
  split at e
  · rename_i n fs f eo
    split at e
    · rename_i hl
      cases e
      cases (show w = V.str f from d3)
      obtain ⟨a, W4, rfl, p, x4, R4⟩ := put_world (f := f) R3 (d2.ext x3) (d1.ext (x2.trans x3)) eo hl
      exact ⟨a, W4.H, rfl, p, P σ W4 (((x1.trans x2).trans x3).trans x4) R4 (L.ext (((x1.trans x2).trans x3).trans x4))⟩
    · cases e
  · cases e
/-- d[y] op= v -/
def dDAug (fd fy fv : DE) (g : DV → DV → Sto → Option (DV × Sto)) : DS := fun s S => bnd (fd s S) fun x S1 => bnd (fy s S1) fun y S2 => match dctOf S2 x, y with
  | some (_, fs), .str f => (match getKD fs f with
    | some d => bnd (fv s S2) fun v S3 => bnd (g d v S3) fun z S4 => (match dctOf S4 x with
      | some (n, fs) => if fs.length < 1000 then some (.nx s (S4.set n (.dct (putKD fs f z)))) else none
      | none => none)
    | none => none)
  | _, _ => none
theorem rs_daug {rd : V → V → Hp → VK → Prop} {g : DV → DV → Sto → Option (DV × Sto)} (hd : RE K mg td fd) (hy : RE K mg ty fy) (hv : RE K mg tv fv) (hr : RO K mg rd g) : RS K mg (sDAug td ty tv rd) (dDAug fd fy fv g) := by
  intro W σ s S r D R L e P
  obtain ⟨x, S1, e1, e⟩ := bnd_inv e
  obtain ⟨y, S2, e2, e⟩ := bnd_inv e
  refine hd W σ s S x S1 _ R L e1 fun u W1 x1 R1 d1 => ?_
  refine hy W1 σ s S1 y S2 _ R1 (L.ext x1) e2 fun w W2 x2 R2 d2 => ?_
  split at e
  · rename_i n fs f eo
    split at e
    · rename_i d eg
      obtain ⟨v, S3, e3, e⟩ := bnd_inv e
      obtain ⟨z, S4, e4, e⟩ := bnd_inv e
      obtain ⟨a, kvs, rfl, _, _, _, _, h1, h2⟩ := dctOf_ok R2 (d1.ext x2) eo
      cases (show w = V.str f from d2)
      obtain ⟨t, l1, l2⟩ := h2.look eg
      refine ⟨a, t, rfl, .inl ⟨kvs, Sum.inr f, .inl h1, rfl, l1.symm⟩, ?_⟩
      refine hv W2 σ s S2 v S3 _ R2 (L.ext (x1.trans x2)) e3 fun vv W3 x3 R3 d3 => ?_
      refine hr W3 S3 d v t vv z S4 _ R3 (l2.ext x3) d3 e4 fun zz W4 x4 R4 d4 => ?_
      split at e
      · rename_i n' fs' eo'
        split at e
        · rename_i hl
          cases e
          obtain ⟨a', W5, ea, p, x5, R5⟩ := put_world (f := f) R4 (d1.ext ((x2.trans x3).trans x4)) d4 eo' hl
          cases ea
          have xx := (((x1.trans x2).trans x3).trans x4).trans x5
          exact ⟨W5.H, p, P σ W5 xx R5 (L.ext xx)⟩
        · cases e
      · cases e
    · cases e
  · cases e
/-- {k: v, ..} -/
def dPairs : List (Str × DE) → Sl → Sto → Option (List (Str × DV) × Sto)
  | [], _, S => some ([], S)
  | (k, f) :: r, s, S => match f s S with
    | some (y, S1) => (match dPairs r s S1 with
      | some (ps, S2) => some ((k, y) :: ps, S2)
      | none => none)
    | none => none
def RPs (K : PySem.W.Frag) (mg : Str → Option Value) (trs : List (TE × TE)) (ps : List (Str × DE)) : Prop := ∀ (W : Wd) (σ : L2.St) (s : Sl) (S : Sto) (ds : List (Str × DV)) (S' : Sto) (Q : List (V × V) → Hp → Prop), Rep K mg W S → Slo K W σ s → dPairs ps s S = some (ds, S') →
  (∀ kvs W', Ext W W' → Rep K mg W' S' → DkR K W' ds kvs → Q (kvs.map fun kv => (kV kv.1, kv.2)) W'.H) → tPairs trs σ W.H Q
theorem rps_nil : RPs K mg [] [] := by
  intro W σ s S ds S' Q R L e q
  cases e
  exact q [] W (Ext.refl W) R rfl
theorem rps_cons {k : Str} {trs : List (TE × TE)} {ps : List (Str × DE)} (h : RE K mg tv fv) (hr : RPs K mg trs ps) : RPs K mg ((tC (.str k), tv) :: trs) ((k, fv) :: ps) := by
  intro W σ s S ds S' Q R L e q
  unfold dPairs at e
  split at e
  · rename_i y S1 e1
    split at e
    · rename_i qs S2 e2
      cases e
      refine h W σ s S y S1 _ R L e1 fun v W1 x1 R1 d1 => ?_
      refine hr W1 σ s S1 qs _ _ R1 (L.ext x1) e2 fun kvs W2 x2 R2 d2 => ?_
      exact q ((Sum.inr k, v) :: kvs) W2 (x1.trans x2) R2 ⟨v, kvs, rfl, d1.ext x2, d2⟩
    · cases e
  · cases e
def mergeD (fs : List (Str × DV)) : List (Str × DV) → List (Str × DV)
  | [] => fs
  | p :: r => mergeD (putKD fs p.1 p.2) r
theorem DkR.merge : ∀ {more : List (Str × DV)} {rs : List (Key × V)} {fs : List (Str × DV)} {kvs : List (Key × V)}, DkR K W more rs → DkR K W fs kvs → DkR K W (mergeD fs more) (mergeK kvs rs)
  | [], _, _, _, h, g => by
    cases (show _ = [] from h)
    exact g
  | p :: more, _, fs, kvs, h, g => by
    obtain ⟨v, r, rfl, h1, h2⟩ := h
    exact DkR.merge (more := more) (fs := putKD fs p.1 p.2) (kvs := putK kvs (Sum.inr p.1 : Key) v) h2 (DkR.put h1 g)
def dDisp (ps : List (Str × DE)) : DE := fun s S => match dPairs ps s (S ++ [.dct []]) with
  | some (ds, S1) => if ds.length ≤ 15 then (match S1[S.length]? with
    | some (.dct []) => some (.ptr S.length, S1.set S.length (.dct (mergeD [] ds)))
    | _ => none) else none
  | none => none
theorem re_disp {trs : List (TE × TE)} {ps : List (Str × DE)} (h : RPs K mg trs ps) : RE K mg (tDisp trs) (dDisp ps) := by
  intro W σ s S d S' Q R L e q
  unfold dDisp at e
  split at e
  · rename_i ds S1 e1
    split at e
    · rename_i hl15
      split at e
      rotate_left
      · cases e
      rename_i hc2
      have hc : ds.length ≤ 15 ∧ S1[S.length]? = some (.dct []) := ⟨hl15, hc2⟩
      cases e
      intro p hp
      have R0 : Rep K mg (W.more p (.dK [])) (S ++ [.dct []]) := rep_more R hp ⟨[], upd_same, rfl⟩
      have x0 : Ext W (W.more p (.dK [])) := ext_more hp
      have hd0 : Den K (W.more p (.dK [])) (.ptr S.length) (.ref p) := ⟨p, by
        show (W.α ++ [p])[S.length]? = some p
        rw [← R.len, List.getElem?_concat_length], rfl⟩
      refine h (W.more p (.dK [])) σ s (S ++ [.dct []]) ds S1 _ R0 (L.ext x0) e1 fun kvs W1 x1 R1 d1 => ?_
      have hd1 := hd0.ext x1
      have eo : dctOf S1 (.ptr S.length) = some (S.length, []) := by
        unfold dctOf
        simp only [hc.2]
      obtain ⟨a, kv0, ea, _, _, ha, hm, h1, h2⟩ := dctOf_ok R1 hd1 eo
      cases ea
      cases (show kv0 = [] from h2)
      refine ⟨h1, kvs, rfl, by rw [d1.len]; exact hc.1, ?_⟩
      have xp := ext_put (o := HO.dK (mergeK [] kvs)) R1 hm
      have R2 : Rep K mg (W1.put p (.dK (mergeK [] kvs))) (S1.set S.length (.dct (mergeD [] ds))) := rep_put R1 ha ⟨_, upd_same, DkR.merge (DkR.ext0 xp.toEx0 d1) (show DkR K _ [] [] from rfl)⟩
      exact q (.ref p) (W1.put p (.dK (mergeK [] kvs))) ((x0.trans x1).trans xp) R2 (hd1.ext xp)
    · cases e
  · cases e
/-- += on numbers -/
def ipAddD (x y : DV) (S : Sto) : Option (DV × Sto) := match x, y with
  | .int i, .int j => some (.int (i + j), S)
  | _, _ => none
theorem ro_ipadd : RO K mg (ipI fun i j => i + j) ipAddD := by
  intro W S x y v u d S' Q R h1 h2 e q
  unfold ipAddD at e
  split at e
  · rename_i i j
    cases e
    cases (show v = V.int i from h1)
    cases (show u = V.int j from h2)
    exact ⟨i, j, rfl, rfl, q _ W (Ext.refl W) R rfl⟩
  · cases e
/-- the names of a block within a block -/
def relab0 (sc : Scope) (scope : Scope) : Scope :=
  { scope with names := scope.names.map fun (n, k) => if (k == .free && sc.kind == .function && sc.names.lookup n == some .cell) then (n, .cell) else (n, k) }
theorem relab_eq {scope : Scope} {env : Env} {sc : Scope} (h : env.scope = sc) : relabel scope env = relab0 sc scope := by
  subst h
  rfl
end
end DL
end
section
/-! dicts with numbers as keys, in the store -/
namespace DL
open PySem PyProof.Rows L2
def dciOf (S : Sto) : DV → Option (Nat × List (Int × DV))
  | .ptr n => match S[n]? with
    | some (.dci fs) => some (n, fs)
    | _ => none
  | _ => none
def putKDI (fs : List (Int × DV)) (f : Int) (d : DV) : List (Int × DV) :=
  if (fs.any fun p => decide (p.1 = f)) = true then fs.map (fun p => if p.1 = f then (p.1, d) else p) else fs ++ [(f, d)]
def getKDI (fs : List (Int × DV)) (f : Int) : Option DV := (fs.find? fun p => decide (p.1 = f)).map (·.2)
section
variable {K : PySem.W.Frag} {mg : Str → Option Value} {W W' : Wd} {S : Sto}
theorem dciOf_ok {x : DV} {v : V} {n : Nat} {fs : List (Int × DV)} (R : Rep K mg W S) (h : Den K W x v) (e : dciOf S x = some (n, fs)) :
    ∃ a kvs, v = .ref a ∧ x = .ptr n ∧ S[n]? = some (.dci fs) ∧ W.α[n]? = some a ∧ a ∈ W.α ∧ W.H a = some (.dK kvs) ∧ DiR K W fs kvs := by
  cases x with
  | ptr m =>
    unfold dciOf at e
    simp only at e
    split at e
    · rename_i fs' q
      cases e
      obtain ⟨a, rfl, ha, hm, kvs, h1, h2⟩ := ptr_ok R h q
      exact ⟨a, kvs, rfl, rfl, q, ha, hm, h1, h2⟩
    · cases e
  | _ => cases e
theorem DiR.look {f : Int} {d : DV} : ∀ {fs : List (Int × DV)} {vs : List (Key × V)}, DiR K W fs vs → getKDI fs f = some d → ∃ v, valV vs (Sum.inl f) = some v ∧ Den K W d v
  | [], _, h, e => by cases e
  | p :: fs, _, h, e => by
    obtain ⟨v, r, rfl, h1, h2⟩ := h
    unfold getKDI at e
    rw [List.find?_cons] at e
    by_cases q : p.1 = f
    · simp only [q, decide_true, Option.map_some, Option.some.injEq] at e
      subst e
      exact ⟨v, by rw [valV_pos (by show (Sum.inl p.1 : Key) = _; rw [q])], h1⟩
    · simp only [q, decide_false] at e
      obtain ⟨u, e1, e2⟩ := DiR.look (f := f) (d := d) h2 e
      exact ⟨u, by rw [valV_neg (by intro z; exact q (Sum.inl.inj z)), e1], e2⟩
theorem DiR.has {f : Int} : ∀ {fs : List (Int × DV)} {vs : List (Key × V)}, DiR K W fs vs → (vs.any fun kv => decide (kv.1 = (Sum.inl f : Key))) = (fs.any fun p => decide (p.1 = f))
  | [], _, h => by
    cases (show _ = [] from h)
    rfl
  | p :: fs, _, h => by
    obtain ⟨v, r, rfl, h1, h2⟩ := h
    simp only [List.any_cons, DiR.has h2, Sum.inl.injEq]
theorem DiR.mapped {f : Int} {d : DV} {v : V} (hd : Den K W d v) : ∀ {fs : List (Int × DV)} {vs : List (Key × V)}, DiR K W fs vs → DiR K W (fs.map fun p => if p.1 = f then (p.1, d) else p) (vs.map fun kv => if kv.1 = (Sum.inl f : Key) then (kv.1, v) else kv)
  | [], _, h => by
    cases (show _ = [] from h)
    exact rfl
  | p :: fs, _, h => by
    obtain ⟨u, r, rfl, h1, h2⟩ := h
    by_cases q : p.1 = f
    · refine ⟨v, _, ?_, ?_, DiR.mapped hd h2⟩
      · simp [q]
      · simp [q, hd]
    · refine ⟨u, _, ?_, ?_, DiR.mapped hd h2⟩
      · simp [q]
      · simp [q, h1]
theorem DiR.snoc {f : Int} {d : DV} {v : V} (hd : Den K W d v) : ∀ {fs : List (Int × DV)} {vs : List (Key × V)}, DiR K W fs vs → DiR K W (fs ++ [(f, d)]) (vs ++ [((Sum.inl f : Key), v)])
  | [], _, h => by
    cases (show _ = [] from h)
    exact ⟨v, [], rfl, hd, rfl⟩
  | p :: fs, _, h => by
    obtain ⟨u, r, rfl, h1, h2⟩ := h
    exact ⟨u, _, rfl, h1, DiR.snoc hd h2⟩
theorem DiR.put {f : Int} {d : DV} {v : V} (hd : Den K W d v) {fs : List (Int × DV)} {vs : List (Key × V)} (h : DiR K W fs vs) : DiR K W (putKDI fs f d) (putK vs (Sum.inl f : Key) v) := by
  unfold putKDI putK
  rw [h.has (f := f)]
  split
  · exact DiR.mapped hd h
  · exact DiR.snoc hd h
variable {td ty tv : TE} {fd fy fv : DE}
/-- d[y] -/
def dDGetI (fd fy : DE) : DE := fun s S => bnd (fd s S) fun x S1 => bnd (fy s S1) fun y S2 => match dciOf S2 x, y with
  | some (_, fs), .int f => (match getKDI fs f with
    | some d => some (d, S2)
    | none => none)
  | _, _ => none
theorem re_dgetI (hd : RE K mg td fd) (hy : RE K mg ty fy) : RE K mg (tDGet td ty) (dDGetI fd fy) := by
  intro W σ s S d S' Q R L e q
  obtain ⟨x, S1, e1, e⟩ := bnd_inv e
  obtain ⟨y, S2, e2, e⟩ := bnd_inv e
  refine hd W σ s S x S1 _ R L e1 fun v W1 x1 R1 d1 => ?_
  refine hy W1 σ s S1 y S2 _ R1 (L.ext x1) e2 fun u W2 x2 R2 d2 => ?_
  split at e
  · rename_i n fs f eo
    split at e
    · rename_i d' eg
      cases e
      obtain ⟨a, kvs, rfl, _, _, _, _, h1, h2⟩ := dciOf_ok R2 (d1.ext x2) eo
      cases (show u = V.int f from d2)
      obtain ⟨z, l1, l2⟩ := h2.look eg
      exact ⟨a, z, rfl, .inl ⟨kvs, Sum.inl f, .inl h1, rfl, l1.symm⟩, q z W2 (x1.trans x2) R2 l2⟩
    · cases e
  · cases e
/-- d[y] = v -/
def dDPutI (fd fy fv : DE) : DS := fun s S => bnd (fv s S) fun v S1 => bnd (fd s S1) fun x S2 => bnd (fy s S2) fun y S3 => match dciOf S3 x, y with
  | some (n, fs), .int f => if fs.length < 1000 then some (.nx s (S3.set n (.dci (putKDI fs f v)))) else none
  | _, _ => none
theorem put_worldI {x : DV} {u : V} {n : Nat} {fs : List (Int × DV)} {f : Int} {d : DV} {v : V} (R : Rep K mg W S) (hx : Den K W x u) (hd : Den K W d v) (eo : dciOf S x = some (n, fs)) (hl : fs.length < 1000) :
    ∃ a W', u = .ref a ∧ DPut W.H a (.int f) v W'.H ∧ Ext W W' ∧ Rep K mg W' (S.set n (.dci (putKDI fs f d))) := by
  obtain ⟨a, kvs, rfl, _, _, ha, hm, h1, h2⟩ := dciOf_ok R hx eo
  have xp := ext_put (o := HO.dK (putK kvs (Sum.inl f : Key) v)) R hm
  refine ⟨a, W.put a (.dK (putK kvs (Sum.inl f : Key) v)), rfl, .inl ⟨kvs, Sum.inl f, h1, rfl, ?_, rfl⟩, xp, rep_put R ha ⟨_, upd_same, DiR.put (hd.ext xp) (DiR.ext0 xp.toEx0 h2)⟩⟩
  rw [DiR.len h2, sizeLine_eq]
  omega
theorem rs_dputI (hd : RE K mg td fd) (hy : RE K mg ty fy) (hv : RE K mg tv fv) : RS K mg (sDPut td ty tv) (dDPutI fd fy fv) := by
  intro W σ s S r D R L e P
  obtain ⟨v, S1, e1, e⟩ := bnd_inv e
  obtain ⟨x, S2, e2, e⟩ := bnd_inv e
  obtain ⟨y, S3, e3, e⟩ := bnd_inv e
  refine hv W σ s S v S1 _ R L e1 fun vv W1 x1 R1 d1 => ?_
  refine hd W1 σ s S1 x S2 _ R1 (L.ext x1) e2 fun u W2 x2 R2 d2 => ?_
  refine hy W2 σ s S2 y S3 _ R2 (L.ext (x1.trans x2)) e3 fun w W3 x3 R3 d3 => ?_
  split at e
  · rename_i n fs f eo
    split at e
    · rename_i hl
      cases e
      cases (show w = V.int f from d3)
      obtain ⟨a, W4, rfl, p, x4, R4⟩ := put_worldI (f := f) R3 (d2.ext x3) (d1.ext (x2.trans x3)) eo hl
      exact ⟨a, W4.H, rfl, p, P σ W4 (((x1.trans x2).trans x3).trans x4) R4 (L.ext (((x1.trans x2).trans x3).trans x4))⟩
    · cases e
  · cases e
/-- d[y] op= v -/
def dDAugI (fd fy fv : DE) (g : DV → DV → Sto → Option (DV × Sto)) : DS := fun s S => bnd (fd s S) fun x S1 => bnd (fy s S1) fun y S2 => match dciOf S2 x, y with
  | some (_, fs), .int f => (match getKDI fs f with
    | some d => bnd (fv s S2) fun v S3 => bnd (g d v S3) fun z S4 => (match dciOf S4 x with
      | some (n, fs) => if fs.length < 1000 then some (.nx s (S4.set n (.dci (putKDI fs f z)))) else none
      | none => none)
    | none => none)
  | _, _ => none
theorem rs_daugI {rd : V → V → Hp → VK → Prop} {g : DV → DV → Sto → Option (DV × Sto)} (hd : RE K mg td fd) (hy : RE K mg ty fy) (hv : RE K mg tv fv) (hr : RO K mg rd g) : RS K mg (sDAug td ty tv rd) (dDAugI fd fy fv g) := by
  intro W σ s S r D R L e P
  obtain ⟨x, S1, e1, e⟩ := bnd_inv e
  obtain ⟨y, S2, e2, e⟩ := bnd_inv e
  refine hd W σ s S x S1 _ R L e1 fun u W1 x1 R1 d1 => ?_
  refine hy W1 σ s S1 y S2 _ R1 (L.ext x1) e2 fun w W2 x2 R2 d2 => ?_
  split at e
  · rename_i n fs f eo
    split at e
    · rename_i d eg
      obtain ⟨v, S3, e3, e⟩ := bnd_inv e
      obtain ⟨z, S4, e4, e⟩ := bnd_inv e
      obtain ⟨a, kvs, rfl, _, _, _, _, h1, h2⟩ := dciOf_ok R2 (d1.ext x2) eo
      cases (show w = V.int f from d2)
      obtain ⟨t, l1, l2⟩ := h2.look eg
      refine ⟨a, t, rfl, .inl ⟨kvs, Sum.inl f, .inl h1, rfl, l1.symm⟩, ?_⟩
      refine hv W2 σ s S2 v S3 _ R2 (L.ext (x1.trans x2)) e3 fun vv W3 x3 R3 d3 => ?_
      refine hr W3 S3 d v t vv z S4 _ R3 (l2.ext x3) d3 e4 fun zz W4 x4 R4 d4 => ?_
      split at e
      · rename_i n' fs' eo'
        split at e
        · rename_i hl
          cases e
          obtain ⟨a', W5, ea, p, x5, R5⟩ := put_worldI (f := f) R4 (d1.ext ((x2.trans x3).trans x4)) d4 eo' hl
          cases ea
          have xx := (((x1.trans x2).trans x3).trans x4).trans x5
          exact ⟨W5.H, p, P σ W5 xx R5 (L.ext xx)⟩
        · cases e
      · cases e
    · cases e
  · cases e
/-- {k: v, ..} -/
def dPairsI : List (DE × DE) → Sl → Sto → Option (List (Int × DV) × Sto)
  | [], _, S => some ([], S)
  | (g, f) :: r, s, S => match g s S with
    | some (.int k, S0) => (match f s S0 with
      | some (y, S1) => (match dPairsI r s S1 with
        | some (ps, S2) => some ((k, y) :: ps, S2)
        | none => none)
      | none => none)
    | _ => none
def RPsI (K : PySem.W.Frag) (mg : Str → Option Value) (trs : List (TE × TE)) (ps : List (DE × DE)) : Prop := ∀ (W : Wd) (σ : L2.St) (s : Sl) (S : Sto) (ds : List (Int × DV)) (S' : Sto) (Q : List (V × V) → Hp → Prop), Rep K mg W S → Slo K W σ s → dPairsI ps s S = some (ds, S') →
  (∀ kvs W', Ext W W' → Rep K mg W' S' → DiR K W' ds kvs → Q (kvs.map fun kv => (kV kv.1, kv.2)) W'.H) → tPairs trs σ W.H Q
theorem rps_nilI : RPsI K mg [] [] := by
  intro W σ s S ds S' Q R L e q
  cases e
  exact q [] W (Ext.refl W) R rfl
theorem rps_consI {tk : TE} {gk : DE} {trs : List (TE × TE)} {ps : List (DE × DE)} (hk : RE K mg tk gk) (h : RE K mg tv fv) (hr : RPsI K mg trs ps) : RPsI K mg ((tk, tv) :: trs) ((gk, fv) :: ps) := by
  intro W σ s S ds S' Q R L e q
  unfold dPairsI at e
  split at e
  · rename_i k S0 e0
    split at e
    · rename_i y S1 e1
      split at e
      · rename_i qs S2 e2
        cases e
        refine hk W σ s S _ S0 _ R L e0 fun w W0 x0 R0 d0 => ?_
        cases (show w = V.int k from d0)
        refine h W0 σ s S0 y S1 _ R0 (L.ext x0) e1 fun v W1 x1 R1 d1 => ?_
        refine hr W1 σ s S1 qs _ _ R1 (L.ext (x0.trans x1)) e2 fun kvs W2 x2 R2 d2 => ?_
        exact q ((Sum.inl k, v) :: kvs) W2 ((x0.trans x1).trans x2) R2 ⟨v, kvs, rfl, d1.ext x2, d2⟩
      · cases e
    · cases e
  · cases e
def mergeDI (fs : List (Int × DV)) : List (Int × DV) → List (Int × DV)
  | [] => fs
  | p :: r => mergeDI (putKDI fs p.1 p.2) r
theorem DiR.merge : ∀ {more : List (Int × DV)} {rs : List (Key × V)} {fs : List (Int × DV)} {kvs : List (Key × V)}, DiR K W more rs → DiR K W fs kvs → DiR K W (mergeDI fs more) (mergeK kvs rs)
  | [], _, _, _, h, g => by
    cases (show _ = [] from h)
    exact g
  | p :: more, _, fs, kvs, h, g => by
    obtain ⟨v, r, rfl, h1, h2⟩ := h
    exact DiR.merge (more := more) (fs := putKDI fs p.1 p.2) (kvs := putK kvs (Sum.inl p.1 : Key) v) h2 (DiR.put h1 g)
def dDispI (ps : List (DE × DE)) : DE := fun s S => match dPairsI ps s (S ++ [.dci []]) with
  | some (ds, S1) => if ds.length ≤ 15 then (match S1[S.length]? with
    | some (.dci []) => some (.ptr S.length, S1.set S.length (.dci (mergeDI [] ds)))
    | _ => none) else none
  | none => none
theorem re_dispI {trs : List (TE × TE)} {ps : List (DE × DE)} (h : RPsI K mg trs ps) : RE K mg (tDisp trs) (dDispI ps) := by
  intro W σ s S d S' Q R L e q
  unfold dDispI at e
  split at e
  · rename_i ds S1 e1
    split at e
    · rename_i hl15
      split at e
      rotate_left
      · cases e
      rename_i hc2
      have hc : ds.length ≤ 15 ∧ S1[S.length]? = some (.dci []) := ⟨hl15, hc2⟩
      cases e
      intro p hp
      have R0 : Rep K mg (W.more p (.dK [])) (S ++ [.dci []]) := rep_more R hp ⟨[], upd_same, rfl⟩
      have x0 : Ext W (W.more p (.dK [])) := ext_more hp
      have hd0 : Den K (W.more p (.dK [])) (.ptr S.length) (.ref p) := ⟨p, by
        show (W.α ++ [p])[S.length]? = some p
        rw [← R.len, List.getElem?_concat_length], rfl⟩
      refine h (W.more p (.dK [])) σ s (S ++ [.dci []]) ds S1 _ R0 (L.ext x0) e1 fun kvs W1 x1 R1 d1 => ?_
      have hd1 := hd0.ext x1
      have eo : dciOf S1 (.ptr S.length) = some (S.length, []) := by
        unfold dciOf
        simp only [hc.2]
      obtain ⟨a, kv0, ea, _, _, ha, hm, h1, h2⟩ := dciOf_ok R1 hd1 eo
      cases ea
      cases (show kv0 = [] from h2)
      refine ⟨h1, kvs, rfl, by rw [DiR.len d1]; exact hc.1, ?_⟩
      have xp := ext_put (o := HO.dK (mergeK [] kvs)) R1 hm
      have R2 : Rep K mg (W1.put p (.dK (mergeK [] kvs))) (S1.set S.length (.dci (mergeDI [] ds))) := rep_put R1 ha ⟨_, upd_same, DiR.merge (DiR.ext0 xp.toEx0 d1) (show DiR K _ [] [] from rfl)⟩
      exact q (.ref p) (W1.put p (.dK (mergeK [] kvs))) ((x0.trans x1).trans xp) R2 (hd1.ext xp)
    · cases e
  · cases e
/-- {} -/
def dDNewI : DE := fun _ S => some (.ptr S.length, S ++ [.dci []])
theorem re_dnewI : RE K mg tDNewK dDNewI := by
  intro W σ s S d S' Q R L e q
  cases e
  intro p hp
  exact q (.ref p) (W.more p (.dK [])) (ext_more hp) (rep_more R hp ⟨[], upd_same, rfl⟩) ⟨p, by
    show (W.α ++ [p])[S.length]? = some p
    rw [← R.len, List.getElem?_concat_length], rfl⟩
theorem DiR.none {f : Int} : ∀ {fs : List (Int × DV)} {vs : List (Key × V)}, DiR K W fs vs → getKDI fs f = none → valV vs (Sum.inl f) = none
  | [], _, h, e => by
    cases (show _ = [] from h)
    rfl
  | p :: fs, _, h, e => by
    obtain ⟨v, r, rfl, h1, h2⟩ := h
    unfold getKDI at e
    rw [List.find?_cons] at e
    by_cases q : p.1 = f
    · simp only [q, decide_true, Option.map_some] at e
      cases e
    · simp only [q, decide_false] at e
      rw [valV_neg (by intro z; exact q (Sum.inl.inj z))]
      exact DiR.none (f := f) h2 e
/-- d.get(y, z) -/
def dDGet2I (fd fy fz : DE) : DE := fun s S => bnd (fd s S) fun x S1 => match dciOf S1 x with
  | none => none
  | some _ => bnd (fy s S1) fun y S2 => bnd (fz s S2) fun z S3 => match dciOf S3 x, y with
    | some (_, fs), .int f => some ((getKDI fs f).getD z, S3)
    | _, _ => none
theorem re_dget2I {tz : TE} {fz : DE} (hd : RE K mg td fd) (hy : RE K mg ty fy) (hz : RE K mg tz fz) : RE K mg (tDGet2 td ty tz) (dDGet2I fd fy fz) := by
  intro W σ s S d S' Q R L e q
  obtain ⟨x, S1, e1, e⟩ := bnd_inv e
  split at e
  · cases e
  rename_i n0 eo0
  obtain ⟨y, S2, e2, e⟩ := bnd_inv e
  obtain ⟨z, S3, e3, e⟩ := bnd_inv e
  refine hd W σ s S x S1 _ R L e1 fun v W1 x1 R1 d1 => ?_
  obtain ⟨a, kvs0, rfl, _, _, _, _, g1, _⟩ := dciOf_ok R1 d1 eo0
  refine ⟨a, rfl, .inl ⟨kvs0, .inl g1⟩, ?_⟩
  refine hy W1 σ s S1 y S2 _ R1 (L.ext x1) e2 fun u W2 x2 R2 d2 => ?_
  refine hz W2 σ s S2 z S3 _ R2 (L.ext (x1.trans x2)) e3 fun w W3 x3 R3 d3 => ?_
  split at e
  · rename_i n fs f eo _
    cases e
    obtain ⟨a', kvs, ea, _, _, _, _, h1, h2⟩ := dciOf_ok R3 ((d1.ext x2).ext x3) eo
    cases ea
    cases (show u = V.int f from d2)
    refine ⟨valV kvs (Sum.inl f), .inl ⟨kvs, Sum.inl f, .inl h1, rfl, rfl⟩, ?_⟩
    cases eg : getKDI fs f with
    | none =>
      rw [DiR.none h2 eg]
      rw [eg] at q
      exact q w W3 ((x1.trans x2).trans x3) R3 d3
    | some d' =>
      obtain ⟨z', l1, l2⟩ := h2.look eg
      rw [l1]
      rw [eg] at q
      exact q z' W3 ((x1.trans x2).trans x3) R3 l2
  · cases e
theorem DiR.keys : ∀ {fs : List (Int × DV)} {vs : List (Key × V)}, DiR K W fs vs → vs.map (·.1) = (fs.map (·.1)).map Sum.inl
  | [], _, h => by
    cases (show _ = [] from h)
    rfl
  | p :: fs, _, h => by
    obtain ⟨u, r, rfl, _, h2⟩ := h
    simp [DiR.keys h2]
def rSortDI (K : PySem.W.Frag) : List V → Hp → VK → Prop := fun xs H Q => ∃ (a : Addr) (kvs : List (Key × V)) (ks : List Int), xs = [.ref a] ∧ Rd H a (.dK kvs) ∧ kvs.map (·.1) = ks.map Sum.inl ∧ ks.length < 64 ∧
  ∀ (ys : List Int) (p : Addr), ys.Perm ks → ys.Pairwise (· ≤ ·) → H p = none → Q (.ref p) (upd H p (.lst (ys.map V.int)))
/-- sorted(d), a dict with numbers as keys -/
def sortDI (m : Bool) : DC := fun xs S => match xs with
  | [x] => match dciOf S x with
    | some (_, fs) => if fs.length < 64 then some (newL m ((sortI (fs.map (·.1))).map DV.int) S) else none
    | none => none
  | _ => none
theorem rc_sortDI {m : Bool} : RC K mg (rSortDI K) (sortDI m) := by
  intro W S xs vs d S' Q R h e q
  unfold sortDI at e
  split at e
  · rename_i x
    split at e
    · rename_i n fs eo
      split at e
      · rename_i hl
        obtain ⟨v, rfl, hv⟩ := dens1 h
        obtain ⟨a, kvs, rfl, _, _, _, _, h1, h2⟩ := dciOf_ok R hv eo
        refine ⟨a, kvs, fs.map (·.1), rfl, .inl h1, h2.keys, by rw [List.length_map]; exact hl, fun ms p hp hs hn => ?_⟩
        cases sortI_eq hp hs
        obtain ⟨W2, e2, x2, R2, d2⟩ := newL_ok R hn (dens_ints (K := K) (W := W) (sortI (fs.map (·.1)))) (Option.some.inj e)
        rw [← e2]
        exact q _ W2 x2 R2 d2
      · cases e
    · cases e
  · cases e
end
end DL
end
section
namespace FW
open PySem PyProof.Rows PySem.Spec L2 DL
/-! ### histories that are like or unlike -/
theorem eqv_list {xs ys : List PyData} : PyData.eqv (.list xs) (.list ys) = PyData.eqvAll xs ys := by simp [PyData.eqv]
theorem eqv_pst (p q : List Int × List Rat) : PyData.eqv (pst p) (pst q) = decide (p = q) := by
  obtain ⟨a, b⟩ := p
  obtain ⟨c, d⟩ := q
  have h1 := eqv_map (g := PyData.int) (fun x y => by simp [PyData.eqv, Bool.beq_eq_decide_eq]) a c
  have h2 := eqv_map (g := pfr) eqv_pfr b d
  simp only [pst, PyData.eqv, PyData.eqvAll, h1, h2]
  simp [Prod.ext_iff, Bool.decide_and]
theorem eqv_psts (ps qs : List (List Int × List Rat)) : PyData.eqv (.list (ps.map pst)) (.list (qs.map pst)) = decide (ps = qs) := by
  rw [eqv_list]
  exact eqv_map eqv_pst ps qs
section
variable {S : Sto} {n m : Nat} {ws ws' : List Int} {t t' : List (List Rat)} {sts sts' : List (List Int × List Rat)} {w w' : List Rat}
theorem hist_eqG (h : HAt S n ws (w :: t) sts) (g : HAt S m ws' (w' :: t') sts') : f_History_eq_z [.ptr n, .ptr m] S = some (.bl (decide (ws = ws' ∧ w = w' ∧ sts = sts')), S) := by
  have a1 := h.fF (fe := dVar 0) (s := [some (.ptr n), some (.ptr m)]) (by simp)
  have b1 := g.fF (fe := dVar 1) (s := [some (.ptr n), some (.ptr m)]) (by simp)
  have a2 := h.fW (fe := dVar 0) (s := [some (.ptr n), some (.ptr m)]) (by simp)
  have b2 := g.fW (fe := dVar 1) (s := [some (.ptr n), some (.ptr m)]) (by simp)
  have a3 := h.fS (fe := dVar 0) (s := [some (.ptr n), some (.ptr m)]) (by simp)
  have b3 := g.fS (fe := dVar 1) (s := [some (.ptr n), some (.ptr m)]) (by simp)
  have i1 := ix_first h.rdW
  have i2 := ix_first g.rdW
  have e1 : eqD (dI ws) (dI ws') S = some (.bl (decide (ws = ws')), S) := eq_dI ws ws'
  have e2 : eqD (dF w) (dF w') S = some (.bl (decide (w = w')), S) := eq_dF w w'
  have e3 : eqD (.ptr (n + 1)) (.ptr (m + 1)) S = some (.bl (decide (sts = sts')), S) := by
    rw [eqD_of (py_stsP h.s) (py_stsP g.s) (sh_psts sts) (sh_psts sts') (by decide), eqv_psts]
  have isc : dIsC "History" (dVar 1) [some (.ptr n), some (.ptr m)] S = some (.bl true, S) := by
    unfold dIsC
    rw [show (dVar 1) [some (.ptr n), some (.ptr m)] S = some (DV.ptr m, S) from rfl, bnd_some', g.ins]
    simp
  refine fn_rt (d := .bl _) (S1 := S) ?_ exF_same
  refine seq_nx (s1 := [some (.ptr n), some (.ptr m)]) (S1 := S) (if_f (S1 := S) ?_ rfl) (ret_of ?_)
  · show dNot (dTest (dIsC "History" (dVar 1))) [some (.ptr n), some (.ptr m)] S = _
    simp only [dNot, dTest, isc, bnd_some']
    rfl
  · show dAndV _ _ [some (.ptr n), some (.ptr m)] S = _
    revert a1 b1 a2 b2 a3 b3
    generalize dFld "History" "_floors" (dVar 0) = F1
    generalize dFld "History" "_floors" (dVar 1) = F2
    generalize dFld "History" "_waters" (dVar 0) = F3
    generalize dFld "History" "_waters" (dVar 1) = F4
    generalize dFld "History" "_steps" (dVar 0) = F5
    generalize dFld "History" "_steps" (dVar 1) = F6
    intro a1 b1 a2 b2 a3 b3
    simp only [dAndV, dOp, dC, a1, b1, bnd_some', e1]
    by_cases c1 : ws = ws'
    · rw [decide_eq_true c1]
      simp only [a2, b2, bnd_some', i1, i2, e2]
      by_cases c2 : w = w'
      · rw [decide_eq_true c2]
        simp only [a3, b3, bnd_some', e3]
        simp [c1, c2]
      · rw [decide_eq_false c2]
        simp [c2]
    · rw [decide_eq_false c1]
      simp [c1]
theorem own_eqG {neg : Bool} (h : HAt S n ws (w :: t) sts) (g : HAt S m ws' (w' :: t') sts') : ownD neg "History" f_History_eq_z (.ptr n) (.ptr m) S = some (.bl (if neg then !decide (ws = ws' ∧ w = w' ∧ sts = sts') else decide (ws = ws' ∧ w = w' ∧ sts = sts')), S) := by
  unfold ownD
  rw [h.ins, g.ins]
  simp only [and_self, if_true, hist_eqG h g, bnd_some']
end
/-! ### made of its steps -/
abbrev SP2 := List Int × List Rat
noncomputable def stp (ws : List Int) (w : List Rat) (p : SP2) : List Rat := rest (ws.zip (List.zipWith (· + ·) w p.2)) p.1
noncomputable def fnl (ws : List Int) (w : List Rat) (done : List SP2) : List Rat := done.foldl (stp ws) w
noncomputable def wsx (ws : List Int) : List Rat → List SP2 → List (List Rat)
  | _, [] => []
  | w, p :: r => w :: wsx ws (stp ws w p) r
theorem fnl_snoc {ws : List Int} {w : List Rat} {done : List SP2} {p : SP2} : fnl ws w (done ++ [p]) = stp ws (fnl ws w done) p := by simp [fnl, List.foldl_append]
theorem wsx_snoc {ws : List Int} {p : SP2} : ∀ (done : List SP2) (w : List Rat), wsx ws w (done ++ [p]) = wsx ws w done ++ [fnl ws w done]
  | [], w => rfl
  | q :: r, w => by
    show w :: wsx ws (stp ws w q) (r ++ [p]) = w :: (wsx ws (stp ws w q) r ++ [fnl ws (stp ws w q) r])
    rw [wsx_snoc r]
theorem wsx_len {ws : List Int} : ∀ (done : List SP2) (w : List Rat), (wsx ws w done).length = done.length
  | [], _ => rfl
  | q :: r, w => congrArg (· + 1) (wsx_len r (stp ws w q))
theorem wsx_head {ws : List Int} {w : List Rat} : ∀ done : List SP2, ∃ t, wsx ws w done ++ [fnl ws w done] = w :: t
  | [] => ⟨[], rfl⟩
  | q :: r => ⟨_, rfl⟩
def sst (p : SP2) : SP2 := (sortI p.1, p.2)
/-- at n stands the History that these floors, this water and these steps make -/
def HM (S : Sto) (n : Nat) (ws : List Int) (w : List Rat) (done : List SP2) : Prop := HAt S n ws (wsx ws w done ++ [fnl ws w done]) (done.map sst)
/-- steps that are fit for so many tanks -/
structure OkS (ws : List Int) (done : List SP2) : Prop where
  b : ∀ p ∈ done, Bo ws.length p.1
  w : ∀ p ∈ done, Wt 0 ws p.2
  l : done.length ≤ 10
theorem wt_fnl {ws : List Int} (f : Flo ws) : ∀ (done : List SP2) (j : Nat) (w : List Rat), Wt j ws w → (∀ p ∈ done, Bo ws.length p.1) → (∀ p ∈ done, Wt 0 ws p.2) → j + done.length ≤ 11 → Wt (j + done.length) ws (fnl ws w done)
  | [], j, w, h, _, _, _ => h
  | p :: r, j, w, h, hb, hw, hl => by
    have h1 : Wt (j + 1) ws (stp ws w p) := h.step (hw p List.mem_cons_self) f (by simp at hl; omega) (hb p List.mem_cons_self)
    have := wt_fnl f r (j + 1) _ h1 (fun q hq => hb q (List.mem_cons_of_mem _ hq)) (fun q hq => hw q (List.mem_cons_of_mem _ hq)) (by simp at hl; omega)
    have e : j + (p :: r).length = j + 1 + r.length := by simp; omega
    rw [e]
    exact this
theorem OkS.fin {ws : List Int} {done : List SP2} {w : List Rat} (o : OkS ws done) (f : Flo ws) (W : Wt 0 ws w) : Wt done.length ws (fnl ws w done) := by
  have := wt_fnl f done 0 w W o.b o.w (by have := o.l; omega)
  rwa [Nat.zero_add] at this
theorem OkS.snoc {ws : List Int} {done : List SP2} {p : SP2} (o : OkS ws done) (hb : Bo ws.length p.1) (hw : Wt 0 ws p.2) (hl : done.length < 10) : OkS ws (done ++ [p]) :=
  ⟨fun q hq => (List.mem_append.mp hq).elim (o.b q) fun h => by cases List.mem_singleton.mp h; exact hb, fun q hq => (List.mem_append.mp hq).elim (o.w q) fun h => by cases List.mem_singleton.mp h; exact hw, by simp; omega⟩
theorem OkS.of {ws : List Int} {done ds : List SP2} (o : OkS ws done) (h : ∀ p ∈ ds, p ∈ done) (hl : ds.length ≤ 10) : OkS ws ds := ⟨fun p hp => o.b p (h p hp), fun p hp => o.w p (h p hp), hl⟩
section
variable {S : Sto} {n m : Nat} {ws ws' : List Int} {w w' : List Rat} {done done' : List SP2} {p : SP2}
/-- one step more -/
theorem HM.step (h : HM S n ws w done) (f : Flo ws) (W : Wt 0 ws w) (o : OkS ws done) (hb : Bo ws.length p.1) (hw : Wt 0 ws p.2) :
    f_History_step_z [.ptr n, dI p.1, dF p.2] S = some (.non, hset S n (wsx ws w (done ++ [p]) ++ [fnl ws w (done ++ [p])]) ((done ++ [p]).map sst)) ∧ HM (hset S n (wsx ws w (done ++ [p]) ++ [fnl ws w (done ++ [p])]) ((done ++ [p]).map sst)) n ws w (done ++ [p]) := by
  have st := step_ok (bd := dI p.1) h f (o.fin f W) hw (by have := o.l; omega) hb (.inl rfl) (fun X _ _ _ => .inl rfl) (by rw [wsx_len]; have := o.l; omega) (by rw [List.length_map]; have := o.l; omega)
  have e : wsx ws w (done ++ [p]) ++ [fnl ws w (done ++ [p])] = wsx ws w done ++ [fnl ws w done] ++ [rest (ws.zip (List.zipWith (· + ·) (fnl ws w done) p.2)) p.1] := by
    rw [wsx_snoc, fnl_snoc]
    rfl
  have e2 : (done ++ [p]).map sst = done.map sst ++ [(sortI p.1, p.2)] := by simp [sst]
  refine ⟨?_, ?_⟩
  · rw [e, e2]
    exact st
  · unfold HM
    exact HAt.hset h _ _
/-- the last step taken back -/
theorem HM.undo (h : HM S n ws w (done ++ [p])) : f_History_undo_z [.ptr n] S = some (.non, hset S n (wsx ws w done ++ [fnl ws w done]) (done.map sst)) ∧ HM (hset S n (wsx ws w done ++ [fnl ws w done]) (done.map sst)) n ws w done := by
  have h' : HAt S n ws (wsx ws w done ++ [fnl ws w done] ++ [fnl ws w (done ++ [p])]) (done.map sst ++ [sst p]) := by
    have := h
    unfold HM at this
    rw [wsx_snoc] at this
    simpa using this
  exact ⟨undo_ok h', HAt.hset h' _ _⟩
theorem HM.eqG {neg : Bool} (h : HM S n ws w done) (g : HM S m ws' w' done') : ownD neg "History" f_History_eq_z (.ptr n) (.ptr m) S = some (.bl (if neg then !decide (ws = ws' ∧ w = w' ∧ done.map sst = done'.map sst) else decide (ws = ws' ∧ w = w' ∧ done.map sst = done'.map sst)), S) := by
  obtain ⟨t, e⟩ := wsx_head (ws := ws) (w := w) done
  obtain ⟨t', e'⟩ := wsx_head (ws := ws') (w := w') done'
  unfold HM at h g
  rw [e] at h
  rw [e'] at g
  exact own_eqG h g
end
theorem hset_hobj {S : Sto} {ws : List Int} {wss wss' : List (List Rat)} {sts sts' : List (List Int × List Rat)} : hset (S ++ hobj S.length ws wss sts) S.length wss' sts' = S ++ hobj S.length ws wss' sts' := by
  unfold hset hobj
  rw [List.set_append_right _ _ (by omega), List.set_append_right _ _ (by omega)]
  have e1 : S.length + 2 - S.length = 2 := by omega
  have e2 : S.length + 1 - S.length = 1 := by omega
  rw [e1, e2]
  rfl
theorem hobj_atN {S : Sto} {ws : List Int} {wss : List (List Rat)} {sts : List (List Int × List Rat)} : HAt (S ++ hobj S.length ws wss sts) S.length ws wss sts := by
  have := hobj_at (S := S) (X := []) (ws := ws) (wss := wss) (sts := sts)
  rw [List.append_nil] at this
  exact this
end FW
end
section
namespace FB.K10
open PySem PyProof.Rows PySem.Spec L2 DL FW 
/-! ### the text -/
def topS (i : Nat) : Stmt := PySem.Challenge.pw_flapwater_k10_undone_and_equal.main.body.getD i (.Pass ⟨0, 0, 0, 0⟩)
abbrev s_History_eq : Stmt := inClass (topS 25) 1
abbrev ns_History_eq : List Str := ["self", "other"]
theorem sc_History_eq : FnScope ns_History_eq ["self", "other"] (defScope s_History_eq) := ⟨rfl, rfl, rfl, by decide +kernel, rfl, by decide +kernel, by decide +kernel⟩
abbrev s_law_unlike : Stmt := topS 36
abbrev ns_law_unlike : List Str := ["made", "other"]
theorem sc_law_unlike : FnScope ns_law_unlike ["made", "other"] (defScope s_law_unlike) := ⟨rfl, rfl, rfl, by decide +kernel, rfl, by decide +kernel, by decide +kernel⟩
abbrev s_stretches : Stmt := topS 19
abbrev ns_stretches : List Str := ["floors", "bolted", "cuts"]
theorem sc_stretches : FnScope ns_stretches ["floors", "bolted"] (defScope s_stretches) := ⟨rfl, rfl, rfl, by decide +kernel, rfl, by decide +kernel, by decide +kernel⟩
abbrev s_above : Stmt := topS 6
abbrev ns_above : List Str := ["one", "other"]
theorem sc_above : FnScope ns_above ["one", "other"] (defScope s_above) := ⟨rfl, rfl, rfl, by decide +kernel, rfl, by decide +kernel, by decide +kernel⟩
abbrev s_lowest : Stmt := topS 3
abbrev ns_lowest : List Str := ["top", "bottom", "common"]
theorem sc_lowest : FnScope ns_lowest ["top", "bottom"] (defScope s_lowest) := ⟨rfl, rfl, rfl, by decide +kernel, rfl, by decide +kernel, by decide +kernel⟩
abbrev s_share : Stmt := topS 5
abbrev ns_share : List Str := ["amount", "part", "whole", "top", "bottom"]
theorem sc_share : FnScope ns_share ["amount", "part", "whole"] (defScope s_share) := ⟨rfl, rfl, rfl, by decide +kernel, rfl, by decide +kernel, by decide +kernel⟩
abbrev s_pool_height : Stmt := topS 20
abbrev ns_pool_height : List Str := ["pool", "floors", "amount"]
theorem sc_pool_height : FnScope ns_pool_height ["pool"] (defScope s_pool_height) := ⟨rfl, rfl, rfl, by decide +kernel, rfl, by decide +kernel, by decide +kernel⟩
abbrev s_plus : Stmt := topS 4
abbrev ns_plus : List Str := ["one", "other", "common", "rest", "top", "shared"]
theorem sc_plus : FnScope ns_plus ["one", "other"] (defScope s_plus) := ⟨rfl, rfl, rfl, by decide +kernel, rfl, by decide +kernel, by decide +kernel⟩
abbrev s_pooled : Stmt := topS 21
abbrev ns_pooled : List Str := ["floors", "water", "pools", "floor", "amount", "pool", "floors_ahead", "amount_ahead"]
theorem sc_pooled : FnScope ns_pooled ["floors", "water"] (defScope s_pooled) := ⟨rfl, rfl, rfl, by decide +kernel, rfl, by decide +kernel, by decide +kernel⟩
abbrev s_at_rest : Stmt := topS 22
abbrev ns_at_rest : List Str := ["floors", "water", "bolted", "rest", "start", "end", "level_floors", "amount", "whole", "floor"]
theorem sc_at_rest : FnScope ns_at_rest ["floors", "water", "bolted"] (defScope s_at_rest) := ⟨rfl, rfl, rfl, by decide +kernel, rfl, by decide +kernel, by decide +kernel⟩
abbrev s_check_bolted : Stmt := topS 17
abbrev ns_check_bolted : List Str := ["floors", "bolted", "at", "flap"]
theorem sc_check_bolted : FnScope ns_check_bolted ["floors", "bolted"] (defScope s_check_bolted) := ⟨rfl, rfl, rfl, by decide +kernel, rfl, by decide +kernel, by decide +kernel⟩
abbrev s_check_water : Stmt := topS 16
abbrev ns_check_water : List Str := ["floors", "water", "number", "amount"]
theorem sc_check_water : FnScope ns_check_water ["floors", "water"] (defScope s_check_water) := ⟨rfl, rfl, rfl, by decide +kernel, rfl, by decide +kernel, by decide +kernel⟩
abbrev s_check_floors : Stmt := topS 15
abbrev ns_check_floors : List Str := ["floors", "number", "floor"]
theorem sc_check_floors : FnScope ns_check_floors ["floors"] (defScope s_check_floors) := ⟨rfl, rfl, rfl, by decide +kernel, rfl, by decide +kernel, by decide +kernel⟩
abbrev s_settled : Stmt := topS 23
abbrev ns_settled : List Str := ["floors", "water", "bolted"]
theorem sc_settled : FnScope ns_settled ["floors", "water", "bolted"] (defScope s_settled) := ⟨rfl, rfl, rfl, by decide +kernel, rfl, by decide +kernel, by decide +kernel⟩
abbrev s_History_step : Stmt := inClass (topS 25) 2
abbrev ns_History_step : List Str := ["self", "bolted", "rain", "fallen", "amount", "more"]
theorem sc_History_step : FnScope ns_History_step ["self", "bolted", "rain"] (defScope s_History_step) := ⟨rfl, rfl, rfl, by decide +kernel, rfl, by decide +kernel, by decide +kernel⟩
abbrev s_History_init : Stmt := inClass (topS 25) 0
abbrev ns_History_init : List Str := ["self", "floors", "water", "first"]
theorem sc_History_init : FnScope ns_History_init ["self", "floors", "water"] (defScope s_History_init) := ⟨rfl, rfl, rfl, by decide +kernel, rfl, by decide +kernel, by decide +kernel⟩
abbrev s_law_made : Stmt := topS 34
abbrev ns_law_made : List Str := ["tanks", "first", "done", "made", "shut", "fell"]
theorem sc_law_made : FnScope ns_law_made ["tanks", "first", "done"] (defScope s_law_made) := ⟨rfl, rfl, rfl, by decide +kernel, rfl, by decide +kernel, by decide +kernel⟩
abbrev s_law_others_right : Stmt := topS 37
abbrev ns_law_others_right : List Str := ["made", "tanks", "first", "done", "more", "wider"]
theorem sc_law_others_right : FnScope ns_law_others_right ["made", "tanks", "first", "done"] (defScope s_law_others_right) := ⟨rfl, rfl, rfl, by decide +kernel, rfl, by decide +kernel, by decide +kernel⟩
abbrev s_law_take : Stmt := topS 28
abbrev ns_law_take : List Str := ["deck", "many", "drawn", "turn", "mixed"]
theorem sc_law_take : FnScope ns_law_take ["deck", "many"] (defScope s_law_take) := ⟨rfl, rfl, rfl, by decide +kernel, rfl, by decide +kernel, by decide +kernel⟩
abbrev s_History_floors : Stmt := inClass (topS 25) 5
abbrev ns_History_floors : List Str := ["self"]
theorem sc_History_floors : FnScope ns_History_floors ["self"] (defScope s_History_floors) := ⟨rfl, rfl, rfl, by decide +kernel, rfl, by decide +kernel, by decide +kernel⟩
abbrev s_History_steps : Stmt := inClass (topS 25) 4
abbrev ns_History_steps : List Str := ["self", "bolted", "rain"]
theorem sc_History_steps : FnScope ns_History_steps ["self"] (defScope s_History_steps) := ⟨rfl, rfl, rfl, by decide +kernel, rfl, by decide +kernel, by decide +kernel⟩
abbrev s_History_water : Stmt := inClass (topS 25) 6
abbrev ns_History_water : List Str := ["self", "number"]
theorem sc_History_water : FnScope ns_History_water ["self", "number"] (defScope s_History_water) := ⟨rfl, rfl, rfl, by decide +kernel, rfl, by decide +kernel, by decide +kernel⟩
abbrev s_sums : Stmt := topS 7
abbrev ns_sums : List Str := ["amounts", "told", "amount"]
theorem sc_sums : FnScope ns_sums ["amounts"] (defScope s_sums) := ⟨rfl, rfl, rfl, by decide +kernel, rfl, by decide +kernel, by decide +kernel⟩
abbrev s_heaped : Stmt := topS 18
abbrev ns_heaped : List Str := ["floors", "water"]
theorem sc_heaped : FnScope ns_heaped ["floors", "water"] (defScope s_heaped) := ⟨rfl, rfl, rfl, by decide +kernel, rfl, by decide +kernel, by decide +kernel⟩
abbrev s_History_left : Stmt := inClass (topS 25) 7
abbrev ns_History_left : List Str := ["self", "k"]
theorem sc_History_left : FnScope ns_History_left ["self", "k"] (defScope s_History_left) := ⟨rfl, rfl, rfl, by decide +kernel, rfl, by decide +kernel, by decide +kernel⟩
abbrev s_law_alike : Stmt := topS 35
abbrev ns_law_alike : List Str := ["made", "other", "many", "spots", "spot"]
theorem sc_law_alike : FnScope ns_law_alike ["made", "other", "many"] (defScope s_law_alike) := ⟨rfl, rfl, rfl, by decide +kernel, rfl, by decide +kernel, by decide +kernel⟩
abbrev s_History_undo : Stmt := inClass (topS 25) 3
abbrev ns_History_undo : List Str := ["self"]
theorem sc_History_undo : FnScope ns_History_undo ["self"] (defScope s_History_undo) := ⟨rfl, rfl, rfl, by decide +kernel, rfl, by decide +kernel, by decide +kernel⟩
abbrev s_law_shut : Stmt := topS 33
abbrev ns_law_shut : List Str := ["deck", "tanks", "left", "most", "turn"]
theorem sc_law_shut : FnScope ns_law_shut ["deck", "tanks"] (defScope s_law_shut) := ⟨rfl, rfl, rfl, by decide +kernel, rfl, by decide +kernel, by decide +kernel⟩
abbrev s_law_low : Stmt := topS 29
abbrev ns_law_low : List Str := ["top", "bottom", "one", "other"]
theorem sc_law_low : FnScope ns_law_low ["top", "bottom"] (defScope s_law_low) := ⟨rfl, rfl, rfl, by decide +kernel, rfl, by decide +kernel, by decide +kernel⟩
abbrev s_law_amount : Stmt := topS 31
abbrev ns_law_amount : List Str := ["deck", "some", "kind"]
theorem sc_law_amount : FnScope ns_law_amount ["deck"] (defScope s_law_amount) := ⟨rfl, rfl, rfl, by decide +kernel, rfl, by decide +kernel, by decide +kernel⟩
abbrev s_law_fall : Stmt := topS 32
abbrev ns_law_fall : List Str := ["deck", "tanks", "kind", "found", "spot", "wide", "tank"]
theorem sc_law_fall : FnScope ns_law_fall ["deck", "tanks"] (defScope s_law_fall) := ⟨rfl, rfl, rfl, by decide +kernel, rfl, by decide +kernel, by decide +kernel⟩
abbrev s_law_tanks : Stmt := topS 30
abbrev ns_law_tanks : List Str := ["deck", "most", "many", "kind", "tank"]
theorem sc_law_tanks : FnScope ns_law_tanks ["deck", "most"] (defScope s_law_tanks) := ⟨rfl, rfl, rfl, by decide +kernel, rfl, by decide +kernel, by decide +kernel⟩
abbrev s_law_deck : Stmt := topS 27
abbrev ns_law_deck : List Str := ["script", "great", "fold", "cell"]
theorem sc_law_deck : FnScope ns_law_deck ["script"] (defScope s_law_deck) := ⟨rfl, rfl, rfl, by decide +kernel, rfl, by decide +kernel, by decide +kernel⟩
abbrev s_law : Stmt := topS 38
abbrev ns_law : List Str := ["script", "deck", "lap", "tanks", "first", "made", "bare", "done", "turn", "shut", "fell", "thing"]
theorem sc_law : FnScope ns_law ["script"] (defScope s_law) := ⟨rfl, rfl, rfl, by decide +kernel, rfl, by decide +kernel, by decide +kernel⟩
/-! ### each def as a function of data -/
noncomputable def b_law_unlike_z : DS :=
    (dRet (dAndV (dOp (ownD true "History" f_History_eq_z) (dVar 0) (dVar 1)) (dAndV (dOp (ownD true "History" f_History_eq_z) (dVar 1) (dVar 0)) (dNotV (dOp (ownD false "History" f_History_eq_z) (dVar 0) (dVar 1))))))
noncomputable def f_law_unlike_z : List DV → Sto → Option (DV × Sto) := fnF (some false) 2 b_law_unlike_z
noncomputable def b_law_made_r : DS :=
    (dSeq (dAsg (dMake "History" 3 f_History_init_r [] (dCons (dVar 0) (dCons (dVar 1) dNil))) (dName 3))
    (dSeq (dFor (diL (dVar 2)) (dGTup 2 (dGCons (dName 4) (dGCons (dName 5) dGNil)))
    (dDrop (dMeth "History" "step" 3 f_History_step_z [] (dVar 3) (dCons (dVar 4) (dCons (dVar 5) dNil)))))
    (dRet (dVar 3))))
noncomputable def f_law_made_r : List DV → Sto → Option (DV × Sto) := fnF none 6 b_law_made_r
noncomputable def b_law_others_right_z : DS :=
    (dSeq (dAsg (dOp (addD false) (dLst false (dCons (dIf (dTest (dOp eqD (dOp ixD (dVar 2) (dC (.int 0))) (dTup (dCons (dC (.int 1)) (dCons (dC (.int 1)) dNil))))) (dTup (dCons (dC (.int 2)) (dCons (dC (.int 1)) dNil))) (dTup (dCons (dC (.int 1)) (dCons (dC (.int 1)) dNil)))) dNil)) (dSlL false (dVar 2) (doS (dC (.int 1))) doN)) (dName 4))
    (dSeq (dAsg (dOp (addD false) (dLst false (dCons (dOp (addD false) (dOp modD (dOp ixD (dVar 1) (dC (.int 0))) (dC (.int 9))) (dC (.int 1))) dNil)) (dSlL false (dVar 1) (doS (dC (.int 1))) doN)) (dName 5))
    (dSeq (dIfS (dOr (dNot (dTest (dCall 2 f_law_unlike_z [] (dCons (dVar 0) (dCons (dCall 3 f_law_made_r [] (dCons (dVar 1) (dCons (dVar 4) (dCons (dVar 3) dNil)))) dNil))))) (dNot (dTest (dCall 2 f_law_unlike_z [] (dCons (dVar 0) (dCons (dCall 3 f_law_made_r [] (dCons (dVar 5) (dCons (dVar 2) (dCons (dVar 3) dNil)))) dNil))))))
    (dRet (dC (.bl false))) dNext)
    (dSeq (dIfS (dOr (dTest (dOp eqD (dVar 3) (dLst false dNil))) (dTest (dOp eqD (dOp ixD (dOp ixD (dVar 3) (dUn negD (dC (.int 1)))) (dC (.int 1))) (dVar 4))))
    (dRet (dC (.bl true))) dNext)
    (dRet (dCall 2 f_law_unlike_z [] (dCons (dVar 0) (dCons (dCall 3 f_law_made_r [] (dCons (dVar 1) (dCons (dVar 2) (dCons (dOp (addD false) (dSlL false (dVar 3) doN (doS (dUn negD (dC (.int 1))))) (dLst false (dCons (dTup (dCons (dOp ixD (dOp ixD (dVar 3) (dUn negD (dC (.int 1)))) (dC (.int 0))) (dCons (dVar 4) dNil))) dNil))) dNil)))) dNil))))))))
noncomputable def f_law_others_right_z : List DV → Sto → Option (DV × Sto) := fnF (some false) 6 b_law_others_right_z
noncomputable def b_History_floors_z : DS :=
    (dRet (dCB (listD false) (dCons (dFld "History" "_floors" (dVar 0)) dNil)))
noncomputable def f_History_floors_z : List DV → Sto → Option (DV × Sto) := fnF (some false) 1 b_History_floors_z
noncomputable def b_law_alike_z : DS :=
    (dSeq (dIfS (dOr (dNot (dAnd (dTest (dOp (ownD false "History" f_History_eq_z) (dVar 0) (dVar 1))) (dTest (dOp (ownD false "History" f_History_eq_z) (dVar 1) (dVar 0))))) (dOr (dTest (dOp (ownD true "History" f_History_eq_z) (dVar 0) (dVar 1))) (dTest (dOp neD (dMeth "History" "steps" 1 f_History_steps_z [] (dVar 0) dNil) (dMeth "History" "steps" 1 f_History_steps_z [] (dVar 1) dNil)))))
    (dRet (dC (.bl false))) dNext)
    (dSeq (dAsg (dLr1' false (dOp (addD false) (dCB lenD (dCons (dMeth "History" "floors" 1 f_History_floors_z [] (dVar 0) dNil) dNil)) (dC (.int 1)))) (dName 3))
    (dSeq (dIfS (dTest (dOp neD (dLc false (diL (dVar 3)) (dName 4) dYes (dMeth "History" "left" 2 f_History_left_z [] (dVar 0) (dCons (dVar 4) dNil)) [4]) (dLc false (diL (dVar 3)) (dName 4) dYes (dMeth "History" "left" 2 f_History_left_z [] (dVar 1) (dCons (dVar 4) dNil)) [4])))
    (dRet (dC (.bl false))) dNext)
    (dRet (dOp eqD (dLc false (diR1 (dCons (dOp (addD false) (dVar 2) (dC (.int 1))) dNil)) (dName 4) dYes (dMeth "History" "water" 2 f_History_water_z [] (dVar 0) (dCons (dVar 4) dNil)) [4]) (dLc false (diR1 (dCons (dOp (addD false) (dVar 2) (dC (.int 1))) dNil)) (dName 4) dYes (dMeth "History" "water" 2 f_History_water_z [] (dVar 1) (dCons (dVar 4) dNil)) [4]))))))
noncomputable def f_law_alike_z : List DV → Sto → Option (DV × Sto) := fnF (some false) 5 b_law_alike_z
noncomputable def b_law_z : DS :=
    (dSeq (dAsg (dCall 1 f_law_deck_r [] (dCons (dVar 0) dNil)) (dName 1))
    (dSeq (dFor (diR1 (dCons (dOp (addD false) (dC (.int 2)) (dCB minD (dCons (dC (.int 4)) (dCons (dCB lenD (dCons (dVar 0) dNil)) dNil)))) dNil)) (dName 2)
    (dSeq (dAsg (dCall 2 f_law_tanks_z [] (dCons (dVar 1) (dCons (dC (.int 8)) dNil))) (dName 3))
    (dSeq (dAsg (dCall 2 f_law_fall_z [] (dCons (dVar 1) (dCons (dVar 3) dNil))) (dName 4))
    (dSeq (dAsg (dTup (dCons (dMake "History" 3 f_History_init_r [] (dCons (dVar 3) (dCons (dVar 4) dNil))) (dCons (dMake "History" 3 f_History_init_r [] (dCons (dVar 3) (dCons (dVar 4) dNil))) dNil))) (dGTup 2 (dGCons (dName 5) (dGCons (dName 6) dGNil))))
    (dSeq (dAsg (dLst false dNil) (dName 7))
    (dSeq (dFor (diR1 (dCons (dCall 2 f_law_take_z [] (dCons (dVar 1) (dCons (dC (.int 17)) dNil))) dNil)) (dName 8)
    (dSeq (dIfS (dAnd (dTest (dOp neD (dVar 7) (dLst false dNil))) (dOr (dTest (dOp eqD (dCall 2 f_law_take_z [] (dCons (dVar 1) (dCons (dC (.int 3)) dNil))) (dC (.int 0)))) (dTest (dOp eqD (dCB lenD (dCons (dVar 7) dNil)) (dC (.int 10))))))
    (dSeq (dAsg (dSlL false (dVar 7) doN (doS (dUn negD (dC (.int 1))))) (dName 7))
    (dIfS (dTest (dIsN true (dMeth "History" "undo" 1 f_History_undo_z [] (dVar 5) dNil)))
    (dRet (dC (.bl false))) dNext)) (dSeq (dPar 9 10 (dCons (dCall 2 f_law_shut_z [] (dCons (dVar 1) (dCons (dVar 3) dNil))) (dCons (dCall 2 f_law_fall_z [] (dCons (dVar 1) (dCons (dVar 3) dNil))) dNil)))
    (dSeq (dAsg (dOp (addD false) (dVar 7) (dLst false (dCons (dTup (dCons (dVar 9) (dCons (dVar 10) dNil))) dNil))) (dName 7))
    (dDrop (dMeth "History" "step" 3 f_History_step_z [] (dVar 5) (dCons (dVar 9) (dCons (dVar 10) dNil)))))))
    (dSeq (dIfS (dNot (dTest (dCall 3 f_law_alike_z [] (dCons (dVar 5) (dCons (dCall 3 f_law_made_r [] (dCons (dVar 3) (dCons (dVar 4) (dCons (dVar 7) dNil)))) (dCons (dCB lenD (dCons (dVar 7) dNil)) dNil))))))
    (dRet (dC (.bl false))) dNext)
    (dIfS (dOr (dTest (dOp neD (dMeth "History" "floors" 1 f_History_floors_z [] (dVar 5) dNil) (dVar 3))) (dOr (dTest (dOp neD (dMeth "History" "steps" 1 f_History_steps_z [] (dVar 6) dNil) (dLst false dNil))) (dTest (dOp neD (dMeth "History" "water" 2 f_History_water_z [.non] (dVar 6) dNil) (dVar 4)))))
    (dRet (dC (.bl false))) dNext))))
    (dSeq (dIfS (dTest (dOp neD (dOp (ownD false "History" f_History_eq_z) (dVar 5) (dVar 6)) (dOp eqD (dVar 7) (dLst false dNil))))
    (dRet (dC (.bl false))) dNext)
    (dSeq (dIfS (dNot (dTest (dCall 4 f_law_others_right_z [] (dCons (dVar 5) (dCons (dVar 3) (dCons (dVar 4) (dCons (dVar 7) dNil)))))))
    (dRet (dC (.bl false))) dNext)
    (dSeq (dIfS (dAnd (dTest (dOp gtD (dCB lenD (dCons (dVar 7) dNil)) (dC (.int 1)))) (dTest (dOp neD (dTup (dCons (dCB (sortBD false) (dCons (dOp ixD (dOp ixD (dVar 7) (dC (.int 0))) (dC (.int 0))) dNil)) (dCons (dOp ixD (dOp ixD (dVar 7) (dC (.int 0))) (dC (.int 1))) dNil))) (dTup (dCons (dCB (sortBD false) (dCons (dOp ixD (dOp ixD (dVar 7) (dC (.int 1))) (dC (.int 0))) dNil)) (dCons (dOp ixD (dOp ixD (dVar 7) (dC (.int 1))) (dC (.int 1))) dNil))))))
    (dIfS (dNot (dTest (dCall 2 f_law_unlike_z [] (dCons (dVar 5) (dCons (dCall 3 f_law_made_r [] (dCons (dVar 3) (dCons (dVar 4) (dCons (dOp (addD false) (dLst false (dCons (dOp ixD (dVar 7) (dC (.int 1))) (dCons (dOp ixD (dVar 7) (dC (.int 0))) dNil))) (dSlL false (dVar 7) (doS (dC (.int 2))) doN)) dNil)))) dNil)))))
    (dRet (dC (.bl false))) dNext) dNext)
    (dIfS (dTest (dOp neD (dLc false (diL (dLst false (dCons (dC .non) (dCons (dC (.int 5)) (dCons (dC (.str "1 | 0")) (dCons (dVar 3) (dCons dDNewI dNil))))))) (dName 11) (dTest (dOp (othD "History") (dVar 5) (dVar 11))) (dC (.int 1)) [11]) (dLst false dNil)))
    (dRet (dC (.bl false))) dNext))))))))))
    (dRet (dC (.bl true)))))
noncomputable def f_law_z : List DV → Sto → Option (DV × Sto) := fnF (some false) 12 b_law_z
/-! ### what the top has left -/
structure Txt (K : PySem.W.Frag) (mg : Str → Option Value) where
  a_History_eq : Addr
  fd_History_eq : FuncData
  F_History_eq : Fun K "__eq__" "History.__eq__" s_History_eq a_History_eq fd_History_eq
  b_History_eq : Binds K fd_History_eq ["self", "other"] []
  a_law_unlike : Addr
  fd_law_unlike : FuncData
  F_law_unlike : Fun K "_law_unlike" "_law_unlike" s_law_unlike a_law_unlike fd_law_unlike
  g_law_unlike : mg "_law_unlike" = some (.ref a_law_unlike)
  b_law_unlike : Binds K fd_law_unlike ["made", "other"] []
  a_stretches : Addr
  fd_stretches : FuncData
  F_stretches : Fun K "stretches" "stretches" s_stretches a_stretches fd_stretches
  g_stretches : mg "stretches" = some (.ref a_stretches)
  b_stretches : Binds K fd_stretches ["floors", "bolted"] []
  a_above : Addr
  fd_above : FuncData
  F_above : Fun K "above" "above" s_above a_above fd_above
  g_above : mg "above" = some (.ref a_above)
  b_above : Binds K fd_above ["one", "other"] []
  a_lowest : Addr
  fd_lowest : FuncData
  F_lowest : Fun K "lowest" "lowest" s_lowest a_lowest fd_lowest
  g_lowest : mg "lowest" = some (.ref a_lowest)
  b_lowest : Binds K fd_lowest ["top", "bottom"] []
  a_share : Addr
  fd_share : FuncData
  F_share : Fun K "share" "share" s_share a_share fd_share
  g_share : mg "share" = some (.ref a_share)
  b_share : Binds K fd_share ["amount", "part", "whole"] []
  a_pool_height : Addr
  fd_pool_height : FuncData
  F_pool_height : Fun K "pool_height" "pool_height" s_pool_height a_pool_height fd_pool_height
  g_pool_height : mg "pool_height" = some (.ref a_pool_height)
  b_pool_height : Binds K fd_pool_height ["pool"] []
  a_plus : Addr
  fd_plus : FuncData
  F_plus : Fun K "plus" "plus" s_plus a_plus fd_plus
  g_plus : mg "plus" = some (.ref a_plus)
  b_plus : Binds K fd_plus ["one", "other"] []
  a_pooled : Addr
  fd_pooled : FuncData
  F_pooled : Fun K "pooled" "pooled" s_pooled a_pooled fd_pooled
  g_pooled : mg "pooled" = some (.ref a_pooled)
  b_pooled : Binds K fd_pooled ["floors", "water"] []
  a_at_rest : Addr
  fd_at_rest : FuncData
  F_at_rest : Fun K "at_rest" "at_rest" s_at_rest a_at_rest fd_at_rest
  g_at_rest : mg "at_rest" = some (.ref a_at_rest)
  b_at_rest : Binds K fd_at_rest ["floors", "water", "bolted"] []
  a_check_bolted : Addr
  fd_check_bolted : FuncData
  F_check_bolted : Fun K "check_bolted" "check_bolted" s_check_bolted a_check_bolted fd_check_bolted
  g_check_bolted : mg "check_bolted" = some (.ref a_check_bolted)
  b_check_bolted : Binds K fd_check_bolted ["floors", "bolted"] []
  a_check_water : Addr
  fd_check_water : FuncData
  F_check_water : Fun K "check_water" "check_water" s_check_water a_check_water fd_check_water
  g_check_water : mg "check_water" = some (.ref a_check_water)
  b_check_water : Binds K fd_check_water ["floors", "water"] []
  a_check_floors : Addr
  fd_check_floors : FuncData
  F_check_floors : Fun K "check_floors" "check_floors" s_check_floors a_check_floors fd_check_floors
  g_check_floors : mg "check_floors" = some (.ref a_check_floors)
  b_check_floors : Binds K fd_check_floors ["floors"] []
  a_settled : Addr
  fd_settled : FuncData
  v_settled : V
  dv_settled : ∀ W, Den K W (.tup []) v_settled
  F_settled : FunB K "settled" "settled" s_settled [v_settled] a_settled fd_settled
  g_settled : mg "settled" = some (.ref a_settled)
  b_settled : Binds K fd_settled ["floors", "water", "bolted"] []
  ds_settled : List Value
  rd_settled : Vals [v_settled] ds_settled
  bd_settled : Binds K fd_settled ["floors", "water", "bolted"] ds_settled
  a_History_step : Addr
  fd_History_step : FuncData
  F_History_step : Fun K "step" "History.step" s_History_step a_History_step fd_History_step
  b_History_step : Binds K fd_History_step ["self", "bolted", "rain"] []
  a_History_init : Addr
  fd_History_init : FuncData
  v_History_init : V
  dv_History_init : ∀ W, Den K W (.non) v_History_init
  F_History_init : FunB K "__init__" "History.__init__" s_History_init [v_History_init] a_History_init fd_History_init
  b_History_init : Binds K fd_History_init ["self", "floors", "water"] []
  ds_History_init : List Value
  rd_History_init : Vals [v_History_init] ds_History_init
  bd_History_init : Binds K fd_History_init ["self", "floors", "water"] ds_History_init
  a_law_made : Addr
  fd_law_made : FuncData
  F_law_made : Fun K "_law_made" "_law_made" s_law_made a_law_made fd_law_made
  g_law_made : mg "_law_made" = some (.ref a_law_made)
  b_law_made : Binds K fd_law_made ["tanks", "first", "done"] []
  a_law_others_right : Addr
  fd_law_others_right : FuncData
  F_law_others_right : Fun K "_law_others_right" "_law_others_right" s_law_others_right a_law_others_right fd_law_others_right
  g_law_others_right : mg "_law_others_right" = some (.ref a_law_others_right)
  b_law_others_right : Binds K fd_law_others_right ["made", "tanks", "first", "done"] []
  a_law_take : Addr
  fd_law_take : FuncData
  F_law_take : Fun K "_law_take" "_law_take" s_law_take a_law_take fd_law_take
  g_law_take : mg "_law_take" = some (.ref a_law_take)
  b_law_take : Binds K fd_law_take ["deck", "many"] []
  a_History_floors : Addr
  fd_History_floors : FuncData
  F_History_floors : Fun K "floors" "History.floors" s_History_floors a_History_floors fd_History_floors
  b_History_floors : Binds K fd_History_floors ["self"] []
  a_History_steps : Addr
  fd_History_steps : FuncData
  F_History_steps : Fun K "steps" "History.steps" s_History_steps a_History_steps fd_History_steps
  b_History_steps : Binds K fd_History_steps ["self"] []
  a_History_water : Addr
  fd_History_water : FuncData
  v_History_water : V
  dv_History_water : ∀ W, Den K W (.non) v_History_water
  F_History_water : FunB K "water" "History.water" s_History_water [v_History_water] a_History_water fd_History_water
  b_History_water : Binds K fd_History_water ["self", "number"] []
  ds_History_water : List Value
  rd_History_water : Vals [v_History_water] ds_History_water
  bd_History_water : Binds K fd_History_water ["self", "number"] ds_History_water
  a_sums : Addr
  fd_sums : FuncData
  F_sums : Fun K "sums" "sums" s_sums a_sums fd_sums
  g_sums : mg "sums" = some (.ref a_sums)
  b_sums : Binds K fd_sums ["amounts"] []
  a_heaped : Addr
  fd_heaped : FuncData
  F_heaped : Fun K "heaped" "heaped" s_heaped a_heaped fd_heaped
  g_heaped : mg "heaped" = some (.ref a_heaped)
  b_heaped : Binds K fd_heaped ["floors", "water"] []
  a_History_left : Addr
  fd_History_left : FuncData
  F_History_left : Fun K "left" "History.left" s_History_left a_History_left fd_History_left
  b_History_left : Binds K fd_History_left ["self", "k"] []
  a_law_alike : Addr
  fd_law_alike : FuncData
  F_law_alike : Fun K "_law_alike" "_law_alike" s_law_alike a_law_alike fd_law_alike
  g_law_alike : mg "_law_alike" = some (.ref a_law_alike)
  b_law_alike : Binds K fd_law_alike ["made", "other", "many"] []
  a_History_undo : Addr
  fd_History_undo : FuncData
  F_History_undo : Fun K "undo" "History.undo" s_History_undo a_History_undo fd_History_undo
  b_History_undo : Binds K fd_History_undo ["self"] []
  a_law_shut : Addr
  fd_law_shut : FuncData
  F_law_shut : Fun K "_law_shut" "_law_shut" s_law_shut a_law_shut fd_law_shut
  g_law_shut : mg "_law_shut" = some (.ref a_law_shut)
  b_law_shut : Binds K fd_law_shut ["deck", "tanks"] []
  a_law_low : Addr
  fd_law_low : FuncData
  F_law_low : Fun K "_law_low" "_law_low" s_law_low a_law_low fd_law_low
  g_law_low : mg "_law_low" = some (.ref a_law_low)
  b_law_low : Binds K fd_law_low ["top", "bottom"] []
  a_law_amount : Addr
  fd_law_amount : FuncData
  F_law_amount : Fun K "_law_amount" "_law_amount" s_law_amount a_law_amount fd_law_amount
  g_law_amount : mg "_law_amount" = some (.ref a_law_amount)
  b_law_amount : Binds K fd_law_amount ["deck"] []
  a_law_fall : Addr
  fd_law_fall : FuncData
  F_law_fall : Fun K "_law_fall" "_law_fall" s_law_fall a_law_fall fd_law_fall
  g_law_fall : mg "_law_fall" = some (.ref a_law_fall)
  b_law_fall : Binds K fd_law_fall ["deck", "tanks"] []
  a_law_tanks : Addr
  fd_law_tanks : FuncData
  F_law_tanks : Fun K "_law_tanks" "_law_tanks" s_law_tanks a_law_tanks fd_law_tanks
  g_law_tanks : mg "_law_tanks" = some (.ref a_law_tanks)
  b_law_tanks : Binds K fd_law_tanks ["deck", "most"] []
  a_law_deck : Addr
  fd_law_deck : FuncData
  F_law_deck : Fun K "_law_deck" "_law_deck" s_law_deck a_law_deck fd_law_deck
  g_law_deck : mg "_law_deck" = some (.ref a_law_deck)
  b_law_deck : Binds K fd_law_deck ["script"] []
  a_law : Addr
  fd_law : FuncData
  F_law : Fun K "law" "law" s_law a_law fd_law
  g_law : mg "law" = some (.ref a_law)
  b_law : Binds K fd_law ["script"] []
  a_History : Addr
  g_History : mg "History" = some (.ref a_History)
  cl_History : Cls K a_History
  m_History_eq : Meth K a_History "__eq__" a_History_eq
  m_History_step : Meth K a_History "step" a_History_step
  M_History : Mk K a_History a_History_init
  m_History_floors : Meth K a_History "floors" a_History_floors
  m_History_steps : Meth K a_History "steps" a_History_steps
  m_History_water : Meth K a_History "water" a_History_water
  m_History_left : Meth K a_History "left" a_History_left
  m_History_undo : Meth K a_History "undo" a_History_undo
  n_History__floors : NoAttr K a_History "_floors"
  n_History__steps : NoAttr K a_History "_steps"
  n_History__waters : NoAttr K a_History "_waters"
  q_History : NeObj K a_History
  i_History : C8.InsC K a_History
  o_History : NiC K a_History
  z_NotImplemented : mg "NotImplemented" = none
  z_abs : mg "abs" = none
  z_enumerate : mg "enumerate" = none
  z_isinstance : mg "isinstance" = none
  z_len : mg "len" = none
  z_list : mg "list" = none
  z_min : mg "min" = none
  z_range : mg "range" = none
  z_sorted : mg "sorted" = none
  z_sum : mg "sum" = none
  z_zip : mg "zip" = none
  a_NOUGHT : Addr
  g_NOUGHT : mg "NOUGHT" = some (.ref a_NOUGHT)
  d_NOUGHT : ∀ W, Den K W (.tup [(.int 0), (.int 1)]) (.ref a_NOUGHT)
  g_gcd : mg "gcd" = some (.builtin "math.gcd")
section
variable {P : Program} {w : World} {K : PySem.W.Frag} {mg : Str → Option Value} {base : Heap}
theorem N_History_eq (T : Txt K mg) : NiOk P w K mg base 1 T.a_History_eq T.fd_History_eq ["self", "other"] (preOth T.a_History) :=
  ni_of (k := 0) T.F_History_eq sc_History_eq (fun vs H h => by obtain ⟨a, dx, fs, y, T, rfl, _⟩ := h; rfl) T.z_NotImplemented (fun _ _ _ _ _ => by rfl) rfl fun cdv A outer s H vs hr hp => by
    refine ⟨_, pt_not (pt_val (pe_callB call_isi (by rfl) T.z_isinstance (by decide +kernel) (pa_cons (pv 1) (pa_cons (pe_glob (v := .ref T.a_History) (by rfl) T.g_History rfl) pa_nil)))), ?_⟩
    obtain ⟨a, dx, fs, y, S, rfl, ha, ho⟩ := hp
    obtain ⟨h1, h2⟩ := ho.ty T.o_History
    exact ⟨y, rfl, y, .ref T.a_History, _, _, false, rfl, .own _, h1, h2, false, rfl, rfl, rfl⟩
theorem G_History_eq_z (T : Txt K mg) : FnOk P w K mg base CX0 1 T.a_History_eq T.fd_History_eq ["self", "other"] (spF K mg 2 f_History_eq_z) :=
  fn_dl (k := 0) T.F_History_eq sc_History_eq rfl fun cdv A outer s H E hr => ⟨_, (pss_cons (ps_if (pt_not (pt_val (pe_callB (C8.call_isC T.i_History) (by rfl) T.z_isinstance (by decide +kernel) (pa_cons (pv 1) (pa_cons (pe_glob (v := .ref T.a_History) (by rfl) T.g_History rfl) pa_nil)))))
    (pss_one (ps_ret pe_never)) pss_nil)
    (pss_one (ps_ret (pe_and (pe_cmpR (op_eqD hr.units) (pe_fld (pv 0) rfl) (pe_fld (pv 1) rfl) (nomark _)) (pe_and (pe_cmpR (op_eqD hr.units) (pe_ix ix_seq (pe_fld (pv 0) rfl) pe_int (fun _ _ => rfl)) (pe_ix ix_seq (pe_fld (pv 1) rfl) pe_int (fun _ _ => rfl)) (nomark _)) (pe_one (pe_cmpR (op_eqD hr.units) (pe_fld (pv 0) rfl) (pe_fld (pv 1) rfl) (nomark _)))))))),
    (rs_seq (rs_if (rt_not (rt_B (re_isC T.g_History re_var)))
    (rs_ret re_never) rs_next)
    (rs_ret (re_andV (re_op ro_eq (re_fld T.g_History T.cl_History T.n_History__floors re_var) (re_fld T.g_History T.cl_History T.n_History__floors re_var)) (re_andV (re_op ro_eq (re_op ro_ix (re_fld T.g_History T.cl_History T.n_History__waters re_var) re_int) (re_op ro_ix (re_fld T.g_History T.cl_History T.n_History__waters re_var) re_int)) (re_op ro_eq (re_fld T.g_History T.cl_History T.n_History__steps re_var) (re_fld T.g_History T.cl_History T.n_History__steps re_var))))))⟩
theorem G_law_unlike_z (T : Txt K mg) : FnOk P w K mg base CX0 3 T.a_law_unlike T.fd_law_unlike ["made", "other"] (spF K mg 2 f_law_unlike_z) :=
  fn_dl (k := 2) T.F_law_unlike sc_law_unlike rfl fun cdv A outer s H E hr => ⟨_, (pss_one (ps_ret (pe_and (pe_cmpR (op_neOwn (G_History_eq_z T) (hr.mono (by first | decide | omega)) T.m_History_eq T.b_History_eq pass0 T.q_History.ne T.q_History.ob) (pv 0) (pv 1) (nomark _)) (pe_and (pe_cmpR (op_neOwn (G_History_eq_z T) (hr.mono (by first | decide | omega)) T.m_History_eq T.b_History_eq pass0 T.q_History.ne T.q_History.ob) (pv 1) (pv 0) (nomark _)) (pe_one (pe_not (pe_cmpR (op_eqOwn (G_History_eq_z T) (hr.mono (by first | decide | omega)) T.m_History_eq T.b_History_eq pass0) (pv 0) (pv 1) (nomark _)))))))),
    (rs_ret (re_andV (re_op (ro_own (neg := true) T.g_History) re_var re_var) (re_andV (re_op (ro_own (neg := true) T.g_History) re_var re_var) (re_notV (re_op (ro_own (neg := false) T.g_History) re_var re_var)))))⟩
theorem G_stretches_z (T : Txt K mg) : FnOk P w K mg base CX0 1 T.a_stretches T.fd_stretches ["floors", "bolted"] (spF K mg 2 f_stretches_z) :=
  fn_dl (k := 0) T.F_stretches sc_stretches rfl fun cdv A outer s H E hr => ⟨_, (pss_cons (ps_set (i := 2) sc_stretches.nd rfl (by first | exact Or.inl rfl | exact Or.inr rfl) (pe_op op_addG (pe_op op_addG (pe_lst (pa_cons pe_int pa_nil)) (pe_callB cr_sortB (by rfl) T.z_sorted (by decide +kernel) (pa_cons (pv 1) pa_nil))) (pe_lst (pa_cons (pe_callB cr_len (by rfl) T.z_len (by decide +kernel) (pa_cons (pv 0) pa_nil)) pa_nil))))
    (pss_one (ps_ret (DLZ.pe_listZip rfl (by rfl) T.z_list (by rfl) T.z_zip (pa_cons (pv 2) (pa_cons (pe_slice sl_list (pv 2) (po_some pe_int) po_none) pa_nil)))))),
    (rs_seq (rs_asg (re_op (ro_add (m := false)) (re_op (ro_add (m := false)) (re_lst (m := false) (ra_cons re_int ra_nil)) (re_CB (rc_sortB (m := false)) (ra_cons re_var ra_nil))) (re_lst (m := false) (ra_cons (re_CB rc_len (ra_cons re_var ra_nil)) ra_nil))) rg_name)
    (rs_ret (re_lz (m := false) (ra_cons re_var (ra_cons (re_slL (m := false) re_var (ro_some re_int) ro_none) ra_nil)))))⟩
theorem G_above_z (T : Txt K mg) : FnOk P w K mg base CX0 1 T.a_above T.fd_above ["one", "other"] (spF K mg 2 f_above_z) :=
  fn_dl (k := 0) T.F_above sc_above rfl fun cdv A outer s H E hr => ⟨_, (pss_one (ps_ret (pe_cmpR op_gt (pe_op op_mulW (pe_ix ix_seq (pv 0) pe_int (fun _ _ => rfl)) (pe_ix ix_seq (pv 1) pe_int (fun _ _ => rfl))) (pe_op op_mulW (pe_ix ix_seq (pv 1) pe_int (fun _ _ => rfl)) (pe_ix ix_seq (pv 0) pe_int (fun _ _ => rfl))) (nomark _)))),
    (rs_ret (re_op ro_gt (re_op ro_mul (re_op ro_ix re_var re_int) (re_op ro_ix re_var re_int)) (re_op ro_mul (re_op ro_ix re_var re_int) (re_op ro_ix re_var re_int))))⟩
theorem G_lowest_z (T : Txt K mg) : FnOk P w K mg base CX0 1 T.a_lowest T.fd_lowest ["top", "bottom"] (spF K mg 2 f_lowest_z) :=
  fn_dl (k := 0) T.F_lowest sc_lowest rfl fun cdv A outer s H E hr => ⟨_, (pss_cons (ps_set (i := 2) sc_lowest.nd rfl (by first | exact Or.inl rfl | exact Or.inr rfl) (pe_callBfun cr_gcd (by rfl) T.g_gcd (pa_cons (pv 0) (pa_cons (pv 1) pa_nil))))
    (pss_one (ps_ret (pe_tup (pa_cons (pe_op op_fdivW (pv 0) (pv 2)) (pa_cons (pe_op op_fdivW (pv 1) (pv 2)) pa_nil)))))),
    (rs_seq (rs_asg (re_CB rc_gcd (ra_cons re_var (ra_cons re_var ra_nil))) rg_name)
    (rs_ret (re_tup (ra_cons (re_op ro_fdiv re_var re_var) (ra_cons (re_op ro_fdiv re_var re_var) ra_nil)))))⟩
theorem G_share_z (T : Txt K mg) : FnOk P w K mg base CX0 2 T.a_share T.fd_share ["amount", "part", "whole"] (spF K mg 3 f_share_z) :=
  fn_dl (k := 1) T.F_share sc_share rfl fun cdv A outer s H E hr => ⟨_, (pss_cons (ps_asg (pe_call (G_lowest_z T) (hr.mono (by first | decide | omega)) (by rfl) T.g_lowest T.F_lowest.kp T.b_lowest .nil pass0 (pa_cons (pv 1) (pa_cons (pv 2) pa_nil))) (pg_tup (by rfl) (pgs_cons (pg_name (i := 1) sc_share.nd rfl (by first | exact Or.inl rfl | exact Or.inr rfl)) (pgs_cons (pg_name (i := 2) sc_share.nd rfl (by first | exact Or.inl rfl | exact Or.inr rfl)) pgs_nil))))
    (pss_cons (ps_asg (pe_call (G_lowest_z T) (hr.mono (by first | decide | omega)) (by rfl) T.g_lowest T.F_lowest.kp T.b_lowest .nil pass0 (pa_cons (pe_ix ix_seq (pv 0) pe_int (fun _ _ => rfl)) (pa_cons (pv 2) pa_nil))) (pg_tup (by rfl) (pgs_cons (pg_name (i := 3) sc_share.nd rfl (by first | exact Or.inl rfl | exact Or.inr rfl)) (pgs_cons (pg_name (i := 2) sc_share.nd rfl (by first | exact Or.inl rfl | exact Or.inr rfl)) pgs_nil))))
    (pss_cons (ps_asg (pe_call (G_lowest_z T) (hr.mono (by first | decide | omega)) (by rfl) T.g_lowest T.F_lowest.kp T.b_lowest .nil pass0 (pa_cons (pv 1) (pa_cons (pe_ix ix_seq (pv 0) pe_int (fun _ _ => rfl)) pa_nil))) (pg_tup (by rfl) (pgs_cons (pg_name (i := 1) sc_share.nd rfl (by first | exact Or.inl rfl | exact Or.inr rfl)) (pgs_cons (pg_name (i := 4) sc_share.nd rfl (by first | exact Or.inl rfl | exact Or.inr rfl)) pgs_nil))))
    (pss_one (ps_ret (pe_tup (pa_cons (pe_op op_mulW (pv 3) (pv 1)) (pa_cons (pe_op op_mulW (pv 4) (pv 2)) pa_nil)))))))),
    (rs_seq (rs_asg (re_call0 (ra_cons re_var (ra_cons re_var ra_nil))) (rg_tup (rgs_cons rg_name (rgs_cons rg_name rgs_nil))))
    (rs_seq (rs_asg (re_call0 (ra_cons (re_op ro_ix re_var re_int) (ra_cons re_var ra_nil))) (rg_tup (rgs_cons rg_name (rgs_cons rg_name rgs_nil))))
    (rs_seq (rs_asg (re_call0 (ra_cons re_var (ra_cons (re_op ro_ix re_var re_int) ra_nil))) (rg_tup (rgs_cons rg_name (rgs_cons rg_name rgs_nil))))
    (rs_ret (re_tup (ra_cons (re_op ro_mul re_var re_var) (ra_cons (re_op ro_mul re_var re_var) ra_nil)))))))⟩
theorem G_pool_height_z (T : Txt K mg) : FnOk P w K mg base CX0 3 T.a_pool_height T.fd_pool_height ["pool"] (spF K mg 1 f_pool_height_z) :=
  fn_dl (k := 2) T.F_pool_height sc_pool_height rfl fun cdv A outer s H E hr => ⟨_, (pss_cons (ps_asg (pv 0) (pg_tup (by rfl) (pgs_cons (pg_name (i := 1) sc_pool_height.nd rfl (by first | exact Or.inl rfl | exact Or.inr rfl)) (pgs_cons (pg_name (i := 2) sc_pool_height.nd rfl (by first | exact Or.inl rfl | exact Or.inr rfl)) pgs_nil))))
    (pss_one (ps_ret (pe_call (G_share_z T) (hr.mono (by first | decide | omega)) (by rfl) T.g_share T.F_share.kp T.b_share .nil pass0 (pa_cons (pv 2) (pa_cons pe_int (pa_cons (pe_callB (cr_sum rfl) (by rfl) T.z_sum (by decide +kernel) (pa_cons (pv 1) pa_nil)) pa_nil))))))),
    (rs_seq (rs_asg re_var (rg_tup (rgs_cons rg_name (rgs_cons rg_name rgs_nil))))
    (rs_ret (re_call0 (ra_cons re_var (ra_cons re_int (ra_cons (re_CB rc_sum (ra_cons re_var ra_nil)) ra_nil))))))⟩
theorem G_plus_z (T : Txt K mg) : FnOk P w K mg base CX0 2 T.a_plus T.fd_plus ["one", "other"] (spF K mg 2 f_plus_z) :=
  fn_dl (k := 1) T.F_plus sc_plus rfl fun cdv A outer s H E hr => ⟨_, (pss_cons (ps_set (i := 2) sc_plus.nd rfl (by first | exact Or.inl rfl | exact Or.inr rfl) (pe_callBfun cr_gcd (by rfl) T.g_gcd (pa_cons (pe_ix ix_seq (pv 0) pe_int (fun _ _ => rfl)) (pa_cons (pe_ix ix_seq (pv 1) pe_int (fun _ _ => rfl)) pa_nil))))
    (pss_cons (ps_set (i := 3) sc_plus.nd rfl (by first | exact Or.inl rfl | exact Or.inr rfl) (pe_op op_fdivW (pe_ix ix_seq (pv 0) pe_int (fun _ _ => rfl)) (pv 2)))
    (pss_cons (ps_asg (pe_call (G_lowest_z T) (hr.mono (by first | decide | omega)) (by rfl) T.g_lowest T.F_lowest.kp T.b_lowest .nil pass0 (pa_cons (pe_op op_addG (pe_op op_mulW (pe_ix ix_seq (pv 0) pe_int (fun _ _ => rfl)) (pe_op op_fdivW (pe_ix ix_seq (pv 1) pe_int (fun _ _ => rfl)) (pv 2))) (pe_op op_mulW (pe_ix ix_seq (pv 1) pe_int (fun _ _ => rfl)) (pv 3))) (pa_cons (pv 2) pa_nil))) (pg_tup (by rfl) (pgs_cons (pg_name (i := 4) sc_plus.nd rfl (by first | exact Or.inl rfl | exact Or.inr rfl)) (pgs_cons (pg_name (i := 5) sc_plus.nd rfl (by first | exact Or.inl rfl | exact Or.inr rfl)) pgs_nil))))
    (pss_one (ps_ret (pe_tup (pa_cons (pv 4) (pa_cons (pe_op op_mulW (pe_op op_mulW (pv 5) (pv 3)) (pe_op op_fdivW (pe_ix ix_seq (pv 1) pe_int (fun _ _ => rfl)) (pv 2))) pa_nil)))))))),
    (rs_seq (rs_asg (re_CB rc_gcd (ra_cons (re_op ro_ix re_var re_int) (ra_cons (re_op ro_ix re_var re_int) ra_nil))) rg_name)
    (rs_seq (rs_asg (re_op ro_fdiv (re_op ro_ix re_var re_int) re_var) rg_name)
    (rs_seq (rs_asg (re_call0 (ra_cons (re_op (ro_add (m := false)) (re_op ro_mul (re_op ro_ix re_var re_int) (re_op ro_fdiv (re_op ro_ix re_var re_int) re_var)) (re_op ro_mul (re_op ro_ix re_var re_int) re_var)) (ra_cons re_var ra_nil))) (rg_tup (rgs_cons rg_name (rgs_cons rg_name rgs_nil))))
    (rs_ret (re_tup (ra_cons re_var (ra_cons (re_op ro_mul (re_op ro_mul re_var re_var) (re_op ro_fdiv (re_op ro_ix re_var re_int) re_var)) ra_nil)))))))⟩
theorem G_pooled_z (T : Txt K mg) : FnOk P w K mg base CX0 4 T.a_pooled T.fd_pooled ["floors", "water"] (spF K mg 2 f_pooled_z) :=
  fn_dl (k := 3) T.F_pooled sc_pooled rfl fun cdv A outer s H E hr => ⟨_, (pss_cons (ps_set (i := 2) sc_pooled.nd rfl (by first | exact Or.inl rfl | exact Or.inr rfl) (pe_lst pa_nil))
    (pss_cons (ps_for PassesOwn.never rfl (pi_zip (by rfl) T.z_zip (pa_cons (pv 0) (pa_cons (pv 1) pa_nil))) (pg_tup (by rfl) (pgs_cons (pg_name (i := 3) sc_pooled.nd rfl (by first | exact Or.inl rfl | exact Or.inr rfl)) (pgs_cons (pg_name (i := 4) sc_pooled.nd rfl (by first | exact Or.inl rfl | exact Or.inr rfl)) pgs_nil)))
    (pss_cons (ps_set (i := 5) sc_pooled.nd rfl (by first | exact Or.inl rfl | exact Or.inr rfl) (pe_tup (pa_cons (pe_lst (pa_cons (pv 3) pa_nil)) (pa_cons (pv 4) pa_nil))))
    (pss_cons (ps_while PassesOwn.never (PW.pt (pw_and (pt_truth (pv 2) (by intro _; rfl)) (pw_and1 (pt_val (pe_call (G_above_z T) (hr.mono (by first | decide | omega)) (by rfl) T.g_above T.F_above.kp T.b_above .nil pass0 (pa_cons (pe_call (G_pool_height_z T) (hr.mono (by first | decide | omega)) (by rfl) T.g_pool_height T.F_pool_height.kp T.b_pool_height .nil pass0 (pa_cons (pe_ix ix_seq (pv 2) (pe_un un_neg pe_int) (fun _ _ => rfl)) pa_nil)) (pa_cons (pe_call (G_pool_height_z T) (hr.mono (by first | decide | omega)) (by rfl) T.g_pool_height T.F_pool_height.kp T.b_pool_height .nil pass0 (pa_cons (pv 5) pa_nil)) pa_nil)))))))
    (pss_cons (ps_asg (pe_bm0 PySem.F.plainAttrs_list PySem.F.slot_list_pop PySem.F.type_list_pop mt_pop (pv 2)) (pg_tup (by rfl) (pgs_cons (pg_name (i := 6) sc_pooled.nd rfl (by first | exact Or.inl rfl | exact Or.inr rfl)) (pgs_cons (pg_name (i := 7) sc_pooled.nd rfl (by first | exact Or.inl rfl | exact Or.inr rfl)) pgs_nil))))
    (pss_one (ps_set (i := 5) sc_pooled.nd rfl (by first | exact Or.inl rfl | exact Or.inr rfl) (pe_tup (pa_cons (pe_op op_addG (pv 6) (pe_ix ix_seq (pv 5) pe_int (fun _ _ => rfl))) (pa_cons (pe_call (G_plus_z T) (hr.mono (by first | decide | omega)) (by rfl) T.g_plus T.F_plus.kp T.b_plus .nil pass0 (pa_cons (pv 7) (pa_cons (pe_ix ix_seq (pv 5) pe_int (fun _ _ => rfl)) pa_nil))) pa_nil)))))))
    (pss_one (ps_expr (pe_bm PySem.F.plainAttrs_list PySem.F.slot_list_append PySem.F.type_list_append mt_append (pv 2) (pa_cons (pv 5) pa_nil)))))))
    (pss_one (ps_ret (pv 2))))),
    (rs_seq (rs_asg (re_lst (m := true) ra_nil) rg_name)
    (rs_seq (rs_for (ri_zip (ra_cons re_var (ra_cons re_var ra_nil))) (rg_tup (rgs_cons rg_name (rgs_cons rg_name rgs_nil)))
    (rs_seq (rs_asg (re_tup (ra_cons (re_lst (m := false) (ra_cons re_var ra_nil)) (ra_cons re_var ra_nil))) rg_name)
    (rs_seq (rs_while (rt_and (rt_tru re_var) (rt_B (re_call0 (ra_cons (re_call0 (ra_cons (re_op ro_ix re_var (re_un ru_neg re_int)) ra_nil)) (ra_cons (re_call0 (ra_cons re_var ra_nil)) ra_nil)))))
    (rs_seq (rs_asg (re_BM0 rm_pop re_var) (rg_tup (rgs_cons rg_name (rgs_cons rg_name rgs_nil))))
    (rs_asg (re_tup (ra_cons (re_op (ro_add (m := false)) re_var (re_op ro_ix re_var re_int)) (ra_cons (re_call0 (ra_cons re_var (ra_cons (re_op ro_ix re_var re_int) ra_nil))) ra_nil))) rg_name)))
    (rs_drop (re_BM rm_append re_var (ra_cons re_var ra_nil))))))
    (rs_ret re_var)))⟩
theorem G_at_rest_z (T : Txt K mg) : FnOk P w K mg base CX0 5 T.a_at_rest T.fd_at_rest ["floors", "water", "bolted"] (spF K mg 3 f_at_rest_z) :=
  fn_dl (k := 4) T.F_at_rest sc_at_rest rfl fun cdv A outer s H E hr => ⟨_, (pss_cons (ps_set (i := 3) sc_at_rest.nd rfl (by first | exact Or.inl rfl | exact Or.inr rfl) (pe_lst pa_nil))
    (pss_cons (ps_for PassesOwn.never rfl (pi_list (pe_call (G_stretches_z T) (hr.mono (by first | decide | omega)) (by rfl) T.g_stretches T.F_stretches.kp T.b_stretches .nil pass0 (pa_cons (pv 0) (pa_cons (pv 2) pa_nil)))) (pg_tup (by rfl) (pgs_cons (pg_name (i := 4) sc_at_rest.nd rfl (by first | exact Or.inl rfl | exact Or.inr rfl)) (pgs_cons (pg_name (i := 5) sc_at_rest.nd rfl (by first | exact Or.inl rfl | exact Or.inr rfl)) pgs_nil)))
    (pss_one (ps_for PassesOwn.never rfl (pi_list (pe_call (G_pooled_z T) (hr.mono (by first | decide | omega)) (by rfl) T.g_pooled T.F_pooled.kp T.b_pooled .nil pass0 (pa_cons (pe_slice sl_list (pv 0) (po_some (pv 4)) (po_some (pv 5))) (pa_cons (pe_slice sl_list (pv 1) (po_some (pv 4)) (po_some (pv 5))) pa_nil)))) (pg_tup (by rfl) (pgs_cons (pg_name (i := 6) sc_at_rest.nd rfl (by first | exact Or.inl rfl | exact Or.inr rfl)) (pgs_cons (pg_name (i := 7) sc_at_rest.nd rfl (by first | exact Or.inl rfl | exact Or.inr rfl)) pgs_nil)))
    (pss_cons (ps_set (i := 8) sc_at_rest.nd rfl (by first | exact Or.inl rfl | exact Or.inr rfl) (pe_callB (cr_sum rfl) (by rfl) T.z_sum (by decide +kernel) (pa_cons (pv 6) pa_nil)))
    (pss_one (ps_expr (pe_bm PySem.F.plainAttrs_list PySem.F.slot_list_extend PySem.F.type_list_extend mt_extend (pv 3) (pa_cons (pe_lc (own := [("floor", 9)]) (by rfl) sc_at_rest.nd (pi_list (pv 6)) (blkOk_by (own := [("floor", 9)]) (N := ns_at_rest) (sc := defScope s_at_rest) (by decide +kernel)) (fun _ _ _ _ _ => (pg_name (i := 9) sc_at_rest.nd rfl (by first | exact Or.inl rfl | exact Or.inr rfl))) (fun _ _ _ _ _ => pts_nil) (fun _ _ _ _ _ => (pe_call (G_share_z T) (hr.mono (by first | decide | omega)) (by rfl) T.g_share T.F_share.kp T.b_share .nil pass0 (pa_cons (pv 7) (pa_cons (pv 9) (pa_cons (pv 8) pa_nil)))))) pa_nil))))))))
    (pss_one (ps_ret (pv 3))))),
    (rs_seq (rs_asg (re_lst (m := true) ra_nil) rg_name)
    (rs_seq (rs_for (ri_list (re_call0 (ra_cons re_var (ra_cons re_var ra_nil)))) (rg_tup (rgs_cons rg_name (rgs_cons rg_name rgs_nil)))
    (rs_for (ri_list (re_call0 (ra_cons (re_slL (m := false) re_var (ro_some re_var) (ro_some re_var)) (ra_cons (re_slL (m := false) re_var (ro_some re_var) (ro_some re_var)) ra_nil)))) (rg_tup (rgs_cons rg_name (rgs_cons rg_name rgs_nil)))
    (rs_seq (rs_asg (re_CB rc_sum (ra_cons re_var ra_nil)) rg_name)
    (rs_drop (re_BM rm_extend re_var (ra_cons (re_lc (m := false) (vs := [9]) (ri_list re_var) (rgv_name (by decide)) rt_yes (re_call0 (ra_cons re_var (ra_cons re_var (ra_cons re_var ra_nil))))) ra_nil))))))
    (rs_ret re_var)))⟩
theorem G_check_bolted_z (T : Txt K mg) : FnOk P w K mg base CX0 1 T.a_check_bolted T.fd_check_bolted ["floors", "bolted"] (spF K mg 2 f_check_bolted_z) :=
  fn_dl (k := 0) T.F_check_bolted sc_check_bolted rfl fun cdv A outer s H E hr => ⟨_, (pss_one (ps_for PassesOwn.never rfl (pi_enumB (by rfl) T.z_enumerate (pa_cons (pv 1) pa_nil)) (pg_tup (by rfl) (pgs_cons (pg_name (i := 2) sc_check_bolted.nd rfl (by first | exact Or.inl rfl | exact Or.inr rfl)) (pgs_cons (pg_name (i := 3) sc_check_bolted.nd rfl (by first | exact Or.inl rfl | exact Or.inr rfl)) pgs_nil)))
    (pss_one (ps_if (PW.pt (pw_or (pt_cmpR op_notInRg (pv 3) (pe_callTy cr_rg2 (by rfl) T.z_range (by decide +kernel) (pa_cons pe_int (pa_cons (pe_callB cr_len (by rfl) T.z_len (by decide +kernel) (pa_cons (pv 0) pa_nil)) pa_nil))) (by rfl)) (pw_or1 (pt_cmpR op_in_seq (pv 3) (pe_slice sl_list (pv 1) po_none (po_some (pv 2))) (by rfl)))))
    (pss_one ps_never) pss_nil)))),
    (rs_for (ri_enumB (ra_cons re_var ra_nil)) (rg_tup (rgs_cons rg_name (rgs_cons rg_name rgs_nil)))
    (rs_if (rt_or (rt_test (re_inRg (neg := true) re_var (ra_cons re_int (ra_cons (re_CB rc_len (ra_cons re_var ra_nil)) ra_nil)))) (rt_test (re_op (ro_in (neg := false)) re_var (re_slL (m := false) re_var ro_none (ro_some re_var)))))
    rs_never rs_next))⟩
theorem G_check_water_z (T : Txt K mg) : FnOk P w K mg base CX0 2 T.a_check_water T.fd_check_water ["floors", "water"] (spF K mg 2 f_check_water_z) :=
  fn_dl (k := 1) T.F_check_water sc_check_water rfl fun cdv A outer s H E hr => ⟨_, (pss_cons (ps_if (pt_cmpR (op_neD hr.units) (pe_callB cr_len (by rfl) T.z_len (by decide +kernel) (pa_cons (pv 1) pa_nil)) (pe_callB cr_len (by rfl) T.z_len (by decide +kernel) (pa_cons (pv 0) pa_nil)) (nomark _))
    (pss_one ps_never) pss_nil)
    (pss_one (ps_for PassesOwn.never rfl (pi_enum (by rfl) T.z_enumerate (pa_cons (pv 1) pa_nil)) (pg_tup (by rfl) (pgs_cons (pg_name (i := 2) sc_check_water.nd rfl (by first | exact Or.inl rfl | exact Or.inr rfl)) (pgs_cons (pg_name (i := 3) sc_check_water.nd rfl (by first | exact Or.inl rfl | exact Or.inr rfl)) pgs_nil)))
    (pss_one (ps_if (pt_val (pe_call (G_above_z T) (hr.mono (by first | decide | omega)) (by rfl) T.g_above T.F_above.kp T.b_above .nil pass0 (pa_cons (pe_glob (v := .ref T.a_NOUGHT) (by rfl) T.g_NOUGHT rfl) (pa_cons (pv 3) pa_nil))))
    (pss_one ps_never) pss_nil))))),
    (rs_seq (rs_if (rt_test (re_op ro_ne (re_CB rc_len (ra_cons re_var ra_nil)) (re_CB rc_len (ra_cons re_var ra_nil))))
    rs_never rs_next)
    (rs_for (ri_enum (ra_cons re_var ra_nil)) (rg_tup (rgs_cons rg_name (rgs_cons rg_name rgs_nil)))
    (rs_if (rt_B (re_call0 (ra_cons (re_c T.d_NOUGHT) (ra_cons re_var ra_nil))))
    rs_never rs_next)))⟩
theorem G_check_floors_z (T : Txt K mg) : FnOk P w K mg base CX0 1 T.a_check_floors T.fd_check_floors ["floors"] (spF K mg 1 f_check_floors_z) :=
  fn_dl (k := 0) T.F_check_floors sc_check_floors rfl fun cdv A outer s H E hr => ⟨_, (pss_cons (ps_if (pt_cmpR (op_eqD hr.units) (pe_callB cr_len (by rfl) T.z_len (by decide +kernel) (pa_cons (pv 0) pa_nil)) pe_int (nomark _))
    (pss_one ps_never) pss_nil)
    (pss_one (ps_for PassesOwn.never rfl (pi_enum (by rfl) T.z_enumerate (pa_cons (pv 0) pa_nil)) (pg_tup (by rfl) (pgs_cons (pg_name (i := 1) sc_check_floors.nd rfl (by first | exact Or.inl rfl | exact Or.inr rfl)) (pgs_cons (pg_name (i := 2) sc_check_floors.nd rfl (by first | exact Or.inl rfl | exact Or.inr rfl)) pgs_nil)))
    (pss_one (ps_if (pt_cmpR op_lt (pv 2) pe_int (nomark _))
    (pss_one ps_never) pss_nil))))),
    (rs_seq (rs_if (rt_test (re_op ro_eq (re_CB rc_len (ra_cons re_var ra_nil)) re_int))
    rs_never rs_next)
    (rs_for (ri_enum (ra_cons re_var ra_nil)) (rg_tup (rgs_cons rg_name (rgs_cons rg_name rgs_nil)))
    (rs_if (rt_test (re_op ro_lt re_var re_int))
    rs_never rs_next)))⟩
theorem G_settled_z (T : Txt K mg) : FnOk P w K mg base CX0 6 T.a_settled T.fd_settled ["floors", "water", "bolted"] (spF K mg 3 f_settled_z) :=
  fn_dlD (k := 5) T.F_settled sc_settled rfl fun cdv A outer s H E hr => ⟨_, (pss_cons (ps_expr (pe_call (G_check_floors_z T) (hr.mono (by first | decide | omega)) (by rfl) T.g_check_floors T.F_check_floors.kp T.b_check_floors .nil pass0 (pa_cons (pv 0) pa_nil)))
    (pss_cons (ps_expr (pe_call (G_check_water_z T) (hr.mono (by first | decide | omega)) (by rfl) T.g_check_water T.F_check_water.kp T.b_check_water .nil pass0 (pa_cons (pv 0) (pa_cons (pv 1) pa_nil))))
    (pss_cons (ps_expr (pe_call (G_check_bolted_z T) (hr.mono (by first | decide | omega)) (by rfl) T.g_check_bolted T.F_check_bolted.kp T.b_check_bolted .nil pass0 (pa_cons (pv 0) (pa_cons (pv 2) pa_nil))))
    (pss_one (ps_ret (pe_call (G_at_rest_z T) (hr.mono (by first | decide | omega)) (by rfl) T.g_at_rest T.F_at_rest.kp T.b_at_rest .nil pass0 (pa_cons (pv 0) (pa_cons (pv 1) (pa_cons (pv 2) pa_nil))))))))),
    (rs_seq (rs_drop (re_call0 (ra_cons re_var ra_nil)))
    (rs_seq (rs_drop (re_call0 (ra_cons re_var (ra_cons re_var ra_nil))))
    (rs_seq (rs_drop (re_call0 (ra_cons re_var (ra_cons re_var ra_nil))))
    (rs_ret (re_call0 (ra_cons re_var (ra_cons re_var (ra_cons re_var ra_nil))))))))⟩
theorem G_History_step_z (T : Txt K mg) : FnOk P w K mg base CX0 7 T.a_History_step T.fd_History_step ["self", "bolted", "rain"] (spF K mg 3 f_History_step_z) :=
  fn_dl (k := 6) T.F_History_step sc_History_step rfl fun cdv A outer s H E hr => ⟨_, (pss_cons (ps_expr (pe_call (G_check_bolted_z T) (hr.mono (by first | decide | omega)) (by rfl) T.g_check_bolted T.F_check_bolted.kp T.b_check_bolted .nil pass0 (pa_cons (pe_fld (pv 0) rfl) (pa_cons (pv 1) pa_nil))))
    (pss_cons (ps_expr (pe_call (G_check_water_z T) (hr.mono (by first | decide | omega)) (by rfl) T.g_check_water T.F_check_water.kp T.b_check_water .nil pass0 (pa_cons (pe_fld (pv 0) rfl) (pa_cons (pv 2) pa_nil))))
    (pss_cons (ps_setLc (i := 3) (own := [("amount", 4), ("more", 5)]) (by rfl) sc_History_step.nd (by rfl) (by rfl) (sw_true rfl rfl rfl (by decide +kernel)) (pi_zip (by rfl) T.z_zip (pa_cons (pe_ix ix_seq (pe_fld (pv 0) rfl) (pe_un un_neg pe_int) (fun _ _ => rfl)) (pa_cons (pv 2) pa_nil))) (blkOk_by (own := [("amount", 4), ("more", 5)]) (N := ns_History_step) (sc := defScope s_History_step) (by decide +kernel)) (fun _ _ _ _ _ => (pg_tup (by rfl) (pgs_cons (pg_name (i := 4) sc_History_step.nd rfl (by first | exact Or.inl rfl | exact Or.inr rfl)) (pgs_cons (pg_name (i := 5) sc_History_step.nd rfl (by first | exact Or.inl rfl | exact Or.inr rfl)) pgs_nil)))) (fun _ _ _ _ _ => pts_nil) (fun _ _ _ _ _ => (pe_call (G_plus_z T) (hr.mono (by first | decide | omega)) (by rfl) T.g_plus T.F_plus.kp T.b_plus .nil pass0 (pa_cons (pv 4) (pa_cons (pv 5) pa_nil)))))
    (pss_cons (ps_expr (pe_bm PySem.F.plainAttrs_list PySem.F.slot_list_append PySem.F.type_list_append mt_append (pe_fld (pv 0) rfl) (pa_cons (pe_call (G_settled_z T) (hr.mono (by first | decide | omega)) (by rfl) T.g_settled T.F_settled.kp T.b_settled .nil pass0 (pa_cons (pe_fld (pv 0) rfl) (pa_cons (pv 3) (pa_cons (pv 1) pa_nil)))) pa_nil)))
    (pss_one (ps_expr (pe_bm PySem.F.plainAttrs_list PySem.F.slot_list_append PySem.F.type_list_append mt_append (pe_fld (pv 0) rfl) (pa_cons (pe_tup (pa_cons (pe_callB cr_sortB (by rfl) T.z_sorted (by decide +kernel) (pa_cons (pv 1) pa_nil)) (pa_cons (pe_callTy cr_listOf (by rfl) T.z_list (by decide +kernel) (pa_cons (pv 2) pa_nil)) pa_nil))) pa_nil)))))))),
    (rs_seq (rs_drop (re_call0 (ra_cons (re_fld T.g_History T.cl_History T.n_History__floors re_var) (ra_cons re_var ra_nil))))
    (rs_seq (rs_drop (re_call0 (ra_cons (re_fld T.g_History T.cl_History T.n_History__floors re_var) (ra_cons re_var ra_nil))))
    (rs_seq (rs_asg (re_lc (m := false) (vs := [4, 5]) (ri_zip (ra_cons (re_op ro_ix (re_fld T.g_History T.cl_History T.n_History__waters re_var) (re_un ru_neg re_int)) (ra_cons re_var ra_nil))) (rgv_tup (rgsv_cons (rgv_name (by decide)) (rgsv_cons (rgv_name (by decide)) rgsv_nil))) rt_yes (re_call0 (ra_cons re_var (ra_cons re_var ra_nil)))) rg_name)
    (rs_seq (rs_drop (re_BM rm_append (re_fld T.g_History T.cl_History T.n_History__waters re_var) (ra_cons (re_call0 (ra_cons (re_fld T.g_History T.cl_History T.n_History__floors re_var) (ra_cons re_var (ra_cons re_var ra_nil)))) ra_nil)))
    (rs_drop (re_BM rm_append (re_fld T.g_History T.cl_History T.n_History__steps re_var) (ra_cons (re_tup (ra_cons (re_CB (rc_sortB (m := false)) (ra_cons re_var ra_nil)) (ra_cons (re_CB (rc_list (m := false)) (ra_cons re_var ra_nil)) ra_nil))) ra_nil)))))))⟩
theorem G_History_init_r (T : Txt K mg) : FnOk P w K mg base CX0 3 T.a_History_init T.fd_History_init ["self", "floors", "water"] (spF K mg 3 f_History_init_r) :=
  fn_dlD (k := 2) T.F_History_init sc_History_init rfl fun cdv A outer s H E hr => ⟨_, (pss_cons (ps_expr (pe_call (G_check_floors_z T) (hr.mono (by first | decide | omega)) (by rfl) T.g_check_floors T.F_check_floors.kp T.b_check_floors .nil pass0 (pa_cons (pv 1) pa_nil)))
    (pss_cons (ps_set (i := 3) sc_History_init.nd rfl (by first | exact Or.inl rfl | exact Or.inr rfl) (pe_ifExp (pt_cmp (pc_isN (pv 2))) (pe_op op_rep (pe_lst (pa_cons (pe_glob (v := .ref T.a_NOUGHT) (by rfl) T.g_NOUGHT rfl) pa_nil)) (pe_callB cr_len (by rfl) T.z_len (by decide +kernel) (pa_cons (pv 1) pa_nil))) (pe_callTy cr_listOf (by rfl) T.z_list (by decide +kernel) (pa_cons (pv 2) pa_nil))))
    (pss_cons (ps_expr (pe_call (G_check_water_z T) (hr.mono (by first | decide | omega)) (by rfl) T.g_check_water T.F_check_water.kp T.b_check_water .nil pass0 (pa_cons (pv 1) (pa_cons (pv 3) pa_nil))))
    (pss_cons (ps_fld (pv 0) (pe_callTy cr_listOf (by rfl) T.z_list (by decide +kernel) (pa_cons (pv 1) pa_nil)) rfl)
    (pss_cons (ps_fld (pv 0) (pe_lst pa_nil) rfl)
    (pss_one (ps_fld (pv 0) (pe_lst (pa_cons (pv 3) pa_nil)) rfl))))))),
    (rs_seq (rs_drop (re_call0 (ra_cons re_var ra_nil)))
    (rs_seq (rs_asg (re_if (rt_B (re_isN re_var)) (re_op (ro_rep (m := false)) (re_lst (m := false) (ra_cons (re_c T.d_NOUGHT) ra_nil)) (re_CB rc_len (ra_cons re_var ra_nil))) (re_CB (rc_list (m := false)) (ra_cons re_var ra_nil))) rg_name)
    (rs_seq (rs_drop (re_call0 (ra_cons re_var (ra_cons re_var ra_nil))))
    (rs_seq (rs_fld T.g_History T.cl_History T.n_History__floors re_var (re_CB (rc_list (m := false)) (ra_cons re_var ra_nil)))
    (rs_seq (rs_fld T.g_History T.cl_History T.n_History__steps re_var (re_lst (m := true) ra_nil))
    (rs_fld T.g_History T.cl_History T.n_History__waters re_var (re_lst (m := true) (ra_cons re_var ra_nil))))))))⟩
theorem G_law_made_r (T : Txt K mg) : FnOk P w K mg base CX0 8 T.a_law_made T.fd_law_made ["tanks", "first", "done"] (spF K mg 3 f_law_made_r) :=
  fn_dl (k := 7) T.F_law_made sc_law_made rfl fun cdv A outer s H E hr => ⟨_, (pss_cons (ps_set (i := 3) sc_law_made.nd rfl (by first | exact Or.inl rfl | exact Or.inr rfl) (pe_make T.M_History (G_History_init_r T) (hr.mono (by first | decide | omega)) (by rfl) T.g_History T.b_History_init .nil pass0 (pa_cons (pv 0) (pa_cons (pv 1) pa_nil))))
    (pss_cons (ps_for PassesOwn.never rfl (pi_list (pv 2)) (pg_tup (by rfl) (pgs_cons (pg_name (i := 4) sc_law_made.nd rfl (by first | exact Or.inl rfl | exact Or.inr rfl)) (pgs_cons (pg_name (i := 5) sc_law_made.nd rfl (by first | exact Or.inl rfl | exact Or.inr rfl)) pgs_nil)))
    (pss_one (ps_expr (pe_meth (pv 3) T.cl_History T.m_History_step (G_History_step_z T) (hr.mono (by first | decide | omega)) T.b_History_step .nil pass0 (pa_cons (pv 4) (pa_cons (pv 5) pa_nil))))))
    (pss_one (ps_ret (pv 3))))),
    (rs_seq (rs_asg (re_make0 T.g_History (ra_cons re_var (ra_cons re_var ra_nil))) rg_name)
    (rs_seq (rs_for (ri_list re_var) (rg_tup (rgs_cons rg_name (rgs_cons rg_name rgs_nil)))
    (rs_drop (re_meth0 T.g_History re_var (ra_cons re_var (ra_cons re_var ra_nil)))))
    (rs_ret re_var)))⟩
theorem G_law_others_right_z (T : Txt K mg) : FnOk P w K mg base CX0 9 T.a_law_others_right T.fd_law_others_right ["made", "tanks", "first", "done"] (spF K mg 4 f_law_others_right_z) :=
  fn_dl (k := 8) T.F_law_others_right sc_law_others_right rfl fun cdv A outer s H E hr => ⟨_, (pss_cons (ps_set (i := 4) sc_law_others_right.nd rfl (by first | exact Or.inl rfl | exact Or.inr rfl) (pe_op op_addG (pe_lst (pa_cons (pe_ifExp (pt_cmpR (op_eqD hr.units) (pe_ix ix_seq (pv 2) pe_int (fun _ _ => rfl)) (pe_tup (pa_cons pe_int (pa_cons pe_int pa_nil))) (nomark _)) (pe_tup (pa_cons pe_int (pa_cons pe_int pa_nil))) (pe_tup (pa_cons pe_int (pa_cons pe_int pa_nil)))) pa_nil)) (pe_slice sl_list (pv 2) (po_some pe_int) po_none)))
    (pss_cons (ps_set (i := 5) sc_law_others_right.nd rfl (by first | exact Or.inl rfl | exact Or.inr rfl) (pe_op op_addG (pe_lst (pa_cons (pe_op op_addG (pe_op op_mod (pe_ix ix_seq (pv 1) pe_int (fun _ _ => rfl)) pe_int) pe_int) pa_nil)) (pe_slice sl_list (pv 1) (po_some pe_int) po_none)))
    (pss_cons (ps_if (PW.pt (pw_or (pt_not (pt_val (pe_call (G_law_unlike_z T) (hr.mono (by first | decide | omega)) (by rfl) T.g_law_unlike T.F_law_unlike.kp T.b_law_unlike .nil pass0 (pa_cons (pv 0) (pa_cons (pe_call (G_law_made_r T) (hr.mono (by first | decide | omega)) (by rfl) T.g_law_made T.F_law_made.kp T.b_law_made .nil pass0 (pa_cons (pv 1) (pa_cons (pv 4) (pa_cons (pv 3) pa_nil)))) pa_nil))))) (pw_or1 (pt_not (pt_val (pe_call (G_law_unlike_z T) (hr.mono (by first | decide | omega)) (by rfl) T.g_law_unlike T.F_law_unlike.kp T.b_law_unlike .nil pass0 (pa_cons (pv 0) (pa_cons (pe_call (G_law_made_r T) (hr.mono (by first | decide | omega)) (by rfl) T.g_law_made T.F_law_made.kp T.b_law_made .nil pass0 (pa_cons (pv 5) (pa_cons (pv 2) (pa_cons (pv 3) pa_nil)))) pa_nil))))))))
    (pss_one (ps_ret pe_bl)) pss_nil)
    (pss_cons (ps_if (PW.pt (pw_or (pt_cmpR (op_eqD hr.units) (pv 3) (pe_lst pa_nil) (nomark _)) (pw_or1 (pt_cmpR (op_eqD hr.units) (pe_ix ix_seq (pe_ix ix_seq (pv 3) (pe_un un_neg pe_int) (fun _ _ => rfl)) pe_int (fun _ _ => rfl)) (pv 4) (nomark _)))))
    (pss_one (ps_ret pe_bl)) pss_nil)
    (pss_one (ps_ret (pe_call (G_law_unlike_z T) (hr.mono (by first | decide | omega)) (by rfl) T.g_law_unlike T.F_law_unlike.kp T.b_law_unlike .nil pass0 (pa_cons (pv 0) (pa_cons (pe_call (G_law_made_r T) (hr.mono (by first | decide | omega)) (by rfl) T.g_law_made T.F_law_made.kp T.b_law_made .nil pass0 (pa_cons (pv 1) (pa_cons (pv 2) (pa_cons (pe_op op_addG (pe_slice sl_list (pv 3) po_none (po_some (pe_un un_neg pe_int))) (pe_lst (pa_cons (pe_tup (pa_cons (pe_ix ix_seq (pe_ix ix_seq (pv 3) (pe_un un_neg pe_int) (fun _ _ => rfl)) pe_int (fun _ _ => rfl)) (pa_cons (pv 4) pa_nil))) pa_nil))) pa_nil)))) pa_nil))))))))),
    (rs_seq (rs_asg (re_op (ro_add (m := false)) (re_lst (m := false) (ra_cons (re_if (rt_test (re_op ro_eq (re_op ro_ix re_var re_int) (re_tup (ra_cons re_int (ra_cons re_int ra_nil))))) (re_tup (ra_cons re_int (ra_cons re_int ra_nil))) (re_tup (ra_cons re_int (ra_cons re_int ra_nil)))) ra_nil)) (re_slL (m := false) re_var (ro_some re_int) ro_none)) rg_name)
    (rs_seq (rs_asg (re_op (ro_add (m := false)) (re_lst (m := false) (ra_cons (re_op (ro_add (m := false)) (re_op ro_mod (re_op ro_ix re_var re_int) re_int) re_int) ra_nil)) (re_slL (m := false) re_var (ro_some re_int) ro_none)) rg_name)
    (rs_seq (rs_if (rt_or (rt_not (rt_B (re_call0 (ra_cons re_var (ra_cons (re_call0 (ra_cons re_var (ra_cons re_var (ra_cons re_var ra_nil)))) ra_nil))))) (rt_not (rt_B (re_call0 (ra_cons re_var (ra_cons (re_call0 (ra_cons re_var (ra_cons re_var (ra_cons re_var ra_nil)))) ra_nil))))))
    (rs_ret re_bl) rs_next)
    (rs_seq (rs_if (rt_or (rt_test (re_op ro_eq re_var (re_lst (m := false) ra_nil))) (rt_test (re_op ro_eq (re_op ro_ix (re_op ro_ix re_var (re_un ru_neg re_int)) re_int) re_var)))
    (rs_ret re_bl) rs_next)
    (rs_ret (re_call0 (ra_cons re_var (ra_cons (re_call0 (ra_cons re_var (ra_cons re_var (ra_cons (re_op (ro_add (m := false)) (re_slL (m := false) re_var ro_none (ro_some (re_un ru_neg re_int))) (re_lst (m := false) (ra_cons (re_tup (ra_cons (re_op ro_ix (re_op ro_ix re_var (re_un ru_neg re_int)) re_int) (ra_cons re_var ra_nil))) ra_nil))) ra_nil)))) ra_nil))))))))⟩
theorem G_law_take_z (T : Txt K mg) : FnOk P w K mg base CX0 1 T.a_law_take T.fd_law_take ["deck", "many"] (spF K mg 2 f_law_take_z) :=
  fn_dl (k := 0) T.F_law_take sc_law_take rfl fun cdv A outer s H E hr => ⟨_, (pss_cons (ps_while PassesOwn.never (PW.pt (pw_and (pt_cmpR (op_neD hr.units) (pe_ix ix_seq (pv 0) pe_int (fun _ _ => rfl)) (pe_lst pa_nil) (nomark _)) (pw_and1 (pt_cmpR op_lt (pe_ix ix_seq (pe_ix ix_seq (pv 0) pe_int (fun _ _ => rfl)) (pe_un un_neg pe_int) (fun _ _ => rfl)) pe_int (nomark _)))))
    (pss_one (ps_expr (pe_bm0 PySem.F.plainAttrs_list PySem.F.slot_list_pop PySem.F.type_list_pop mt_pop (pe_ix ix_seq (pv 0) pe_int (fun _ _ => rfl))))))
    (pss_cons (ps_if (pt_cmpR (op_neD hr.units) (pe_ix ix_seq (pv 0) pe_int (fun _ _ => rfl)) (pe_lst pa_nil) (nomark _))
    (pss_cons (ps_set (i := 2) sc_law_take.nd rfl (by first | exact Or.inl rfl | exact Or.inr rfl) (pe_op op_mod (pe_ix ix_seq (pe_ix ix_seq (pv 0) pe_int (fun _ _ => rfl)) (pe_un un_neg pe_int) (fun _ _ => rfl)) (pv 1)))
    (pss_cons (ps_asg (pe_op op_fdivW (pe_ix ix_seq (pe_ix ix_seq (pv 0) pe_int (fun _ _ => rfl)) (pe_un un_neg pe_int) (fun _ _ => rfl)) (pv 1)) (pg_sub (pe_ix ix_seq (pv 0) pe_int (fun _ _ => rfl)) (pe_un un_neg pe_int) set_list))
    (pss_one (ps_ret (pv 2))))) pss_nil)
    (pss_cons (ps_asg (pe_op op_addG (pe_ix ix_seq (pv 0) pe_int (fun _ _ => rfl)) pe_int) (pg_sub (pv 0) pe_int set_list))
    (pss_cons (ps_set (i := 3) sc_law_take.nd rfl (by first | exact Or.inl rfl | exact Or.inr rfl) (pe_ix ix_seq (pv 0) pe_int (fun _ _ => rfl)))
    (pss_cons (ps_set (i := 4) sc_law_take.nd rfl (by first | exact Or.inl rfl | exact Or.inr rfl) (pe_op op_addG (pe_op op_mulW (pe_op op_addG (pe_ix ix_seq (pv 0) pe_int (fun _ _ => rfl)) pe_int) (pe_op op_pow (pe_op op_addG (pv 3) pe_int) pe_int)) (pe_op op_mulW pe_int (pv 3))))
    (pss_one (ps_ret (pe_op op_mod (pe_op op_fdivW (pe_op op_mod (pe_op op_pow (pe_op op_mod (pv 4) pe_int) pe_int) pe_int) pe_int) (pv 1))))))))),
    (rs_seq (rs_while (rt_and (rt_test (re_op ro_ne (re_op ro_ix re_var re_int) (re_lst (m := false) ra_nil))) (rt_test (re_op ro_lt (re_op ro_ix (re_op ro_ix re_var re_int) (re_un ru_neg re_int)) re_int)))
    (rs_drop (re_BM0 rm_pop (re_op ro_ix re_var re_int))))
    (rs_seq (rs_if (rt_test (re_op ro_ne (re_op ro_ix re_var re_int) (re_lst (m := false) ra_nil)))
    (rs_seq (rs_asg (re_op ro_mod (re_op ro_ix (re_op ro_ix re_var re_int) (re_un ru_neg re_int)) re_var) rg_name)
    (rs_seq (rs_asg (re_op ro_fdiv (re_op ro_ix (re_op ro_ix re_var re_int) (re_un ru_neg re_int)) re_var) (rg_sub (re_op ro_ix re_var re_int) (re_un ru_neg re_int)))
    (rs_ret re_var))) rs_next)
    (rs_seq (rs_asg (re_op (ro_add (m := false)) (re_op ro_ix re_var re_int) re_int) (rg_sub re_var re_int))
    (rs_seq (rs_asg (re_op ro_ix re_var re_int) rg_name)
    (rs_seq (rs_asg (re_op (ro_add (m := false)) (re_op ro_mul (re_op (ro_add (m := false)) (re_op ro_ix re_var re_int) re_int) (re_op ro_pow (re_op (ro_add (m := false)) re_var re_int) re_int)) (re_op ro_mul re_int re_var)) rg_name)
    (rs_ret (re_op ro_mod (re_op ro_fdiv (re_op ro_mod (re_op ro_pow (re_op ro_mod re_var re_int) re_int) re_int) re_int) re_var)))))))⟩
theorem G_History_floors_z (T : Txt K mg) : FnOk P w K mg base CX0 1 T.a_History_floors T.fd_History_floors ["self"] (spF K mg 1 f_History_floors_z) :=
  fn_dl (k := 0) T.F_History_floors sc_History_floors rfl fun cdv A outer s H E hr => ⟨_, (pss_one (ps_ret (pe_callTy cr_listOf (by rfl) T.z_list (by decide +kernel) (pa_cons (pe_fld (pv 0) rfl) pa_nil)))),
    (rs_ret (re_CB (rc_list (m := false)) (ra_cons (re_fld T.g_History T.cl_History T.n_History__floors re_var) ra_nil)))⟩
theorem G_History_steps_z (T : Txt K mg) : FnOk P w K mg base CX0 1 T.a_History_steps T.fd_History_steps ["self"] (spF K mg 1 f_History_steps_z) :=
  fn_dl (k := 0) T.F_History_steps sc_History_steps rfl fun cdv A outer s H E hr => ⟨_, (pss_one (ps_ret (pe_lc (own := [("bolted", 1), ("rain", 2)]) (by rfl) sc_History_steps.nd (pi_list (pe_fld (pv 0) rfl)) (blkOk_by (own := [("bolted", 1), ("rain", 2)]) (N := ns_History_steps) (sc := defScope s_History_steps) (by decide +kernel)) (fun _ _ _ _ _ => (pg_tup (by rfl) (pgs_cons (pg_name (i := 1) sc_History_steps.nd rfl (by first | exact Or.inl rfl | exact Or.inr rfl)) (pgs_cons (pg_name (i := 2) sc_History_steps.nd rfl (by first | exact Or.inl rfl | exact Or.inr rfl)) pgs_nil)))) (fun _ _ _ _ _ => pts_nil) (fun _ _ _ _ _ => (pe_tup (pa_cons (pe_callTy cr_listOf (by rfl) T.z_list (by decide +kernel) (pa_cons (pv 1) pa_nil)) (pa_cons (pe_callTy cr_listOf (by rfl) T.z_list (by decide +kernel) (pa_cons (pv 2) pa_nil)) pa_nil))))))),
    (rs_ret (re_lc (m := false) (vs := [1, 2]) (ri_list (re_fld T.g_History T.cl_History T.n_History__steps re_var)) (rgv_tup (rgsv_cons (rgv_name (by decide)) (rgsv_cons (rgv_name (by decide)) rgsv_nil))) rt_yes (re_tup (ra_cons (re_CB (rc_list (m := false)) (ra_cons re_var ra_nil)) (ra_cons (re_CB (rc_list (m := false)) (ra_cons re_var ra_nil)) ra_nil)))))⟩
theorem G_History_water_z (T : Txt K mg) : FnOk P w K mg base CX0 1 T.a_History_water T.fd_History_water ["self", "number"] (spF K mg 2 f_History_water_z) :=
  fn_dlD (k := 0) T.F_History_water sc_History_water rfl fun cdv A outer s H E hr => ⟨_, (pss_cons (ps_if (pt_cmp (pc_isN (pv 1)))
    (pss_one (ps_ret (pe_callTy cr_listOf (by rfl) T.z_list (by decide +kernel) (pa_cons (pe_ix ix_seq (pe_fld (pv 0) rfl) (pe_un un_neg pe_int) (fun _ _ => rfl)) pa_nil)))) pss_nil)
    (pss_cons (ps_if (pt_cmpR op_notInRg (pv 1) (pe_callTy cr_rg1 (by rfl) T.z_range (by decide +kernel) (pa_cons (pe_callB cr_len (by rfl) T.z_len (by decide +kernel) (pa_cons (pe_fld (pv 0) rfl) pa_nil)) pa_nil)) (by rfl))
    (pss_one ps_never) pss_nil)
    (pss_one (ps_ret (pe_callTy cr_listOf (by rfl) T.z_list (by decide +kernel) (pa_cons (pe_ix ix_seq (pe_fld (pv 0) rfl) (pv 1) (fun _ _ => rfl)) pa_nil)))))),
    (rs_seq (rs_if (rt_B (re_isN re_var))
    (rs_ret (re_CB (rc_list (m := false)) (ra_cons (re_op ro_ix (re_fld T.g_History T.cl_History T.n_History__waters re_var) (re_un ru_neg re_int)) ra_nil))) rs_next)
    (rs_seq (rs_if (rt_test (re_inRg1 (neg := true) re_var (ra_cons (re_CB rc_len (ra_cons (re_fld T.g_History T.cl_History T.n_History__waters re_var) ra_nil)) ra_nil)))
    rs_never rs_next)
    (rs_ret (re_CB (rc_list (m := false)) (ra_cons (re_op ro_ix (re_fld T.g_History T.cl_History T.n_History__waters re_var) re_var) ra_nil)))))⟩
theorem G_sums_z (T : Txt K mg) : FnOk P w K mg base CX0 3 T.a_sums T.fd_sums ["amounts"] (spF K mg 1 f_sums_z) :=
  fn_dl (k := 2) T.F_sums sc_sums rfl fun cdv A outer s H E hr => ⟨_, (pss_cons (ps_set (i := 1) sc_sums.nd rfl (by first | exact Or.inl rfl | exact Or.inr rfl) (pe_lst (pa_cons (pe_glob (v := .ref T.a_NOUGHT) (by rfl) T.g_NOUGHT rfl) pa_nil)))
    (pss_cons (ps_for PassesOwn.never rfl (pi_list (pv 0)) (pg_name (i := 2) sc_sums.nd rfl (by first | exact Or.inl rfl | exact Or.inr rfl))
    (pss_one (ps_expr (pe_bm PySem.F.plainAttrs_list PySem.F.slot_list_append PySem.F.type_list_append mt_append (pv 1) (pa_cons (pe_call (G_plus_z T) (hr.mono (by first | decide | omega)) (by rfl) T.g_plus T.F_plus.kp T.b_plus .nil pass0 (pa_cons (pe_ix ix_seq (pv 1) (pe_un un_neg pe_int) (fun _ _ => rfl)) (pa_cons (pv 2) pa_nil))) pa_nil)))))
    (pss_one (ps_ret (pv 1))))),
    (rs_seq (rs_asg (re_lst (m := true) (ra_cons (re_c T.d_NOUGHT) ra_nil)) rg_name)
    (rs_seq (rs_for (ri_list re_var) rg_name
    (rs_drop (re_BM rm_append re_var (ra_cons (re_call0 (ra_cons (re_op ro_ix re_var (re_un ru_neg re_int)) (ra_cons re_var ra_nil))) ra_nil))))
    (rs_ret re_var)))⟩
theorem G_heaped_z (T : Txt K mg) : FnOk P w K mg base CX0 4 T.a_heaped T.fd_heaped ["floors", "water"] (spF K mg 2 f_heaped_z) :=
  fn_dl (k := 3) T.F_heaped sc_heaped rfl fun cdv A outer s H E hr => ⟨_, (pss_cons (ps_expr (pe_call (G_check_floors_z T) (hr.mono (by first | decide | omega)) (by rfl) T.g_check_floors T.F_check_floors.kp T.b_check_floors .nil pass0 (pa_cons (pv 0) pa_nil)))
    (pss_cons (ps_expr (pe_call (G_check_water_z T) (hr.mono (by first | decide | omega)) (by rfl) T.g_check_water T.F_check_water.kp T.b_check_water .nil pass0 (pa_cons (pv 0) (pa_cons (pv 1) pa_nil))))
    (pss_one (ps_ret (pe_call (G_sums_z T) (hr.mono (by first | decide | omega)) (by rfl) T.g_sums T.F_sums.kp T.b_sums .nil pass0 (pa_cons (pv 1) pa_nil)))))),
    (rs_seq (rs_drop (re_call0 (ra_cons re_var ra_nil)))
    (rs_seq (rs_drop (re_call0 (ra_cons re_var (ra_cons re_var ra_nil))))
    (rs_ret (re_call0 (ra_cons re_var ra_nil)))))⟩
theorem G_History_left_z (T : Txt K mg) : FnOk P w K mg base CX0 5 T.a_History_left T.fd_History_left ["self", "k"] (spF K mg 2 f_History_left_z) :=
  fn_dl (k := 4) T.F_History_left sc_History_left rfl fun cdv A outer s H E hr => ⟨_, (pss_cons (ps_if (pt_cmpR op_notInRg (pv 1) (pe_callTy cr_rg1 (by rfl) T.z_range (by decide +kernel) (pa_cons (pe_op op_addG (pe_callB cr_len (by rfl) T.z_len (by decide +kernel) (pa_cons (pe_fld (pv 0) rfl) pa_nil)) pe_int) pa_nil)) (by rfl))
    (pss_one ps_never) pss_nil)
    (pss_one (ps_ret (pe_ix ix_seq (pe_call (G_heaped_z T) (hr.mono (by first | decide | omega)) (by rfl) T.g_heaped T.F_heaped.kp T.b_heaped .nil pass0 (pa_cons (pe_fld (pv 0) rfl) (pa_cons (pe_ix ix_seq (pe_fld (pv 0) rfl) (pe_un un_neg pe_int) (fun _ _ => rfl)) pa_nil))) (pv 1) (fun _ _ => rfl))))),
    (rs_seq (rs_if (rt_test (re_inRg1 (neg := true) re_var (ra_cons (re_op (ro_add (m := false)) (re_CB rc_len (ra_cons (re_fld T.g_History T.cl_History T.n_History__floors re_var) ra_nil)) re_int) ra_nil)))
    rs_never rs_next)
    (rs_ret (re_op ro_ix (re_call0 (ra_cons (re_fld T.g_History T.cl_History T.n_History__floors re_var) (ra_cons (re_op ro_ix (re_fld T.g_History T.cl_History T.n_History__waters re_var) (re_un ru_neg re_int)) ra_nil))) re_var)))⟩
theorem G_law_alike_z (T : Txt K mg) : FnOk P w K mg base CX0 6 T.a_law_alike T.fd_law_alike ["made", "other", "many"] (spF K mg 3 f_law_alike_z) :=
  fn_dl (k := 5) T.F_law_alike sc_law_alike rfl fun cdv A outer s H E hr => ⟨_, (pss_cons (ps_if (PW.pt (pw_or (pt_not (PW.pt (pw_and (pt_cmpR (op_eqOwn (G_History_eq_z T) (hr.mono (by first | decide | omega)) T.m_History_eq T.b_History_eq pass0) (pv 0) (pv 1) (nomark _)) (pw_and1 (pt_cmpR (op_eqOwn (G_History_eq_z T) (hr.mono (by first | decide | omega)) T.m_History_eq T.b_History_eq pass0) (pv 1) (pv 0) (nomark _)))))) (pw_or (pt_cmpR (op_neOwn (G_History_eq_z T) (hr.mono (by first | decide | omega)) T.m_History_eq T.b_History_eq pass0 T.q_History.ne T.q_History.ob) (pv 0) (pv 1) (nomark _)) (pw_or1 (pt_cmpR (op_neD hr.units) (pe_meth0 (pv 0) T.cl_History T.m_History_steps (G_History_steps_z T) (hr.mono (by first | decide | omega)) T.b_History_steps .nil pass0) (pe_meth0 (pv 1) T.cl_History T.m_History_steps (G_History_steps_z T) (hr.mono (by first | decide | omega)) T.b_History_steps .nil pass0) (nomark _))))))
    (pss_one (ps_ret pe_bl)) pss_nil)
    (pss_cons (ps_set (i := 3) sc_law_alike.nd rfl (by first | exact Or.inl rfl | exact Or.inr rfl) (pe_listRg rfl (by rfl) T.z_list (prg_1 (by rfl) T.z_range (pe_op op_addG (pe_callB cr_len (by rfl) T.z_len (by decide +kernel) (pa_cons (pe_meth0 (pv 0) T.cl_History T.m_History_floors (G_History_floors_z T) (hr.mono (by first | decide | omega)) T.b_History_floors .nil pass0) pa_nil)) pe_int))))
    (pss_cons (ps_if (pt_cmpR (op_neD hr.units) (pe_lc (own := [("spot", 4)]) (by rfl) sc_law_alike.nd (pi_list (pv 3)) (blkOk_by (own := [("spot", 4)]) (N := ns_law_alike) (sc := defScope s_law_alike) (by decide +kernel)) (fun _ _ _ _ _ => (pg_name (i := 4) sc_law_alike.nd rfl (by first | exact Or.inl rfl | exact Or.inr rfl))) (fun _ _ _ _ _ => pts_nil) (fun _ _ _ _ _ => (pe_meth (pv 0) T.cl_History T.m_History_left (G_History_left_z T) (hr.mono (by first | decide | omega)) T.b_History_left .nil pass0 (pa_cons (pv 4) pa_nil)))) (pe_lc (own := [("spot", 4)]) (by rfl) sc_law_alike.nd (pi_list (pv 3)) (blkOk_by (own := [("spot", 4)]) (N := ns_law_alike) (sc := defScope s_law_alike) (by decide +kernel)) (fun _ _ _ _ _ => (pg_name (i := 4) sc_law_alike.nd rfl (by first | exact Or.inl rfl | exact Or.inr rfl))) (fun _ _ _ _ _ => pts_nil) (fun _ _ _ _ _ => (pe_meth (pv 1) T.cl_History T.m_History_left (G_History_left_z T) (hr.mono (by first | decide | omega)) T.b_History_left .nil pass0 (pa_cons (pv 4) pa_nil)))) (nomark _))
    (pss_one (ps_ret pe_bl)) pss_nil)
    (pss_one (ps_ret (pe_cmpR (op_eqD hr.units) (pe_lc (own := [("spot", 4)]) (by rfl) sc_law_alike.nd (pi_range1 (by rfl) T.z_range (pa_cons (pe_op op_addG (pv 2) pe_int) pa_nil)) (blkOk_by (own := [("spot", 4)]) (N := ns_law_alike) (sc := defScope s_law_alike) (by decide +kernel)) (fun _ _ _ _ _ => (pg_name (i := 4) sc_law_alike.nd rfl (by first | exact Or.inl rfl | exact Or.inr rfl))) (fun _ _ _ _ _ => pts_nil) (fun _ _ _ _ _ => (pe_meth (pv 0) T.cl_History T.m_History_water (G_History_water_z T) (hr.mono (by first | decide | omega)) T.b_History_water .nil pass0 (pa_cons (pv 4) pa_nil)))) (pe_lc (own := [("spot", 4)]) (by rfl) sc_law_alike.nd (pi_range1 (by rfl) T.z_range (pa_cons (pe_op op_addG (pv 2) pe_int) pa_nil)) (blkOk_by (own := [("spot", 4)]) (N := ns_law_alike) (sc := defScope s_law_alike) (by decide +kernel)) (fun _ _ _ _ _ => (pg_name (i := 4) sc_law_alike.nd rfl (by first | exact Or.inl rfl | exact Or.inr rfl))) (fun _ _ _ _ _ => pts_nil) (fun _ _ _ _ _ => (pe_meth (pv 1) T.cl_History T.m_History_water (G_History_water_z T) (hr.mono (by first | decide | omega)) T.b_History_water .nil pass0 (pa_cons (pv 4) pa_nil)))) (nomark _))))))),
    (rs_seq (rs_if (rt_or (rt_not (rt_and (rt_test (re_op (ro_own (neg := false) T.g_History) re_var re_var)) (rt_test (re_op (ro_own (neg := false) T.g_History) re_var re_var)))) (rt_or (rt_test (re_op (ro_own (neg := true) T.g_History) re_var re_var)) (rt_test (re_op ro_ne (re_meth0 T.g_History re_var ra_nil) (re_meth0 T.g_History re_var ra_nil)))))
    (rs_ret re_bl) rs_next)
    (rs_seq (rs_asg (re_lr1 (m := false) (re_op (ro_add (m := false)) (re_CB rc_len (ra_cons (re_meth0 T.g_History re_var ra_nil) ra_nil)) re_int)) rg_name)
    (rs_seq (rs_if (rt_test (re_op ro_ne (re_lc (m := false) (vs := [4]) (ri_list re_var) (rgv_name (by decide)) rt_yes (re_meth0 T.g_History re_var (ra_cons re_var ra_nil))) (re_lc (m := false) (vs := [4]) (ri_list re_var) (rgv_name (by decide)) rt_yes (re_meth0 T.g_History re_var (ra_cons re_var ra_nil)))))
    (rs_ret re_bl) rs_next)
    (rs_ret (re_op ro_eq (re_lc (m := false) (vs := [4]) (ri_rng1 (ra_cons (re_op (ro_add (m := false)) re_var re_int) ra_nil)) (rgv_name (by decide)) rt_yes (re_meth0 T.g_History re_var (ra_cons re_var ra_nil))) (re_lc (m := false) (vs := [4]) (ri_rng1 (ra_cons (re_op (ro_add (m := false)) re_var re_int) ra_nil)) (rgv_name (by decide)) rt_yes (re_meth0 T.g_History re_var (ra_cons re_var ra_nil))))))))⟩
theorem G_History_undo_z (T : Txt K mg) : FnOk P w K mg base CX0 1 T.a_History_undo T.fd_History_undo ["self"] (spF K mg 1 f_History_undo_z) :=
  fn_dl (k := 0) T.F_History_undo sc_History_undo rfl fun cdv A outer s H E hr => ⟨_, (pss_cons (ps_if (pt_not (pt_truth (pe_fld (pv 0) rfl) (by intro _; rfl)))
    (pss_one ps_never) pss_nil)
    (pss_cons (ps_expr (pe_bm0 PySem.F.plainAttrs_list PySem.F.slot_list_pop PySem.F.type_list_pop mt_pop (pe_fld (pv 0) rfl)))
    (pss_one (ps_expr (pe_bm0 PySem.F.plainAttrs_list PySem.F.slot_list_pop PySem.F.type_list_pop mt_pop (pe_fld (pv 0) rfl)))))),
    (rs_seq (rs_if (rt_not (rt_tru (re_fld T.g_History T.cl_History T.n_History__steps re_var)))
    rs_never rs_next)
    (rs_seq (rs_drop (re_BM0 rm_pop (re_fld T.g_History T.cl_History T.n_History__steps re_var)))
    (rs_drop (re_BM0 rm_pop (re_fld T.g_History T.cl_History T.n_History__waters re_var)))))⟩
theorem G_law_shut_z (T : Txt K mg) : FnOk P w K mg base CX0 2 T.a_law_shut T.fd_law_shut ["deck", "tanks"] (spF K mg 2 f_law_shut_z) :=
  fn_dl (k := 1) T.F_law_shut sc_law_shut rfl fun cdv A outer s H E hr => ⟨_, (pss_cons (ps_set (i := 2) sc_law_shut.nd rfl (by first | exact Or.inl rfl | exact Or.inr rfl) (pe_listRg rfl (by rfl) T.z_list (prg_2 (by rfl) T.z_range pe_int (pe_callB cr_len (by rfl) T.z_len (by decide +kernel) (pa_cons (pv 1) pa_nil)))))
    (pss_cons (ps_set (i := 3) sc_law_shut.nd rfl (by first | exact Or.inl rfl | exact Or.inr rfl) (pe_ix ix_seq (pe_lst (pa_cons pe_int (pa_cons (pe_callB cr_len (by rfl) T.z_len (by decide +kernel) (pa_cons (pv 2) pa_nil)) (pa_cons (pe_call (G_law_take_z T) (hr.mono (by first | decide | omega)) (by rfl) T.g_law_take T.F_law_take.kp T.b_law_take .nil pass0 (pa_cons (pv 0) (pa_cons (pe_callB cr_len (by rfl) T.z_len (by decide +kernel) (pa_cons (pv 1) pa_nil)) pa_nil))) (pa_cons (pe_call (G_law_take_z T) (hr.mono (by first | decide | omega)) (by rfl) T.g_law_take T.F_law_take.kp T.b_law_take .nil pass0 (pa_cons (pv 0) (pa_cons (pe_callB cr_len (by rfl) T.z_len (by decide +kernel) (pa_cons (pv 1) pa_nil)) pa_nil))) pa_nil))))) (pe_call (G_law_take_z T) (hr.mono (by first | decide | omega)) (by rfl) T.g_law_take T.F_law_take.kp T.b_law_take .nil pass0 (pa_cons (pv 0) (pa_cons pe_int pa_nil))) (fun _ _ => rfl)))
    (pss_one (ps_ret (pe_lc (own := [("turn", 4)]) (by rfl) sc_law_shut.nd (pi_range1 (by rfl) T.z_range (pa_cons (pv 3) pa_nil)) (blkOk_by (own := [("turn", 4)]) (N := ns_law_shut) (sc := defScope s_law_shut) (by decide +kernel)) (fun _ _ _ _ _ => (pg_name (i := 4) sc_law_shut.nd rfl (by first | exact Or.inl rfl | exact Or.inr rfl))) (fun _ _ _ _ _ => pts_nil) (fun _ _ _ _ _ => (pe_bm PySem.F.plainAttrs_list PySem.F.slot_list_pop PySem.F.type_list_pop mt_popAt (pv 2) (pa_cons (pe_call (G_law_take_z T) (hr.mono (by first | decide | omega)) (by rfl) T.g_law_take T.F_law_take.kp T.b_law_take .nil pass0 (pa_cons (pv 0) (pa_cons (pe_callB cr_len (by rfl) T.z_len (by decide +kernel) (pa_cons (pv 2) pa_nil)) pa_nil))) pa_nil)))))))),
    (rs_seq (rs_asg (re_lr2 (m := true) re_int (re_CB rc_len (ra_cons re_var ra_nil))) rg_name)
    (rs_seq (rs_asg (re_op ro_ix (re_lst (m := false) (ra_cons re_int (ra_cons (re_CB rc_len (ra_cons re_var ra_nil)) (ra_cons (re_call0 (ra_cons re_var (ra_cons (re_CB rc_len (ra_cons re_var ra_nil)) ra_nil))) (ra_cons (re_call0 (ra_cons re_var (ra_cons (re_CB rc_len (ra_cons re_var ra_nil)) ra_nil))) ra_nil))))) (re_call0 (ra_cons re_var (ra_cons re_int ra_nil)))) rg_name)
    (rs_ret (re_lc (m := false) (vs := [4]) (ri_rng1 (ra_cons re_var ra_nil)) (rgv_name (by decide)) rt_yes (re_BM rm_popAt re_var (ra_cons (re_call0 (ra_cons re_var (ra_cons (re_CB rc_len (ra_cons re_var ra_nil)) ra_nil))) ra_nil))))))⟩
theorem G_law_low_z (T : Txt K mg) : FnOk P w K mg base CX0 1 T.a_law_low T.fd_law_low ["top", "bottom"] (spF K mg 2 f_law_low_z) :=
  fn_dl (k := 0) T.F_law_low sc_law_low rfl fun cdv A outer s H E hr => ⟨_, (pss_cons (ps_par (i := 2) (j := 3) (by rfl) sc_law_low.nd rfl rfl (by decide) (by rfl) (by rfl) (pa_cons (pe_callB cr_abs (by rfl) T.z_abs (by decide +kernel) (pa_cons (pv 0) pa_nil)) (pa_cons (pv 1) pa_nil)) (by rfl))
    (pss_cons (ps_while PassesOwn.never (pt_cmpR (op_neD hr.units) (pv 3) pe_int (nomark _))
    (pss_one (ps_par (i := 2) (j := 3) (by rfl) sc_law_low.nd rfl rfl (by decide) (by rfl) (by rfl) (pa_cons (pv 3) (pa_cons (pe_op op_mod (pv 2) (pv 3)) pa_nil)) (by rfl))))
    (pss_one (ps_ret (pe_tup (pa_cons (pe_op op_fdivW (pv 0) (pv 2)) (pa_cons (pe_op op_fdivW (pv 1) (pv 2)) pa_nil))))))),
    (rs_seq (rs_par (ra_cons (re_CB rc_abs (ra_cons re_var ra_nil)) (ra_cons re_var ra_nil)))
    (rs_seq (rs_while (rt_test (re_op ro_ne re_var re_int))
    (rs_par (ra_cons re_var (ra_cons (re_op ro_mod re_var re_var) ra_nil))))
    (rs_ret (re_tup (ra_cons (re_op ro_fdiv re_var re_var) (ra_cons (re_op ro_fdiv re_var re_var) ra_nil))))))⟩
theorem G_law_amount_z (T : Txt K mg) : FnOk P w K mg base CX0 2 T.a_law_amount T.fd_law_amount ["deck"] (spF K mg 1 f_law_amount_z) :=
  fn_dl (k := 1) T.F_law_amount sc_law_amount rfl fun cdv A outer s H E hr => ⟨_, (pss_cons (ps_set (i := 1) sc_law_amount.nd rfl (by first | exact Or.inl rfl | exact Or.inr rfl) (pe_lst (pa_cons pe_int (pa_cons (pe_call (G_law_take_z T) (hr.mono (by first | decide | omega)) (by rfl) T.g_law_take T.F_law_take.kp T.b_law_take .nil pass0 (pa_cons (pv 0) (pa_cons pe_int pa_nil))) (pa_cons (pe_call (G_law_take_z T) (hr.mono (by first | decide | omega)) (by rfl) T.g_law_take T.F_law_take.kp T.b_law_take .nil pass0 (pa_cons (pv 0) (pa_cons pe_int pa_nil))) (pa_cons (pe_op op_addG (pe_op op_mulW (pe_call (G_law_take_z T) (hr.mono (by first | decide | omega)) (by rfl) T.g_law_take T.F_law_take.kp T.b_law_take .nil pass0 (pa_cons (pv 0) (pa_cons (pe_op op_pow pe_int pe_int) pa_nil))) (pe_op op_pow pe_int pe_int)) (pe_call (G_law_take_z T) (hr.mono (by first | decide | omega)) (by rfl) T.g_law_take T.F_law_take.kp T.b_law_take .nil pass0 (pa_cons (pv 0) (pa_cons (pe_op op_pow pe_int pe_int) pa_nil)))) pa_nil))))))
    (pss_cons (ps_set (i := 2) sc_law_amount.nd rfl (by first | exact Or.inl rfl | exact Or.inr rfl) (pe_call (G_law_take_z T) (hr.mono (by first | decide | omega)) (by rfl) T.g_law_take T.F_law_take.kp T.b_law_take .nil pass0 (pa_cons (pv 0) (pa_cons pe_int pa_nil))))
    (pss_one (ps_ret (pe_call (G_law_low_z T) (hr.mono (by first | decide | omega)) (by rfl) T.g_law_low T.F_law_low.kp T.b_law_low .nil pass0 (pa_cons (pe_ix ix_seq (pv 1) (pv 2) (fun _ _ => rfl)) (pa_cons (pe_ix ix_seq (pe_lst (pa_cons pe_int (pa_cons pe_int (pa_cons (pe_op op_addG pe_int (pe_call (G_law_take_z T) (hr.mono (by first | decide | omega)) (by rfl) T.g_law_take T.F_law_take.kp T.b_law_take .nil pass0 (pa_cons (pv 0) (pa_cons pe_int pa_nil)))) (pa_cons (pe_op op_addG pe_int (pe_call (G_law_take_z T) (hr.mono (by first | decide | omega)) (by rfl) T.g_law_take T.F_law_take.kp T.b_law_take .nil pass0 (pa_cons (pv 0) (pa_cons pe_int pa_nil)))) pa_nil))))) (pv 2) (fun _ _ => rfl)) pa_nil))))))),
    (rs_seq (rs_asg (re_lst (m := false) (ra_cons re_int (ra_cons (re_call0 (ra_cons re_var (ra_cons re_int ra_nil))) (ra_cons (re_call0 (ra_cons re_var (ra_cons re_int ra_nil))) (ra_cons (re_op (ro_add (m := false)) (re_op ro_mul (re_call0 (ra_cons re_var (ra_cons (re_op ro_pow re_int re_int) ra_nil))) (re_op ro_pow re_int re_int)) (re_call0 (ra_cons re_var (ra_cons (re_op ro_pow re_int re_int) ra_nil)))) ra_nil))))) rg_name)
    (rs_seq (rs_asg (re_call0 (ra_cons re_var (ra_cons re_int ra_nil))) rg_name)
    (rs_ret (re_call0 (ra_cons (re_op ro_ix re_var re_var) (ra_cons (re_op ro_ix (re_lst (m := false) (ra_cons re_int (ra_cons re_int (ra_cons (re_op (ro_add (m := false)) re_int (re_call0 (ra_cons re_var (ra_cons re_int ra_nil)))) (ra_cons (re_op (ro_add (m := false)) re_int (re_call0 (ra_cons re_var (ra_cons re_int ra_nil)))) ra_nil))))) re_var) ra_nil))))))⟩
theorem G_law_fall_z (T : Txt K mg) : FnOk P w K mg base CX0 3 T.a_law_fall T.fd_law_fall ["deck", "tanks"] (spF K mg 2 f_law_fall_z) :=
  fn_dl (k := 2) T.F_law_fall sc_law_fall rfl fun cdv A outer s H E hr => ⟨_, (pss_cons (ps_set (i := 2) sc_law_fall.nd rfl (by first | exact Or.inl rfl | exact Or.inr rfl) (pe_call (G_law_take_z T) (hr.mono (by first | decide | omega)) (by rfl) T.g_law_take T.F_law_take.kp T.b_law_take .nil pass0 (pa_cons (pv 0) (pa_cons pe_int pa_nil))))
    (pss_cons (ps_if (pt_cmpR (op_eqD hr.units) (pv 2) pe_int (nomark _))
    (pss_one (ps_ret (pe_lc (own := [("wide", 5)]) (by rfl) sc_law_fall.nd (pi_list (pv 1)) (blkOk_by (own := [("wide", 5)]) (N := ns_law_fall) (sc := defScope s_law_fall) (by decide +kernel)) (fun _ _ _ _ _ => (pg_name (i := 5) sc_law_fall.nd rfl (by first | exact Or.inl rfl | exact Or.inr rfl))) (fun _ _ _ _ _ => pts_nil) (fun _ _ _ _ _ => (pe_tup (pa_cons pe_int (pa_cons pe_int pa_nil))))))) pss_nil)
    (pss_cons (ps_set (i := 3) sc_law_fall.nd rfl (by first | exact Or.inl rfl | exact Or.inr rfl) (pe_lc (own := [("wide", 5)]) (by rfl) sc_law_fall.nd (pi_list (pv 1)) (blkOk_by (own := [("wide", 5)]) (N := ns_law_fall) (sc := defScope s_law_fall) (by decide +kernel)) (fun _ _ _ _ _ => (pg_name (i := 5) sc_law_fall.nd rfl (by first | exact Or.inl rfl | exact Or.inr rfl))) (fun _ _ _ _ _ => pts_nil) (fun _ _ _ _ _ => (pe_call (G_law_amount_z T) (hr.mono (by first | decide | omega)) (by rfl) T.g_law_amount T.F_law_amount.kp T.b_law_amount .nil pass0 (pa_cons (pv 0) pa_nil)))))
    (pss_cons (ps_if (pt_cmpR op_lt (pv 2) pe_int (nomark _))
    (pss_cons (ps_set (i := 4) sc_law_fall.nd rfl (by first | exact Or.inl rfl | exact Or.inr rfl) (pe_ix ix_seq (pe_lst (pa_cons pe_int (pa_cons (pe_op op_sub (pe_callB cr_len (by rfl) T.z_len (by decide +kernel) (pa_cons (pv 1) pa_nil)) pe_int) (pa_cons (pe_call (G_law_take_z T) (hr.mono (by first | decide | omega)) (by rfl) T.g_law_take T.F_law_take.kp T.b_law_take .nil pass0 (pa_cons (pv 0) (pa_cons (pe_callB cr_len (by rfl) T.z_len (by decide +kernel) (pa_cons (pv 1) pa_nil)) pa_nil))) pa_nil)))) (pe_call (G_law_take_z T) (hr.mono (by first | decide | omega)) (by rfl) T.g_law_take T.F_law_take.kp T.b_law_take .nil pass0 (pa_cons (pv 0) (pa_cons pe_int pa_nil))) (fun _ _ => rfl)))
    (pss_one (ps_set (i := 3) sc_law_fall.nd rfl (by first | exact Or.inl rfl | exact Or.inr rfl) (pe_lc (own := [("tank", 6)]) (by rfl) sc_law_fall.nd (pi_range1 (by rfl) T.z_range (pa_cons (pe_callB cr_len (by rfl) T.z_len (by decide +kernel) (pa_cons (pv 1) pa_nil)) pa_nil)) (blkOk_by (own := [("tank", 6)]) (N := ns_law_fall) (sc := defScope s_law_fall) (by decide +kernel)) (fun _ _ _ _ _ => (pg_name (i := 6) sc_law_fall.nd rfl (by first | exact Or.inl rfl | exact Or.inr rfl))) (fun _ _ _ _ _ => pts_nil) (fun _ _ _ _ _ => (pe_ifExp (pt_cmpR (op_eqD hr.units) (pv 6) (pv 4) (nomark _)) (pe_ix ix_seq (pv 3) (pv 6) (fun _ _ => rfl)) (pe_tup (pa_cons pe_int (pa_cons pe_int pa_nil))))))))) pss_nil)
    (pss_cons (ps_if (PW.pt (pw_and (pt_cmpR op_lt (pv 2) pe_int (nomark _)) (pw_and1 (pt_cmpR op_gt (pv 2) pe_int (nomark _)))))
    (pss_one (ps_set (i := 3) sc_law_fall.nd rfl (by first | exact Or.inl rfl | exact Or.inr rfl) (pe_lc (own := [("wide", 5)]) (by rfl) sc_law_fall.nd (pi_list (pv 1)) (blkOk_by (own := [("wide", 5)]) (N := ns_law_fall) (sc := defScope s_law_fall) (by decide +kernel)) (fun _ _ _ _ _ => (pg_name (i := 5) sc_law_fall.nd rfl (by first | exact Or.inl rfl | exact Or.inr rfl))) (fun _ _ _ _ _ => pts_nil) (fun _ _ _ _ _ => (pe_tup (pa_cons (pe_op op_mulW (pv 5) (pe_call (G_law_take_z T) (hr.mono (by first | decide | omega)) (by rfl) T.g_law_take T.F_law_take.kp T.b_law_take .nil pass0 (pa_cons (pv 0) (pa_cons pe_int pa_nil)))) (pa_cons pe_int pa_nil))))))) pss_nil)
    (pss_one (ps_ret (pv 3)))))))),
    (rs_seq (rs_asg (re_call0 (ra_cons re_var (ra_cons re_int ra_nil))) rg_name)
    (rs_seq (rs_if (rt_test (re_op ro_eq re_var re_int))
    (rs_ret (re_lc (m := false) (vs := [5]) (ri_list re_var) (rgv_name (by decide)) rt_yes (re_tup (ra_cons re_int (ra_cons re_int ra_nil))))) rs_next)
    (rs_seq (rs_asg (re_lc (m := false) (vs := [5]) (ri_list re_var) (rgv_name (by decide)) rt_yes (re_call0 (ra_cons re_var ra_nil))) rg_name)
    (rs_seq (rs_if (rt_test (re_op ro_lt re_var re_int))
    (rs_seq (rs_asg (re_op ro_ix (re_lst (m := false) (ra_cons re_int (ra_cons (re_op ro_sub (re_CB rc_len (ra_cons re_var ra_nil)) re_int) (ra_cons (re_call0 (ra_cons re_var (ra_cons (re_CB rc_len (ra_cons re_var ra_nil)) ra_nil))) ra_nil)))) (re_call0 (ra_cons re_var (ra_cons re_int ra_nil)))) rg_name)
    (rs_asg (re_lc (m := false) (vs := [6]) (ri_rng1 (ra_cons (re_CB rc_len (ra_cons re_var ra_nil)) ra_nil)) (rgv_name (by decide)) rt_yes (re_if (rt_test (re_op ro_eq re_var re_var)) (re_op ro_ix re_var re_var) (re_tup (ra_cons re_int (ra_cons re_int ra_nil))))) rg_name)) rs_next)
    (rs_seq (rs_if (rt_and (rt_test (re_op ro_lt re_var re_int)) (rt_test (re_op ro_gt re_var re_int)))
    (rs_asg (re_lc (m := false) (vs := [5]) (ri_list re_var) (rgv_name (by decide)) rt_yes (re_tup (ra_cons (re_op ro_mul re_var (re_call0 (ra_cons re_var (ra_cons re_int ra_nil)))) (ra_cons re_int ra_nil)))) rg_name) rs_next)
    (rs_ret re_var))))))⟩
theorem G_law_tanks_z (T : Txt K mg) : FnOk P w K mg base CX0 2 T.a_law_tanks T.fd_law_tanks ["deck", "most"] (spF K mg 2 f_law_tanks_z) :=
  fn_dl (k := 1) T.F_law_tanks sc_law_tanks rfl fun cdv A outer s H E hr => ⟨_, (pss_cons (ps_asg (pe_tup (pa_cons (pe_op op_addG pe_int (pe_call (G_law_take_z T) (hr.mono (by first | decide | omega)) (by rfl) T.g_law_take T.F_law_take.kp T.b_law_take .nil pass0 (pa_cons (pv 0) (pa_cons (pv 1) pa_nil)))) (pa_cons (pe_call (G_law_take_z T) (hr.mono (by first | decide | omega)) (by rfl) T.g_law_take T.F_law_take.kp T.b_law_take .nil pass0 (pa_cons (pv 0) (pa_cons pe_int pa_nil))) pa_nil))) (pg_tup (by rfl) (pgs_cons (pg_name (i := 2) sc_law_tanks.nd rfl (by first | exact Or.inl rfl | exact Or.inr rfl)) (pgs_cons (pg_name (i := 3) sc_law_tanks.nd rfl (by first | exact Or.inl rfl | exact Or.inr rfl)) pgs_nil))))
    (pss_one (ps_ret (pe_lc (own := [("tank", 4)]) (by rfl) sc_law_tanks.nd (pi_range1 (by rfl) T.z_range (pa_cons (pv 2) pa_nil)) (blkOk_by (own := [("tank", 4)]) (N := ns_law_tanks) (sc := defScope s_law_tanks) (by decide +kernel)) (fun _ _ _ _ _ => (pg_name (i := 4) sc_law_tanks.nd rfl (by first | exact Or.inl rfl | exact Or.inr rfl))) (fun _ _ _ _ _ => pts_nil) (fun _ _ _ _ _ => (pe_op op_addG pe_int (pe_call (G_law_take_z T) (hr.mono (by first | decide | omega)) (by rfl) T.g_law_take T.F_law_take.kp T.b_law_take .nil pass0 (pa_cons (pv 0) (pa_cons (pe_ix ix_seq (pe_lst (pa_cons pe_int (pa_cons pe_int (pa_cons pe_int pa_nil)))) (pv 3) (fun _ _ => rfl)) pa_nil))))))))),
    (rs_seq (rs_asg (re_tup (ra_cons (re_op (ro_add (m := false)) re_int (re_call0 (ra_cons re_var (ra_cons re_var ra_nil)))) (ra_cons (re_call0 (ra_cons re_var (ra_cons re_int ra_nil))) ra_nil))) (rg_tup (rgs_cons rg_name (rgs_cons rg_name rgs_nil))))
    (rs_ret (re_lc (m := false) (vs := [4]) (ri_rng1 (ra_cons re_var ra_nil)) (rgv_name (by decide)) rt_yes (re_op (ro_add (m := false)) re_int (re_call0 (ra_cons re_var (ra_cons (re_op ro_ix (re_lst (m := false) (ra_cons re_int (ra_cons re_int (ra_cons re_int ra_nil)))) re_var) ra_nil)))))))⟩
theorem G_law_deck_r (T : Txt K mg) : FnOk P w K mg base CX0 1 T.a_law_deck T.fd_law_deck ["script"] (spF K mg 1 f_law_deck_r) :=
  fn_dl (k := 0) T.F_law_deck sc_law_deck rfl fun cdv A outer s H E hr => ⟨_, (pss_cons (ps_set (i := 1) sc_law_deck.nd rfl (by first | exact Or.inl rfl | exact Or.inr rfl) (pe_lst pa_nil))
    (pss_cons (ps_set (i := 2) sc_law_deck.nd rfl (by first | exact Or.inl rfl | exact Or.inr rfl) pe_int)
    (pss_cons (ps_for PassesOwn.never rfl (pi_list (pv 0)) (pg_name (i := 3) sc_law_deck.nd rfl (by first | exact Or.inl rfl | exact Or.inr rfl))
    (pss_cons (ps_set (i := 2) sc_law_deck.nd rfl (by first | exact Or.inl rfl | exact Or.inr rfl) (pe_op op_mod (pe_op op_addG (pe_op op_mulW (pv 2) pe_int) (pv 3)) pe_int))
    (pss_one (ps_if (pt_cmpR op_ge (pe_callB cr_abs (by rfl) T.z_abs (by decide +kernel) (pa_cons (pv 3) pa_nil)) (pe_op op_pow pe_int pe_int) (nomark _))
    (pss_one (ps_expr (pe_bm PySem.F.plainAttrs_list PySem.F.slot_list_insert PySem.F.type_list_insert mt_insertG (pv 1) (pa_cons pe_int (pa_cons (pe_op op_sub (pe_callB cr_abs (by rfl) T.z_abs (by decide +kernel) (pa_cons (pv 3) pa_nil)) (pe_op op_pow pe_int pe_int)) pa_nil))))) pss_nil))))
    (pss_one (ps_ret (pe_lst (pa_cons (pv 1) (pa_cons (pv 2) (pa_cons pe_int pa_nil))))))))),
    (rs_seq (rs_asg (re_lst (m := true) ra_nil) rg_name)
    (rs_seq (rs_asg re_int rg_name)
    (rs_seq (rs_for (ri_list re_var) rg_name
    (rs_seq (rs_asg (re_op ro_mod (re_op (ro_add (m := false)) (re_op ro_mul re_var re_int) re_var) re_int) rg_name)
    (rs_if (rt_test (re_op ro_ge (re_CB rc_abs (ra_cons re_var ra_nil)) (re_op ro_pow re_int re_int)))
    (rs_drop (re_BM rm_insert re_var (ra_cons re_int (ra_cons (re_op ro_sub (re_CB rc_abs (ra_cons re_var ra_nil)) (re_op ro_pow re_int re_int)) ra_nil)))) rs_next)))
    (rs_ret (re_lst (m := true) (ra_cons re_var (ra_cons re_var (ra_cons re_int ra_nil))))))))⟩
theorem G_law_z (T : Txt K mg) : FnOk P w K mg base CX0 10 T.a_law T.fd_law ["script"] (spF K mg 1 f_law_z) :=
  fn_dl (k := 9) T.F_law sc_law rfl fun cdv A outer s H E hr => ⟨_, (pss_cons (ps_set (i := 1) sc_law.nd rfl (by first | exact Or.inl rfl | exact Or.inr rfl) (pe_call (G_law_deck_r T) (hr.mono (by first | decide | omega)) (by rfl) T.g_law_deck T.F_law_deck.kp T.b_law_deck .nil pass0 (pa_cons (pv 0) pa_nil)))
    (pss_cons (ps_for PassesOwn.never rfl (pi_range1 (by rfl) T.z_range (pa_cons (pe_op op_addG pe_int (pe_callB (cr_minG rfl) (by rfl) T.z_min (by decide +kernel) (pa_cons pe_int (pa_cons (pe_callB cr_len (by rfl) T.z_len (by decide +kernel) (pa_cons (pv 0) pa_nil)) pa_nil)))) pa_nil)) (pg_name (i := 2) sc_law.nd rfl (by first | exact Or.inl rfl | exact Or.inr rfl))
    (pss_cons (ps_set (i := 3) sc_law.nd rfl (by first | exact Or.inl rfl | exact Or.inr rfl) (pe_call (G_law_tanks_z T) (hr.mono (by first | decide | omega)) (by rfl) T.g_law_tanks T.F_law_tanks.kp T.b_law_tanks .nil pass0 (pa_cons (pv 1) (pa_cons pe_int pa_nil))))
    (pss_cons (ps_set (i := 4) sc_law.nd rfl (by first | exact Or.inl rfl | exact Or.inr rfl) (pe_call (G_law_fall_z T) (hr.mono (by first | decide | omega)) (by rfl) T.g_law_fall T.F_law_fall.kp T.b_law_fall .nil pass0 (pa_cons (pv 1) (pa_cons (pv 3) pa_nil))))
    (pss_cons (ps_asg (pe_tup (pa_cons (pe_make T.M_History (G_History_init_r T) (hr.mono (by first | decide | omega)) (by rfl) T.g_History T.b_History_init .nil pass0 (pa_cons (pv 3) (pa_cons (pv 4) pa_nil))) (pa_cons (pe_make T.M_History (G_History_init_r T) (hr.mono (by first | decide | omega)) (by rfl) T.g_History T.b_History_init .nil pass0 (pa_cons (pv 3) (pa_cons (pv 4) pa_nil))) pa_nil))) (pg_tup (by rfl) (pgs_cons (pg_name (i := 5) sc_law.nd rfl (by first | exact Or.inl rfl | exact Or.inr rfl)) (pgs_cons (pg_name (i := 6) sc_law.nd rfl (by first | exact Or.inl rfl | exact Or.inr rfl)) pgs_nil))))
    (pss_cons (ps_set (i := 7) sc_law.nd rfl (by first | exact Or.inl rfl | exact Or.inr rfl) (pe_lst pa_nil))
    (pss_cons (ps_for PassesOwn.never rfl (pi_range1 (by rfl) T.z_range (pa_cons (pe_call (G_law_take_z T) (hr.mono (by first | decide | omega)) (by rfl) T.g_law_take T.F_law_take.kp T.b_law_take .nil pass0 (pa_cons (pv 1) (pa_cons pe_int pa_nil))) pa_nil)) (pg_name (i := 8) sc_law.nd rfl (by first | exact Or.inl rfl | exact Or.inr rfl))
    (pss_cons (ps_if (PW.pt (pw_and (pt_cmpR (op_neD hr.units) (pv 7) (pe_lst pa_nil) (nomark _)) (pw_and1 (PW.pt (pw_or (pt_cmpR (op_eqD hr.units) (pe_call (G_law_take_z T) (hr.mono (by first | decide | omega)) (by rfl) T.g_law_take T.F_law_take.kp T.b_law_take .nil pass0 (pa_cons (pv 1) (pa_cons pe_int pa_nil))) pe_int (nomark _)) (pw_or1 (pt_cmpR (op_eqD hr.units) (pe_callB cr_len (by rfl) T.z_len (by decide +kernel) (pa_cons (pv 7) pa_nil)) pe_int (nomark _))))))))
    (pss_cons (ps_set (i := 7) sc_law.nd rfl (by first | exact Or.inl rfl | exact Or.inr rfl) (pe_slice sl_list (pv 7) po_none (po_some (pe_un un_neg pe_int))))
    (pss_one (ps_if (pt_cmp (pc_notN (pe_meth0 (pv 5) T.cl_History T.m_History_undo (G_History_undo_z T) (hr.mono (by first | decide | omega)) T.b_History_undo .nil pass0)))
    (pss_one (ps_ret pe_bl)) pss_nil))) (pss_cons (ps_par (i := 9) (j := 10) (by rfl) sc_law.nd rfl rfl (by decide) (by rfl) (by rfl) (pa_cons (pe_call (G_law_shut_z T) (hr.mono (by first | decide | omega)) (by rfl) T.g_law_shut T.F_law_shut.kp T.b_law_shut .nil pass0 (pa_cons (pv 1) (pa_cons (pv 3) pa_nil))) (pa_cons (pe_call (G_law_fall_z T) (hr.mono (by first | decide | omega)) (by rfl) T.g_law_fall T.F_law_fall.kp T.b_law_fall .nil pass0 (pa_cons (pv 1) (pa_cons (pv 3) pa_nil))) pa_nil)) (by rfl))
    (pss_cons (ps_set (i := 7) sc_law.nd rfl (by first | exact Or.inl rfl | exact Or.inr rfl) (pe_op op_addG (pv 7) (pe_lst (pa_cons (pe_tup (pa_cons (pv 9) (pa_cons (pv 10) pa_nil))) pa_nil))))
    (pss_one (ps_expr (pe_meth (pv 5) T.cl_History T.m_History_step (G_History_step_z T) (hr.mono (by first | decide | omega)) T.b_History_step .nil pass0 (pa_cons (pv 9) (pa_cons (pv 10) pa_nil))))))))
    (pss_cons (ps_if (pt_not (pt_val (pe_call (G_law_alike_z T) (hr.mono (by first | decide | omega)) (by rfl) T.g_law_alike T.F_law_alike.kp T.b_law_alike .nil pass0 (pa_cons (pv 5) (pa_cons (pe_call (G_law_made_r T) (hr.mono (by first | decide | omega)) (by rfl) T.g_law_made T.F_law_made.kp T.b_law_made .nil pass0 (pa_cons (pv 3) (pa_cons (pv 4) (pa_cons (pv 7) pa_nil)))) (pa_cons (pe_callB cr_len (by rfl) T.z_len (by decide +kernel) (pa_cons (pv 7) pa_nil)) pa_nil))))))
    (pss_one (ps_ret pe_bl)) pss_nil)
    (pss_one (ps_if (PW.pt (pw_or (pt_cmpR (op_neD hr.units) (pe_meth0 (pv 5) T.cl_History T.m_History_floors (G_History_floors_z T) (hr.mono (by first | decide | omega)) T.b_History_floors .nil pass0) (pv 3) (nomark _)) (pw_or (pt_cmpR (op_neD hr.units) (pe_meth0 (pv 6) T.cl_History T.m_History_steps (G_History_steps_z T) (hr.mono (by first | decide | omega)) T.b_History_steps .nil pass0) (pe_lst pa_nil) (nomark _)) (pw_or1 (pt_cmpR (op_neD hr.units) (pe_meth0 (pv 6) T.cl_History T.m_History_water (G_History_water_z T) (hr.mono (by first | decide | omega)) T.bd_History_water T.rd_History_water pass0) (pv 4) (nomark _))))))
    (pss_one (ps_ret pe_bl)) pss_nil)))))
    (pss_cons (ps_if (pt_cmpR (op_neD hr.units) (pe_cmpR (op_eqOwn (G_History_eq_z T) (hr.mono (by first | decide | omega)) T.m_History_eq T.b_History_eq pass0) (pv 5) (pv 6) (nomark _)) (pe_cmpR (op_eqD hr.units) (pv 7) (pe_lst pa_nil) (nomark _)) (nomark _))
    (pss_one (ps_ret pe_bl)) pss_nil)
    (pss_cons (ps_if (pt_not (pt_val (pe_call (G_law_others_right_z T) (hr.mono (by first | decide | omega)) (by rfl) T.g_law_others_right T.F_law_others_right.kp T.b_law_others_right .nil pass0 (pa_cons (pv 5) (pa_cons (pv 3) (pa_cons (pv 4) (pa_cons (pv 7) pa_nil)))))))
    (pss_one (ps_ret pe_bl)) pss_nil)
    (pss_cons (ps_if (PW.pt (pw_and (pt_cmpR op_gt (pe_callB cr_len (by rfl) T.z_len (by decide +kernel) (pa_cons (pv 7) pa_nil)) pe_int (nomark _)) (pw_and1 (pt_cmpR (op_neD hr.units) (pe_tup (pa_cons (pe_callB cr_sortB (by rfl) T.z_sorted (by decide +kernel) (pa_cons (pe_ix ix_seq (pe_ix ix_seq (pv 7) pe_int (fun _ _ => rfl)) pe_int (fun _ _ => rfl)) pa_nil)) (pa_cons (pe_ix ix_seq (pe_ix ix_seq (pv 7) pe_int (fun _ _ => rfl)) pe_int (fun _ _ => rfl)) pa_nil))) (pe_tup (pa_cons (pe_callB cr_sortB (by rfl) T.z_sorted (by decide +kernel) (pa_cons (pe_ix ix_seq (pe_ix ix_seq (pv 7) pe_int (fun _ _ => rfl)) pe_int (fun _ _ => rfl)) pa_nil)) (pa_cons (pe_ix ix_seq (pe_ix ix_seq (pv 7) pe_int (fun _ _ => rfl)) pe_int (fun _ _ => rfl)) pa_nil))) (nomark _)))))
    (pss_one (ps_if (pt_not (pt_val (pe_call (G_law_unlike_z T) (hr.mono (by first | decide | omega)) (by rfl) T.g_law_unlike T.F_law_unlike.kp T.b_law_unlike .nil pass0 (pa_cons (pv 5) (pa_cons (pe_call (G_law_made_r T) (hr.mono (by first | decide | omega)) (by rfl) T.g_law_made T.F_law_made.kp T.b_law_made .nil pass0 (pa_cons (pv 3) (pa_cons (pv 4) (pa_cons (pe_op op_addG (pe_lst (pa_cons (pe_ix ix_seq (pv 7) pe_int (fun _ _ => rfl)) (pa_cons (pe_ix ix_seq (pv 7) pe_int (fun _ _ => rfl)) pa_nil))) (pe_slice sl_list (pv 7) (po_some pe_int) po_none)) pa_nil)))) pa_nil)))))
    (pss_one (ps_ret pe_bl)) pss_nil)) pss_nil)
    (pss_one (ps_if (pt_cmpR (op_neD hr.units) (pe_lc (own := [("thing", 11)]) (by rfl) sc_law.nd (pi_list (pe_lst (pa_cons pe_non (pa_cons pe_int (pa_cons pe_str (pa_cons (pv 3) (pa_cons pe_dnewK pa_nil))))))) (blkOk_by (own := [("thing", 11)]) (N := ns_law) (sc := defScope s_law) (by decide +kernel)) (fun _ _ _ _ _ => (pg_name (i := 11) sc_law.nd rfl (by first | exact Or.inl rfl | exact Or.inr rfl))) (fun _ _ _ _ _ => (pts_one (pt_cmpR (op_eqOth (N_History_eq T) (hr.mono (by first | decide | omega)) T.m_History_eq T.b_History_eq T.o_History) (pv 5) (pv 11) (nomark _)))) (fun _ _ _ _ _ => pe_int)) (pe_lst pa_nil) (nomark _))
    (pss_one (ps_ret pe_bl)) pss_nil)))))))))))
    (pss_one (ps_ret pe_bl)))),
    (rs_seq (rs_asg (re_call0 (ra_cons re_var ra_nil)) rg_name)
    (rs_seq (rs_for (ri_rng1 (ra_cons (re_op (ro_add (m := false)) re_int (re_CB rc_min (ra_cons re_int (ra_cons (re_CB rc_len (ra_cons re_var ra_nil)) ra_nil)))) ra_nil)) rg_name
    (rs_seq (rs_asg (re_call0 (ra_cons re_var (ra_cons re_int ra_nil))) rg_name)
    (rs_seq (rs_asg (re_call0 (ra_cons re_var (ra_cons re_var ra_nil))) rg_name)
    (rs_seq (rs_asg (re_tup (ra_cons (re_make0 T.g_History (ra_cons re_var (ra_cons re_var ra_nil))) (ra_cons (re_make0 T.g_History (ra_cons re_var (ra_cons re_var ra_nil))) ra_nil))) (rg_tup (rgs_cons rg_name (rgs_cons rg_name rgs_nil))))
    (rs_seq (rs_asg (re_lst (m := false) ra_nil) rg_name)
    (rs_seq (rs_for (ri_rng1 (ra_cons (re_call0 (ra_cons re_var (ra_cons re_int ra_nil))) ra_nil)) rg_name
    (rs_seq (rs_if (rt_and (rt_test (re_op ro_ne re_var (re_lst (m := false) ra_nil))) (rt_or (rt_test (re_op ro_eq (re_call0 (ra_cons re_var (ra_cons re_int ra_nil))) re_int)) (rt_test (re_op ro_eq (re_CB rc_len (ra_cons re_var ra_nil)) re_int))))
    (rs_seq (rs_asg (re_slL (m := false) re_var ro_none (ro_some (re_un ru_neg re_int))) rg_name)
    (rs_if (rt_B (re_notN (re_meth0 T.g_History re_var ra_nil)))
    (rs_ret re_bl) rs_next)) (rs_seq (rs_par (ra_cons (re_call0 (ra_cons re_var (ra_cons re_var ra_nil))) (ra_cons (re_call0 (ra_cons re_var (ra_cons re_var ra_nil))) ra_nil)))
    (rs_seq (rs_asg (re_op (ro_add (m := false)) re_var (re_lst (m := false) (ra_cons (re_tup (ra_cons re_var (ra_cons re_var ra_nil))) ra_nil))) rg_name)
    (rs_drop (re_meth0 T.g_History re_var (ra_cons re_var (ra_cons re_var ra_nil)))))))
    (rs_seq (rs_if (rt_not (rt_B (re_call0 (ra_cons re_var (ra_cons (re_call0 (ra_cons re_var (ra_cons re_var (ra_cons re_var ra_nil)))) (ra_cons (re_CB rc_len (ra_cons re_var ra_nil)) ra_nil))))))
    (rs_ret re_bl) rs_next)
    (rs_if (rt_or (rt_test (re_op ro_ne (re_meth0 T.g_History re_var ra_nil) re_var)) (rt_or (rt_test (re_op ro_ne (re_meth0 T.g_History re_var ra_nil) (re_lst (m := false) ra_nil))) (rt_test (re_op ro_ne (re_meth T.g_History (fun W => ⟨_, _, rfl, T.dv_History_water W, rfl⟩) re_var ra_nil) re_var))))
    (rs_ret re_bl) rs_next))))
    (rs_seq (rs_if (rt_test (re_op ro_ne (re_op (ro_own (neg := false) T.g_History) re_var re_var) (re_op ro_eq re_var (re_lst (m := false) ra_nil))))
    (rs_ret re_bl) rs_next)
    (rs_seq (rs_if (rt_not (rt_B (re_call0 (ra_cons re_var (ra_cons re_var (ra_cons re_var (ra_cons re_var ra_nil)))))))
    (rs_ret re_bl) rs_next)
    (rs_seq (rs_if (rt_and (rt_test (re_op ro_gt (re_CB rc_len (ra_cons re_var ra_nil)) re_int)) (rt_test (re_op ro_ne (re_tup (ra_cons (re_CB (rc_sortB (m := false)) (ra_cons (re_op ro_ix (re_op ro_ix re_var re_int) re_int) ra_nil)) (ra_cons (re_op ro_ix (re_op ro_ix re_var re_int) re_int) ra_nil))) (re_tup (ra_cons (re_CB (rc_sortB (m := false)) (ra_cons (re_op ro_ix (re_op ro_ix re_var re_int) re_int) ra_nil)) (ra_cons (re_op ro_ix (re_op ro_ix re_var re_int) re_int) ra_nil))))))
    (rs_if (rt_not (rt_B (re_call0 (ra_cons re_var (ra_cons (re_call0 (ra_cons re_var (ra_cons re_var (ra_cons (re_op (ro_add (m := false)) (re_lst (m := false) (ra_cons (re_op ro_ix re_var re_int) (ra_cons (re_op ro_ix re_var re_int) ra_nil))) (re_slL (m := false) re_var (ro_some re_int) ro_none)) ra_nil)))) ra_nil)))))
    (rs_ret re_bl) rs_next) rs_next)
    (rs_if (rt_test (re_op ro_ne (re_lc (m := false) (vs := [11]) (ri_list (re_lst (m := false) (ra_cons re_non (ra_cons re_int (ra_cons re_str (ra_cons re_var (ra_cons re_dnewI ra_nil))))))) (rgv_name (by decide)) (rt_test (re_op (ro_oth T.g_History) re_var re_var)) re_int) (re_lst (m := false) ra_nil)))
    (rs_ret re_bl) rs_next))))))))))
    (rs_ret re_bl)))⟩
end
/-! ### the head -/
theorem all_mk {l : PySem.W.OpenLaw} {w : World} {K : PySem.W.Frag} {h : Heap} {mg : Str → Option Value} {fa : Addr} (X : K.In h) (G : h.Ns mainGlobals mg) (hfa : mg "law" = some (.ref fa))
    {C0 : Addr}
    {f0 : Addr} {od0 an0 : Option Addr} {sl0 : Array (Option Value)} {oc0 kV0 dc0 pm0 cd0 ct0 : Value}
    {f1 : Addr} {od1 an1 : Option Addr} {sl1 : Array (Option Value)} {oc1 kV1 dc1 pm1 cd1 ct1 : Value}
    {f2 : Addr} {od2 an2 : Option Addr} {sl2 : Array (Option Value)} {oc2 kV2 dc2 pm2 cd2 ct2 : Value}
    {f3 : Addr} {od3 an3 : Option Addr} {sl3 : Array (Option Value)} {oc3 kV3 dc3 pm3 cd3 ct3 : Value}
    {f4 : Addr} {od4 an4 : Option Addr} {sl4 : Array (Option Value)} {oc4 kV4 dc4 pm4 cd4 ct4 : Value}
    {f5 : Addr} {od5 an5 : Option Addr} {sl5 : Array (Option Value)} {oc5 kV5 dc5 pm5 cd5 ct5 : Value}
    {f6 : Addr} {od6 an6 : Option Addr} {sl6 : Array (Option Value)} {oc6 kV6 dc6 pm6 cd6 ct6 : Value}
    {f7 : Addr} {od7 an7 : Option Addr} {sl7 : Array (Option Value)} {oc7 kV7 dc7 pm7 cd7 ct7 : Value}
    {f8 : Addr} {od8 an8 : Option Addr} {sl8 : Array (Option Value)} {oc8 kV8 dc8 pm8 cd8 ct8 : Value}
    {f9 : Addr} {od9 an9 : Option Addr} {sl9 : Array (Option Value)} {oc9 kV9 dc9 pm9 cd9 ct9 : Value}
    {f10 : Addr} {od10 an10 : Option Addr} {sl10 : Array (Option Value)} {oc10 kV10 dc10 pm10 cd10 ct10 : Value}
    {f11 : Addr} {od11 an11 : Option Addr} {sl11 : Array (Option Value)} {oc11 kV11 dc11 pm11 cd11 ct11 : Value}
    {f12 : Addr} {od12 an12 : Option Addr} {sl12 : Array (Option Value)} {oc12 kV12 dc12 pm12 cd12 ct12 : Value}
    {f13 : Addr} {od13 an13 : Option Addr} {sl13 : Array (Option Value)} {oc13 kV13 dc13 pm13 cd13 ct13 : Value}
    {T13 : Addr} {eT13 : Option Addr} {iT13 : Array Value} {nT13 : Nat} {yT13 : Array (Option Value)}
    {E13 : Addr} {eE13 : Option Addr} {iE13 : Array Value} {nE13 : Nat} {yE13 : Array (Option Value)}
    {f14 : Addr} {od14 an14 : Option Addr} {sl14 : Array (Option Value)} {oc14 kV14 dc14 pm14 cd14 ct14 : Value}
    {f15 : Addr} {od15 an15 : Option Addr} {sl15 : Array (Option Value)} {oc15 kV15 dc15 pm15 cd15 ct15 : Value}
    {T15 : Addr} {eT15 : Option Addr} {iT15 : Array Value} {nT15 : Nat} {yT15 : Array (Option Value)}
    {f16 : Addr} {od16 an16 : Option Addr} {sl16 : Array (Option Value)} {oc16 kV16 dc16 pm16 cd16 ct16 : Value}
    {f17 : Addr} {od17 an17 : Option Addr} {sl17 : Array (Option Value)} {oc17 kV17 dc17 pm17 cd17 ct17 : Value}
    {f18 : Addr} {od18 an18 : Option Addr} {sl18 : Array (Option Value)} {oc18 kV18 dc18 pm18 cd18 ct18 : Value}
    {f19 : Addr} {od19 an19 : Option Addr} {sl19 : Array (Option Value)} {oc19 kV19 dc19 pm19 cd19 ct19 : Value}
    {f20 : Addr} {od20 an20 : Option Addr} {sl20 : Array (Option Value)} {oc20 kV20 dc20 pm20 cd20 ct20 : Value}
    {f21 : Addr} {od21 an21 : Option Addr} {sl21 : Array (Option Value)} {oc21 kV21 dc21 pm21 cd21 ct21 : Value}
    {T21 : Addr} {eT21 : Option Addr} {iT21 : Array Value} {nT21 : Nat} {yT21 : Array (Option Value)}
    {f22 : Addr} {od22 an22 : Option Addr} {sl22 : Array (Option Value)} {oc22 kV22 dc22 pm22 cd22 ct22 : Value}
    {f23 : Addr} {od23 an23 : Option Addr} {sl23 : Array (Option Value)} {oc23 kV23 dc23 pm23 cd23 ct23 : Value}
    {f24 : Addr} {od24 an24 : Option Addr} {sl24 : Array (Option Value)} {oc24 kV24 dc24 pm24 cd24 ct24 : Value}
    {f25 : Addr} {od25 an25 : Option Addr} {sl25 : Array (Option Value)} {oc25 kV25 dc25 pm25 cd25 ct25 : Value}
    {f26 : Addr} {od26 an26 : Option Addr} {sl26 : Array (Option Value)} {oc26 kV26 dc26 pm26 cd26 ct26 : Value}
    {f27 : Addr} {od27 an27 : Option Addr} {sl27 : Array (Option Value)} {oc27 kV27 dc27 pm27 cd27 ct27 : Value}
    {f28 : Addr} {od28 an28 : Option Addr} {sl28 : Array (Option Value)} {oc28 kV28 dc28 pm28 cd28 ct28 : Value}
    {f29 : Addr} {od29 an29 : Option Addr} {sl29 : Array (Option Value)} {oc29 kV29 dc29 pm29 cd29 ct29 : Value}
    {f30 : Addr} {od30 an30 : Option Addr} {sl30 : Array (Option Value)} {oc30 kV30 dc30 pm30 cd30 ct30 : Value}
    {f31 : Addr} {od31 an31 : Option Addr} {sl31 : Array (Option Value)} {oc31 kV31 dc31 pm31 cd31 ct31 : Value}
    {f32 : Addr} {od32 an32 : Option Addr} {sl32 : Array (Option Value)} {oc32 kV32 dc32 pm32 cd32 ct32 : Value}
    {f33 : Addr} {od33 an33 : Option Addr} {sl33 : Array (Option Value)} {oc33 kV33 dc33 pm33 cd33 ct33 : Value}
    {c_NOUGHT : Addr} {e_NOUGHT : Option Addr} {i_NOUGHT : Array Value} {n_NOUGHT : Nat} {y_NOUGHT : Array (Option Value)}
    (oa0 : PySem.W.nsIn K mainGlobals "History" = some (some (.ref C0)))
    (og0 : PySem.W.plainGet K C0 Str.empty = true) (oh0 : PySem.W.hasDictIn K C0 = true) (op0 : PySem.W.plainOver K C0 = true) (os0 : PySem.W.findIn K (.ref C0) "__setattr__" = some (some (.builtin "object.__setattr__")))
    (om0 : PySem.W.makesIn K C0 = true) (ok0 : PySem.W.keepIn K (.ref C0) = true)
    (oe0 : PySem.W.findIn K (.ref C0) "__ne__" = some (some (.builtin "object.__ne__"))) (ob0 : PySem.W.mroIn K C0 (.type "object") = some true)
    (ia0 : PySem.W.findIn K (.ref C0) "__class__" = some (some (.builtin "object.__class__"))) (in0 : PySem.W.specialIn K (.builtin "object.__class__") "__get__" = some (some (.builtin "getset_descriptor.__get__"))) (it0 : PySem.W.takesIn K (.builtin "object.__class__") = some true)
    (xl0 : PySem.W.mroIn K C0 (.type "list") = some false) (xd0 : PySem.W.mroIn K C0 (.type "dict") = some false) (xc0 : PySem.W.typeIn K (.ref C0) = some (.type "type"))
    (on0_floors : PySem.W.findIn K (.ref C0) "_floors" = some none)
    (on0_steps : PySem.W.findIn K (.ref C0) "_steps" = some none)
    (on0_waters : PySem.W.findIn K (.ref C0) "_waters" = some none)
    (a0 : PySem.W.findIn K (.ref C0) "__eq__" = some (some (.ref f0))) (i0 : PySem.W.isFn K (.ref f0) = true)
    (l0 : K.lookup f0 = some ⟨oc0, od0, .func (PySem.W.fnOf "__eq__" "History.__eq__" (defArgs s_History_eq) (defBody s_History_eq) (defScope s_History_eq) .none kV0 dc0 pm0 an0 cd0 ct0), sl0⟩)
    (c0 : PySem.W.codeIn K cd0 "History.__eq__" = true) (k0 : PySem.W.keepIn K (.ref f0) = true)
    (a1 : PySem.W.nsIn K mainGlobals "_law_unlike" = some (some (.ref f1)))
    (l1 : K.lookup f1 = some ⟨oc1, od1, .func (PySem.W.fnOf "_law_unlike" "_law_unlike" (defArgs s_law_unlike) (defBody s_law_unlike) (defScope s_law_unlike) .none kV1 dc1 pm1 an1 cd1 ct1), sl1⟩)
    (c1 : PySem.W.codeIn K cd1 "_law_unlike" = true) (k1 : PySem.W.keepIn K (.ref f1) = true)
    (a2 : PySem.W.nsIn K mainGlobals "stretches" = some (some (.ref f2)))
    (l2 : K.lookup f2 = some ⟨oc2, od2, .func (PySem.W.fnOf "stretches" "stretches" (defArgs s_stretches) (defBody s_stretches) (defScope s_stretches) .none kV2 dc2 pm2 an2 cd2 ct2), sl2⟩)
    (c2 : PySem.W.codeIn K cd2 "stretches" = true) (k2 : PySem.W.keepIn K (.ref f2) = true)
    (a3 : PySem.W.nsIn K mainGlobals "above" = some (some (.ref f3)))
    (l3 : K.lookup f3 = some ⟨oc3, od3, .func (PySem.W.fnOf "above" "above" (defArgs s_above) (defBody s_above) (defScope s_above) .none kV3 dc3 pm3 an3 cd3 ct3), sl3⟩)
    (c3 : PySem.W.codeIn K cd3 "above" = true) (k3 : PySem.W.keepIn K (.ref f3) = true)
    (a4 : PySem.W.nsIn K mainGlobals "lowest" = some (some (.ref f4)))
    (l4 : K.lookup f4 = some ⟨oc4, od4, .func (PySem.W.fnOf "lowest" "lowest" (defArgs s_lowest) (defBody s_lowest) (defScope s_lowest) .none kV4 dc4 pm4 an4 cd4 ct4), sl4⟩)
    (c4 : PySem.W.codeIn K cd4 "lowest" = true) (k4 : PySem.W.keepIn K (.ref f4) = true)
    (a5 : PySem.W.nsIn K mainGlobals "share" = some (some (.ref f5)))
    (l5 : K.lookup f5 = some ⟨oc5, od5, .func (PySem.W.fnOf "share" "share" (defArgs s_share) (defBody s_share) (defScope s_share) .none kV5 dc5 pm5 an5 cd5 ct5), sl5⟩)
    (c5 : PySem.W.codeIn K cd5 "share" = true) (k5 : PySem.W.keepIn K (.ref f5) = true)
    (a6 : PySem.W.nsIn K mainGlobals "pool_height" = some (some (.ref f6)))
    (l6 : K.lookup f6 = some ⟨oc6, od6, .func (PySem.W.fnOf "pool_height" "pool_height" (defArgs s_pool_height) (defBody s_pool_height) (defScope s_pool_height) .none kV6 dc6 pm6 an6 cd6 ct6), sl6⟩)
    (c6 : PySem.W.codeIn K cd6 "pool_height" = true) (k6 : PySem.W.keepIn K (.ref f6) = true)
    (a7 : PySem.W.nsIn K mainGlobals "plus" = some (some (.ref f7)))
    (l7 : K.lookup f7 = some ⟨oc7, od7, .func (PySem.W.fnOf "plus" "plus" (defArgs s_plus) (defBody s_plus) (defScope s_plus) .none kV7 dc7 pm7 an7 cd7 ct7), sl7⟩)
    (c7 : PySem.W.codeIn K cd7 "plus" = true) (k7 : PySem.W.keepIn K (.ref f7) = true)
    (a8 : PySem.W.nsIn K mainGlobals "pooled" = some (some (.ref f8)))
    (l8 : K.lookup f8 = some ⟨oc8, od8, .func (PySem.W.fnOf "pooled" "pooled" (defArgs s_pooled) (defBody s_pooled) (defScope s_pooled) .none kV8 dc8 pm8 an8 cd8 ct8), sl8⟩)
    (c8 : PySem.W.codeIn K cd8 "pooled" = true) (k8 : PySem.W.keepIn K (.ref f8) = true)
    (a9 : PySem.W.nsIn K mainGlobals "at_rest" = some (some (.ref f9)))
    (l9 : K.lookup f9 = some ⟨oc9, od9, .func (PySem.W.fnOf "at_rest" "at_rest" (defArgs s_at_rest) (defBody s_at_rest) (defScope s_at_rest) .none kV9 dc9 pm9 an9 cd9 ct9), sl9⟩)
    (c9 : PySem.W.codeIn K cd9 "at_rest" = true) (k9 : PySem.W.keepIn K (.ref f9) = true)
    (a10 : PySem.W.nsIn K mainGlobals "check_bolted" = some (some (.ref f10)))
    (l10 : K.lookup f10 = some ⟨oc10, od10, .func (PySem.W.fnOf "check_bolted" "check_bolted" (defArgs s_check_bolted) (defBody s_check_bolted) (defScope s_check_bolted) .none kV10 dc10 pm10 an10 cd10 ct10), sl10⟩)
    (c10 : PySem.W.codeIn K cd10 "check_bolted" = true) (k10 : PySem.W.keepIn K (.ref f10) = true)
    (a11 : PySem.W.nsIn K mainGlobals "check_water" = some (some (.ref f11)))
    (l11 : K.lookup f11 = some ⟨oc11, od11, .func (PySem.W.fnOf "check_water" "check_water" (defArgs s_check_water) (defBody s_check_water) (defScope s_check_water) .none kV11 dc11 pm11 an11 cd11 ct11), sl11⟩)
    (c11 : PySem.W.codeIn K cd11 "check_water" = true) (k11 : PySem.W.keepIn K (.ref f11) = true)
    (a12 : PySem.W.nsIn K mainGlobals "check_floors" = some (some (.ref f12)))
    (l12 : K.lookup f12 = some ⟨oc12, od12, .func (PySem.W.fnOf "check_floors" "check_floors" (defArgs s_check_floors) (defBody s_check_floors) (defScope s_check_floors) .none kV12 dc12 pm12 an12 cd12 ct12), sl12⟩)
    (c12 : PySem.W.codeIn K cd12 "check_floors" = true) (k12 : PySem.W.keepIn K (.ref f12) = true)
    (a13 : PySem.W.nsIn K mainGlobals "settled" = some (some (.ref f13)))
    (l13 : K.lookup f13 = some ⟨oc13, od13, .func (PySem.W.fnOf "settled" "settled" (defArgs s_settled) (defBody s_settled) (defScope s_settled) (.ref T13) kV13 dc13 pm13 an13 cd13 ct13), sl13⟩)
    (c13 : PySem.W.codeIn K cd13 "settled" = true) (k13 : PySem.W.keepIn K (.ref f13) = true)
    (t13 : K.lookup T13 = some ⟨.type "tuple", eT13, .seq iT13 nT13, yT13⟩)
    (u13 : iT13.toList = [.ref E13]) (w13 : K.lookup E13 = some ⟨.type "tuple", eE13, .seq iE13 nE13, yE13⟩) (x13 : iE13.toList = [])
    (a14 : PySem.W.findIn K (.ref C0) "step" = some (some (.ref f14))) (i14 : PySem.W.isFn K (.ref f14) = true)
    (l14 : K.lookup f14 = some ⟨oc14, od14, .func (PySem.W.fnOf "step" "History.step" (defArgs s_History_step) (defBody s_History_step) (defScope s_History_step) .none kV14 dc14 pm14 an14 cd14 ct14), sl14⟩)
    (c14 : PySem.W.codeIn K cd14 "History.step" = true) (k14 : PySem.W.keepIn K (.ref f14) = true)
    (a15 : PySem.W.findIn K (.ref C0) "__init__" = some (some (.ref f15))) (i15 : PySem.W.isFn K (.ref f15) = true)
    (l15 : K.lookup f15 = some ⟨oc15, od15, .func (PySem.W.fnOf "__init__" "History.__init__" (defArgs s_History_init) (defBody s_History_init) (defScope s_History_init) (.ref T15) kV15 dc15 pm15 an15 cd15 ct15), sl15⟩)
    (c15 : PySem.W.codeIn K cd15 "History.__init__" = true) (k15 : PySem.W.keepIn K (.ref f15) = true)
    (t15 : K.lookup T15 = some ⟨.type "tuple", eT15, .seq iT15 nT15, yT15⟩)
    (u15 : iT15.toList = [.none])
    (a16 : PySem.W.nsIn K mainGlobals "_law_made" = some (some (.ref f16)))
    (l16 : K.lookup f16 = some ⟨oc16, od16, .func (PySem.W.fnOf "_law_made" "_law_made" (defArgs s_law_made) (defBody s_law_made) (defScope s_law_made) .none kV16 dc16 pm16 an16 cd16 ct16), sl16⟩)
    (c16 : PySem.W.codeIn K cd16 "_law_made" = true) (k16 : PySem.W.keepIn K (.ref f16) = true)
    (a17 : PySem.W.nsIn K mainGlobals "_law_others_right" = some (some (.ref f17)))
    (l17 : K.lookup f17 = some ⟨oc17, od17, .func (PySem.W.fnOf "_law_others_right" "_law_others_right" (defArgs s_law_others_right) (defBody s_law_others_right) (defScope s_law_others_right) .none kV17 dc17 pm17 an17 cd17 ct17), sl17⟩)
    (c17 : PySem.W.codeIn K cd17 "_law_others_right" = true) (k17 : PySem.W.keepIn K (.ref f17) = true)
    (a18 : PySem.W.nsIn K mainGlobals "_law_take" = some (some (.ref f18)))
    (l18 : K.lookup f18 = some ⟨oc18, od18, .func (PySem.W.fnOf "_law_take" "_law_take" (defArgs s_law_take) (defBody s_law_take) (defScope s_law_take) .none kV18 dc18 pm18 an18 cd18 ct18), sl18⟩)
    (c18 : PySem.W.codeIn K cd18 "_law_take" = true) (k18 : PySem.W.keepIn K (.ref f18) = true)
    (a19 : PySem.W.findIn K (.ref C0) "floors" = some (some (.ref f19))) (i19 : PySem.W.isFn K (.ref f19) = true)
    (l19 : K.lookup f19 = some ⟨oc19, od19, .func (PySem.W.fnOf "floors" "History.floors" (defArgs s_History_floors) (defBody s_History_floors) (defScope s_History_floors) .none kV19 dc19 pm19 an19 cd19 ct19), sl19⟩)
    (c19 : PySem.W.codeIn K cd19 "History.floors" = true) (k19 : PySem.W.keepIn K (.ref f19) = true)
    (a20 : PySem.W.findIn K (.ref C0) "steps" = some (some (.ref f20))) (i20 : PySem.W.isFn K (.ref f20) = true)
    (l20 : K.lookup f20 = some ⟨oc20, od20, .func (PySem.W.fnOf "steps" "History.steps" (defArgs s_History_steps) (defBody s_History_steps) (defScope s_History_steps) .none kV20 dc20 pm20 an20 cd20 ct20), sl20⟩)
    (c20 : PySem.W.codeIn K cd20 "History.steps" = true) (k20 : PySem.W.keepIn K (.ref f20) = true)
    (a21 : PySem.W.findIn K (.ref C0) "water" = some (some (.ref f21))) (i21 : PySem.W.isFn K (.ref f21) = true)
    (l21 : K.lookup f21 = some ⟨oc21, od21, .func (PySem.W.fnOf "water" "History.water" (defArgs s_History_water) (defBody s_History_water) (defScope s_History_water) (.ref T21) kV21 dc21 pm21 an21 cd21 ct21), sl21⟩)
    (c21 : PySem.W.codeIn K cd21 "History.water" = true) (k21 : PySem.W.keepIn K (.ref f21) = true)
    (t21 : K.lookup T21 = some ⟨.type "tuple", eT21, .seq iT21 nT21, yT21⟩)
    (u21 : iT21.toList = [.none])
    (a22 : PySem.W.nsIn K mainGlobals "sums" = some (some (.ref f22)))
    (l22 : K.lookup f22 = some ⟨oc22, od22, .func (PySem.W.fnOf "sums" "sums" (defArgs s_sums) (defBody s_sums) (defScope s_sums) .none kV22 dc22 pm22 an22 cd22 ct22), sl22⟩)
    (c22 : PySem.W.codeIn K cd22 "sums" = true) (k22 : PySem.W.keepIn K (.ref f22) = true)
    (a23 : PySem.W.nsIn K mainGlobals "heaped" = some (some (.ref f23)))
    (l23 : K.lookup f23 = some ⟨oc23, od23, .func (PySem.W.fnOf "heaped" "heaped" (defArgs s_heaped) (defBody s_heaped) (defScope s_heaped) .none kV23 dc23 pm23 an23 cd23 ct23), sl23⟩)
    (c23 : PySem.W.codeIn K cd23 "heaped" = true) (k23 : PySem.W.keepIn K (.ref f23) = true)
    (a24 : PySem.W.findIn K (.ref C0) "left" = some (some (.ref f24))) (i24 : PySem.W.isFn K (.ref f24) = true)
    (l24 : K.lookup f24 = some ⟨oc24, od24, .func (PySem.W.fnOf "left" "History.left" (defArgs s_History_left) (defBody s_History_left) (defScope s_History_left) .none kV24 dc24 pm24 an24 cd24 ct24), sl24⟩)
    (c24 : PySem.W.codeIn K cd24 "History.left" = true) (k24 : PySem.W.keepIn K (.ref f24) = true)
    (a25 : PySem.W.nsIn K mainGlobals "_law_alike" = some (some (.ref f25)))
    (l25 : K.lookup f25 = some ⟨oc25, od25, .func (PySem.W.fnOf "_law_alike" "_law_alike" (defArgs s_law_alike) (defBody s_law_alike) (defScope s_law_alike) .none kV25 dc25 pm25 an25 cd25 ct25), sl25⟩)
    (c25 : PySem.W.codeIn K cd25 "_law_alike" = true) (k25 : PySem.W.keepIn K (.ref f25) = true)
    (a26 : PySem.W.findIn K (.ref C0) "undo" = some (some (.ref f26))) (i26 : PySem.W.isFn K (.ref f26) = true)
    (l26 : K.lookup f26 = some ⟨oc26, od26, .func (PySem.W.fnOf "undo" "History.undo" (defArgs s_History_undo) (defBody s_History_undo) (defScope s_History_undo) .none kV26 dc26 pm26 an26 cd26 ct26), sl26⟩)
    (c26 : PySem.W.codeIn K cd26 "History.undo" = true) (k26 : PySem.W.keepIn K (.ref f26) = true)
    (a27 : PySem.W.nsIn K mainGlobals "_law_shut" = some (some (.ref f27)))
    (l27 : K.lookup f27 = some ⟨oc27, od27, .func (PySem.W.fnOf "_law_shut" "_law_shut" (defArgs s_law_shut) (defBody s_law_shut) (defScope s_law_shut) .none kV27 dc27 pm27 an27 cd27 ct27), sl27⟩)
    (c27 : PySem.W.codeIn K cd27 "_law_shut" = true) (k27 : PySem.W.keepIn K (.ref f27) = true)
    (a28 : PySem.W.nsIn K mainGlobals "_law_low" = some (some (.ref f28)))
    (l28 : K.lookup f28 = some ⟨oc28, od28, .func (PySem.W.fnOf "_law_low" "_law_low" (defArgs s_law_low) (defBody s_law_low) (defScope s_law_low) .none kV28 dc28 pm28 an28 cd28 ct28), sl28⟩)
    (c28 : PySem.W.codeIn K cd28 "_law_low" = true) (k28 : PySem.W.keepIn K (.ref f28) = true)
    (a29 : PySem.W.nsIn K mainGlobals "_law_amount" = some (some (.ref f29)))
    (l29 : K.lookup f29 = some ⟨oc29, od29, .func (PySem.W.fnOf "_law_amount" "_law_amount" (defArgs s_law_amount) (defBody s_law_amount) (defScope s_law_amount) .none kV29 dc29 pm29 an29 cd29 ct29), sl29⟩)
    (c29 : PySem.W.codeIn K cd29 "_law_amount" = true) (k29 : PySem.W.keepIn K (.ref f29) = true)
    (a30 : PySem.W.nsIn K mainGlobals "_law_fall" = some (some (.ref f30)))
    (l30 : K.lookup f30 = some ⟨oc30, od30, .func (PySem.W.fnOf "_law_fall" "_law_fall" (defArgs s_law_fall) (defBody s_law_fall) (defScope s_law_fall) .none kV30 dc30 pm30 an30 cd30 ct30), sl30⟩)
    (c30 : PySem.W.codeIn K cd30 "_law_fall" = true) (k30 : PySem.W.keepIn K (.ref f30) = true)
    (a31 : PySem.W.nsIn K mainGlobals "_law_tanks" = some (some (.ref f31)))
    (l31 : K.lookup f31 = some ⟨oc31, od31, .func (PySem.W.fnOf "_law_tanks" "_law_tanks" (defArgs s_law_tanks) (defBody s_law_tanks) (defScope s_law_tanks) .none kV31 dc31 pm31 an31 cd31 ct31), sl31⟩)
    (c31 : PySem.W.codeIn K cd31 "_law_tanks" = true) (k31 : PySem.W.keepIn K (.ref f31) = true)
    (a32 : PySem.W.nsIn K mainGlobals "_law_deck" = some (some (.ref f32)))
    (l32 : K.lookup f32 = some ⟨oc32, od32, .func (PySem.W.fnOf "_law_deck" "_law_deck" (defArgs s_law_deck) (defBody s_law_deck) (defScope s_law_deck) .none kV32 dc32 pm32 an32 cd32 ct32), sl32⟩)
    (c32 : PySem.W.codeIn K cd32 "_law_deck" = true) (k32 : PySem.W.keepIn K (.ref f32) = true)
    (a33 : PySem.W.nsIn K mainGlobals "law" = some (some (.ref f33)))
    (l33 : K.lookup f33 = some ⟨oc33, od33, .func (PySem.W.fnOf "law" "law" (defArgs s_law) (defBody s_law) (defScope s_law) .none kV33 dc33 pm33 an33 cd33 ct33), sl33⟩)
    (c33 : PySem.W.codeIn K cd33 "law" = true) (k33 : PySem.W.keepIn K (.ref f33) = true)
    (z0_bounds : PySem.W.nsIn K mainGlobals "bounds" = some none)
    (z_NotImplemented : PySem.W.nsIn K mainGlobals "NotImplemented" = some none)
    (z_abs : PySem.W.nsIn K mainGlobals "abs" = some none)
    (z_enumerate : PySem.W.nsIn K mainGlobals "enumerate" = some none)
    (z_isinstance : PySem.W.nsIn K mainGlobals "isinstance" = some none)
    (z_len : PySem.W.nsIn K mainGlobals "len" = some none)
    (z_list : PySem.W.nsIn K mainGlobals "list" = some none)
    (z_min : PySem.W.nsIn K mainGlobals "min" = some none)
    (z_range : PySem.W.nsIn K mainGlobals "range" = some none)
    (z_sorted : PySem.W.nsIn K mainGlobals "sorted" = some none)
    (z_sum : PySem.W.nsIn K mainGlobals "sum" = some none)
    (z_zip : PySem.W.nsIn K mainGlobals "zip" = some none)
    (h_NOUGHT : PySem.W.nsIn K mainGlobals "NOUGHT" = some (some (.ref c_NOUGHT))) (l_NOUGHT : K.lookup c_NOUGHT = some ⟨.type "tuple", e_NOUGHT, .seq i_NOUGHT n_NOUGHT, y_NOUGHT⟩) (s_NOUGHT : i_NOUGHT.size ≤ sizeLine) (v_NOUGHT : L2.Vals (([0, 1] : List Int).map V.int) i_NOUGHT.toList)
    (h_gcd : PySem.W.nsIn K mainGlobals "gcd" = some (some (.builtin "math.gcd")))
    (true_ : ∀ ns : List Int, ns.length ≤ 63 → ∃ S', f_law_z [.rls (ns.map DV.int)] [] = some (.bl true, S')) :
    ∃ fd : FuncData, (∀ (s : Shared) (v : Value), BindsTo s fd ⟨[v], []⟩ [("script", v)]) ∧ ∀ base : Heap, K.In base → base.Ns mainGlobals mg → FnOk l.prog w K mg base CX0 10 fa fd ["script"] (spLaw K) := by
  have e := hfa.symm.trans (PySem.W.mg_of X G a33)
  cases e
  have F0 := fun_mk (st := s_History_eq) l0 c0 k0
  have b0 := F0.binds (ps := ["self", "other"]) fun _ _ _ _ _ _ us hl => match us, hl with | [_, _], _ => rfl
  have F1 := fun_mk (st := s_law_unlike) l1 c1 k1
  have b1 := F1.binds (ps := ["made", "other"]) fun _ _ _ _ _ _ us hl => match us, hl with | [_, _], _ => rfl
  have F2 := fun_mk (st := s_stretches) l2 c2 k2
  have b2 := F2.binds (ps := ["floors", "bolted"]) fun _ _ _ _ _ _ us hl => match us, hl with | [_, _], _ => rfl
  have F3 := fun_mk (st := s_above) l3 c3 k3
  have b3 := F3.binds (ps := ["one", "other"]) fun _ _ _ _ _ _ us hl => match us, hl with | [_, _], _ => rfl
  have F4 := fun_mk (st := s_lowest) l4 c4 k4
  have b4 := F4.binds (ps := ["top", "bottom"]) fun _ _ _ _ _ _ us hl => match us, hl with | [_, _], _ => rfl
  have F5 := fun_mk (st := s_share) l5 c5 k5
  have b5 := F5.binds (ps := ["amount", "part", "whole"]) fun _ _ _ _ _ _ us hl => match us, hl with | [_, _, _], _ => rfl
  have F6 := fun_mk (st := s_pool_height) l6 c6 k6
  have b6 := F6.binds (ps := ["pool"]) fun _ _ _ _ _ _ us hl => match us, hl with | [_], _ => rfl
  have F7 := fun_mk (st := s_plus) l7 c7 k7
  have b7 := F7.binds (ps := ["one", "other"]) fun _ _ _ _ _ _ us hl => match us, hl with | [_, _], _ => rfl
  have F8 := fun_mk (st := s_pooled) l8 c8 k8
  have b8 := F8.binds (ps := ["floors", "water"]) fun _ _ _ _ _ _ us hl => match us, hl with | [_, _], _ => rfl
  have F9 := fun_mk (st := s_at_rest) l9 c9 k9
  have b9 := F9.binds (ps := ["floors", "water", "bolted"]) fun _ _ _ _ _ _ us hl => match us, hl with | [_, _, _], _ => rfl
  have F10 := fun_mk (st := s_check_bolted) l10 c10 k10
  have b10 := F10.binds (ps := ["floors", "bolted"]) fun _ _ _ _ _ _ us hl => match us, hl with | [_, _], _ => rfl
  have F11 := fun_mk (st := s_check_water) l11 c11 k11
  have b11 := F11.binds (ps := ["floors", "water"]) fun _ _ _ _ _ _ us hl => match us, hl with | [_, _], _ => rfl
  have F12 := fun_mk (st := s_check_floors) l12 c12 k12
  have b12 := F12.binds (ps := ["floors"]) fun _ _ _ _ _ _ us hl => match us, hl with | [_], _ => rfl
  have F13 := funB_mk (st := s_settled) (x := "settled") (qual := "settled") (dvs := [V.ref E13]) (its := iT13.toList) (n := nT13) (by simp) l13 c13 k13 t13 (by rw [Array.toArray_toList]) (by rw [u13]; exact .cons rfl .nil)
  obtain ⟨dz13, rz13, bz13⟩ := FunD.binds1 (ps := ["floors", "water", "bolted"]) F13 3 1 (by simp) rfl fun _ _ _ _ _ _ _ us its hl hi => match us, its, hl, hi with | [_, _, _], [_], _, _ => ⟨_, rfl, rfl⟩
  cases (show dz13 = [] from by cases rz13; rfl)
  obtain ⟨dd13, rd13, bd13⟩ := FunD.binds1 (ps := ["floors", "water", "bolted"]) F13 2 0 (by simp) rfl fun _ _ _ _ _ _ _ us its hl hi => match us, its, hl, hi with | [_, _], [_], _, _ => ⟨_, rfl, rfl⟩
  have F14 := fun_mk (st := s_History_step) l14 c14 k14
  have b14 := F14.binds (ps := ["self", "bolted", "rain"]) fun _ _ _ _ _ _ us hl => match us, hl with | [_, _, _], _ => rfl
  have F15 := funB_mk (st := s_History_init) (x := "__init__") (qual := "History.__init__") (dvs := [V.non]) (its := iT15.toList) (n := nT15) (by simp) l15 c15 k15 t15 (by rw [Array.toArray_toList]) (by rw [u15]; exact .cons rfl .nil)
  obtain ⟨dz15, rz15, bz15⟩ := FunD.binds1 (ps := ["self", "floors", "water"]) F15 3 1 (by simp) rfl fun _ _ _ _ _ _ _ us its hl hi => match us, its, hl, hi with | [_, _, _], [_], _, _ => ⟨_, rfl, rfl⟩
  cases (show dz15 = [] from by cases rz15; rfl)
  obtain ⟨dd15, rd15, bd15⟩ := FunD.binds1 (ps := ["self", "floors", "water"]) F15 2 0 (by simp) rfl fun _ _ _ _ _ _ _ us its hl hi => match us, its, hl, hi with | [_, _], [_], _, _ => ⟨_, rfl, rfl⟩
  have F16 := fun_mk (st := s_law_made) l16 c16 k16
  have b16 := F16.binds (ps := ["tanks", "first", "done"]) fun _ _ _ _ _ _ us hl => match us, hl with | [_, _, _], _ => rfl
  have F17 := fun_mk (st := s_law_others_right) l17 c17 k17
  have b17 := F17.binds (ps := ["made", "tanks", "first", "done"]) fun _ _ _ _ _ _ us hl => match us, hl with | [_, _, _, _], _ => rfl
  have F18 := fun_mk (st := s_law_take) l18 c18 k18
  have b18 := F18.binds (ps := ["deck", "many"]) fun _ _ _ _ _ _ us hl => match us, hl with | [_, _], _ => rfl
  have F19 := fun_mk (st := s_History_floors) l19 c19 k19
  have b19 := F19.binds (ps := ["self"]) fun _ _ _ _ _ _ us hl => match us, hl with | [_], _ => rfl
  have F20 := fun_mk (st := s_History_steps) l20 c20 k20
  have b20 := F20.binds (ps := ["self"]) fun _ _ _ _ _ _ us hl => match us, hl with | [_], _ => rfl
  have F21 := funB_mk (st := s_History_water) (x := "water") (qual := "History.water") (dvs := [V.non]) (its := iT21.toList) (n := nT21) (by simp) l21 c21 k21 t21 (by rw [Array.toArray_toList]) (by rw [u21]; exact .cons rfl .nil)
  obtain ⟨dz21, rz21, bz21⟩ := FunD.binds1 (ps := ["self", "number"]) F21 2 1 (by simp) rfl fun _ _ _ _ _ _ _ us its hl hi => match us, its, hl, hi with | [_, _], [_], _, _ => ⟨_, rfl, rfl⟩
  cases (show dz21 = [] from by cases rz21; rfl)
  obtain ⟨dd21, rd21, bd21⟩ := FunD.binds1 (ps := ["self", "number"]) F21 1 0 (by simp) rfl fun _ _ _ _ _ _ _ us its hl hi => match us, its, hl, hi with | [_], [_], _, _ => ⟨_, rfl, rfl⟩
  have F22 := fun_mk (st := s_sums) l22 c22 k22
  have b22 := F22.binds (ps := ["amounts"]) fun _ _ _ _ _ _ us hl => match us, hl with | [_], _ => rfl
  have F23 := fun_mk (st := s_heaped) l23 c23 k23
  have b23 := F23.binds (ps := ["floors", "water"]) fun _ _ _ _ _ _ us hl => match us, hl with | [_, _], _ => rfl
  have F24 := fun_mk (st := s_History_left) l24 c24 k24
  have b24 := F24.binds (ps := ["self", "k"]) fun _ _ _ _ _ _ us hl => match us, hl with | [_, _], _ => rfl
  have F25 := fun_mk (st := s_law_alike) l25 c25 k25
  have b25 := F25.binds (ps := ["made", "other", "many"]) fun _ _ _ _ _ _ us hl => match us, hl with | [_, _, _], _ => rfl
  have F26 := fun_mk (st := s_History_undo) l26 c26 k26
  have b26 := F26.binds (ps := ["self"]) fun _ _ _ _ _ _ us hl => match us, hl with | [_], _ => rfl
  have F27 := fun_mk (st := s_law_shut) l27 c27 k27
  have b27 := F27.binds (ps := ["deck", "tanks"]) fun _ _ _ _ _ _ us hl => match us, hl with | [_, _], _ => rfl
  have F28 := fun_mk (st := s_law_low) l28 c28 k28
  have b28 := F28.binds (ps := ["top", "bottom"]) fun _ _ _ _ _ _ us hl => match us, hl with | [_, _], _ => rfl
  have F29 := fun_mk (st := s_law_amount) l29 c29 k29
  have b29 := F29.binds (ps := ["deck"]) fun _ _ _ _ _ _ us hl => match us, hl with | [_], _ => rfl
  have F30 := fun_mk (st := s_law_fall) l30 c30 k30
  have b30 := F30.binds (ps := ["deck", "tanks"]) fun _ _ _ _ _ _ us hl => match us, hl with | [_, _], _ => rfl
  have F31 := fun_mk (st := s_law_tanks) l31 c31 k31
  have b31 := F31.binds (ps := ["deck", "most"]) fun _ _ _ _ _ _ us hl => match us, hl with | [_, _], _ => rfl
  have F32 := fun_mk (st := s_law_deck) l32 c32 k32
  have b32 := F32.binds (ps := ["script"]) fun _ _ _ _ _ _ us hl => match us, hl with | [_], _ => rfl
  have F33 := fun_mk (st := s_law) l33 c33 k33
  have b33 := F33.binds (ps := ["script"]) fun _ _ _ _ _ _ us hl => match us, hl with | [_], _ => rfl
  let T : Txt K mg := ⟨f0, _, F0, b0,
    f1, _, F1, PySem.W.mg_of X G a1, b1,
    f2, _, F2, PySem.W.mg_of X G a2, b2,
    f3, _, F3, PySem.W.mg_of X G a3, b3,
    f4, _, F4, PySem.W.mg_of X G a4, b4,
    f5, _, F5, PySem.W.mg_of X G a5, b5,
    f6, _, F6, PySem.W.mg_of X G a6, b6,
    f7, _, F7, PySem.W.mg_of X G a7, b7,
    f8, _, F8, PySem.W.mg_of X G a8, b8,
    f9, _, F9, PySem.W.mg_of X G a9, b9,
    f10, _, F10, PySem.W.mg_of X G a10, b10,
    f11, _, F11, PySem.W.mg_of X G a11, b11,
    f12, _, F12, PySem.W.mg_of X G a12, b12,
    f13, _, V.ref E13, (den_ktup (ns := []) w13 rfl rfl (by rw [← Array.length_toList, x13]; exact Nat.zero_le _) (by rw [x13]; exact .nil)), F13, PySem.W.mg_of X G a13, bz13, dd13, rd13, bd13,
    f14, _, F14, b14,
    f15, _, V.non, (fun _ => rfl), F15, bz15, dd15, rd15, bd15,
    f16, _, F16, PySem.W.mg_of X G a16, b16,
    f17, _, F17, PySem.W.mg_of X G a17, b17,
    f18, _, F18, PySem.W.mg_of X G a18, b18,
    f19, _, F19, b19,
    f20, _, F20, b20,
    f21, _, V.non, (fun _ => rfl), F21, bz21, dd21, rd21, bd21,
    f22, _, F22, PySem.W.mg_of X G a22, b22,
    f23, _, F23, PySem.W.mg_of X G a23, b23,
    f24, _, F24, b24,
    f25, _, F25, PySem.W.mg_of X G a25, b25,
    f26, _, F26, b26,
    f27, _, F27, PySem.W.mg_of X G a27, b27,
    f28, _, F28, PySem.W.mg_of X G a28, b28,
    f29, _, F29, PySem.W.mg_of X G a29, b29,
    f30, _, F30, PySem.W.mg_of X G a30, b30,
    f31, _, F31, PySem.W.mg_of X G a31, b31,
    f32, _, F32, PySem.W.mg_of X G a32, b32,
    fa, _, F33, PySem.W.mg_of X G a33, b33,
    C0, PySem.W.mg_of X G oa0, ⟨og0, oh0, op0, os0⟩, ⟨a0, i0, k0⟩, ⟨a14, i14, k14⟩, ⟨om0, a15, i15, ok0⟩, ⟨a19, i19, k19⟩, ⟨a20, i20, k20⟩, ⟨a21, i21, k21⟩, ⟨a24, i24, k24⟩, ⟨a26, i26, k26⟩, on0_floors, on0_steps, on0_waters, ⟨oe0, ob0⟩, ⟨⟨og0, oh0, op0, os0⟩, ia0, in0, it0, ob0, if_pos (by simp)⟩, ⟨xl0, xd0, xc0, oh0⟩,
    PySem.W.mg_none_of X G z_NotImplemented,
    PySem.W.mg_none_of X G z_abs,
    PySem.W.mg_none_of X G z_enumerate,
    PySem.W.mg_none_of X G z_isinstance,
    PySem.W.mg_none_of X G z_len,
    PySem.W.mg_none_of X G z_list,
    PySem.W.mg_none_of X G z_min,
    PySem.W.mg_none_of X G z_range,
    PySem.W.mg_none_of X G z_sorted,
    PySem.W.mg_none_of X G z_sum,
    PySem.W.mg_none_of X G z_zip,
    c_NOUGHT, PySem.W.mg_of X G h_NOUGHT, den_ktup l_NOUGHT rfl rfl s_NOUGHT v_NOUGHT,
    PySem.W.mg_of X G h_gcd⟩
  exact ⟨PySem.W.fnOf "law" "law" (defArgs s_law) (defBody s_law) (defScope s_law) .none kV33 dc33 pm33 an33 cd33 ct33, fun s v => .of_eq rfl, fun base _ _ => law_of (PySem.W.mg_none_of X G z0_bounds) (G_law_z T) true_⟩
end FB.K10
end
section
namespace FB.K10
open PySem PyProof.Rows PySem.Spec L2 DL FW
section
variable {s : Sl} {S S1 S2 S3 : Sto} {fa fb fc F1 F2 F3 F4 : DE} {a b c x y x' y' : DV} {g : List DV → Sto → Option (DV × Sto)}
theorem call2 (ha : fa s S = some (a, S1)) (hb : fb s S1 = some (b, S2)) : dCall 2 g [] (dCons fa (dCons fb dNil)) s S = g [a, b] S2 := by
  simp only [dCall, dCons, dNil, ha, hb, bnd_some', List.append_nil, List.length_cons, List.length_nil, if_true]
theorem call3 (ha : fa s S = some (a, S1)) (hb : fb s S1 = some (b, S2)) (hc : fc s S2 = some (c, S3)) : dCall 3 g [] (dCons fa (dCons fb (dCons fc dNil))) s S = g [a, b, c] S3 := by
  simp only [dCall, dCons, dNil, ha, hb, hc, bnd_some', List.append_nil, List.length_cons, List.length_nil, if_true]
theorem cons2 (ha : fa s S = some (a, S1)) (hb : fb s S1 = some (b, S2)) : dCons fa (dCons fb dNil) s S = some ([a, b], S2) := by
  simp only [dCons, dNil, ha, hb, bnd_some']
end
theorem lcL_all {tgt : DG} {tt : DT} {te : DE} {vs : List Nat} {s : Sl} {S : Sto} {xs : List DV} (g : Nat → DV) (h : ∀ i x, xs[i]? = some x → ∃ s1, tgt x (wipeD s vs) S = some (s1, S) ∧ tt s1 S = some (true, S) ∧ te s1 S = some (g i, S)) :
    lcL tgt tt te vs xs [] s S = some ((List.range xs.length).map g, S) := by
  obtain ⟨acc, S', e, rfl, rfl⟩ := lcL_inv (tgt := tgt) (tt := tt) (te := te) (vs := vs) (s := s) (fun k acc S' => acc = (List.range k).map g ∧ S' = S) (xs := xs) (acc := []) (S := S) (k := 0) ⟨rfl, rfl⟩ (by
    rintro i x acc S' hx ⟨rfl, rfl⟩
    obtain ⟨s1, h1, h2, h3⟩ := h i x hx
    refine ⟨s1, _, true, _, h1, h2, ?_⟩
    rw [if_pos rfl]
    refine ⟨_, _, h3, ?_, rfl⟩
    rw [Nat.zero_add, List.range_succ, List.map_append]
    rfl)
  rw [e, Nat.zero_add]
theorem floors_ok {S : Sto} {n : Nat} {ws : List Int} {wss : List (List Rat)} {sts : List (List Int × List Rat)} (H : HAt S n ws wss sts) : f_History_floors_z [.ptr n] S = some (dI ws, S) := by
  have e := H.fF (fe := dVar 0) (s := startD 1 [.ptr n]) rfl
  refine fn_rt (d := dI ws) (S1 := S) (ret_of ?_) exF_same
  show dCB (listD false) _ _ S = _
  simp only [dCB, dCons, e, bnd_some', dNil]
  simp [listD, dI]
theorem unlike_ok {S : Sto} {n m : Nat} {ws ws' : List Int} {w w' : List Rat} {done done' : List SP2} (h : HM S n ws w done) (g : HM S m ws' w' done') (hne : ¬(ws = ws' ∧ w = w' ∧ done.map sst = done'.map sst)) :
    f_law_unlike_z [.ptr n, .ptr m] S = some (.bl true, S) := by
  have e1 := h.eqG g (neg := true)
  have e2 := g.eqG h (neg := true)
  have e3 := h.eqG g (neg := false)
  have hne' : ¬(ws' = ws ∧ w' = w ∧ done'.map sst = done.map sst) := fun ⟨a, b, c⟩ => hne ⟨a.symm, b.symm, c.symm⟩
  rw [decide_eq_false hne] at e1 e3
  rw [decide_eq_false hne'] at e2
  simp only [Bool.not_false, if_true, Bool.false_eq_true, if_false] at e1 e2 e3
  refine fn_rt (d := .bl true) (S1 := S) (ret_of ?_) exF_same
  have v0 : dVar 0 (startD 2 [.ptr n, .ptr m]) S = some (.ptr n, S) := rfl
  have v1 : dVar 1 (startD 2 [.ptr n, .ptr m]) S = some (.ptr m, S) := rfl
  generalize startD 2 [.ptr n, .ptr m] = s at *
  generalize ownD true "History" f_History_eq_z = o1 at *
  generalize ownD false "History" f_History_eq_z = o2 at *
  generalize dVar 0 = V0 at *
  generalize dVar 1 = V1 at *
  simp only [dAndV, dOp, v0, v1, bnd_some', e1, e2, e3, dNotV]
  rfl
/-- made of its steps -/
theorem made_ok {S : Sto} {ws : List Int} {w : List Rat} {done : List SP2} (f : Flo ws) (W : Wt 0 ws w) (o : OkS ws done) :
    ∃ X : Sto, f_law_made_r [dI ws, dF w, .lst (done.map stD)] S = some (.ptr S.length, S ++ X) ∧ HM (S ++ X) S.length ws w done := by
  have mk0 := make_okJ (j := 0) (s := startD 6 [dI ws, dF w, .lst (done.map stD)]) (S := S) (S1 := S) (fa := dCons (dVar 0) (dCons (dVar 1) dNil)) f W (by decide) (cons2 rfl rfl)
  obtain ⟨s', S', e, o4, o5, rfl, rfl⟩ := forL_inv (tgt := dGTup 2 (dGCons (dName 4) (dGCons (dName 5) dGNil))) (body := dDrop (dMeth "History" "step" 3 f_History_step_z [] (dVar 3) (dCons (dVar 4) (dCons (dVar 5) dNil))))
    (fun k s S' => ∃ o4 o5, s = [some (dI ws), some (dF w), some (.lst (done.map stD)), some (.ptr S.length), o4, o5] ∧ S' = S ++ hobj S.length ws (wsx ws w (done.take k) ++ [fnl ws w (done.take k)]) ((done.take k).map sst))
    (xs := done.map stD) (s := [some (dI ws), some (dF w), some (.lst (done.map stD)), some (.ptr S.length), none, none]) (S := S ++ hobj S.length ws [w] []) (k := 0)
    ⟨none, none, rfl, by rw [List.take_zero]; rfl⟩ (by
      rintro i x s S' hx ⟨o4, o5, rfl, rfl⟩
      rw [Nat.zero_add]
      rw [List.getElem?_map] at hx
      obtain ⟨p, hp, rfl⟩ := Option.map_eq_some_iff.mp hx
      obtain ⟨hi, rfl⟩ := List.getElem?_eq_some_iff.mp hp
      have A : HM (S ++ hobj S.length ws (wsx ws w (done.take i) ++ [fnl ws w (done.take i)]) ((done.take i).map sst)) S.length ws w (done.take i) := hobj_atN
      have oi : OkS ws (done.take i) := o.of (fun p hp => List.mem_of_mem_take hp) (by rw [List.length_take]; have := o.l; omega)
      have st := (A.step f W oi (o.b _ (List.getElem_mem hi)) (o.w _ (List.getElem_mem hi))).1
      rw [hset_hobj, ← List.take_succ_eq_append_getElem hi] at st
      refine ⟨[some (dI ws), some (dF w), some (.lst (done.map stD)), some (.ptr S.length), some (dI done[i].1), some (dF done[i].2)], S ++ hobj S.length ws (wsx ws w (done.take i) ++ [fnl ws w (done.take i)]) ((done.take i).map sst), _, _, ?_, .inl (drop_of (d := .non) ?_), _, _, rfl, rfl⟩
      · simp [stD]
      · exact (HAt.meth A (xs := [dI done[i].1, dF done[i].2]) (S1 := S ++ hobj S.length ws (wsx ws w (done.take i) ++ [fnl ws w (done.take i)]) ((done.take i).map sst)) rfl lk_step (cons2 rfl rfl) rfl).trans st)
  rw [Nat.zero_add, List.length_map, List.take_length] at e
  refine ⟨_, ?_, hobj_atN⟩
  refine fn_rt (d := .ptr S.length) (S1 := S ++ hobj S.length ws (wsx ws w done ++ [fnl ws w done]) (done.map sst)) ?_ exF_raw
  refine seq_nx (asg_name (d := .ptr S.length) (S1 := S ++ hobj S.length ws [w] []) mk0) ?_
  exact seq_nx (for_of (it := .li (.lst (done.map stD))) (xs := done.map stD) (S1 := S ++ hobj S.length ws [w] []) rfl rfl e) (ret_of rfl)
/-- what two alike tell -/
theorem alike_ok {S : Sto} {n m : Nat} {ws : List Int} {w : List Rat} {done : List SP2} (h : HM S n ws w done) (g : HM S m ws w done) (f : Flo ws) (W : Wt 0 ws w) (o : OkS ws done) :
    f_law_alike_z [.ptr n, .ptr m, .int (done.length : Nat)] S = some (.bl true, S) := by
  have fn := f.n
  have ol := o.l
  have lw : ∀ S, lenD [dI ws] S = some (.int (ws.length : Nat), S) := fun S => by simp [dI]
  have e1 := h.eqG g (neg := false)
  have e2 := g.eqG h (neg := false)
  have e3 := h.eqG g (neg := true)
  simp only [and_self, decide_true, Bool.not_true, if_true, Bool.false_eq_true, if_false] at e1 e2 e3
  have s1 := steps_ok h (by rw [List.length_map]; omega)
  have s2 := steps_ok g (by rw [List.length_map]; omega)
  have nes : neD (.lst ((done.map sst).map stD)) (.lst ((done.map sst).map stD)) S = some (.bl false, S) := ne_self (py_sts _) (py_sts _) (sh_psts _) (by decide)
  have Wf := o.fin f W
  have lft : ∀ (s : Sl) (n : Nat), HM S n ws w done → ∀ i : Nat, s[i]? = some (some (.ptr n)) → s.length = 5 → i < 3 → s[3]? = some (some (.lst (rgD 0 ((ws.length : Int) + 1)))) →
      dLc false (diL (dVar 3)) (dName 4) dYes (dMeth "History" "left" 2 f_History_left_z [] (dVar i) (dCons (dVar 4) dNil)) [4] s S = some (.lst ((List.range (ws.length + 1)).map fun k => fr (rsum ((fnl ws w done).take k))), S) := fun s n h i hi hs hl h3 => by
    have ln : (rgD 0 ((ws.length : Int) + 1)).length = ws.length + 1 := by simp [rgD]
    have key := lcL_all (tgt := dName 4) (tt := dYes) (te := dMeth "History" "left" 2 f_History_left_z [] (dVar i) (dCons (dVar 4) dNil)) (vs := [4]) (s := s) (S := S) (xs := rgD 0 ((ws.length : Int) + 1)) (fun k => fr (rsum ((fnl ws w done).take k))) (fun k x hx => by
      have hk : k < ws.length + 1 := by rw [← ln]; exact (List.getElem?_eq_some_iff.mp hx).1
      have ex : x = .int (k : Nat) := by
        unfold rgD at hx
        rw [List.getElem?_map, List.getElem?_range (by omega)] at hx
        simpa using hx.symm
      subst ex
      refine ⟨(wipeD s [4]).set 4 (some (.int (k : Nat))), rfl, rfl, ?_⟩
      have q1 : dVar i ((wipeD s [4]).set 4 (some (.int (k : Nat)))) S = some (.ptr n, S) := by
        have : ((wipeD s [4]).set 4 (some (.int (k : Nat))))[i]? = some (some (.ptr n)) := by
          rw [List.getElem?_set_ne (by omega)]
          simp only [wipeD, List.foldl]
          rw [List.getElem?_set_ne (by omega)]
          exact hi
        simp only [dVar, this]
      have q2 : dCons (dVar 4) dNil ((wipeD s [4]).set 4 (some (.int (k : Nat)))) S = some ([.int (k : Nat)], S) := by
        have : ((wipeD s [4]).set 4 (some (.int (k : Nat))))[4]? = some (some (.int (k : Nat))) := by
          rw [List.getElem?_set_self (by simp [wipeD]; omega)]
        simp only [dCons, dVar, this, bnd_some', dNil]
      exact (HAt.meth h (xs := [.int (k : Nat)]) (S1 := S) q1 lk_left q2 rfl).trans (left_ok h (Wf.row f (by omega)) Wf.pos (by omega)))
    rw [ln] at key
    refine (lc_of (it := .li (.lst (rgD 0 ((ws.length : Int) + 1)))) (xs := rgD 0 ((ws.length : Int) + 1)) (S1 := S) ?_ rfl key (by simp; omega)).trans rfl
    have q3 : dVar 3 s S = some (.lst (rgD 0 ((ws.length : Int) + 1)), S) := by simp only [dVar, h3]
    simp only [diL, q3, bnd_some']
    rfl
  have wat : ∀ (s : Sl) (n : Nat), HM S n ws w done → ∀ i : Nat, s[i]? = some (some (.ptr n)) → s.length = 5 → i < 2 → s[2]? = some (some (.int (done.length : Nat))) →
      dLc false (diR1 (dCons (dOp (addD false) (dVar 2) (dC (.int 1))) dNil)) (dName 4) dYes (dMeth "History" "water" 2 f_History_water_z [] (dVar i) (dCons (dVar 4) dNil)) [4] s S = some (.lst ((List.range (done.length + 1)).map fun k => dF ((wsx ws w done ++ [fnl ws w done]).getD k [])), S) := fun s n h i hi hs hl h3 => by
    have key := lcL_all (tgt := dName 4) (tt := dYes) (te := dMeth "History" "water" 2 f_History_water_z [] (dVar i) (dCons (dVar 4) dNil)) (vs := [4]) (s := s) (S := S) (xs := (List.range (done.length + 1)).map fun i => DV.int (0 + (i : Nat))) (fun k => dF ((wsx ws w done ++ [fnl ws w done]).getD k [])) (fun k x hx => by
      have hk : k < done.length + 1 := by simpa using (List.getElem?_eq_some_iff.mp hx).1
      have ex : x = .int (k : Nat) := by
        rw [List.getElem?_map, List.getElem?_range (by omega)] at hx
        simpa using hx.symm
      subst ex
      refine ⟨(wipeD s [4]).set 4 (some (.int (k : Nat))), rfl, rfl, ?_⟩
      have q1 : dVar i ((wipeD s [4]).set 4 (some (.int (k : Nat)))) S = some (.ptr n, S) := by
        have : ((wipeD s [4]).set 4 (some (.int (k : Nat))))[i]? = some (some (.ptr n)) := by
          rw [List.getElem?_set_ne (by omega)]
          simp only [wipeD, List.foldl]
          rw [List.getElem?_set_ne (by omega)]
          exact hi
        simp only [dVar, this]
      have q2 : dCons (dVar 4) dNil ((wipeD s [4]).set 4 (some (.int (k : Nat)))) S = some ([.int (k : Nat)], S) := by
        have : ((wipeD s [4]).set 4 (some (.int (k : Nat))))[4]? = some (some (.int (k : Nat))) := by
          rw [List.getElem?_set_self (by simp [wipeD]; omega)]
        simp only [dCons, dVar, this, bnd_some', dNil]
      have lg : (wsx ws w done ++ [fnl ws w done]).length = done.length + 1 := by simp [wsx_len]
      have hv : (wsx ws w done ++ [fnl ws w done])[k]? = some ((wsx ws w done ++ [fnl ws w done]).getD k []) := by
        rw [List.getD_eq_getElem?_getD, List.getElem?_eq_getElem (by omega)]
        rfl
      exact (HAt.meth h (xs := [.int (k : Nat)]) (S1 := S) q1 lk_water q2 rfl).trans (water_at h hv (by omega)))
    rw [List.length_map, List.length_range] at key
    have hr : RgS ((done.length : Int) + 1) := rgS_of (by omega) (by omega)
    refine (lc_of (it := .rg 0 (done.length + 1)) (xs := (List.range (done.length + 1)).map fun i => DV.int (0 + (i : Nat))) (S1 := S) ?_ rfl key (by simp; omega)).trans rfl
    have q3 : dVar 2 s S = some (.int (done.length : Nat), S) := by simp only [dVar, h3]
    simp only [diR1, dCons, dOp, q3, bnd_some', dC, addD_int, dNil]
    have hr' : -2 ^ 62 ≤ (done.length : Int) + 1 ∧ (done.length : Int) + 1 < 2 ^ 62 := by omega
    rw [gate_ok hr']
    rfl
  have nl : neD (.lst ((List.range (ws.length + 1)).map fun k => fr (rsum ((fnl ws w done).take k)))) (.lst ((List.range (ws.length + 1)).map fun k => fr (rsum ((fnl ws w done).take k)))) S = some (.bl false, S) := by
    have e : (.lst ((List.range (ws.length + 1)).map fun k => fr (rsum ((fnl ws w done).take k))) : DV) = dF ((List.range (ws.length + 1)).map fun k => rsum ((fnl ws w done).take k)) := by
      unfold dF
      rw [List.map_map]
      rfl
    rw [e, ne_dF]
    simp
  have we : eqD (.lst ((List.range (done.length + 1)).map fun k => dF ((wsx ws w done ++ [fnl ws w done]).getD k []))) (.lst ((List.range (done.length + 1)).map fun k => dF ((wsx ws w done ++ [fnl ws w done]).getD k []))) S = some (.bl true, S) := by
    have hp : pyS S (.lst ((List.range (done.length + 1)).map fun k => dF ((wsx ws w done ++ [fnl ws w done]).getD k []))) = some (.list ((List.range (done.length + 1)).map fun k => .list (((wsx ws w done ++ [fnl ws w done]).getD k []).map pfr))) := by
      unfold pyS
      simp only [py, pys_map (f := fun k => dF ((wsx ws w done ++ [fnl ws w done]).getD k [])) (g := fun k => .list (((wsx ws w done ++ [fnl ws w done]).getD k []).map pfr)) (fun k => py_dF' _), Option.map_some]
    refine eq_self hp hp (n := 3) (shN_list fun q hq => ?_) (by decide)
    obtain ⟨k, _, rfl⟩ := List.mem_map.mp hq
    exact sh_dF _
  obtain ⟨s0, hs0⟩ : ∃ s0 : Sl, s0 = [some (.ptr n), some (.ptr m), some (.int (done.length : Nat)), none, none] := ⟨_, rfl⟩
  obtain ⟨s1', hs1⟩ : ∃ s1 : Sl, s1 = [some (.ptr n), some (.ptr m), some (.int (done.length : Nat)), some (.lst (rgD 0 ((ws.length : Int) + 1))), none] := ⟨_, rfl⟩
  have l0 := lft s1' n h 0 (by rw [hs1]; rfl) (by rw [hs1]; rfl) (by omega) (by rw [hs1]; rfl)
  have l1 := lft s1' m g 1 (by rw [hs1]; rfl) (by rw [hs1]; rfl) (by omega) (by rw [hs1]; rfl)
  have w0 := wat s1' n h 0 (by rw [hs1]; rfl) (by rw [hs1]; rfl) (by omega) (by rw [hs1]; rfl)
  have w1 := wat s1' m g 1 (by rw [hs1]; rfl) (by rw [hs1]; rfl) (by omega) (by rw [hs1]; rfl)
  have t1 := (HAt.meth h (s := s0) (fe := dVar 0) (fa := dNil) (dd := []) (xs := []) (nn := 1) (g := f_History_steps_z) (S1 := S) (by rw [hs0]; rfl) lk_steps rfl rfl).trans s1
  have t2 := (HAt.meth g (s := s0) (fe := dVar 1) (fa := dNil) (dd := []) (xs := []) (nn := 1) (g := f_History_steps_z) (S1 := S) (by rw [hs0]; rfl) lk_steps rfl rfl).trans s2
  have t3 := (HAt.meth h (s := s0) (fe := dVar 0) (fa := dNil) (dd := []) (xs := []) (nn := 1) (g := f_History_floors_z) (S1 := S) (by rw [hs0]; rfl) lk_floors rfl rfl).trans (floors_ok h)
  have v0 : dVar 0 s0 S = some (.ptr n, S) := by rw [hs0]; rfl
  have v1 : dVar 1 s0 S = some (.ptr m, S) := by rw [hs0]; rfl
  refine fn_rt (d := .bl true) (S1 := S) (?_ : b_law_alike_z [some (.ptr n), some (.ptr m), some (.int (done.length : Nat)), none, none] S = _) exF_same
  rw [← hs0]
  unfold b_law_alike_z
  refine seq_nx (s1 := s0) (S1 := S) (if_f (S1 := S) ?_ rfl) ?_
  · generalize ownD true "History" f_History_eq_z = o1 at *
    generalize ownD false "History" f_History_eq_z = o2 at *
    generalize dMeth "History" "steps" 1 f_History_steps_z [] (dVar 0) dNil = M0 at *
    generalize dMeth "History" "steps" 1 f_History_steps_z [] (dVar 1) dNil = M1 at *
    generalize dVar 0 = V0 at *
    generalize dVar 1 = V1 at *
    simp only [dOr, dNot, dAnd, dTest, dOp, v0, v1, bnd_some', e1, e2, e3, t1, t2, nes, if_true, Bool.not_true, Bool.false_eq_true, if_false]
  refine seq_nx (asg_name (d := .lst (rgD 0 ((ws.length : Int) + 1))) (S1 := S) ?_) ?_
  · simp only [dLr1', dOp, dCB, dCons, t3, bnd_some', dNil, lw, dC, addD_int]
    rw [gate_ok (by omega)]
    rfl
  have hset : s0.set 3 (some (.lst (rgD 0 ((ws.length : Int) + 1)))) = s1' := by rw [hs0, hs1]; rfl
  rw [hset]
  refine seq_nx (s1 := s1') (S1 := S) (if_f (S1 := S) ?_ rfl) (ret_of ?_)
  · simp only [dTest, dOp, l0, l1, bnd_some', nl]
  · simp only [dOp, w0, w1, bnd_some', we]
/-! ### what fits -/
structure Fit (ws : List Int) (w : List Rat) (done : List SP2) : Prop where
  f : Flo ws
  wl : w.length = ws.length
  wa : ∀ q ∈ w, Amt q
  b : ∀ p ∈ done, Bo ws.length p.1
  pl : ∀ p ∈ done, p.2.length = ws.length
  pa : ∀ p ∈ done, ∀ q ∈ p.2, Amt q
  l : done.length ≤ 10
section
variable {ws ws' : List Int} {w w' : List Rat} {done ds : List SP2} {p : SP2}
theorem Fit.W (h : Fit ws w done) : Wt 0 ws w := wt_of h.f h.wl h.wa
theorem Fit.o (h : Fit ws w done) : OkS ws done := ⟨h.b, fun p hp => wt_of h.f (h.pl p hp) (h.pa p hp), h.l⟩
theorem Fit.wide (h : Fit ws w done) (f : Flo ws') (e : ws'.length = ws.length) : Fit ws' w done := ⟨f, by rw [h.wl, e], h.wa, fun p hp => by rw [e]; exact h.b p hp, fun p hp => by rw [e]; exact h.pl p hp, h.pa, h.l⟩
theorem Fit.first (h : Fit ws w done) (wl : w'.length = ws.length) (wa : ∀ q ∈ w', Amt q) : Fit ws w' done := ⟨h.f, wl, wa, h.b, h.pl, h.pa, h.l⟩
theorem Fit.of (h : Fit ws w done) (hm : ∀ p ∈ ds, p ∈ done) (hl : ds.length ≤ 10) : Fit ws w ds := ⟨h.f, h.wl, h.wa, fun p hp => h.b p (hm p hp), fun p hp => h.pl p (hm p hp), fun p hp => h.pa p (hm p hp), hl⟩
theorem Fit.snoc (h : Fit ws w done) (hb : Bo ws.length p.1) (pl : p.2.length = ws.length) (pa : ∀ q ∈ p.2, Amt q) (hl : done.length < 10) : Fit ws w (done ++ [p]) :=
  ⟨h.f, h.wl, h.wa, fun q hq => (List.mem_append.mp hq).elim (h.b q) fun e => by cases List.mem_singleton.mp e; exact hb, fun q hq => (List.mem_append.mp hq).elim (h.pl q) fun e => by cases List.mem_singleton.mp e; exact pl,
    fun q hq => (List.mem_append.mp hq).elim (h.pa q) fun e => by cases List.mem_singleton.mp e; exact pa, by simp; omega⟩
theorem Fit.init (h : Fit ws w done) : Fit ws w (done.take (done.length - 1)) := h.of (fun p hp => List.mem_of_mem_take hp) (by rw [List.length_take]; have := h.l; omega)
end
theorem ix0 {d : DV} {ds : List DV} {S : Sto} : ixD (.lst (d :: ds)) (.int 0) S = some (d, S) := by simp [ixD]
theorem ixl {d : DV} {ds : List DV} {S : Sto} : ixD (.lst (ds ++ [d])) (.int (-1)) S = some (d, S) := by
  simp only [ixD, rdL, Option.or, L2.atI_last]
theorem eq_fr {S : Sto} (a b : Rat) : eqD (fr a) (fr b) S = some (.bl (decide (a = b)), S) := by
  have := eqD_of (S := S) (x := fr a) (y := fr b) (p := pfr a) (q := pfr b) (n := 1) rfl rfl (sh_pfr a) (sh_pfr b) (by decide)
  rw [this, eqv_pfr]
theorem amt_1 : Amt 1 := amt_int (x := 1) (by decide) (by decide)
theorem amt_2 : Amt 2 := amt_int (x := 2) (by decide) (by decide)
theorem cut_init {α : Type} {xs : List α} {x : α} : cutL (xs ++ [x]) none (some (-1)) = xs := by
  have e : HT.sIx (xs ++ [x]).length (xs ++ [x]).length (some (-1)) = xs.length := by
    unfold HT.sIx
    simp
    omega
  unfold cutL
  rw [HT.sIx_none, e]
  simp
theorem ne_sts {S : Sto} (ps qs : List SP2) : neD (.lst (ps.map stD)) (.lst (qs.map stD)) S = some (.bl (!decide (ps = qs)), S) := by
  rw [neD_of (py_sts ps) (py_sts qs) (sh_psts ps) (sh_psts qs) (by decide), eqv_psts]
theorem eq_sts {S : Sto} (ps qs : List SP2) : eqD (.lst (ps.map stD)) (.lst (qs.map stD)) S = some (.bl (decide (ps = qs)), S) := by
  rw [eqD_of (py_sts ps) (py_sts qs) (sh_psts ps) (sh_psts qs) (by decide), eqv_psts]
theorem ne_stD {S : Sto} (p q : SP2) : neD (stD p) (stD q) S = some (.bl (!decide (p = q)), S) := by
  rw [neD_of (n := 3) (p := pst p) (q := pst q) (py_stD p) (py_stD q) (sh_pst p) (sh_pst q) (by decide), eqv_pst]
theorem sort_dI {S : Sto} (bs : List Int) : sortBD false [dI bs] S = some (dI (sortI bs), S) := by
  have := toIs_map bs
  simp [sortBD, dI, this]
section
variable {s : Sl} {S : Sto} {fe : DE} {dd d e : DV} {ds : List DV}
theorem sl_from1 (h : fe s S = some (dd, S)) (hr : rdL S dd = some (d :: ds)) : dSlL false fe (doS (dC (.int 1))) doN s S = some (.lst ds, S) := by
  have c := cut_drop (xs := d :: ds) (i := 1)
  unfold dSlL
  rw [h]
  simp only [bnd_some', doS, dC, doN]
  show (match rdL S dd with
    | some ds => some (newL false (cutL ds (some ((1 : Nat) : Int)) none) S)
    | none => none) = _
  rw [hr]
  simp only [newL_f]
  rw [c]
  rfl
theorem sl_from2 (h : fe s S = some (dd, S)) (hr : rdL S dd = some (d :: e :: ds)) : dSlL false fe (doS (dC (.int 2))) doN s S = some (.lst ds, S) := by
  have c := cut_drop (xs := d :: e :: ds) (i := 2)
  unfold dSlL
  rw [h]
  simp only [bnd_some', doS, dC, doN]
  show (match rdL S dd with
    | some ds => some (newL false (cutL ds (some ((2 : Nat) : Int)) none) S)
    | none => none) = _
  rw [hr]
  simp only [newL_f]
  rw [c]
  rfl
theorem sl_init (h : fe s S = some (dd, S)) (hr : rdL S dd = some (ds ++ [d])) : dSlL false fe doN (doS (dUn negD (dC (.int 1)))) s S = some (.lst ds, S) := by
  have c := cut_init (xs := ds) (x := d)
  unfold dSlL
  rw [h]
  simp only [bnd_some', doS, dC, doN, dUn]
  show (match rdL S dd with
    | some ds => some (newL false (cutL ds none (some (-1 : Int))) S)
    | none => none) = _
  rw [hr]
  simp only [newL_f]
  rw [c]
end
theorem hm_app {S : Sto} {n : Nat} {ws : List Int} {w : List Rat} {done : List SP2} (h : HM S n ws w done) (X : Sto) : HM (S ++ X) n ws w done := HAt.app h X
/-- made anew otherwise: unlike -/
theorem un_made {s : Sl} {S : Sto} {n : Nat} {ws ws' : List Int} {w w' : List Rat} {done done' : List SP2} {fa fb fc fd : DE} (h : HM S n ws w done) (F : Fit ws' w' done') (hne : ¬(ws = ws' ∧ w = w' ∧ done.map sst = done'.map sst))
    (ea : fa s S = some (.ptr n, S)) (eb : fb s S = some (dI ws', S)) (ec : fc s S = some (dF w', S)) (ed : fd s S = some (.lst (done'.map stD), S)) :
    ∃ X, dCall 2 f_law_unlike_z [] (dCons fa (dCons (dCall 3 f_law_made_r [] (dCons fb (dCons fc (dCons fd dNil)))) dNil)) s S = some (.bl true, S ++ X) := by
  obtain ⟨X, e1, h1⟩ := made_ok (S := S) F.f F.W F.o
  exact ⟨X, (call2 (S1 := S) (S2 := S ++ X) ea ((call3 eb ec ed).trans e1)).trans (unlike_ok (hm_app h X) h1 hne)⟩
theorem others_ok {S : Sto} {n : Nat} {ws : List Int} {w : List Rat} {done : List SP2} (h : HM S n ws w done) (F : Fit ws w done) :
    f_law_others_right_z [.ptr n, dI ws, dF w, .lst (done.map stD)] S = some (.bl true, S) := by
  obtain ⟨x, ws0, rfl⟩ : ∃ x ws0, ws = x :: ws0 := by
    cases ws with
    | nil => exact absurd rfl F.f.ne
    | cons x r => exact ⟨x, r, rfl⟩
  obtain ⟨q, w0, rfl⟩ : ∃ q w0, w = q :: w0 := by
    cases w with
    | nil => exact absurd F.wl (by simp)
    | cons x r => exact ⟨x, r, rfl⟩
  have lws : ws0.length ≤ 100 := by have := F.f.n; simp at this; omega
  have lw0 : w0.length ≤ 100 := by have := F.wl; simp at this; omega
  obtain ⟨y, hy⟩ : ∃ y : Rat, y = (if q = 1 then 2 else 1) := ⟨_, rfl⟩
  have yq : q ≠ y := by
    rw [hy]
    split
    · rename_i e
      rw [e]
      decide
    · rename_i e
      exact e
  have ya : Amt y := by
    rw [hy]
    split
    · exact amt_2
    · exact amt_1
  obtain ⟨z, hz⟩ : ∃ z : Int, z = x % 9 + 1 := ⟨_, rfl⟩
  have zx : x ≠ z ∧ 1 ≤ z ∧ z ≤ 9 := by
    have := F.f.fl x List.mem_cons_self
    omega
  have Fm : Fit (x :: ws0) (y :: w0) done := F.first (by have := F.wl; simpa using this) fun r hr => by
    rcases List.mem_cons.mp hr with rfl | hr
    · exact ya
    · exact F.wa r (List.mem_cons_of_mem _ hr)
  have Fw : Fit (z :: ws0) (q :: w0) done := F.wide ⟨by simp, fun r hr => by
    rcases List.mem_cons.mp hr with rfl | hr
    · exact zx.2
    · exact F.f.fl r (List.mem_cons_of_mem _ hr), by have := F.f.n; simpa using this⟩ (by simp)
  have e11 : (DV.tup [.int 1, .int 1]) = fr 1 := rfl
  have e21 : (DV.tup [.int 2, .int 1]) = fr 2 := rfl
  have c1 : ∀ (d : DV) (ds : List DV), cutL (d :: ds) (some 1) none = ds := fun d ds => by
    have := cut_drop (xs := d :: ds) (i := 1)
    simpa using this
  have em : ∀ (o4 o5 : Option DV), (dOp (addD false) (dLst false (dCons (dIf (dTest (dOp eqD (dOp ixD (dVar 2) (dC (.int 0))) (dTup (dCons (dC (.int 1)) (dCons (dC (.int 1)) dNil))))) (dTup (dCons (dC (.int 2)) (dCons (dC (.int 1)) dNil))) (dTup (dCons (dC (.int 1)) (dCons (dC (.int 1)) dNil)))) dNil)) (dSlL false (dVar 2) (doS (dC (.int 1))) doN)) [some (.ptr n), some (dI (x :: ws0)), some (dF (q :: w0)), some (.lst (done.map stD)), o4, o5] S = some (dF (y :: w0), S) := fun o4 o5 => by
    have i0 : ixD (dF (q :: w0)) (.int 0) S = some (fr q, S) := ix0
    have rd : rdL S (dF (q :: w0)) = some (fr q :: w0.map fr) := rfl
    have ad : addD false (.lst [fr y]) (.lst (w0.map fr)) S = some (dF (y :: w0), S) := by
      rw [addD_lst, gate_ok (by simp; omega)]
      rfl
    generalize dF (q :: w0) = dq at *
    simp only [dOp, dLst, dCons, dIf, dTest, dVar, List.getElem?_cons_succ, List.getElem?_cons_zero, bnd_some', dC, i0, dTup, dNil, List.length_cons, List.length_nil]
    rw [gate_ok (by decide)]
    simp only [bnd_some', e11, eq_fr]
    have key : (if decide (q = 1) = true then gate (0 + 1 + 1 ≤ 100000) (some (DV.tup [DV.int 2, DV.int 1], S)) else gate (0 + 1 + 1 ≤ 100000) (some (fr 1, S))) = some (fr y, S) := by
      rw [gate_ok (by decide), gate_ok (by decide), e21, hy]
      by_cases hq : q = 1
      · rw [decide_eq_true hq, if_pos rfl, if_pos hq]
      · rw [decide_eq_false hq, if_neg (by simp), if_neg hq]
    rw [key]
    simp only [bnd_some', List.length_cons, List.length_nil]
    rw [gate_ok (by decide)]
    simp only [bnd_some', newL_f]
    rw [sl_from1 rfl rd, bnd_some']
    exact ad
  have ew : ∀ (o4 o5 : Option DV), (dOp (addD false) (dLst false (dCons (dOp (addD false) (dOp modD (dOp ixD (dVar 1) (dC (.int 0))) (dC (.int 9))) (dC (.int 1))) dNil)) (dSlL false (dVar 1) (doS (dC (.int 1))) doN)) [some (.ptr n), some (dI (x :: ws0)), some (dF (q :: w0)), some (.lst (done.map stD)), o4, o5] S = some (dI (z :: ws0), S) := fun o4 o5 => by
    have i0 : ixD (dI (x :: ws0)) (.int 0) S = some (.int x, S) := ix0
    have rd : rdL S (dI (x :: ws0)) = some (.int x :: ws0.map DV.int) := rfl
    have hx := F.f.fl x List.mem_cons_self
    have md : modD (.int x) (.int 9) S = some (.int (x % 9), S) := modD_int (by decide)
    have ad : addD false (.lst [.int z]) (.lst (ws0.map DV.int)) S = some (dI (z :: ws0), S) := by
      rw [addD_lst, gate_ok (by simp; omega)]
      rfl
    generalize dI (x :: ws0) = dq at *
    simp only [dOp, dLst, dCons, dVar, List.getElem?_cons_succ, List.getElem?_cons_zero, bnd_some', dC, i0, md, addD_int, dNil, List.length_cons, List.length_nil]
    rw [gate_ok (by decide)]
    simp only [bnd_some', newL_f]
    rw [sl_from1 rfl rd, bnd_some', ← hz]
    exact ad
  obtain ⟨s2, hs2⟩ : ∃ s2 : Sl, s2 = [some (.ptr n), some (dI (x :: ws0)), some (dF (q :: w0)), some (.lst (done.map stD)), some (dF (y :: w0)), some (dI (z :: ws0))] := ⟨_, rfl⟩
  have v0 : ∀ S, dVar 0 s2 S = some (.ptr n, S) := fun S => by rw [hs2]; rfl
  have v1 : ∀ S, dVar 1 s2 S = some (dI (x :: ws0), S) := fun S => by rw [hs2]; rfl
  have v2 : ∀ S, dVar 2 s2 S = some (dF (q :: w0), S) := fun S => by rw [hs2]; rfl
  have v3 : ∀ S, dVar 3 s2 S = some (.lst (done.map stD), S) := fun S => by rw [hs2]; rfl
  have v4 : ∀ S, dVar 4 s2 S = some (dF (y :: w0), S) := fun S => by rw [hs2]; rfl
  have v5 : ∀ S, dVar 5 s2 S = some (dI (z :: ws0), S) := fun S => by rw [hs2]; rfl
  obtain ⟨X1, u1⟩ := un_made (s := s2) h Fm (fun e => yq (List.cons.inj e.2.1).1) (v0 S) (v1 S) (v4 S) (v3 S)
  have h1 := hm_app h X1
  obtain ⟨X2, u2⟩ := un_made (s := s2) h1 Fw (fun e => zx.1 (List.cons.inj e.1).1) (v0 _) (v5 _) (v2 _) (v3 _)
  have h2 := hm_app h1 X2
  obtain ⟨S2, hS2⟩ : ∃ S2, S2 = S ++ X1 ++ X2 := ⟨_, rfl⟩
  rw [← hS2] at u2 h2
  have cutX : ∀ (b : Bool) (X : Sto), exF (some false) S (.bl b) (S2 ++ X) = some (.bl b, S) := fun b X => by
    rw [hS2, List.append_assoc, List.append_assoc]
    exact exF_cut rfl fun n e => by cases e
  have cut0 : ∀ (b : Bool), exF (some false) S (.bl b) S2 = some (.bl b, S) := fun b => by
    have := cutX b []
    rwa [List.append_nil] at this
  have lnil : ∀ S : Sto, dLst false dNil s2 S = some (.lst [], S) := fun S => by
    simp only [dLst, dNil, bnd_some', List.length_nil]
    rw [gate_ok (by decide)]
    rfl
  have main : ∀ {o : DS} {d : DV} {S3 : Sto}, o s2 S2 = some (.rt d S3) → dSeq (dAsg (dOp (addD false) (dLst false (dCons (dIf (dTest (dOp eqD (dOp ixD (dVar 2) (dC (.int 0))) (dTup (dCons (dC (.int 1)) (dCons (dC (.int 1)) dNil))))) (dTup (dCons (dC (.int 2)) (dCons (dC (.int 1)) dNil))) (dTup (dCons (dC (.int 1)) (dCons (dC (.int 1)) dNil)))) dNil)) (dSlL false (dVar 2) (doS (dC (.int 1))) doN)) (dName 4))
      (dSeq (dAsg (dOp (addD false) (dLst false (dCons (dOp (addD false) (dOp modD (dOp ixD (dVar 1) (dC (.int 0))) (dC (.int 9))) (dC (.int 1))) dNil)) (dSlL false (dVar 1) (doS (dC (.int 1))) doN)) (dName 5))
      (dSeq (dIfS (dOr (dNot (dTest (dCall 2 f_law_unlike_z [] (dCons (dVar 0) (dCons (dCall 3 f_law_made_r [] (dCons (dVar 1) (dCons (dVar 4) (dCons (dVar 3) dNil)))) dNil))))) (dNot (dTest (dCall 2 f_law_unlike_z [] (dCons (dVar 0) (dCons (dCall 3 f_law_made_r [] (dCons (dVar 5) (dCons (dVar 2) (dCons (dVar 3) dNil)))) dNil))))))
      (dRet (dC (.bl false))) dNext) o)) (startD 6 [.ptr n, dI (x :: ws0), dF (q :: w0), .lst (done.map stD)]) S = some (.rt d S3) := fun {o d S3} ho => by
    refine seq_nx (asg_name (em none none)) ?_
    refine seq_nx (asg_name (ew (some (dF (y :: w0))) none)) ?_
    have es : List.set (List.set (startD 6 [.ptr n, dI (x :: ws0), dF (q :: w0), .lst (done.map stD)]) 4 (some (dF (y :: w0)))) 5 (some (dI (z :: ws0))) = s2 := by rw [hs2]; rfl
    rw [es]
    refine seq_nx (s1 := s2) (S1 := S2) (if_f (S1 := S2) ?_ rfl) ho
    simp only [dOr, dNot, dTest, u1, bnd_some', Bool.not_true, Bool.false_eq_true, if_false, u2]
  cases hd : done.reverse with
  | nil =>
    have e0 : done = [] := List.reverse_eq_nil_iff.mp hd
    refine fn_rt (d := .bl true) (S1 := S2) (main (seq_rt (if_t (S1 := S2) ?_ (ret_of rfl)))) (cut0 true)
    have := eq_sts (S := S2) done []
    simp only [dOr, dTest, dOp, v3, bnd_some', lnil, List.map_nil] at this ⊢
    rw [this, e0]
    rfl
  | cons p ds' =>
    obtain ⟨ds, rfl⟩ : ∃ ds, done = ds ++ [p] := ⟨ds'.reverse, by
      have := congrArg List.reverse hd
      simpa using this⟩
    have nn := eq_sts (S := S2) (ds ++ [p]) []
    rw [decide_eq_false (by simp)] at nn
    have il : ixD (.lst ((ds ++ [p]).map stD)) (.int (-1)) S2 = some (stD p, S2) := by
      rw [List.map_append]
      exact ixl
    have i1 : ixD (stD p) (.int 1) S2 = some (dF p.2, S2) := by simp [stD, ixD]
    have i0 : ixD (stD p) (.int 0) S2 = some (dI p.1, S2) := by simp [stD, ixD]
    have ed := eq_dF (S := S2) p.2 (y :: w0)
    have test : dOr (dTest (dOp eqD (dVar 3) (dLst false dNil))) (dTest (dOp eqD (dOp ixD (dOp ixD (dVar 3) (dUn negD (dC (.int 1)))) (dC (.int 1))) (dVar 4))) s2 S2 = some (decide (p.2 = y :: w0), S2) := by
      have ng : negD (.int 1) S2 = some (.int (-1), S2) := rfl
      simp only [List.map_nil] at nn
      simp only [dOr, dTest, dOp, dUn, dC, v3, v4, bnd_some', lnil, nn, Bool.false_eq_true, if_false, ng, il, i1, ed]
    by_cases hp : p.2 = y :: w0
    · rw [decide_eq_true hp] at test
      exact fn_rt (d := .bl true) (S1 := S2) (main (seq_rt (if_t (S1 := S2) test (ret_of rfl)))) (cut0 true)
    · rw [decide_eq_false hp] at test
      have Fl : Fit (x :: ws0) (q :: w0) (ds ++ [(p.1, y :: w0)]) := by
        have F0 : Fit (x :: ws0) (q :: w0) ds := F.of (fun r hr => List.mem_append_left _ hr) (by have := F.l; simp at this; omega)
        exact F0.snoc (F.b p (by simp)) Fm.wl Fm.wa (by have := F.l; simp at this; omega)
      have ne3 : ¬(x :: ws0 = x :: ws0 ∧ q :: w0 = q :: w0 ∧ (ds ++ [p]).map sst = (ds ++ [(p.1, y :: w0)]).map sst) := fun ⟨_, _, e⟩ => by
        rw [List.map_append, List.map_append] at e
        have := List.append_cancel_left e
        simp only [List.map_cons, List.map_nil, sst, List.cons.injEq, Prod.mk.injEq, true_and, and_true] at this
        exact hp this
      have e3 : (dOp (addD false) (dSlL false (dVar 3) doN (doS (dUn negD (dC (.int 1))))) (dLst false (dCons (dTup (dCons (dOp ixD (dOp ixD (dVar 3) (dUn negD (dC (.int 1)))) (dC (.int 0))) (dCons (dVar 4) dNil))) dNil))) s2 S2 = some (.lst ((ds ++ [(p.1, y :: w0)]).map stD), S2) := by
        have sl := sl_init (fe := dVar 3) (s := s2) (S := S2) (ds := ds.map stD) (d := stD p) (v3 S2) (by rw [List.map_append]; rfl)
        have ng : negD (.int 1) S2 = some (.int (-1), S2) := rfl
        have ll : ds.length ≤ 10 := by have := F.l; simp at this; omega
        generalize dSlL false (dVar 3) doN (doS (dUn negD (dC (.int 1)))) = SL at *
        simp only [dOp, sl, bnd_some', dLst, dCons, dTup, dUn, dC, v3, v4, ng, il, i0, dNil, List.length_cons, List.length_nil]
        rw [gate_ok (by decide)]
        simp only [bnd_some', List.length_cons, List.length_nil]
        rw [gate_ok (by decide)]
        simp only [bnd_some', newL_f]
        rw [addD_lst, gate_ok (by simp; omega)]
        simp [stD]
      obtain ⟨X3, u3⟩ := un_made (s := s2) h2 Fl ne3 (v0 _) (v1 _) (v2 _) e3
      exact fn_rt (d := .bl true) (S1 := S2 ++ X3) (main (seq_nx (if_f (S1 := S2) test rfl) (ret_of u3))) (cutX true X3)
/-! ### the law -/
noncomputable def tThen : DS := (dSeq (dAsg (dSlL false (dVar 7) doN (doS (dUn negD (dC (.int 1))))) (dName 7)) (dIfS (dTest (dIsN true (dMeth "History" "undo" 1 f_History_undo_z [] (dVar 5) dNil))) (dRet (dC (.bl false))) dNext))
noncomputable def tElse : DS := (dSeq (dPar 9 10 (dCons (dCall 2 f_law_shut_z [] (dCons (dVar 1) (dCons (dVar 3) dNil))) (dCons (dCall 2 f_law_fall_z [] (dCons (dVar 1) (dCons (dVar 3) dNil))) dNil))) (dSeq (dAsg (dOp (addD false) (dVar 7) (dLst false (dCons (dTup (dCons (dVar 9) (dCons (dVar 10) dNil))) dNil))) (dName 7)) (dDrop (dMeth "History" "step" 3 f_History_step_z [] (dVar 5) (dCons (dVar 9) (dCons (dVar 10) dNil))))))
noncomputable def tTest : DT := (dAnd (dTest (dOp neD (dVar 7) (dLst false dNil))) (dOr (dTest (dOp eqD (dCall 2 f_law_take_z [] (dCons (dVar 1) (dCons (dC (.int 3)) dNil))) (dC (.int 0)))) (dTest (dOp eqD (dCB lenD (dCons (dVar 7) dNil)) (dC (.int 10))))))
noncomputable def tDeed : DS := dIfS tTest tThen tElse
noncomputable def tAlike : DS := (dIfS (dNot (dTest (dCall 3 f_law_alike_z [] (dCons (dVar 5) (dCons (dCall 3 f_law_made_r [] (dCons (dVar 3) (dCons (dVar 4) (dCons (dVar 7) dNil)))) (dCons (dCB lenD (dCons (dVar 7) dNil)) dNil)))))) (dRet (dC (.bl false))) dNext)
noncomputable def tTold : DS := (dIfS (dOr (dTest (dOp neD (dMeth "History" "floors" 1 f_History_floors_z [] (dVar 5) dNil) (dVar 3))) (dOr (dTest (dOp neD (dMeth "History" "steps" 1 f_History_steps_z [] (dVar 6) dNil) (dLst false dNil))) (dTest (dOp neD (dMeth "History" "water" 2 f_History_water_z [.non] (dVar 6) dNil) (dVar 4))))) (dRet (dC (.bl false))) dNext)
noncomputable def bodyT : DS := dSeq tDeed (dSeq tAlike tTold)
noncomputable def eOwn : DS := (dIfS (dTest (dOp neD (dOp (ownD false "History" f_History_eq_z) (dVar 5) (dVar 6)) (dOp eqD (dVar 7) (dLst false dNil)))) (dRet (dC (.bl false))) dNext)
noncomputable def eOth : DS := (dIfS (dNot (dTest (dCall 4 f_law_others_right_z [] (dCons (dVar 5) (dCons (dVar 3) (dCons (dVar 4) (dCons (dVar 7) dNil))))))) (dRet (dC (.bl false))) dNext)
noncomputable def eSwap : DS := (dIfS (dAnd (dTest (dOp gtD (dCB lenD (dCons (dVar 7) dNil)) (dC (.int 1)))) (dTest (dOp neD (dTup (dCons (dCB (sortBD false) (dCons (dOp ixD (dOp ixD (dVar 7) (dC (.int 0))) (dC (.int 0))) dNil)) (dCons (dOp ixD (dOp ixD (dVar 7) (dC (.int 0))) (dC (.int 1))) dNil))) (dTup (dCons (dCB (sortBD false) (dCons (dOp ixD (dOp ixD (dVar 7) (dC (.int 1))) (dC (.int 0))) dNil)) (dCons (dOp ixD (dOp ixD (dVar 7) (dC (.int 1))) (dC (.int 1))) dNil)))))) (dIfS (dNot (dTest (dCall 2 f_law_unlike_z [] (dCons (dVar 5) (dCons (dCall 3 f_law_made_r [] (dCons (dVar 3) (dCons (dVar 4) (dCons (dOp (addD false) (dLst false (dCons (dOp ixD (dVar 7) (dC (.int 1))) (dCons (dOp ixD (dVar 7) (dC (.int 0))) dNil))) (dSlL false (dVar 7) (doS (dC (.int 2))) doN)) dNil)))) dNil))))) (dRet (dC (.bl false))) dNext) dNext)
noncomputable def eThing : DS := (dIfS (dTest (dOp neD (dLc false (diL (dLst false (dCons (dC .non) (dCons (dC (.int 5)) (dCons (dC (.str "1 | 0")) (dCons (dVar 3) (dCons dDNewI dNil))))))) (dName 11) (dTest (dOp (othD "History") (dVar 5) (dVar 11))) (dC (.int 1)) [11]) (dLst false dNil))) (dRet (dC (.bl false))) dNext)
noncomputable def bodyL : DS := dSeq (dAsg (dCall 2 f_law_tanks_z [] (dCons (dVar 1) (dCons (dC (.int 8)) dNil))) (dName 3)) (dSeq (dAsg (dCall 2 f_law_fall_z [] (dCons (dVar 1) (dCons (dVar 3) dNil))) (dName 4)) (dSeq (dAsg (dTup (dCons (dMake "History" 3 f_History_init_r [] (dCons (dVar 3) (dCons (dVar 4) dNil))) (dCons (dMake "History" 3 f_History_init_r [] (dCons (dVar 3) (dCons (dVar 4) dNil))) dNil))) (dGTup 2 (dGCons (dName 5) (dGCons (dName 6) dGNil)))) (dSeq (dAsg (dLst false dNil) (dName 7)) (dSeq (dFor (diR1 (dCons (dCall 2 f_law_take_z [] (dCons (dVar 1) (dCons (dC (.int 17)) dNil))) dNil)) (dName 8) bodyT) (dSeq eOwn (dSeq eOth (dSeq eSwap eThing)))))))
theorem dk_hset {t : Dk} {G : Sto} {n : Nat} {wss : List (List Rat)} {sts : List (List Int × List Rat)} (hn : 2 ≤ n) : ∃ G', hset (t.st G) n wss sts = t.st G' := by
  obtain ⟨m, rfl⟩ : ∃ m, n = m + 2 := ⟨n - 2, by omega⟩
  exact ⟨(G.set (m + 2) _).set (m + 1) _, rfl⟩
theorem hm_dk {t t' : Dk} {G : Sto} {n : Nat} {ws : List Int} {w : List Rat} {done : List SP2} (h : HM (t.st G) n ws w done) (hn : 2 ≤ n) : HM (t'.st G) n ws w done :=
  HAt.same h fun k h1 h2 => by
    obtain ⟨m, rfl⟩ : ∃ m, k = m + 2 := ⟨k - 2, by omega⟩
    rfl
/-- both Histories, and the steps that stand -/
structure Th (ws : List Int) (w : List Rat) (n0 n1 : Nat) (done : List SP2) (S : Sto) : Prop where
  h0 : HM S n0 ws w done
  h1 : HM S n1 ws w []
  F : Fit ws w done
theorem Th.dk {t t' : Dk} {G : Sto} {n0 n1 : Nat} {ws : List Int} {w : List Rat} {done : List SP2} (h : Th ws w n0 n1 done (t.st G)) (a : 2 ≤ n0) (b : n0 + 3 ≤ n1) : Th ws w n0 n1 done (t'.st G) := ⟨hm_dk h.h0 a, hm_dk h.h1 (by omega), h.F⟩
theorem Th.app {S : Sto} {n0 n1 : Nat} {ws : List Int} {w : List Rat} {done : List SP2} (h : Th ws w n0 n1 done S) (X : Sto) : Th ws w n0 n1 done (S ++ X) := ⟨hm_app h.h0 X, hm_app h.h1 X, h.F⟩
section
variable {t : Dk} {G : Sto} {N : Int} {ws : List Int} {w : List Rat} {n0 n1 : Nat} {done : List SP2} {d0 o2 o8 o9 o10 o11 : Option DV}
theorem lnil {s : Sl} {S : Sto} : dLst false dNil s S = some (.lst [], S) := by
  simp only [dLst, dNil, bnd_some', List.length_nil]
  rw [gate_ok (by decide)]
  rfl
theorem test_ok (h : t.ok N) (hN : N < 2 ^ 29) (F : Fit ws w done) : ∃ (b : Bool) (t' : Dk), tTest [d0, some (.ptr 1), o2, some (dI ws), some (dF w), some (.ptr n0), some (.ptr n1), some (.lst (done.map stD)), o8, o9, o10, o11] (t.st G) = some (b, t'.st G) ∧ t'.ok (N + 1) ∧ (b = true → done ≠ []) ∧ (b = false → done.length < 10) := by
  have nn := ne_sts (S := t.st G) done []
  simp only [List.map_nil] at nn
  have v7 : ∀ S, dVar 7 [d0, some (.ptr 1), o2, some (dI ws), some (dF w), some (.ptr n0), some (.ptr n1), some (.lst (done.map stD)), o8, o9, o10, o11] S = some (.lst (done.map stD), S) := fun S => rfl
  have v1 : ∀ S, dVar 1 [d0, some (.ptr 1), o2, some (dI ws), some (dF w), some (.ptr n0), some (.ptr n1), some (.lst (done.map stD)), o8, o9, o10, o11] S = some (.ptr 1, S) := fun S => rfl
  have lw : ∀ S, lenD [.lst (done.map stD)] S = some (.int (done.length : Nat), S) := fun S => by simp
  generalize [d0, some (.ptr 1), o2, some (dI ws), some (dF w), some (.ptr n0), some (.ptr n1), some (.lst (done.map stD)), o8, o9, o10, o11] = s at *
  by_cases e : done = []
  · rw [decide_eq_true e] at nn
    refine ⟨false, t, ?_, h.mono (by omega), fun z => (by cases z), fun _ => by rw [e]; decide⟩
    unfold tTest
    simp only [dAnd, dTest, dOp, v7, bnd_some', lnil, nn, Bool.not_true, Bool.false_eq_true, if_false]
  · rw [decide_eq_false e] at nn
    obtain ⟨r, t1, e1, a, b, k1⟩ := take_ok (G := G) (m := 3) h (by omega) (by decide) (by decide)
    have et : dCall 2 f_law_take_z [] (dCons (dVar 1) (dCons (dC (.int 3)) dNil)) s (t.st G) = f_law_take_z [.ptr 1, .int 3] (t.st G) := call2 (v1 _) rfl
    by_cases h0 : r = 0
    · refine ⟨true, t1, ?_, k1, fun _ => e, fun z => (by cases z)⟩
      unfold tTest
      simp only [dAnd, dOr, dTest, dOp, v7, bnd_some', lnil, nn, Bool.not_false, if_true, et, e1, dC, eqD_int, h0, decide_true]
    · by_cases h10 : done.length = 10
      · refine ⟨true, t1, ?_, k1, fun _ => e, fun z => (by cases z)⟩
        have : ((done.length : Nat) : Int) = 10 := by omega
        unfold tTest
        simp only [dAnd, dOr, dTest, dOp, v7, bnd_some', lnil, nn, Bool.not_false, if_true, et, e1, dC, eqD_int, h0, decide_false, Bool.false_eq_true, if_false, dCB, dCons, dNil, lw, this, decide_true]
      · refine ⟨false, t1, ?_, k1, fun z => (by cases z), fun _ => by have := F.l; omega⟩
        have : ¬((done.length : Nat) : Int) = 10 := by omega
        unfold tTest
        simp only [dAnd, dOr, dTest, dOp, v7, bnd_some', lnil, nn, Bool.not_false, if_true, et, e1, dC, eqD_int, h0, decide_false, Bool.false_eq_true, if_false, dCB, dCons, dNil, lw, this]
theorem deed_ok (h : t.ok N) (hN : N < 2 ^ 29) (a : 2 ≤ n0) (b : n0 + 3 ≤ n1) (T : Th ws w n0 n1 done (t.st G)) :
    ∃ (t' : Dk) (G' : Sto) (done' : List SP2) (p9 p10 : Option DV), tDeed [d0, some (.ptr 1), o2, some (dI ws), some (dF w), some (.ptr n0), some (.ptr n1), some (.lst (done.map stD)), o8, o9, o10, o11] (t.st G) = some (.nx [d0, some (.ptr 1), o2, some (dI ws), some (dF w), some (.ptr n0), some (.ptr n1), some (.lst (done'.map stD)), o8, p9, p10, o11] (t'.st G')) ∧
      t'.ok (N + 100) ∧ Th ws w n0 n1 done' (t'.st G') := by
  have wn := T.F.f.n
  obtain ⟨bb, t1, e1, k1, hy, hn⟩ := test_ok (G := G) (d0 := d0) (o2 := o2) (n0 := n0) (n1 := n1) (o8 := o8) (o9 := o9) (o10 := o10) (o11 := o11) h hN T.F
  have T1 := T.dk (t' := t1) a b
  cases bb with
  | true =>
    obtain ⟨ds, p, rfl⟩ : ∃ ds p, done = ds ++ [p] := ⟨done.dropLast, done.getLast (hy rfl), (List.dropLast_concat_getLast _).symm⟩
    obtain ⟨S, hS⟩ : ∃ S, S = t1.st G := ⟨_, rfl⟩
    rw [← hS] at T1 e1
    obtain ⟨u, h0'⟩ := T1.h0.undo
    have h1' : HM _ n1 ws w [] := HAt.other T1.h1 (wss' := wsx ws w ds ++ [fnl ws w ds]) (sts' := ds.map sst) (.inr b)
    obtain ⟨G', hG⟩ := dk_hset (t := t1) (G := G) (wss := wsx ws w ds ++ [fnl ws w ds]) (sts := ds.map sst) a
    rw [← hS] at hG
    rw [hG] at u h0' h1'
    refine ⟨t1, G', ds, o9, o10, ?_, k1.mono (by omega), h0', h1', T.F.of (fun r hr => List.mem_append_left _ hr) (by have := T.F.l; simp at this; omega)⟩
    unfold tDeed
    refine if_t e1 ?_
    unfold tThen
    refine seq_nx (asg_name (sl_init (dd := .lst ((ds ++ [p]).map stD)) (d := stD p) rfl (by rw [List.map_append]; rfl))) ?_
    refine if_f (S1 := t1.st G') ?_ rfl
    have e := (HAt.meth T1.h0 (s := [d0, some (.ptr 1), o2, some (dI ws), some (dF w), some (.ptr n0), some (.ptr n1), some (.lst (ds.map stD)), o8, o9, o10, o11]) (fe := dVar 5) (fa := dNil) (dd := []) (xs := []) (nn := 1) (g := f_History_undo_z) (S1 := S) rfl lk_undo rfl rfl).trans u
    show dTest (dIsN true (dMeth "History" "undo" 1 f_History_undo_z [] (dVar 5) dNil)) [d0, some (.ptr 1), o2, some (dI ws), some (dF w), some (.ptr n0), some (.ptr n1), some (.lst (ds.map stD)), o8, o9, o10, o11] S = _
    simp only [dTest, dIsN, e, bnd_some']
    rfl
  | false =>
    obtain ⟨bs, t2, e2, hb, bl, k2⟩ := law_shut_ok (G := G) (ws := ws) k1 (by omega) T.F.f.ne (by omega)
    obtain ⟨fell, t3, e3, lf, qf, k3⟩ := law_fall_ok (G := G) (ws := ws) k2 (by omega) T.F.f.fl T.F.f.ne (by omega)
    have T3 := T.dk (t' := t3) a b
    obtain ⟨p, hp⟩ : ∃ p : SP2, p = (bs, fell) := ⟨_, rfl⟩
    have F' : Fit ws w (done ++ [p]) := T.F.snoc (by rw [hp]; exact hb) (by rw [hp]; exact lf) (by rw [hp]; exact qf) (hn rfl)
    obtain ⟨S, hS⟩ : ∃ S, S = t3.st G := ⟨_, rfl⟩
    rw [← hS] at T3
    have ob := F'.o.b p (by simp)
    have ow := F'.o.w p (by simp)
    obtain ⟨u, h0'⟩ := T3.h0.step T.F.f T.F.W T.F.o ob ow
    have h1' : HM _ n1 ws w [] := HAt.other T3.h1 (wss' := wsx ws w (done ++ [p]) ++ [fnl ws w (done ++ [p])]) (sts' := (done ++ [p]).map sst) (.inr b)
    obtain ⟨G', hG⟩ := dk_hset (t := t3) (G := G) (wss := wsx ws w (done ++ [p]) ++ [fnl ws w (done ++ [p])]) (sts := (done ++ [p]).map sst) a
    rw [← hS] at hG
    rw [hG] at u h0' h1'
    have u' : f_History_step_z [.ptr n0, dI bs, dF fell] S = some (.non, t3.st G') := by
      have p1 : p.1 = bs := by rw [hp]
      have p2 : p.2 = fell := by rw [hp]
      rw [p1, p2] at u
      exact u
    refine ⟨t3, G', done ++ [p], some (dI bs), some (dF fell), ?_, k3.mono (by omega), h0', h1', F'⟩
    unfold tDeed
    refine if_f e1 ?_
    unfold tElse
    refine seq_nx (s1 := [d0, some (.ptr 1), o2, some (dI ws), some (dF w), some (.ptr n0), some (.ptr n1), some (.lst (done.map stD)), o8, some (dI bs), some (dF fell), o11]) (S1 := S) ?_ ?_
    · have e := cons2 (s := [d0, some (.ptr 1), o2, some (dI ws), some (dF w), some (.ptr n0), some (.ptr n1), some (.lst (done.map stD)), o8, o9, o10, o11]) (fa := dCall 2 f_law_shut_z [] (dCons (dVar 1) (dCons (dVar 3) dNil))) (fb := dCall 2 f_law_fall_z [] (dCons (dVar 1) (dCons (dVar 3) dNil))) (S := t1.st G) (S1 := t2.st G) ((call2 rfl rfl).trans e2) ((call2 rfl rfl).trans e3)
      unfold dPar
      rw [e, hS]
      rfl
    refine seq_nx (asg_name (d := .lst ((done ++ [p]).map stD)) (S1 := S) ?_) ?_
    · have ll := T.F.l
      have ad : addD false (.lst (done.map stD)) (.lst [.tup [dI bs, dF fell]]) S = some (.lst ((done ++ [p]).map stD), S) := by
        rw [addD_lst, gate_ok (by simp; omega), hp]
        simp [stD]
      generalize dI bs = x1 at *
      generalize dF fell = x2 at *
      simp only [dOp, dVar, List.getElem?_cons_succ, List.getElem?_cons_zero, bnd_some', dLst, dCons, dTup, dNil, List.length_cons, List.length_nil]
      rw [gate_ok (by decide)]
      simp only [bnd_some', List.length_cons, List.length_nil]
      rw [gate_ok (by decide)]
      simp only [bnd_some', newL_f]
      exact ad
    · have e := (HAt.meth T3.h0 (s := [d0, some (.ptr 1), o2, some (dI ws), some (dF w), some (.ptr n0), some (.ptr n1), some (.lst ((done ++ [p]).map stD)), o8, some (dI bs), some (dF fell), o11]) (fe := dVar 5) (fa := dCons (dVar 9) (dCons (dVar 10) dNil)) (dd := []) (xs := [dI bs, dF fell]) (nn := 3) (g := f_History_step_z) (S1 := S) rfl lk_step (cons2 rfl rfl) rfl).trans u'
      exact drop_of (d := .non) e
end
section
variable {t : Dk} {G : Sto} {N : Int} {ws : List Int} {w : List Rat} {n0 n1 : Nat} {done : List SP2} {d0 o2 o8 o9 o10 o11 : Option DV} {s : Sl} {S : Sto}
theorem call4 {S1 S2 S3 S4 : Sto} {fa fb fc fd : DE} {a b c d : DV} {g : List DV → Sto → Option (DV × Sto)} (ha : fa s S = some (a, S1)) (hb : fb s S1 = some (b, S2)) (hc : fc s S2 = some (c, S3)) (hd : fd s S3 = some (d, S4)) : dCall 4 g [] (dCons fa (dCons fb (dCons fc (dCons fd dNil)))) s S = g [a, b, c, d] S4 := by
  simp only [dCall, dCons, dNil, ha, hb, hc, hd, bnd_some', List.append_nil, List.length_cons, List.length_nil, if_true]
theorem neD_bl2 {S : Sto} (b : Bool) : neD (.bl b) (.bl b) S = some (.bl false, S) := by
  cases b <;> rfl
theorem ne_nil2 {S : Sto} : neD (.lst []) (.lst []) S = some (.bl false, S) := by
  have := ne_sts (S := S) [] []
  simpa using this
theorem alikeT_ok (T : Th ws w n0 n1 done S) (h3 : dVar 3 = fun s S => dVar 3 s S) (v3 : ∀ S, dVar 3 s S = some (dI ws, S)) (v4 : ∀ S, dVar 4 s S = some (dF w, S)) (v5 : ∀ S, dVar 5 s S = some (.ptr n0, S)) (v7 : ∀ S, dVar 7 s S = some (.lst (done.map stD), S)) :
    ∃ X, tAlike s S = some (.nx s (S ++ X)) := by
  obtain ⟨X, e1, h1⟩ := made_ok (S := S) T.F.f T.F.W T.F.o
  have al := alike_ok (hm_app T.h0 X) h1 T.F.f T.F.W T.F.o
  have le : dCB lenD (dCons (dVar 7) dNil) s (S ++ X) = some (.int (done.length : Nat), S ++ X) := by
    simp only [dCB, dCons, v7, bnd_some', dNil]
    simp
  have e := (call3 (g := f_law_alike_z) (v5 S) ((call3 (g := f_law_made_r) (v3 S) (v4 S) (v7 S)).trans e1) le).trans al
  refine ⟨X, ?_⟩
  unfold tAlike
  refine if_f (S1 := S ++ X) ?_ rfl
  simp only [dNot, dTest, e, bnd_some']
  rfl
theorem told_ok (T : Th ws w n0 n1 done S) (v3 : ∀ S, dVar 3 s S = some (dI ws, S)) (v4 : ∀ S, dVar 4 s S = some (dF w, S)) (v5 : ∀ S, dVar 5 s S = some (.ptr n0, S)) (v6 : ∀ S, dVar 6 s S = some (.ptr n1, S)) : tTold s S = some (.nx s S) := by
  have e1 := (HAt.meth T.h0 (s := s) (fe := dVar 5) (fa := dNil) (dd := []) (xs := []) (nn := 1) (g := f_History_floors_z) (S1 := S) (v5 S) lk_floors rfl rfl).trans (floors_ok T.h0)
  have e2 := (HAt.meth T.h1 (s := s) (fe := dVar 6) (fa := dNil) (dd := []) (xs := []) (nn := 1) (g := f_History_steps_z) (S1 := S) (v6 S) lk_steps rfl rfl).trans (steps_ok T.h1 (by simp))
  have e3 := (HAt.meth T.h1 (s := s) (fe := dVar 6) (fa := dNil) (dd := [.non]) (xs := []) (nn := 2) (g := f_History_water_z) (S1 := S) (v6 S) lk_water rfl rfl).trans (water_now (xs := []) (w := w) T.h1)
  have n1' : neD (dI ws) (dI ws) S = some (.bl false, S) := by rw [ne_dI]; simp
  have n3' : neD (dF w) (dF w) S = some (.bl false, S) := by rw [ne_dF]; simp
  unfold tTold
  refine if_f (S1 := S) ?_ rfl
  simp only [List.map_nil] at e2
  simp only [dOr, dTest, dOp, e1, e2, e3, v3, v4, bnd_some', n1', n3', lnil, ne_nil2, Bool.false_eq_true, if_false]
theorem turn_ok (h : t.ok N) (hN : N < 2 ^ 29) (a : 2 ≤ n0) (b : n0 + 3 ≤ n1) (T : Th ws w n0 n1 done (t.st G)) :
    ∃ (t' : Dk) (G' : Sto) (done' : List SP2) (p9 p10 : Option DV), bodyT [d0, some (.ptr 1), o2, some (dI ws), some (dF w), some (.ptr n0), some (.ptr n1), some (.lst (done.map stD)), o8, o9, o10, o11] (t.st G) = some (.nx [d0, some (.ptr 1), o2, some (dI ws), some (dF w), some (.ptr n0), some (.ptr n1), some (.lst (done'.map stD)), o8, p9, p10, o11] (t'.st G')) ∧
      t'.ok (N + 100) ∧ Th ws w n0 n1 done' (t'.st G') := by
  obtain ⟨t', G', done', p9, p10, e, k, T'⟩ := deed_ok (d0 := d0) (o2 := o2) (o8 := o8) (o9 := o9) (o10 := o10) (o11 := o11) h hN a b T
  obtain ⟨X, ea⟩ := alikeT_ok (s := [d0, some (.ptr 1), o2, some (dI ws), some (dF w), some (.ptr n0), some (.ptr n1), some (.lst (done'.map stD)), o8, p9, p10, o11]) T' rfl (fun _ => rfl) (fun _ => rfl) (fun _ => rfl) (fun _ => rfl)
  have T2 := T'.app X
  refine ⟨t', G' ++ X, done', p9, p10, ?_, k, T2⟩
  unfold bodyT
  exact seq_nx e (seq_nx ea (told_ok T2 (fun _ => rfl) (fun _ => rfl) (fun _ => rfl) (fun _ => rfl)))
/-! ### what is asked behind the deeds -/
theorem own_ok (T : Th ws w n0 n1 done S) (v5 : ∀ S, dVar 5 s S = some (.ptr n0, S)) (v6 : ∀ S, dVar 6 s S = some (.ptr n1, S)) (v7 : ∀ S, dVar 7 s S = some (.lst (done.map stD), S)) : eOwn s S = some (.nx s S) := by
  have e := T.h0.eqG T.h1 (neg := false)
  have e2 := eq_sts (S := S) done []
  simp only [List.map_nil] at e e2
  have hb : decide (True ∧ True ∧ List.map sst done = []) = decide (done = []) := by
    simp
  rw [hb] at e
  simp only [Bool.false_eq_true, if_false] at e
  have nb : neD (.bl (decide (done = []))) (.bl (decide (done = []))) S = some (.bl false, S) := neD_bl2 _
  unfold eOwn
  refine if_f (S1 := S) ?_ rfl
  generalize ownD false "History" f_History_eq_z = O at *
  simp only [dTest, dOp, v5, v6, v7, bnd_some', e, lnil, e2, nb]
theorem oth_ok (T : Th ws w n0 n1 done S) (v3 : ∀ S, dVar 3 s S = some (dI ws, S)) (v4 : ∀ S, dVar 4 s S = some (dF w, S)) (v5 : ∀ S, dVar 5 s S = some (.ptr n0, S)) (v7 : ∀ S, dVar 7 s S = some (.lst (done.map stD), S)) : eOth s S = some (.nx s S) := by
  have e := (call4 (g := f_law_others_right_z) (v5 S) (v3 S) (v4 S) (v7 S)).trans (others_ok T.h0 T.F)
  unfold eOth
  refine if_f (S1 := S) ?_ rfl
  simp only [dNot, dTest, e, bnd_some']
  rfl
theorem swap_ok (T : Th ws w n0 n1 done S) (v3 : ∀ S, dVar 3 s S = some (dI ws, S)) (v4 : ∀ S, dVar 4 s S = some (dF w, S)) (v5 : ∀ S, dVar 5 s S = some (.ptr n0, S)) (v7 : ∀ S, dVar 7 s S = some (.lst (done.map stD), S)) : ∃ X, eSwap s S = some (.nx s (S ++ X)) := by
  have le : ∀ S, lenD [.lst (done.map stD)] S = some (.int (done.length : Nat), S) := fun S => by simp
  have small : done.length ≤ 1 → ∃ X, eSwap s S = some (.nx s (S ++ X)) := fun hl => by
    refine ⟨[], ?_⟩
    rw [List.append_nil]
    unfold eSwap
    refine if_f (S1 := S) ?_ rfl
    have : ¬((1 : Int) < (done.length : Nat)) := by omega
    simp only [dAnd, dTest, dOp, dCB, dCons, v7, bnd_some', dNil, le, dC, gtD_int, this, decide_false, Bool.false_eq_true, if_false]
  match done, T, v7, le, small with
  | [], _, _, _, small => exact small (by simp)
  | [_], _, _, _, small => exact small (by simp)
  | p :: q :: r, T, v7, le, _ =>
    have i0 : ixD (.lst ((p :: q :: r).map stD)) (.int 0) S = some (stD p, S) := ix0
    have i1 : ixD (.lst ((p :: q :: r).map stD)) (.int 1) S = some (stD q, S) := by
      have : L2.atI ((p :: q :: r).map stD) 1 = some (stD q) := by
        exact L2.atI_nat (show ((p :: q :: r).map stD)[1]? = some (stD q) from rfl)
      simp only [ixD, rdL, Option.or, this]
    have a0 : ∀ p : SP2, ixD (stD p) (.int 0) S = some (dI p.1, S) := fun p => by simp [stD, ixD]
    have a1 : ∀ p : SP2, ixD (stD p) (.int 1) S = some (dF p.2, S) := fun p => by simp [stD, ixD]
    have nt := ne_stD (S := S) (sst p) (sst q)
    have eu : ∀ p : SP2, DV.tup [dI (sortI p.1), dF p.2] = stD (sst p) := fun p => rfl
    have test : dAnd (dTest (dOp gtD (dCB lenD (dCons (dVar 7) dNil)) (dC (.int 1)))) (dTest (dOp neD (dTup (dCons (dCB (sortBD false) (dCons (dOp ixD (dOp ixD (dVar 7) (dC (.int 0))) (dC (.int 0))) dNil)) (dCons (dOp ixD (dOp ixD (dVar 7) (dC (.int 0))) (dC (.int 1))) dNil))) (dTup (dCons (dCB (sortBD false) (dCons (dOp ixD (dOp ixD (dVar 7) (dC (.int 1))) (dC (.int 0))) dNil)) (dCons (dOp ixD (dOp ixD (dVar 7) (dC (.int 1))) (dC (.int 1))) dNil))))) s S = some (!decide (sst p = sst q), S) := by
      have g1 : decide ((1 : Int) < ((r.length + 1 + 1 : Nat) : Int)) = true := decide_eq_true (by omega)
      simp only [dAnd, dTest, dOp, dCB, dCons, dTup, v7, bnd_some', dNil, le, dC, gtD_int, List.length_cons, g1, if_true, i0, i1, a0, a1, sort_dI, List.length_cons, List.length_nil]
      rw [gate_ok (by decide)]
      simp only [bnd_some', i0, i1, a0, a1, sort_dI, List.length_cons, List.length_nil]
      rw [gate_ok (by decide)]
      simp only [bnd_some', eu, nt]
    by_cases hpq : sst p = sst q
    · rw [decide_eq_true hpq] at test
      refine ⟨[], ?_⟩
      rw [List.append_nil]
      unfold eSwap
      exact if_f test rfl
    · rw [decide_eq_false hpq] at test
      have F' : Fit ws w (q :: p :: r) := T.F.of (fun x hx => by
        rcases List.mem_cons.mp hx with rfl | hx
        · simp
        · rcases List.mem_cons.mp hx with rfl | hx
          · simp
          · simp [hx]) (by have := T.F.l; simpa using this)
      have e3 : dOp (addD false) (dLst false (dCons (dOp ixD (dVar 7) (dC (.int 1))) (dCons (dOp ixD (dVar 7) (dC (.int 0))) dNil))) (dSlL false (dVar 7) (doS (dC (.int 2))) doN) s S = some (.lst ((q :: p :: r).map stD), S) := by
        have sl := sl_from2 (fe := dVar 7) (s := s) (S := S) (d := stD p) (e := stD q) (ds := r.map stD) (v7 S) rfl
        have ll := T.F.l
        generalize dSlL false (dVar 7) (doS (dC (.int 2))) doN = SL at *
        simp only [dOp, dLst, dCons, v7, dC, bnd_some', i0, i1, dNil, List.length_cons, List.length_nil]
        rw [gate_ok (by decide)]
        simp only [bnd_some', newL_f, sl]
        rw [addD_lst, gate_ok (by simp at ll ⊢; omega)]
        rfl
      obtain ⟨X, u⟩ := un_made (s := s) T.h0 F' (fun ⟨_, _, e⟩ => by
        simp only [List.map_cons, List.cons.injEq] at e
        exact hpq e.1) (v5 S) (v3 S) (v4 S) e3
      refine ⟨X, ?_⟩
      unfold eSwap
      refine if_t test (if_f (S1 := S ++ X) ?_ rfl)
      simp only [dNot, dTest, u, bnd_some']
      rfl
theorem thing_ok (T : Th ws w n0 n1 done S) (hs : s.length = 12) (s3 : s[3]? = some (some (dI ws))) (s5 : s[5]? = some (some (.ptr n0))) : eThing s S = some (.nx s (S ++ [.dci []])) := by
  have v3 : ∀ S, dVar 3 s S = some (dI ws, S) := fun S => by simp only [dVar, s3]
  have hi : insOf (S ++ [.dci []]) (.ptr n0) = some (n0, ("History" : Str), hfl n0 ws) := HAt.ins (hm_app T.h0 [.dci []])
  have el : (dLst false (dCons (dC .non) (dCons (dC (.int 5)) (dCons (dC (.str "1 | 0")) (dCons (dVar 3) (dCons dDNewI dNil)))))) s S = some (.lst [.non, .int 5, .str "1 | 0", dI ws, .ptr S.length], S ++ [.dci []]) := by
    simp only [dLst, dCons, dC, v3, bnd_some', dNil, dDNewI, List.length_cons, List.length_nil]
    rw [gate_ok (by decide)]
    rfl
  have ho : ∀ y ∈ ([.non, .int 5, .str "1 | 0", dI ws, .ptr S.length] : List DV), isOth (S ++ [.dci []]) y = true := fun y hy => by
    simp only [List.mem_cons, List.not_mem_nil, or_false] at hy
    rcases hy with rfl | rfl | rfl | rfl | rfl
    · rfl
    · rfl
    · rfl
    · rfl
    · simp [isOth]
  have key := lcL_none (tgt := dName 11) (tt := dTest (dOp (othD "History") (dVar 5) (dVar 11))) (te := dC (.int 1)) (vs := [11]) (s := s) (S := S ++ [.dci []]) (acc := []) (xs := [.non, .int 5, .str "1 | 0", dI ws, .ptr S.length]) fun y hy => by
    refine ⟨(wipeD s [11]).set 11 (some y), rfl, ?_⟩
    have q1 : ((wipeD s [11]).set 11 (some y))[5]? = some (some (.ptr n0)) := by
      rw [List.getElem?_set_ne (by omega)]
      simp only [wipeD, List.foldl]
      rw [List.getElem?_set_ne (by omega)]
      exact s5
    have q2 : ((wipeD s [11]).set 11 (some y))[11]? = some (some y) := by
      rw [List.getElem?_set_self (by simp [wipeD]; omega)]
    simp only [dTest, dOp, dVar, q1, q2, bnd_some', othD, hi, true_and, ho y hy, if_true]
  have e := (lc_of (m := false) (fi := diL (dLst false (dCons (dC .non) (dCons (dC (.int 5)) (dCons (dC (.str "1 | 0")) (dCons (dVar 3) (dCons dDNewI dNil))))))) (it := .li (.lst [.non, .int 5, .str "1 | 0", dI ws, .ptr S.length])) (s := s) (S := S) (S1 := S ++ [.dci []]) (by simp only [diL, el, bnd_some']; rfl) rfl key (by simp)).trans rfl
  unfold eThing
  refine if_f (S1 := S ++ [.dci []]) ?_ rfl
  simp only [dTest, dOp, e, bnd_some', newL_f, lnil, ne_nil2]
end
theorem lap_ok {t : Dk} {G : Sto} {N : Int} {d0 o2 o3 o4 o5 o6 o7 o8 o9 o10 o11 : Option DV} (h : t.ok N) (hN : N < 2 ^ 28) :
    ∃ (p3 p4 p5 p6 p7 p8 p9 p10 p11 : Option DV) (t' : Dk) (G' : Sto), bodyL [d0, some (.ptr 1), o2, o3, o4, o5, o6, o7, o8, o9, o10, o11] (t.st G) = some (.nx [d0, some (.ptr 1), o2, p3, p4, p5, p6, p7, p8, p9, p10, p11] (t'.st G')) ∧ t'.ok (N + 3000) := by
  obtain ⟨ws, t1, e1, w0, wl, wf, k1⟩ := law_tanks_ok (G := G) (m := 8) h (by omega) (by decide) (by decide)
  have f : Flo ws := ⟨w0, wf, by omega⟩
  obtain ⟨w, t2, e2, lf, qf, k2⟩ := law_fall_ok (G := G) (ws := ws) k1 (by omega) wf w0 (by omega)
  have F0 : Fit ws w [] := ⟨f, lf, qf, fun _ h => (by cases h), fun _ h => (by cases h), fun _ h => (by cases h), by decide⟩
  obtain ⟨S0, hS0⟩ : ∃ S : Sto, S = t2.st G := ⟨_, rfl⟩
  obtain ⟨n0, hn0⟩ : ∃ n0, n0 = S0.length := ⟨_, rfl⟩
  have n02 : 2 ≤ n0 := by rw [hn0, hS0]; simp
  obtain ⟨S1, hS1⟩ : ∃ S : Sto, S = S0 ++ hobj S0.length ws [w] [] := ⟨_, rfl⟩
  obtain ⟨n1, hn1⟩ : ∃ n1, n1 = S1.length := ⟨_, rfl⟩
  have n13 : n0 + 3 ≤ n1 := by rw [hn1, hS1, hn0]; simp [hobj]
  obtain ⟨S2, hS2⟩ : ∃ S : Sto, S = S1 ++ hobj S1.length ws [w] [] := ⟨_, rfl⟩
  obtain ⟨G2, hG2⟩ : ∃ G', S2 = t2.st G' := ⟨G ++ (hobj S0.length ws [w] [] ++ hobj S1.length ws [w] []), by
    rw [hS2, hS1, List.append_assoc]
    conv => lhs; arg 1; rw [hS0]
    exact dk_app⟩
  have A0 : HM S1 n0 ws w [] := by rw [hS1, hn0]; exact hobj_atN
  have A1 : HM S2 n1 ws w [] := by rw [hS2, hn1]; exact hobj_atN
  have A0' : HM S2 n0 ws w [] := by rw [hS2]; exact hm_app A0 _
  have mk0 := make_okJ (j := 0) (s := [d0, some (.ptr 1), o2, some (dI ws), some (dF w), o5, o6, o7, o8, o9, o10, o11]) (S := S0) (S1 := S0) (fa := dCons (dVar 3) (dCons (dVar 4) dNil)) f F0.W (by decide) (cons2 rfl rfl)
  have mk1 := make_okJ (j := 0) (s := [d0, some (.ptr 1), o2, some (dI ws), some (dF w), o5, o6, o7, o8, o9, o10, o11]) (S := S1) (S1 := S1) (fa := dCons (dVar 3) (dCons (dVar 4) dNil)) f F0.W (by decide) (cons2 rfl rfl)
  rw [← hS1, ← hn0] at mk0
  rw [← hS2, ← hn1] at mk1
  have T0 : Th ws w n0 n1 [] S2 := ⟨A0', A1, F0⟩
  obtain ⟨rn, t3, e3, a3, b3, k3⟩ := take_ok (G := G2) (m := 17) k2 (by omega) (by decide) (by decide)
  obtain ⟨r, rfl⟩ : ∃ r : Nat, rn = (r : Int) := ⟨rn.toNat, by omega⟩
  rw [hG2] at T0
  have T1 := T0.dk (t' := t3) n02 n13
  obtain ⟨s', S', e4, t4, G4, done, q8, q9, q10, rfl, rfl, k4, T4⟩ := forL_inv (tgt := dName 8) (body := bodyT) (fun k s S => ∃ (t : Dk) (G : Sto) (done : List SP2) (q8 q9 q10 : Option DV), s = [d0, some (.ptr 1), o2, some (dI ws), some (dF w), some (.ptr n0), some (.ptr n1), some (.lst (done.map stD)), q8, q9, q10, o11] ∧ S = t.st G ∧ t.ok (N + 200 + 100 * k) ∧ Th ws w n0 n1 done (t.st G))
    (xs := (List.range r).map fun i => DV.int (0 + (i : Nat))) (s := [d0, some (.ptr 1), o2, some (dI ws), some (dF w), some (.ptr n0), some (.ptr n1), some (.lst []), o8, o9, o10, o11]) (S := t3.st G2) (k := 0)
    ⟨t3, G2, [], o8, o9, o10, rfl, rfl, k3.mono (by omega), T1⟩ (by
      rintro i x s S hx ⟨t, G, done, q8, q9, q10, rfl, rfl, hk, T⟩
      have hi : i < r := by
        have h := (List.getElem?_eq_some_iff.mp hx).1
        rw [List.length_map, List.length_range] at h
        exact h
      obtain ⟨t', G', done', p9, p10, e, k, T'⟩ := turn_ok (d0 := d0) (o2 := o2) (o8 := some x) (o9 := q9) (o10 := q10) (o11 := o11) hk (by omega) n02 n13 T
      exact ⟨_, _, _, _, rfl, .inl e, t', G', done', some x, p9, p10, rfl, rfl, k.mono (by omega), T'⟩)
  rw [List.length_map, List.length_range, Nat.zero_add] at k4
  obtain ⟨s4, hs4⟩ : ∃ s4 : Sl, s4 = [d0, some (.ptr 1), o2, some (dI ws), some (dF w), some (.ptr n0), some (.ptr n1), some (.lst (done.map stD)), q8, q9, q10, o11] := ⟨_, rfl⟩
  have v3 : ∀ S, dVar 3 s4 S = some (dI ws, S) := fun S => by rw [hs4]; rfl
  have v4 : ∀ S, dVar 4 s4 S = some (dF w, S) := fun S => by rw [hs4]; rfl
  have v5 : ∀ S, dVar 5 s4 S = some (.ptr n0, S) := fun S => by rw [hs4]; rfl
  have v6 : ∀ S, dVar 6 s4 S = some (.ptr n1, S) := fun S => by rw [hs4]; rfl
  have v7 : ∀ S, dVar 7 s4 S = some (.lst (done.map stD), S) := fun S => by rw [hs4]; rfl
  have x1 := own_ok T4 v5 v6 v7
  have x2 := oth_ok T4 v3 v4 v5 v7
  obtain ⟨X, x3⟩ := swap_ok T4 v3 v4 v5 v7
  have x4 := thing_ok (T4.app X) (s := s4) (by rw [hs4]; rfl) (by rw [hs4]; rfl) (by rw [hs4]; rfl)
  have hr : RgS (r : Int) := rgS_of (by omega) (by omega)
  refine ⟨some (dI ws), some (dF w), some (.ptr n0), some (.ptr n1), some (.lst (done.map stD)), q8, q9, q10, o11, t4, G4 ++ X ++ [.dci []], ?_, k4.mono (by omega)⟩
  unfold bodyL
  refine seq_nx (asg_name (d := dI ws) (S1 := t1.st G) ((call2 rfl rfl).trans e1)) ?_
  refine seq_nx (asg_name (d := dF w) (S1 := t2.st G) ((call2 rfl rfl).trans e2)) ?_
  refine seq_nx (s1 := [d0, some (.ptr 1), o2, some (dI ws), some (dF w), some (.ptr n0), some (.ptr n1), o7, o8, o9, o10, o11]) (S1 := S2) ?_ ?_
  · have tp : dTup (dCons (dMake "History" 3 f_History_init_r [] (dCons (dVar 3) (dCons (dVar 4) dNil))) (dCons (dMake "History" 3 f_History_init_r [] (dCons (dVar 3) (dCons (dVar 4) dNil))) dNil)) [d0, some (.ptr 1), o2, some (dI ws), some (dF w), o5, o6, o7, o8, o9, o10, o11] S0 = some (.tup [.ptr n0, .ptr n1], S2) := by
      simp only [dTup, dCons, mk0, mk1, bnd_some', dNil, List.length_cons, List.length_nil]
      rw [gate_ok (by decide)]
    rw [← hS0]
    show dAsg _ _ [d0, some (.ptr 1), o2, some (dI ws), some (dF w), o5, o6, o7, o8, o9, o10, o11] S0 = _
    unfold dAsg
    rw [tp, bnd_some']
    simp
  refine seq_nx (asg_name (d := .lst []) (S1 := S2) lnil) ?_
  rw [hG2]
  refine seq_nx (for_of (it := .rg 0 r) (S1 := t3.st G2) ?_ rfl e4) ?_
  · have ec : dCall 2 f_law_take_z [] (dCons (dVar 1) (dCons (dC (.int 17)) dNil)) (List.set [d0, some (.ptr 1), o2, some (dI ws), some (dF w), some (.ptr n0), some (.ptr n1), o7, o8, o9, o10, o11] 7 (some (.lst []))) (t2.st G2) = some (.int (r : Nat), t3.st G2) := (call2 rfl rfl).trans e3
    simp only [diR1, dCons, ec, bnd_some', dNil]
    have hr' : -2 ^ 62 ≤ (r : Int) ∧ (r : Int) < 2 ^ 62 := by omega
    rw [gate_ok hr']
    rfl
  rw [← hs4]
  exact seq_nx x1 (seq_nx x2 (seq_nx x3 x4))
theorem law_true : ∀ ns : List Int, ns.length ≤ 63 → ∃ S', f_law_z [.rls (ns.map DL.DV.int)] [] = some (.bl true, S') := by
  intro ns hns
  obtain ⟨t0, e0, k0⟩ := law_deck_ok hns
  obtain ⟨n, hn, hn2⟩ : ∃ n : Nat, 2 + (if (ns.length : Int) < 4 then (ns.length : Int) else 4) = (n : Int) ∧ n ≤ 6 := ⟨(2 + (if (ns.length : Int) < 4 then (ns.length : Int) else 4)).toNat, by split <;> omega, by split <;> omega⟩
  obtain ⟨s', S', e, _⟩ := forL_inv (tgt := dName 2) (body := bodyL) (fun k s S => ∃ o2 o3 o4 o5 o6 o7 o8 o9 o10 o11 t G, s = [some (.rls (ns.map DV.int)), some (.ptr 1), o2, o3, o4, o5, o6, o7, o8, o9, o10, o11] ∧ S = Dk.st t G ∧ t.ok (3000 * k))
    (xs := (List.range n).map fun i => DV.int (0 + (i : Nat))) (s := [some (.rls (ns.map DV.int)), some (.ptr 1), none, none, none, none, none, none, none, none, none, none]) (S := t0.st []) (k := 0)
    ⟨_, _, _, _, _, _, _, _, _, _, _, _, rfl, rfl, k0⟩ (by
      rintro i x s S hx ⟨o2, o3, o4, o5, o6, o7, o8, o9, o10, o11, t, G, rfl, rfl, hk⟩
      have hi : i < n := by simpa using (List.getElem?_eq_some_iff.mp hx).1
      obtain ⟨p3, p4, p5, p6, p7, p8, p9, p10, p11, t', G', e, k⟩ := lap_ok (d0 := some (.rls (ns.map DV.int))) (G := G) (o2 := some x) (o3 := o3) (o4 := o4) (o5 := o5) (o6 := o6) (o7 := o7) (o8 := o8) (o9 := o9) (o10 := o10) (o11 := o11) hk (by omega)
      exact ⟨_, _, _, _, rfl, .inl e, _, p3, p4, p5, p6, p7, p8, p9, p10, p11, t', G', rfl, rfl, k.mono (by omega)⟩)
  have hr : RgS (n : Int) := rgS_of (by omega) (by omega)
  refine ⟨[], fn_rt (d := .bl true) (S1 := S') ?_ exF_bl⟩
  refine seq_nx (asg_name (d := .ptr 1) (S1 := t0.st []) (by simp [e0])) (seq_nx (for_of (it := .rg 0 n) (S1 := t0.st []) ?_ rfl e) (ret_of rfl))
  simp [hn, hr]
end FB.K10
end
section
open DL FW
open PySem PySem.W PyProof.Rows
set_option maxHeartbeats 0 in
set_option maxRecDepth 100000 in
theorem PySem.Challenge.cw_flapwater_k10_undone_and_equal_holds : PySem.Challenge.rw_flapwater_k10_undone_and_equal.Holds := by
  w_on; o_law; k_head; (case hw => w_witness2)
  k_fill
  refine L2.walk_of (l := PySem.Challenge.rw_flapwater_k10_undone_and_equal) (n := 63) (k := 10) (x := "script") (CX := fun _ => L2.CX0) (sp := fun w => DL.spLaw _) rfl (by decide) rfl ⟨rfl, by decide, by decide⟩ (fun w h Y => PySem.W.kIn_of Y) ?F (fun _ _ a ns hl _ hS => ⟨a, ns, rfl, hS, hl, fun _ => rfl⟩) (fun _ _ _ _ _ h => h)
  case F =>
    intro w mg fa h KX G hmg
    refine' FB.K10.all_mk KX G hmg ?oa0 ?og0 ?oh0 ?op0 ?os0 ?om0 ?ok0 ?oe0 ?ob0 ?ia0 ?in0 ?it0 ?xl0 ?xd0 ?xc0 ?on0_floors ?on0_steps ?on0_waters ?a0 ?i0 ?l0 ?c0 ?k0 ?a1 ?l1 ?c1 ?k1 ?a2 ?l2 ?c2 ?k2 ?a3 ?l3 ?c3 ?k3 ?a4 ?l4 ?c4 ?k4 ?a5 ?l5 ?c5 ?k5 ?a6 ?l6 ?c6 ?k6 ?a7 ?l7 ?c7 ?k7 ?a8 ?l8 ?c8 ?k8 ?a9 ?l9 ?c9 ?k9 ?a10 ?l10 ?c10 ?k10 ?a11 ?l11 ?c11 ?k11 ?a12 ?l12 ?c12 ?k12 ?a13 ?l13 ?c13 ?k13 ?t13 ?u13 ?w13 ?x13 ?a14 ?i14 ?l14 ?c14 ?k14 ?a15 ?i15 ?l15 ?c15 ?k15 ?t15 ?u15 ?a16 ?l16 ?c16 ?k16 ?a17 ?l17 ?c17 ?k17 ?a18 ?l18 ?c18 ?k18 ?a19 ?i19 ?l19 ?c19 ?k19 ?a20 ?i20 ?l20 ?c20 ?k20 ?a21 ?i21 ?l21 ?c21 ?k21 ?t21 ?u21 ?a22 ?l22 ?c22 ?k22 ?a23 ?l23 ?c23 ?k23 ?a24 ?i24 ?l24 ?c24 ?k24 ?a25 ?l25 ?c25 ?k25 ?a26 ?i26 ?l26 ?c26 ?k26 ?a27 ?l27 ?c27 ?k27 ?a28 ?l28 ?c28 ?k28 ?a29 ?l29 ?c29 ?k29 ?a30 ?l30 ?c30 ?k30 ?a31 ?l31 ?c31 ?k31 ?a32 ?l32 ?c32 ?k32 ?a33 ?l33 ?c33 ?k33 ?z0_bounds ?z_NotImplemented ?z_abs ?z_enumerate ?z_isinstance ?z_len ?z_list ?z_min ?z_range ?z_sorted ?z_sum ?z_zip ?h_NOUGHT ?l_NOUGHT ?s_NOUGHT ?v_NOUGHT ?h_gcd FB.K10.law_true
    (case oa0 => k_is)
    (case og0 => k_is)
    (case oh0 => k_is)
    (case op0 => k_is)
    (case os0 => k_is)
    (case om0 => k_is)
    (case ok0 => k_is)
    (case oe0 => k_is)
    (case ob0 => k_is)
    (case ia0 => k_is)
    (case in0 => k_is)
    (case it0 => k_is)
    (case xl0 => k_is)
    (case xd0 => k_is)
    (case xc0 => k_is)
    (case on0_floors => k_is)
    (case on0_steps => k_is)
    (case on0_waters => k_is)
    (case a0 => k_is)
    (case i0 => k_is)
    (case l0 => k_is)
    (case c0 => k_is)
    (case k0 => k_is)
    (case a1 => k_is)
    (case l1 => k_is)
    (case c1 => k_is)
    (case k1 => k_is)
    (case a2 => k_is)
    (case l2 => k_is)
    (case c2 => k_is)
    (case k2 => k_is)
    (case a3 => k_is)
    (case l3 => k_is)
    (case c3 => k_is)
    (case k3 => k_is)
    (case a4 => k_is)
    (case l4 => k_is)
    (case c4 => k_is)
    (case k4 => k_is)
    (case a5 => k_is)
    (case l5 => k_is)
    (case c5 => k_is)
    (case k5 => k_is)
    (case a6 => k_is)
    (case l6 => k_is)
    (case c6 => k_is)
    (case k6 => k_is)
    (case a7 => k_is)
    (case l7 => k_is)
    (case c7 => k_is)
    (case k7 => k_is)
    (case a8 => k_is)
    (case l8 => k_is)
    (case c8 => k_is)
    (case k8 => k_is)
    (case a9 => k_is)
    (case l9 => k_is)
    (case c9 => k_is)
    (case k9 => k_is)
    (case a10 => k_is)
    (case l10 => k_is)
    (case c10 => k_is)
    (case k10 => k_is)
    (case a11 => k_is)
    (case l11 => k_is)
    (case c11 => k_is)
    (case k11 => k_is)
    (case a12 => k_is)
    (case l12 => k_is)
    (case c12 => k_is)
    (case k12 => k_is)
    (case a13 => k_is)
    (case l13 => k_is)
    (case c13 => k_is)
    (case k13 => k_is)
    (case t13 => k_is)
    (case u13 => rfl)
    (case w13 => k_is)
    (case x13 => rfl)
    (case a14 => k_is)
    (case i14 => k_is)
    (case l14 => k_is)
    (case c14 => k_is)
    (case k14 => k_is)
    (case a15 => k_is)
    (case i15 => k_is)
    (case l15 => k_is)
    (case c15 => k_is)
    (case k15 => k_is)
    (case t15 => k_is)
    (case u15 => rfl)
    (case a16 => k_is)
    (case l16 => k_is)
    (case c16 => k_is)
    (case k16 => k_is)
    (case a17 => k_is)
    (case l17 => k_is)
    (case c17 => k_is)
    (case k17 => k_is)
    (case a18 => k_is)
    (case l18 => k_is)
    (case c18 => k_is)
    (case k18 => k_is)
    (case a19 => k_is)
    (case i19 => k_is)
    (case l19 => k_is)
    (case c19 => k_is)
    (case k19 => k_is)
    (case a20 => k_is)
    (case i20 => k_is)
    (case l20 => k_is)
    (case c20 => k_is)
    (case k20 => k_is)
    (case a21 => k_is)
    (case i21 => k_is)
    (case l21 => k_is)
    (case c21 => k_is)
    (case k21 => k_is)
    (case t21 => k_is)
    (case u21 => rfl)
    (case a22 => k_is)
    (case l22 => k_is)
    (case c22 => k_is)
    (case k22 => k_is)
    (case a23 => k_is)
    (case l23 => k_is)
    (case c23 => k_is)
    (case k23 => k_is)
    (case a24 => k_is)
    (case i24 => k_is)
    (case l24 => k_is)
    (case c24 => k_is)
    (case k24 => k_is)
    (case a25 => k_is)
    (case l25 => k_is)
    (case c25 => k_is)
    (case k25 => k_is)
    (case a26 => k_is)
    (case i26 => k_is)
    (case l26 => k_is)
    (case c26 => k_is)
    (case k26 => k_is)
    (case a27 => k_is)
    (case l27 => k_is)
    (case c27 => k_is)
    (case k27 => k_is)
    (case a28 => k_is)
    (case l28 => k_is)
    (case c28 => k_is)
    (case k28 => k_is)
    (case a29 => k_is)
    (case l29 => k_is)
    (case c29 => k_is)
    (case k29 => k_is)
    (case a30 => k_is)
    (case l30 => k_is)
    (case c30 => k_is)
    (case k30 => k_is)
    (case a31 => k_is)
    (case l31 => k_is)
    (case c31 => k_is)
    (case k31 => k_is)
    (case a32 => k_is)
    (case l32 => k_is)
    (case c32 => k_is)
    (case k32 => k_is)
    (case a33 => k_is)
    (case l33 => k_is)
    (case c33 => k_is)
    (case k33 => k_is)
    (case z0_bounds => k_is)
    (case z_NotImplemented => k_is)
    (case z_abs => k_is)
    (case z_enumerate => k_is)
    (case z_isinstance => k_is)
    (case z_len => k_is)
    (case z_list => k_is)
    (case z_min => k_is)
    (case z_range => k_is)
    (case z_sorted => k_is)
    (case z_sum => k_is)
    (case z_zip => k_is)
    (case h_NOUGHT => k_is)
    (case l_NOUGHT => k_is)
    (case s_NOUGHT => decide)
    (case v_NOUGHT => exact (.cons ⟨_, rfl⟩ (.cons ⟨_, rfl⟩ .nil)))
    (case h_gcd => k_is)
end
