import PyProof.Rows.All
import Wide.All
import OpenK.AllK
import Wide.FinOn
import HandS.ForMost
import HandS.Exc
import HandS.TryOnly
import HandS.ExcOwn
import HandS.WordsExc
import HandS.Wide
import HandS.IsInst
import HandS.Defaults
import HandS.Rev
import HandS.RevTup
import HandS.Star
import HandS.TupAny
import HandS.TupMul
import HandS.Conv
import HandS.Flow
import HandS.Small
import HandS.Lambda
import HandS.Style
import HandS.TupLe
import HandS.AnyAll
import HandS.HeadWalk
import HandS.HeadHook4
import HandS.Head2
import HandS.Deep
import HandS.Strs
import KE.DataAny
import HandS.Dict
import HandS.SortInts
import PyProof.EqKinds
import PyProof.FactsAll.dict
import HandS.ExcIs
import HandS.SetFor
import PyProof.ExcBaseAll.ValueError
import HandS.ExcInit
import HandS.ExcField
import KE.KExcIs
import KE.OsArith
import KE.BitLaws
import PySem.Challenge.RW_cutledger_k07_checks_refused
set_option Elab.async false
set_option linter.all false
set_option maxRecDepth 100000
set_option maxHeartbeats 2000000
/-! Ab: data inline. Tuples and texts are plain data (D), what changes stands in an abstract store (M). -/
namespace Ab
open PySem PySem.Spec PyProof.Rows L2

inductive D where
  | non | bl (b : Bool) | int (i : Int) | str (x : Str) | tup (ds : List D) | fls (ds : List D) | ref (a : Addr) | ty (n : String)

/-- a list that nobody changes -/
def FrL (K : PySem.W.Frag) (H : Hp) (a : Addr) (xs : List V) : Prop := (∃ o, H a = some (.frz o (.lst xs))) ∨
    ∃ (o : Obj) (its : Array Value) (n : Nat), K.lookup a = some o ∧ o.cls = .type "list" ∧ o.dict = none ∧ o.data = .seq its n ∧ its.size ≤ sizeLine ∧ Vals xs its.toList
theorem FrL.sq {K : PySem.W.Frag} {H : Hp} {a : Addr} {xs : List V} (h : FrL K H a xs) : SqL K H a xs := by
  rcases h with ⟨o, h⟩ | h
  · exact .inl (.inr ⟨o, h⟩)
  · exact .inr h

mutual
def Rep (K : PySem.W.Frag) (H : Hp) : D → V → Prop
  | .non, v => v = .non
  | .bl b, v => v = .bl b
  | .int i, v => v = .int i
  | .str x, v => v = .str x
  | .ty n, v => v = .ty n
  | .ref a, v => v = .ref a
  | .tup ds, v => ∃ a xs, v = .ref a ∧ SqT K H a xs ∧ Reps K H ds xs
  | .fls ds, v => ∃ a xs, v = .ref a ∧ FrL K H a xs ∧ Reps K H ds xs
def Reps (K : PySem.W.Frag) (H : Hp) : List D → List V → Prop
  | [], xs => xs = []
  | d :: ds, xs => ∃ x r, xs = x :: r ∧ Rep K H d x ∧ Reps K H ds r
end

/-- what stays whatever runs -/
def Tx (H H' : Hp) : Prop := (∀ a xs, H a = some (.tup xs) → H' a = some (.tup xs)) ∧ ∀ a o u, H a = some (.frz o u) → H' a = some (.frz o u)
theorem Tx.refl (H : Hp) : Tx H H := ⟨fun _ _ h => h, fun _ _ _ h => h⟩
theorem Tx.trans {H H1 H2 : Hp} (a : Tx H H1) (b : Tx H1 H2) : Tx H H2 := ⟨fun x xs h => b.1 x xs (a.1 x xs h), fun x o u h => b.2 x o u (a.2 x o u h)⟩
theorem Tx.new {H : Hp} {p : Addr} {o : HO} (h : H p = none) : Tx H (upd H p o) := ⟨fun a xs e => by rw [upd_ne (ne_of_none e h)]; exact e, fun a xs u e => by rw [upd_ne (ne_of_none e h)]; exact e⟩
theorem Tx.mut {H : Hp} {p : Addr} {o u : HO} (h : H p = some u) (hu : Mut (some u)) : Tx H (upd H p o) := by
  refine ⟨fun a xs e => ?_, fun a ob x e => ?_⟩
  · rw [upd_ne fun z => ?_]; exact e
    rw [z, h] at e; cases e; exact hu
  · rw [upd_ne fun z => ?_]; exact e
    rw [z, h] at e; cases e; exact hu
section
variable {K : PySem.W.Frag} {H H' : Hp}
theorem sqT_tx {a : Addr} {xs : List V} (t : Tx H H') (h : SqT K H a xs) : SqT K H' a xs := by
  rcases h with (h | ⟨o, h⟩) | h
  · exact .inl (.inl (t.1 _ _ h))
  · exact .inl (.inr ⟨o, t.2 _ _ _ h⟩)
  · exact .inr h
theorem FrL.tx {a : Addr} {xs : List V} (t : Tx H H') (h : FrL K H a xs) : FrL K H' a xs := by
  rcases h with ⟨o, h⟩ | h
  · exact .inl ⟨o, t.2 _ _ _ h⟩
  · exact .inr h
mutual
theorem Rep.mono (t : Tx H H') : ∀ {d : D} {v : V}, Rep K H d v → Rep K H' d v
  | .non, _, h => h
  | .bl _, _, h => h
  | .int _, _, h => h
  | .str _, _, h => h
  | .ty _, _, h => h
  | .ref _, _, h => h
  | .tup ds, _, ⟨a, xs, e, s, r⟩ => ⟨a, xs, e, sqT_tx t s, Reps.mono t r⟩
  | .fls ds, _, ⟨a, xs, e, s, r⟩ => ⟨a, xs, e, FrL.tx t s, Reps.mono t r⟩
theorem Reps.mono (t : Tx H H') : ∀ {ds : List D} {vs : List V}, Reps K H ds vs → Reps K H' ds vs
  | [], _, h => h
  | d :: ds, _, ⟨x, r, e, h, hr⟩ => ⟨x, r, e, Rep.mono t h, Reps.mono t hr⟩
end
theorem Reps.length : ∀ {ds : List D} {vs : List V}, Reps K H ds vs → ds.length = vs.length
  | [], _, h => by rw [show _ = [] from h]; rfl
  | d :: ds, _, ⟨x, r, e, h, hr⟩ => by rw [e]; exact congrArg (· + 1) (Reps.length hr)
theorem Reps.append : ∀ {ds es : List D} {vs us : List V}, Reps K H ds vs → Reps K H es us → Reps K H (ds ++ es) (vs ++ us)
  | [], _, _, _, h, h2 => by rw [show _ = [] from h]; exact h2
  | d :: ds, _, _, _, ⟨x, r, e, h, hr⟩, h2 => by rw [e]; exact ⟨x, r ++ _, rfl, h, Reps.append hr h2⟩
theorem Reps.get : ∀ {ds : List D} {vs : List V} {i : Nat} {d : D}, Reps K H ds vs → ds[i]? = some d → ∃ v, vs[i]? = some v ∧ Rep K H d v
  | [], _, i, _, h, e => by simp at e
  | d :: ds, _, 0, _, ⟨x, r, e, h, hr⟩, q => by rw [e]; simp at q; subst q; exact ⟨x, rfl, h⟩
  | d :: ds, _, i + 1, _, ⟨x, r, e, h, hr⟩, q => by rw [e]; exact Reps.get (ds := ds) (vs := r) (i := i) hr (by simpa using q)
theorem Reps.get' : ∀ {ds : List D} {vs : List V} {i : Nat} {v : V}, Reps K H ds vs → vs[i]? = some v → ∃ d, ds[i]? = some d ∧ Rep K H d v
  | [], _, i, _, h, e => by rw [show _ = [] from h] at e; simp at e
  | d :: ds, _, 0, _, ⟨x, r, e, h, hr⟩, q => by rw [e] at q; simp at q; subst q; exact ⟨d, rfl, h⟩
  | d :: ds, _, i + 1, _, ⟨x, r, e, h, hr⟩, q => by rw [e] at q; exact Reps.get' (ds := ds) (vs := r) (i := i) hr (by simpa using q)
theorem Reps.take : ∀ {ds : List D} {vs : List V} (n : Nat), Reps K H ds vs → Reps K H (ds.take n) (vs.take n)
  | _, _, 0, _ => by simp [Reps]
  | [], _, n + 1, h => by rw [show _ = [] from h]; simp [Reps]
  | d :: ds, _, n + 1, ⟨x, r, e, h, hr⟩ => by rw [e]; exact ⟨x, _, rfl, h, Reps.take n hr⟩
theorem Reps.drop : ∀ {ds : List D} {vs : List V} (n : Nat), Reps K H ds vs → Reps K H (ds.drop n) (vs.drop n)
  | _, _, 0, h => h
  | [], _, n + 1, h => by rw [show _ = [] from h]; simp [Reps]
  | d :: ds, _, n + 1, ⟨x, r, e, h, hr⟩ => by rw [e]; exact Reps.drop (ds := ds) n hr
theorem Reps.reverse : ∀ {ds : List D} {vs : List V}, Reps K H ds vs → Reps K H ds.reverse vs.reverse
  | [], _, h => by rw [show _ = [] from h]; rfl
  | d :: ds, _, ⟨x, r, e, h, hr⟩ => by
    rw [e, List.reverse_cons, List.reverse_cons]
    exact Reps.append (Reps.reverse hr) ⟨x, [], rfl, h, rfl⟩
theorem Reps.replicate {d : D} {v : V} (h : Rep K H d v) : ∀ n : Nat, Reps K H (List.replicate n d) (List.replicate n v)
  | 0 => rfl
  | n + 1 => ⟨v, _, rfl, h, Reps.replicate h n⟩
theorem Reps.flat {ds : List D} {vs : List V} (h : Reps K H ds vs) : ∀ n : Nat, Reps K H (List.replicate n ds).flatten (List.replicate n vs).flatten
  | 0 => rfl
  | n + 1 => by rw [List.replicate_succ, List.replicate_succ, List.flatten_cons, List.flatten_cons]; exact Reps.append h (Reps.flat h n)
theorem Reps.set : ∀ {ds : List D} {vs : List V} (i : Nat) {d : D} {v : V}, Reps K H ds vs → Rep K H d v → Reps K H (ds.set i d) (vs.set i v)
  | [], _, i, _, _, h, _ => by rw [show _ = [] from h]; rfl
  | d :: ds, _, 0, _, _, ⟨x, r, e, h, hr⟩, q => by rw [e]; exact ⟨_, r, rfl, q, hr⟩
  | d :: ds, _, i + 1, _, _, ⟨x, r, e, h, hr⟩, q => by rw [e]; exact ⟨x, _, rfl, h, Reps.set i hr q⟩
/-- ints stand for themselves -/
theorem Reps.ints : ∀ {ns : List Int} {vs : List V}, Reps K H (ns.map D.int) vs → vs = ns.map V.int
  | [], _, h => h
  | n :: ns, _, ⟨x, r, e, h, hr⟩ => by rw [e, show x = V.int n from h, Reps.ints hr]; rfl
theorem Reps.of_ints : ∀ ns : List Int, Reps K H (ns.map D.int) (ns.map V.int)
  | [] => rfl
  | n :: ns => ⟨_, _, rfl, rfl, Reps.of_ints ns⟩
end

/-- an object that is known for good -/
def Kd (o : Obj) : HO := .frz o (.ext fun _ => True)
theorem kd_ok {P : Program} {w : World} {H : Hp} {h : Heap} {a : Addr} {o : Obj} (e : h.get? a = some o) : ObjOk P w H h a (Kd o) := ⟨e, trivial, ⟨o, e⟩, fun _ _ _ _ => trivial⟩
theorem kd_get {P : Program} {w : World} {H : Hp} {h : Heap} {a : Addr} {o : Obj} (x : HOk P w H h) (e : H a = some (Kd o)) : h.get? a = some o := (x a _ e).1
theorem kd_tx {H H' : Hp} {a : Addr} {o : Obj} (t : Tx H H') (e : H a = some (Kd o)) : H' a = some (Kd o) := t.2 a _ _ e
/-- a code object of this name -/
def CodeK (H : Hp) (c : Addr) (q : Str) : Prop := ∃ (oc : Obj) (vs : Array Value) (t : Tok), H c = some (Kd oc) ∧ oc.data = .fields vs ∧ vs[1]? = some (.str q t)
theorem CodeK.tx {H H' : Hp} {c : Addr} {q : Str} (t : Tx H H') (x : CodeK H c q) : CodeK H' c q :=
  let ⟨oc, vs, tk, a, b⟩ := x; ⟨oc, vs, tk, kd_tx t a, b⟩
/-- a table of code objects, all of one name -/
def TabK (H : Hp) (P : Addr) (q : Str) : Prop := ∃ ps : Array Value, H P = some (.tbl ps) ∧ TriplesOk ps.toList ∧ ∀ (pos : Pos) (cv : Value), codeAmong pos ps.toList = some cv → ∃ c, cv = .ref c ∧ CodeK H c q
/-- the syntax of a lambda without parameters -/
structure LSyn where
  params : Arguments
  body : Expr
  scope : Scope
  qual : Str
/-- a lambda with the cells that it captured -/
def FnK (H : Hp) (f : Addr) (L : LSyn) (cl : List (Str × Addr)) : Prop := ∃ (c' : Addr) (pm ctv : Value), H f = some (Kd (PySem.W.kla_obj "<lambda>" L.qual L.params L.body L.scope cl pm c' ctv)) ∧ CodeK H c' L.qual
theorem FnK.tx {H H' : Hp} {f : Addr} {L : LSyn} {cl : List (Str × Addr)} (t : Tx H H') (x : FnK H f L cl) : FnK H' f L cl :=
  let ⟨c', pm, ctv, a, b⟩ := x; ⟨c', pm, ctv, kd_tx t a, b.tx t⟩
/-- the cells of a lambda hold these values -/
def CellsK (H : Hp) (ys : List Str) (cl : List (Str × Addr)) (vs : List V) : Prop := ∀ (i : Nat) (y : Str), ys[i]? = some y → ∃ (c : Addr) (v : V) (w : Value) (o : Obj), cl.lookup y = some c ∧ vs[i]? = some v ∧ RelV v w ∧ H c = some (Kd o) ∧ o.data = .cell (some w)
/-- the names of a lambda without parameters: captured ones and globals -/
structure LSc (L : LSyn) (ys : List Str) : Prop where
  kind : L.scope.kind = .function
  co : L.scope.isCoroutine = false
  gen : L.scope.isGenerator = false
  own : ∀ y ∈ L.scope.names, y.2 ≠ .local ∧ y.2 ≠ .cell
  free : ∀ y ∈ L.scope.names, y.2 = .free → y.1 ∈ ys
  bind : ∀ (cl : List (Str × Addr)) (pm cv ctv : Value), bindArgs (PySem.W.kla_fn "<lambda>" L.qual L.params L.body L.scope cl pm cv ctv) ⟨[], []⟩ = pure []
/-- the cells stand under the captured names, each its own -/
structure ClK (H : Hp) (L : LSyn) (ys : List Str) (cl : List (Str × Addr)) (vs : List V) : Prop where
  cells : CellsK H ys cl vs
  only : ∀ y c, cl.lookup y = some c → ∃ i : Nat, ys[i]? = some y
  mem : ∀ c, c ∈ cl.map (·.2) → ∃ y, cl.lookup y = some c
  inj : ∀ x y c, cl.lookup x = some c → cl.lookup y = some c → x = y
  len : vs.length = ys.length
  has : ∀ y ∈ L.scope.names, y.2 = .free → ∃ c, cl.lookup y.1 = some c
theorem CellsK.tx {H H' : Hp} {ys : List Str} {cl : List (Str × Addr)} {vs : List V} (t : Tx H H') (x : CellsK H ys cl vs) : CellsK H' ys cl vs := fun i y h =>
  let ⟨c, v, w, o, a1, a2, a3, a4, a5⟩ := x i y h; ⟨c, v, w, o, a1, a2, a3, kd_tx t a4, a5⟩
theorem ClK.tx {H H' : Hp} {L : LSyn} {ys : List Str} {cl : List (Str × Addr)} {vs : List V} (t : Tx H H') (x : ClK H L ys cl vs) : ClK H' L ys cl vs := ⟨x.cells.tx t, x.only, x.mem, x.inj, x.len, x.has⟩
/-! ### the store of what changes -/
inductive O where
  | lst (ds : List D)
  | tab
  | dic (ps : List (Key × D))
  | ltab (q : Str)
  | fn (L : LSyn) (ys : List Str) (cap : List Nat) (cl : List (Str × Addr))
  | clo (L : LSyn) (ys : List Str) (ds : List D)
  | opq
  | xd (fs : List (Str × D))
abbrev M := Addr → Option O
def mset (m : M) (a : Addr) (o : O) : M := fun b => if b = a then some o else m b
theorem mset_same {m : M} {a : Addr} {o : O} : mset m a o a = some o := by unfold mset; rw [if_pos rfl]
theorem mset_ne {m : M} {a b : Addr} {o : O} (h : b ≠ a) : mset m a o b = m b := by unfold mset; rw [if_neg h]
theorem mset_mset {m : M} {a : Addr} {o u : O} : mset (mset m a o) a u = mset m a u := by funext b; unfold mset; split <;> rfl
def RepKV (K : PySem.W.Frag) (H : Hp) : List (Key × D) → List (Key × V) → Prop
  | [], l => l = []
  | (k, d) :: ps, l => ∃ v r, l = (k, v) :: r ∧ Rep K H d v ∧ RepKV K H ps r
theorem RepKV.mono {K : PySem.W.Frag} {H H' : Hp} (t : Tx H H') : ∀ {ps : List (Key × D)} {l : List (Key × V)}, RepKV K H ps l → RepKV K H' ps l
  | [], _, h => h
  | (k, d) :: ps, _, ⟨v, r, e, h, hr⟩ => ⟨v, r, e, h.mono t, RepKV.mono t hr⟩
def RelO (K : PySem.W.Frag) (H : Hp) (a : Addr) : O → Prop
  | .lst ds => ∃ xs, H a = some (.lst xs) ∧ Reps K H ds xs
  | .tab => ∃ ps, H a = some (.tbl ps) ∧ TriplesOk ps.toList
  | .dic ps => ∃ l, H a = some (.dK l) ∧ RepKV K H ps l
  | .ltab q => TabK H a q
  | .fn L _ _ cl => FnK H a L cl
  | .clo L ys ds => ∃ cl vs, FnK H a L cl ∧ ClK H L ys cl vs ∧ Reps K H ds vs
  | .opq => ∃ o fd, H a = some (Kd o) ∧ o.data = .func fd
  | .xd fs => ∃ vs, H a = some (.xd ((fs.map (·.1)).zip vs)) ∧ Reps K H (fs.map (·.2)) vs
theorem RelO.move {K : PySem.W.Frag} {H H' : Hp} {a : Addr} (t : Tx H H') (k : ∀ u, H a = some u → H' a = some u) : ∀ {o : O}, RelO K H a o → RelO K H' a o
  | .lst _, ⟨xs, q, z⟩ => ⟨xs, k _ q, z.mono t⟩
  | .tab, ⟨ps, q, z⟩ => ⟨ps, k _ q, z⟩
  | .dic _, ⟨l, q, z⟩ => ⟨l, k _ q, z.mono t⟩
  | .ltab _, ⟨ps, e, ht, ha⟩ => ⟨ps, k _ e, ht, fun pos cv hc => let ⟨c, a1, a2⟩ := ha pos cv hc; ⟨c, a1, a2.tx t⟩⟩
  | .fn _ _ _ _, x => FnK.tx t x
  | .clo _ _ _, ⟨cl, vs, f, c, r⟩ => ⟨cl, vs, f.tx t, c.tx t, r.mono t⟩
  | .opq, ⟨o, fd, e, d⟩ => ⟨o, fd, kd_tx t e, d⟩
  | .xd _, ⟨vs, q, z⟩ => ⟨vs, k _ q, z.mono t⟩
theorem RelO.there {K : PySem.W.Frag} {H : Hp} {a : Addr} : ∀ {o : O}, RelO K H a o → ∃ u, H a = some u
  | .lst _, ⟨_, q, _⟩ => ⟨_, q⟩
  | .tab, ⟨_, q, _⟩ => ⟨_, q⟩
  | .dic _, ⟨_, q, _⟩ => ⟨_, q⟩
  | .ltab _, ⟨_, q, _⟩ => ⟨_, q⟩
  | .fn _ _ _ _, ⟨_, _, _, q, _⟩ => ⟨_, q⟩
  | .clo _ _ _, ⟨_, _, ⟨_, _, _, q, _⟩, _⟩ => ⟨_, q⟩
  | .opq, ⟨_, _, q, _⟩ => ⟨_, q⟩
  | .xd _, ⟨_, q, _⟩ => ⟨_, q⟩
def RelM (K : PySem.W.Frag) (H : Hp) (m : M) : Prop := ∀ a o, m a = some o → RelO K H a o
def Sub (m m' : M) : Prop := ∀ a o, m a = some o → m' a = some o
theorem Sub.refl (m : M) : Sub m m := fun _ _ h => h
theorem Sub.trans {m m1 m2 : M} (a : Sub m m1) (b : Sub m1 m2) : Sub m m2 := fun x o h => b x o (a x o h)
theorem Sub.new {m : M} {p : Addr} {o : O} (h : m p = none) : Sub m (mset m p o) := fun a u e => by
  rw [mset_ne fun z => by rw [z, h] at e; cases e]; exact e
theorem Sub.mut {m m' : M} {p : Addr} {o : O} (s : Sub m m') (h : m p = none) : Sub m (mset m' p o) := fun a u e => by
  rw [mset_ne fun z => by rw [z, h] at e; cases e]; exact s a u e
theorem Sub.none {m m' : M} {p : Addr} (s : Sub m m') (h : m' p = none) : m p = none := by
  cases e : m p with
  | none => rfl
  | some o => rw [s p o e] at h; cases h
section
variable {K : PySem.W.Frag} {H H' : Hp} {m m' : M}
theorem RelM.sub (r : RelM K H m') (s : Sub m m') : RelM K H m := fun a o e => r a o (s a o e)
theorem RelM.free {p : Addr} (r : RelM K H m) (h : H p = none) : m p = none := by
  cases e : m p with
  | none => rfl
  | some o =>
    obtain ⟨u, q⟩ := (r p o e).there
    rw [h] at q; cases q
/-- a new object that the store does not tell of -/
theorem RelM.grow {p : Addr} {o : HO} (r : RelM K H m) (h : H p = none) : RelM K (upd H p o) m := fun a u e =>
  (r a u e).move (Tx.new h) fun v q => by rw [upd_ne (ne_of_none q h)]; exact q
theorem RelM.newL {p : Addr} {xs : List V} {ds : List D} (r : RelM K H m) (h : H p = none) (z : Reps K H ds xs) : RelM K (upd H p (.lst xs)) (mset m p (.lst ds)) := fun a u e => by
  by_cases hb : a = p
  · subst hb
    rw [mset_same] at e; cases e
    exact ⟨xs, upd_same, z.mono (Tx.new h)⟩
  · rw [mset_ne hb] at e
    exact r.grow h a u e
theorem RelM.putL {p : Addr} {xs ys : List V} {ds : List D} (r : RelM K H m) (h : H p = some (.lst ys)) (z : Reps K H ds xs) : RelM K (upd H p (.lst xs)) (mset m p (.lst ds)) := fun a u e => by
  have t : Tx H (upd H p (.lst xs)) := Tx.mut h trivial
  by_cases hb : a = p
  · subst hb
    rw [mset_same] at e; cases e
    exact ⟨xs, upd_same, z.mono t⟩
  · rw [mset_ne hb] at e
    exact (r a u e).move t fun v q => by rw [upd_ne hb]; exact q
theorem RelM.newD {p : Addr} {l : List (Key × V)} {ps : List (Key × D)} (r : RelM K H m) (h : H p = none) (z : RepKV K H ps l) : RelM K (upd H p (.dK l)) (mset m p (.dic ps)) := fun a u e => by
  by_cases hb : a = p
  · subst hb
    rw [mset_same] at e; cases e
    exact ⟨l, upd_same, z.mono (Tx.new h)⟩
  · rw [mset_ne hb] at e
    exact r.grow h a u e
theorem RelM.putD {p : Addr} {l l' : List (Key × V)} {ps : List (Key × D)} (r : RelM K H m) (h : H p = some (.dK l')) (z : RepKV K H ps l) : RelM K (upd H p (.dK l)) (mset m p (.dic ps)) := fun a u e => by
  have t : Tx H (upd H p (.dK l)) := Tx.mut h trivial
  by_cases hb : a = p
  · subst hb
    rw [mset_same] at e; cases e
    exact ⟨l, upd_same, z.mono t⟩
  · rw [mset_ne hb] at e
    exact (r a u e).move t fun v q => by rw [upd_ne hb]; exact q
end

/-! ### slots -/
abbrev En := List (Option D)
def En.g : En → Nat → Option D
  | [], _ => none
  | x :: _, 0 => x
  | _ :: r, i + 1 => En.g r i
def En.s : En → Nat → D → En
  | [], _, _ => []
  | _ :: r, 0, d => some d :: r
  | x :: r, i + 1, d => x :: En.s r i d
def En.x : En → Nat → En
  | [], _ => []
  | _ :: r, 0 => none :: r
  | x :: r, i + 1 => x :: En.x r i
def RelS (K : PySem.W.Frag) (H : Hp) (x : Option V) : Option D → Prop
  | none => True
  | some d => ∃ v, x = some v ∧ Rep K H d v
def RelE (K : PySem.W.Frag) (H : Hp) : L2.St → En → Prop
  | [], [] => True
  | x :: σ, e :: en => RelS K H x e ∧ RelE K H σ en
  | _, _ => False
section
variable {K : PySem.W.Frag} {H H' : Hp}
theorem RelE.mono (t : Tx H H') : ∀ {σ : L2.St} {e : En}, RelE K H σ e → RelE K H' σ e
  | [], [], _ => trivial
  | x :: σ, none :: en, h => ⟨trivial, RelE.mono t h.2⟩
  | x :: σ, some d :: en, h => ⟨let ⟨v, e, r⟩ := h.1; ⟨v, e, r.mono t⟩, RelE.mono t h.2⟩
  | [], _ :: _, h => h.elim
  | _ :: _, [], h => h.elim
theorem RelE.get : ∀ {σ : L2.St} {e : En} {i : Nat} {d : D}, RelE K H σ e → e.g i = some d → ∃ v, σ[i]? = some (some v) ∧ Rep K H d v
  | [], [], _, _, _, e => by simp [En.g] at e
  | x :: σ, y :: en, 0, d, h, e => by
    have e' : y = some d := e
    subst e'
    obtain ⟨v, q, r⟩ := h.1
    exact ⟨v, by simp [q], r⟩
  | x :: σ, y :: en, i + 1, d, h, e => by
    obtain ⟨v, q, r⟩ := RelE.get (i := i) h.2 e
    exact ⟨v, by simpa using q, r⟩
  | [], _ :: _, _, _, h, _ => h.elim
  | _ :: _, [], _, _, h, _ => h.elim
theorem RelE.set : ∀ {σ : L2.St} {e : En} (i : Nat) {d : D} {v : V}, RelE K H σ e → Rep K H d v → RelE K H (σ.set i (some v)) (e.s i d)
  | [], [], _, _, _, _, _ => trivial
  | x :: σ, y :: en, 0, d, v, h, r => ⟨⟨v, rfl, r⟩, h.2⟩
  | x :: σ, y :: en, i + 1, d, v, h, r => ⟨h.1, RelE.set i h.2 r⟩
  | [], _ :: _, _, _, _, h, _ => h.elim
  | _ :: _, [], _, _, _, h, _ => h.elim
theorem RelE.unset : ∀ {σ : L2.St} {e : En} (i : Nat), RelE K H σ e → RelE K H (σ.set i none) (e.x i)
  | [], [], _, _ => trivial
  | x :: σ, y :: en, 0, h => ⟨trivial, h.2⟩
  | x :: σ, y :: en, i + 1, h => ⟨h.1, RelE.unset i h.2⟩
  | [], _ :: _, _, h => h.elim
  | _ :: _, [], _, h => h.elim
def eStart (n : Nat) (ds : List D) : En := ds.map some ++ List.replicate (n - ds.length) none
theorem RelE.nones : ∀ (n : Nat), RelE K H (List.replicate n none) (List.replicate n none)
  | 0 => trivial
  | n + 1 => ⟨trivial, RelE.nones n⟩
theorem RelE.start0 (k : Nat) : ∀ {ds : List D} {vs : List V}, Reps K H ds vs → RelE K H (vs.map some ++ List.replicate k none) (ds.map some ++ List.replicate k none)
  | [], _, h => by rw [show _ = [] from h]; exact RelE.nones k
  | d :: ds, _, ⟨x, r, e, h, hr⟩ => by rw [e]; exact ⟨⟨x, rfl, h⟩, RelE.start0 k hr⟩
theorem RelE.start {N : List Str} {ds : List D} {vs : List V} (h : Reps K H ds vs) : RelE K H (L2.start N vs) (eStart N.length ds) := by
  unfold L2.start eStart
  rw [h.length]
  exact RelE.start0 _ h
end

/-! ### abstract readings and what they mean -/
structure Xn where
  cls : Addr
  fs : List (Str × D)
abbrev PQ := D → M → Prop
abbrev PX := Xn → M → Prop
abbrev AE := En → M → PQ → PX → Prop
abbrev AT := En → M → (Bool → M → Prop) → PX → Prop
abbrev AA := En → M → (List D → M → Prop) → PX → Prop
abbrev AG := D → En → M → (En → M → Prop) → Prop
structure AEnds where
  nx : En → M → Prop
  rt : PQ
  bk : En → M → Prop := fun _ _ => False
  ct : En → M → Prop := fun _ _ => False
  xe : En → PX
abbrev AS := AEnds → En → M → Prop
abbrev ASp := List D → M → PQ → PX → Prop
abbrev AR2 := D → D → M → PQ → Prop
abbrev AR1 := D → M → PQ → Prop
abbrev ARL := List D → M → PQ → Prop

def XRep (K : PySem.W.Frag) (H : Hp) (x : Xn) (cls : Value) (dd : Option Addr) : Prop := cls = .ref x.cls ∧ match x.fs with
  | [] => dd = none
  | fs => ∃ d vs, dd = some d ∧ H d = some (.xd ((fs.map (·.1)).zip vs)) ∧ Reps K H (fs.map (·.2)) vs
structure WOk (K : PySem.W.Frag) (W : WX) (σ : L2.St) (H : Hp) (R : PX) : Prop where
  go : ∀ x m', R x m' → ∀ cls dd H', Tx H H' → XRep K H' x cls dd → RelM K H' m' → W cls dd σ H'
theorem WOk.mono {K : PySem.W.Frag} {W : WX} {σ : L2.St} {H H1 : Hp} {R : PX} (h : WOk K W σ H R) (t : Tx H H1) : WOk K W σ H1 R := ⟨fun x m' r cls dd H' t' => h.go x m' r cls dd H' (t.trans t')⟩
/-- what is wanted of a value -/
def QOk (K : PySem.W.Frag) (H : Hp) (P : PQ) (Q : VK) : Prop := ∀ d m', P d m' → ∀ v H', Tx H H' → Rep K H' d v → RelM K H' m' → Q v H'
theorem QOk.mono {K : PySem.W.Frag} {H H1 : Hp} {P : PQ} {Q : VK} (h : QOk K H P Q) (t : Tx H H1) : QOk K H1 P Q := fun d m' p v H' t' => h d m' p v H' (t.trans t')
def lE (K : PySem.W.Frag) (W : WX) (t : AE) : TE := fun σ H Q => ∃ e m P R, RelE K H σ e ∧ RelM K H m ∧ t e m P R ∧ QOk K H P Q ∧ WOk K W σ H R
def lT (K : PySem.W.Frag) (W : WX) (t : AT) : TT := fun σ H Q => ∃ e m P R, RelE K H σ e ∧ RelM K H m ∧ t e m P R ∧ (∀ b m', P b m' → ∀ H', Tx H H' → RelM K H' m' → Q b H') ∧ WOk K W σ H R
def lA (K : PySem.W.Frag) (W : WX) (t : AA) : TA := fun σ H Q => ∃ e m P R, RelE K H σ e ∧ RelM K H m ∧ t e m P R ∧ (∀ ds m', P ds m' → ∀ vs H', Tx H H' → Reps K H' ds vs → RelM K H' m' → Q vs H') ∧ WOk K W σ H R
def lG (K : PySem.W.Frag) (g : AG) : TG := fun v σ H Q => ∃ d e m P, Rep K H d v ∧ RelE K H σ e ∧ RelM K H m ∧ g d e m P ∧ ∀ e' m', P e' m' → ∀ σ' H', Tx H H' → RelE K H' σ' e' → RelM K H' m' → Q σ' H'
structure EndsOk (K : PySem.W.Frag) (W : WX) (H : Hp) (A : AEnds) (D : Ends) : Prop where
  nx : ∀ e m, A.nx e m → ∀ σ' H', Tx H H' → RelE K H' σ' e → RelM K H' m → D.nx σ' H'
  rt : QOk K H A.rt D.rt
  bk : ∀ e m, A.bk e m → ∀ σ' H', Tx H H' → RelE K H' σ' e → RelM K H' m → D.bk σ' H'
  ct : ∀ e m, A.ct e m → ∀ σ' H', Tx H H' → RelE K H' σ' e → RelM K H' m → D.ct σ' H'
  xe : ∀ e σ' H', Tx H H' → RelE K H' σ' e → WOk K W σ' H' (A.xe e)
theorem EndsOk.mono {K : PySem.W.Frag} {W : WX} {H H1 : Hp} {A : AEnds} {D : Ends} (h : EndsOk K W H A D) (t : Tx H H1) : EndsOk K W H1 A D :=
  ⟨fun e m p σ' H' t' => h.nx e m p σ' H' (t.trans t'), h.rt.mono t, fun e m p σ' H' t' => h.bk e m p σ' H' (t.trans t'), fun e m p σ' H' t' => h.ct e m p σ' H' (t.trans t'), fun e σ' H' t' => h.xe e σ' H' (t.trans t')⟩
def lS (K : PySem.W.Frag) (W : WX) (t : AS) : TS := fun D σ H => ∃ e m A, RelE K H σ e ∧ RelM K H m ∧ t A e m ∧ EndsOk K W H A D

abbrev GE (X : Cx) (W : WX) (e : Expr) (t : AE) : Prop := PE X e (lE X.K W t)
abbrev GT (X : Cx) (W : WX) (e : Expr) (t : AT) : Prop := PT X e (lT X.K W t)
abbrev GW (X : Cx) (W : WX) (e : Expr) (t : AT) : Prop := PW X e (lT X.K W t)
abbrev GA (X : Cx) (W : WX) (es : List Expr) (t : AA) : Prop := PA X es (lA X.K W t)
abbrev GS (X : Cx) (W : WX) (st : Stmt) (t : AS) : Prop := PS X st (lS X.K W t)
abbrev GSs (X : Cx) (W : WX) (st : List Stmt) (t : AS) : Prop := PSs X st (lS X.K W t)
abbrev GG (X : Cx) (tg : Expr) (g : AG) : Prop := PG X tg (lG X.K g)

theorem pe_imp {X : Cx} {e : Expr} {t u : TE} (h : PE X e t) (i : ∀ σ H Q, u σ H Q → t σ H Q) : PE X e u := ⟨fun p s σ H Q I q => h.run p s σ H Q I (i σ H Q q)⟩
theorem pt_imp {X : Cx} {e : Expr} {t u : TT} (h : PT X e t) (i : ∀ σ H Q, u σ H Q → t σ H Q) : PT X e u := ⟨fun p s σ H Q I q => h.run p s σ H Q I (i σ H Q q)⟩
theorem pw_imp {X : Cx} {e : Expr} {t u : TT} (h : PW X e t) (i : ∀ σ H Q, u σ H Q → t σ H Q) : PW X e u := ⟨fun w p s σ H Q I q => h.run w p s σ H Q I (i σ H Q q)⟩
theorem pa_imp {X : Cx} {e : List Expr} {t u : TA} (h : PA X e t) (i : ∀ σ H Q, u σ H Q → t σ H Q) : PA X e u := ⟨fun w p s σ H Q I q => h.run w p s σ H Q I (i σ H Q q)⟩
theorem ps_imp {X : Cx} {e : Stmt} {t u : TS} (h : PS X e t) (i : ∀ D σ H, u D σ H → t D σ H) : PS X e u := ⟨fun p s σ H D I q => h.run p s σ H D I (i D σ H q)⟩
theorem pss_imp {X : Cx} {e : List Stmt} {t u : TS} (h : PSs X e t) (i : ∀ D σ H, u D σ H → t D σ H) : PSs X e u := ⟨fun p s σ H D I q => h.run p s σ H D I (i D σ H q)⟩
theorem pg_imp {X : Cx} {e : Expr} {t u : TG} (h : PG X e t) (i : ∀ v σ H Q, u v σ H Q → t v σ H Q) : PG X e u := ⟨fun p s σ H v w Q I r q => h.run p s σ H v w Q I r (i v σ H Q q)⟩

section
variable {X : Cx} {W : WX}
/-! ### names, constants -/
def aVar (i : Nat) : AE := fun e m Q _ => match e.g i with
  | some d => Q d m
  | none => False
def aC (d : D) : AE := fun _ m Q _ => Q d m
theorem lvar {K : PySem.W.Frag} {i : Nat} {σ : L2.St} {H : Hp} {Q : VK} (h : lE K W (aVar i) σ H Q) : tVar i σ H Q := by
  obtain ⟨e, m, P, R, rE, rM, t, q, w⟩ := h
  have t' : (match e.g i with | some d => P d m | none => False) := t
  cases g : e.g i with
  | none => rw [g] at t'; exact t'.elim
  | some d =>
    rw [g] at t'
    obtain ⟨v, s, r⟩ := rE.get g
    exact ⟨v, s, q d m t' v H (Tx.refl H) r rM⟩
theorem gv (i : Nat) {x : Str} {pos : Pos} (hN : X.N[i]? = some x := by rfl) (hv : Vis X.env.scope x := by first | exact Or.inl rfl | exact Or.inr (Or.inl rfl) | exact Or.inr (Or.inr rfl)) (hd : (x == ("__debug__" : Str)) = false := by decide)
    (hcd : (x == ("__classdict__" : Str)) = false := by decide) : GE X W (.Name x pos) (aVar i) := pe_imp (pe_var hN hv hd hcd) fun _ _ _ h => lvar h
theorem lc {K : PySem.W.Frag} {d : D} {v : V} (r : ∀ H, Rep K H d v) {σ : L2.St} {H : Hp} {Q : VK} (h : lE K W (aC d) σ H Q) : tC v σ H Q := by
  obtain ⟨e, m, P, R, rE, rM, t, q, w⟩ := h
  exact q d m t v H (Tx.refl H) (r H) rM
theorem g_int {i j pos} : GE X W (.Constant (.int i) j pos) (aC (.int i)) := pe_imp pe_int fun _ _ _ h => lc (d := .int i) (v := .int i) (fun _ => rfl) h
theorem g_bl {b j pos} : GE X W (.Constant (.bool b) j pos) (aC (.bl b)) := pe_imp pe_bl fun _ _ _ h => lc (d := .bl b) (v := .bl b) (fun _ => rfl) h
theorem g_non {j pos} : GE X W (.Constant .none j pos) (aC .non) := pe_imp pe_non fun _ _ _ h => lc (d := .non) (v := .non) (fun _ => rfl) h
theorem g_str {x j pos} : GE X W (.Constant (.str x) j pos) (aC (.str x)) := pe_imp pe_str fun _ _ _ h => lc (d := .str x) (v := .str x) (fun _ => rfl) h
theorem g_glob {x : Str} {d : D} {v : V} {u : Value} {pos : Pos} (hg : Gl X x) (hm : X.mg x = some u) (r : RelV v u) (rd : ∀ H, Rep X.K H d v) (hd : (x == ("__debug__" : Str)) = false := by decide) : GE X W (.Name x pos) (aC d) :=
  pe_imp (pe_glob hg hm r hd) fun _ _ _ h => lc rd h
theorem g_bltn {x : Str} {n : String} {pos : Pos} (hg : Gl X x) (hm : X.mg x = none) (hv : bootBuiltins x = some (.type n)) (hn : x ≠ "__name__" := by decide) (hd : (x == ("__debug__" : Str)) = false := by decide) : GE X W (.Name x pos) (aC (.ty n)) :=
  pe_imp (pe_bltn (v := .ty n) hg hm hv rfl hn hd) fun _ _ _ h => lc (d := .ty n) (v := .ty n) (fun _ => rfl) h

/-! ### operators -/
def lR2 (K : PySem.W.Frag) (r : AR2) : R2 := fun x y H Q => ∃ d1 d2 m P, Rep K H d1 x ∧ Rep K H d2 y ∧ RelM K H m ∧ r d1 d2 m P ∧ QOk K H P Q
def lR1 (K : PySem.W.Frag) (r : AR1) : V → Hp → VK → Prop := fun x H Q => ∃ d m P, Rep K H d x ∧ RelM K H m ∧ r d m P ∧ QOk K H P Q
def lRL (K : PySem.W.Frag) (r : ARL) : List V → Hp → VK → Prop := fun xs H Q => ∃ ds m P, Reps K H ds xs ∧ RelM K H m ∧ r ds m P ∧ QOk K H P Q
def aOp (r : AR2) (ta tb : AE) : AE := fun e m Q R => ta e m (fun x m1 => tb e m1 (fun y m2 => r x y m2 Q) R) R
def aUn (r : AR1) (ta : AE) : AE := fun e m Q R => ta e m (fun x m1 => r x m1 Q) R
theorem lop {K : PySem.W.Frag} {r : AR2} {ta tb : AE} {σ : L2.St} {H : Hp} {Q : VK} (h : lE K W (aOp r ta tb) σ H Q) : tOp (lR2 K r) (lE K W ta) (lE K W tb) σ H Q := by
  obtain ⟨e, m, P, R, rE, rM, t, q, w⟩ := h
  refine ⟨e, m, _, R, rE, rM, t, fun d1 m1 h1 x H1 t1 r1 rm1 => ?_, w⟩
  refine ⟨e, m1, _, R, rE.mono t1, rm1, h1, fun d2 m2 h2 y H2 t2 r2 rm2 => ?_, w.mono t1⟩
  exact ⟨d1, d2, m2, P, r1.mono t2, r2, rm2, h2, q.mono (t1.trans t2)⟩
theorem g_op {op : Operator} {r : AR2} {a b : Expr} {ta tb : AE} {pos : Pos} (ho : OpR X (binaryOp op) (lR2 X.K r)) (ha : GE X W a ta) (hb : GE X W b tb) : GE X W (.BinOp a op b pos) (aOp r ta tb) := pe_imp (pe_op ho ha hb) fun _ _ _ h => lop h
theorem g_un {op : UnaryOp} {r : AR1} {a : Expr} {ta : AE} {pos : Pos} (ho : UnR X (unaryOp op) (lR1 X.K r)) (ha : GE X W a ta) : GE X W (.UnaryOp op a pos) (aUn r ta) := pe_imp (pe_un ho ha) fun σ H Q h => by
  obtain ⟨e, m, P, R, rE, rM, t, q, w⟩ := h
  exact ⟨e, m, _, R, rE, rM, t, fun d1 m1 h1 x H1 t1 r1 rm1 => ⟨d1, m1, P, r1, rm1, h1, q.mono t1⟩, w⟩
theorem g_cmp {op : CmpOp} {r : AR2} {a b : Expr} {ta tb : AE} {pos : Pos} (ho : OpR X (compareOp op) (lR2 X.K r)) (ha : GE X W a ta) (hb : GE X W b tb) (hm : behindInMarks op b = false) : GE X W (.Compare a [op] [b] pos) (aOp r ta tb) := pe_imp (pe_cmpR ho ha hb hm) fun _ _ _ h => lop h
/-- the result of a comparison as a test -/
def aTest (t : AE) : AT := fun e m Q R => t e m (fun d m' => match d with | .bl b => Q b m' | _ => False) R
theorem ltest {K : PySem.W.Frag} {ta : AE} {σ : L2.St} {H : Hp} {Q : Bool → Hp → Prop} (h : lT K W (aTest ta) σ H Q) : lE K W ta σ H fun x H' => ∃ k, x = .bl k ∧ Q k H' := by
  obtain ⟨e, m, P, R, rE, rM, t, q, w⟩ := h
  refine ⟨e, m, _, R, rE, rM, t, fun d m1 h1 x H1 t1 r1 rm1 => ?_, w⟩
  cases d with
  | bl b => exact ⟨b, r1, q b m1 h1 H1 t1 rm1⟩
  | _ => exact h1.elim
theorem gt_cmp {op : CmpOp} {r : AR2} {a b : Expr} {ta tb : AE} {pos : Pos} (ho : OpR X (compareOp op) (lR2 X.K r)) (ha : GE X W a ta) (hb : GE X W b tb) (hm : behindInMarks op b = false) : GT X W (.Compare a [op] [b] pos) (aTest (aOp r ta tb)) := pt_imp (pt_cmpR ho ha hb hm) fun σ H Q h => by
  obtain ⟨e, m, P, R, rE, rM, t, q, w⟩ := ltest h
  exact lop ⟨e, m, P, R, rE, rM, t, q, w⟩
/-- a < b <= c -/
def aChain (r r' : AR2) (ta tb tc : AE) : AE := fun e m Q R => ta e m (fun x m1 => tb e m1 (fun y m2 => r x y m2 fun z m3 => match z with
  | .bl k => if k = true then tc e m3 (fun u m4 => r' y u m4 Q) R else Q (.bl false) m3
  | _ => False) R) R

theorem g_chain {op op' : CmpOp} {r r' : AR2} {a b c : Expr} {ta tb tc : AE} {pos : Pos} (ho : OpR X (compareOp op) (lR2 X.K r)) (ho' : OpR X (compareOp op') (lR2 X.K r')) (ha : GE X W a ta) (hb : GE X W b tb) (hc : GE X W c tc)
    (hm : lastMarks [op, op'] [b, c] = false) : GE X W (.Compare a [op, op'] [b, c] pos) (aChain r r' ta tb tc) := pe_imp (pe_chain ho ho' ha hb hc hm) fun σ H Q h => by
  obtain ⟨e, m, P, R, rE, rM, t, q, w⟩ := h
  refine ⟨e, m, _, R, rE, rM, t, fun d1 m1 h1 x H1 t1 r1 rm1 => ?_, w⟩
  refine ⟨e, m1, _, R, rE.mono t1, rm1, h1, fun d2 m2 h2 y H2 t2 r2 rm2 => ?_, w.mono t1⟩
  refine ⟨d1, d2, m2, _, r1.mono t2, r2, rm2, h2, fun d3 m3 h3 z H3 t3 r3 rm3 => ?_⟩
  cases d3 with
  | bl k =>
    refine ⟨k, r3, ?_⟩
    cases k with
    | true =>
      have h3' : tc e m3 (fun u m4 => r' d2 u m4 P) R := by simpa using h3
      refine ⟨e, m3, _, R, rE.mono (t1.trans (t2.trans t3)), rm3, h3', fun d4 m4 h4 u H4 t4 r4 rm4 => ?_, w.mono (t1.trans (t2.trans t3))⟩
      exact ⟨d2, d4, m4, P, r2.mono (t3.trans t4), r4, rm4, h4, q.mono (t1.trans (t2.trans (t3.trans t4)))⟩
    | false =>
      have h3' : P (.bl false) m3 := by simpa using h3
      exact q (.bl false) m3 h3' (.bl false) H3 (t1.trans (t2.trans t3)) rfl rm3
  | _ => exact h3.elim
/-! ### tests -/
def aAnd (t u : AT) : AT := fun e m Q R => t e m (fun c m1 => if c = true then u e m1 Q R else Q false m1) R
def aOr (t u : AT) : AT := fun e m Q R => t e m (fun c m1 => if c = true then Q true m1 else u e m1 Q R) R
def aNot (t : AT) : AT := fun e m Q R => t e m (fun c m1 => Q (!c) m1) R
theorem gw_and1 {a : Expr} {ta : AT} {pos : Pos} (ha : GT X W a ta) : GW X W (.BoolOp .And [a] pos) ta := pw_and1 ha
theorem gw_or1 {a : Expr} {ta : AT} {pos : Pos} (ha : GT X W a ta) : GW X W (.BoolOp .Or [a] pos) ta := pw_or1 ha
theorem gw_and {a b : Expr} {rest : List Expr} {ta tb : AT} {pos : Pos} (ha : GT X W a ta) (hb : GW X W (.BoolOp .And (b :: rest) pos) tb) : GW X W (.BoolOp .And (a :: b :: rest) pos) (aAnd ta tb) := pw_imp (pw_and ha hb) fun σ H Q h => by
  obtain ⟨e, m, P, R, rE, rM, t, q, w⟩ := h
  refine ⟨e, m, _, R, rE, rM, t, fun c m1 h1 H1 t1 rm1 => ?_, w⟩
  cases c with
  | true =>
    have h1' : tb e m1 P R := by simpa using h1
    exact ⟨e, m1, P, R, rE.mono t1, rm1, h1', fun b m' p H' t' => q b m' p H' (t1.trans t'), w.mono t1⟩
  | false =>
    have h1' : P false m1 := by simpa using h1
    exact q false m1 h1' H1 t1 rm1
theorem gw_or {a b : Expr} {rest : List Expr} {ta tb : AT} {pos : Pos} (ha : GT X W a ta) (hb : GW X W (.BoolOp .Or (b :: rest) pos) tb) : GW X W (.BoolOp .Or (a :: b :: rest) pos) (aOr ta tb) := pw_imp (pw_or ha hb) fun σ H Q h => by
  obtain ⟨e, m, P, R, rE, rM, t, q, w⟩ := h
  refine ⟨e, m, _, R, rE, rM, t, fun c m1 h1 H1 t1 rm1 => ?_, w⟩
  cases c with
  | true =>
    have h1' : P true m1 := by simpa using h1
    exact q true m1 h1' H1 t1 rm1
  | false =>
    have h1' : tb e m1 P R := by simpa using h1
    exact ⟨e, m1, P, R, rE.mono t1, rm1, h1', fun b m' p H' t' => q b m' p H' (t1.trans t'), w.mono t1⟩
theorem gt_w {e : Expr} {t : AT} (h : GW X W e t) : GT X W e t := h.pt
theorem gt_not {a : Expr} {ta : AT} {pos : Pos} (ha : GT X W a ta) : GT X W (.UnaryOp .Not a pos) (aNot ta) := pt_imp (pt_not ha) fun σ H Q h => by
  obtain ⟨e, m, P, R, rE, rM, t, q, w⟩ := h
  exact ⟨e, m, _, R, rE, rM, t, fun c m1 h1 H1 t1 rm1 => q _ m1 h1 H1 t1 rm1, w⟩
/-- a value's truth -/
def aTru (t : AE) : AT := fun e m Q R => t e m (fun d m' => match d with
  | .bl b => Q b m'
  | .non => Q false m'
  | .int i => Q (i != 0) m'
  | .str x => x.length ≤ 100000 ∧ Q ((x.length : Int) != 0) m'
  | .tup ds => Q (!ds.isEmpty) m'
  | .ref a => (match m' a with
    | some (.lst ds) => Q (!ds.isEmpty) m'
    | _ => False)
  | _ => False) R
theorem Reps.emp {K : PySem.W.Frag} {H : Hp} {ds : List D} {vs : List V} (h : Reps K H ds vs) : (!vs.isEmpty) = !ds.isEmpty := by
  cases ds with
  | nil => rw [show vs = [] from h]; rfl
  | cons d r => obtain ⟨x, r', e, _⟩ := h; rw [e]; rfl
theorem g_tru {a : Expr} {ta : AE} (ha : GE X W a ta) (he : ∀ whole, isTrue a X.env whole = (do let v ← whole; standAt a.pos; holding [v] (truthy v)) := by intro _; rfl) : GT X W a (aTru ta) := pt_imp (pt_truth ha he) fun σ H Q h => by
  obtain ⟨e, m, P, R, rE, rM, t, q, w⟩ := h
  refine ⟨e, m, _, R, rE, rM, t, fun d m1 h1 x H1 t1 r1 rm1 => ?_, w⟩
  have go : ∀ k, TruV X.K x H1 k → P k m1 → ∃ k, TruV X.K x H1 k ∧ Q k H1 := fun k hk hp => ⟨k, hk, q k m1 hp H1 t1 rm1⟩
  cases d with
  | bl b => rw [show x = .bl b from r1] at go ⊢; exact go b rfl h1
  | non => rw [show x = .non from r1] at go ⊢; exact go false rfl h1
  | int i => rw [show x = .int i from r1] at go ⊢; exact go _ rfl h1
  | str z => rw [show x = .str z from r1] at go ⊢; exact go _ ⟨Nat.le_trans h1.1 (by decide), rfl⟩ h1.2
  | tup ds =>
    obtain ⟨p, xs, rfl, hs, hr⟩ := r1
    exact go _ (.inr (.inl ⟨xs, hs, rfl⟩)) (by rw [hr.emp]; exact h1)
  | ref a =>
    rw [show x = .ref a from r1] at go ⊢
    have h1' : (match m1 a with | some (.lst ds) => P (!ds.isEmpty) m1 | _ => False) := h1
    cases hm : m1 a with
    | none => rw [hm] at h1'; exact h1'.elim
    | some o =>
      rw [hm] at h1'
      cases o with
      | lst ds =>
        obtain ⟨xs, hx, hr⟩ := rm1 a _ hm
        exact go _ (.inl ⟨xs, SqL.of hx, rfl⟩) (by rw [hr.emp]; exact h1')
      | _ => exact h1'.elim
  | _ => exact h1.elim
/-! ### values of and, or, not, if -/
def aAndV (ta tb : AE) : AE := fun e m Q R => ta e m (fun x m1 => match x with
  | .bl c => if c = true then tb e m1 Q R else Q (.bl false) m1
  | _ => False) R
def aOrV (ta tb : AE) : AE := fun e m Q R => ta e m (fun x m1 => match x with
  | .bl c => if c = true then Q (.bl true) m1 else tb e m1 Q R
  | _ => False) R
def aNotV (ta : AE) : AE := fun e m Q R => ta e m (fun x m1 => match x with
  | .bl c => Q (.bl (!c)) m1
  | _ => False) R
def aIf (t : AT) (ta tb : AE) : AE := fun e m Q R => t e m (fun c m1 => if c = true then ta e m1 Q R else tb e m1 Q R) R
theorem g_one {op} {a : Expr} {t : AE} {pos : Pos} (h : GE X W a t) : GE X W (.BoolOp op [a] pos) t := pe_one h
theorem g_and {a b : Expr} {rest : List Expr} {ta tb : AE} {pos : Pos} (ha : GE X W a ta) (hb : GE X W (.BoolOp .And (b :: rest) pos) tb) : GE X W (.BoolOp .And (a :: b :: rest) pos) (aAndV ta tb) := pe_imp (pe_and ha hb) fun σ H Q h => by
  obtain ⟨e, m, P, R, rE, rM, t, q, w⟩ := h
  refine ⟨e, m, _, R, rE, rM, t, fun d m1 h1 x H1 t1 r1 rm1 => ?_, w⟩
  cases d with
  | bl c =>
    refine ⟨c, r1, ?_⟩
    cases c with
    | true => exact ⟨e, m1, P, R, rE.mono t1, rm1, by simpa using h1, q.mono t1, w.mono t1⟩
    | false => exact q (.bl false) m1 (by simpa using h1) (.bl false) H1 t1 rfl rm1
  | _ => exact h1.elim
theorem g_or {a b : Expr} {rest : List Expr} {ta tb : AE} {pos : Pos} (ha : GE X W a ta) (hb : GE X W (.BoolOp .Or (b :: rest) pos) tb) : GE X W (.BoolOp .Or (a :: b :: rest) pos) (aOrV ta tb) := pe_imp (pe_or ha hb) fun σ H Q h => by
  obtain ⟨e, m, P, R, rE, rM, t, q, w⟩ := h
  refine ⟨e, m, _, R, rE, rM, t, fun d m1 h1 x H1 t1 r1 rm1 => ?_, w⟩
  cases d with
  | bl c =>
    refine ⟨c, r1, ?_⟩
    cases c with
    | false => exact ⟨e, m1, P, R, rE.mono t1, rm1, by simpa using h1, q.mono t1, w.mono t1⟩
    | true => exact q (.bl true) m1 (by simpa using h1) (.bl true) H1 t1 rfl rm1
  | _ => exact h1.elim
theorem g_not {a : Expr} {ta : AE} {pos : Pos} (ha : GE X W a ta) : GE X W (.UnaryOp .Not a pos) (aNotV ta) := pe_imp (pe_not ha) fun σ H Q h => by
  obtain ⟨e, m, P, R, rE, rM, t, q, w⟩ := h
  refine ⟨e, m, _, R, rE, rM, t, fun d m1 h1 x H1 t1 r1 rm1 => ?_, w⟩
  cases d with
  | bl c => exact ⟨c, r1, q (.bl (!c)) m1 h1 (.bl (!c)) H1 t1 rfl rm1⟩
  | _ => exact h1.elim
theorem g_if {c a b : Expr} {tc : AT} {ta tb : AE} {pos : Pos} (hc : GT X W c tc) (ha : GE X W a ta) (hb : GE X W b tb) : GE X W (.IfExp c a b pos) (aIf tc ta tb) := pe_imp (pe_ifExp hc ha hb) fun σ H Q h => by
  obtain ⟨e, m, P, R, rE, rM, t, q, w⟩ := h
  refine ⟨e, m, _, R, rE, rM, t, fun c m1 h1 H1 t1 rm1 => ?_, w⟩
  cases c with
  | true => exact ⟨e, m1, P, R, rE.mono t1, rm1, by simpa using h1, q.mono t1, w.mono t1⟩
  | false => exact ⟨e, m1, P, R, rE.mono t1, rm1, by simpa using h1, q.mono t1, w.mono t1⟩
/-! ### arguments, displays, calls -/
def aNil : AA := fun _ m Q _ => Q [] m
def aCons (ta : AE) (tr : AA) : AA := fun e m Q R => ta e m (fun x m1 => tr e m1 (fun xs m2 => Q (x :: xs) m2) R) R
def aStar (ta : AE) (tr : AA) : AA := fun e m Q R => ta e m (fun x m1 => match x with
  | .tup ds => tr e m1 (fun xs m2 => Q (ds ++ xs) m2) R
  | .ref a => (match m1 a with
    | some (.lst ds) => tr e m1 (fun xs m2 => Q (ds ++ xs) m2) R
    | _ => False)
  | _ => False) R
theorem ga_nil : GA X W [] aNil := pa_imp pa_nil fun σ H Q h => by
  obtain ⟨e, m, P, R, rE, rM, t, q, w⟩ := h
  exact q [] m t [] H (Tx.refl H) rfl rM
theorem ga_cons {e : Expr} {es : List Expr} {te : AE} {t : AA} (ha : GE X W e te) (hr : GA X W es t) (hs : starEach (e :: es) X.env = (false, eval e X.env) :: starEach es X.env := by rfl) : GA X W (e :: es) (aCons te t) := pa_imp (pa_cons ha hr hs) fun σ H Q h => by
  obtain ⟨e, m, P, R, rE, rM, t, q, w⟩ := h
  refine ⟨e, m, _, R, rE, rM, t, fun d m1 h1 x H1 t1 r1 rm1 => ?_, w⟩
  exact ⟨e, m1, _, R, rE.mono t1, rm1, h1, fun ds m2 h2 vs H2 t2 r2 rm2 => q (d :: ds) m2 h2 (x :: vs) H2 (t1.trans t2) ⟨x, vs, rfl, r1.mono t2, r2⟩ rm2, w.mono t1⟩
theorem ga_star {e : Expr} {es : List Expr} {te : AE} {t : AA} {p : Pos} (ha : GE X W e te) (hr : GA X W es t) (hs : starEach (.Starred e p :: es) X.env = (true, eval e X.env) :: starEach es X.env := by rfl) : GA X W (.Starred e p :: es) (aStar te t) := pa_imp (StX.pa_star ha hr hs) fun σ H Q h => by
  obtain ⟨e, m, P, R, rE, rM, ht, q, w⟩ := h
  refine ⟨e, m, _, R, rE, rM, ht, fun d m1 h1 x H1 t1 r1 rm1 => ?_, w⟩
  have go : ∀ (a : Addr) (ds : List D) (xs : List V), x = .ref a → (SqT X.K H1 a xs ∨ SqL X.K H1 a xs) → Reps X.K H1 ds xs → t e m1 (fun xs m2 => P (ds ++ xs) m2) R →
      ∃ p xs, x = V.ref p ∧ (SqT X.K H1 p xs ∨ SqL X.K H1 p xs) ∧ lA X.K W t σ H1 fun ys H2 => Q (xs ++ ys) H2 := fun a ds xs ex hs hr ht =>
    ⟨a, xs, ex, hs, e, m1, _, R, rE.mono t1, rm1, ht, fun es m2 h2 vs H2 t2 r2 rm2 => q (ds ++ es) m2 h2 (xs ++ vs) H2 (t1.trans t2) (Reps.append (hr.mono t2) r2) rm2, w.mono t1⟩
  cases d with
  | tup ds =>
    obtain ⟨a, xs, ex, hs, hr⟩ := r1
    exact go a ds xs ex (.inl hs) hr h1
  | ref a =>
    have h1' : (match m1 a with | some (.lst ds) => t e m1 (fun xs m2 => P (ds ++ xs) m2) R | _ => False) := h1
    cases hm : m1 a with
    | none => rw [hm] at h1'; exact h1'.elim
    | some o =>
      rw [hm] at h1'
      cases o with
      | lst ds =>
        obtain ⟨xs, hx, hr⟩ := rm1 a _ hm
        exact go a ds xs r1 (.inr (SqL.of hx)) hr h1'
      | _ => exact h1'.elim
  | _ => exact h1.elim
def big : Nat := 100000
theorem big_line {n : Nat} (h : n ≤ big) : n ≤ sizeLine := Nat.le_trans h (by decide)
theorem big_lt {n : Nat} (h : n < big) : n < sizeLine := Nat.lt_of_lt_of_le h (by decide)
def aTup (t : AA) : AE := fun e m Q R => t e m (fun ds m1 => ds.length ≤ big ∧ Q (.tup ds) m1) R
def aLst (t : AA) : AE := fun e m Q R => t e m (fun ds m1 => ds.length ≤ big ∧ ∀ p, m1 p = none → Q (.ref p) (mset m1 p (.lst ds))) R
theorem g_tup {es : List Expr} {t : AA} {x1} {pos : Pos} (h : GA X W es t) : GE X W (.Tuple es x1 pos) (aTup t) := pe_imp (pe_tup h) fun σ H Q h => by
  obtain ⟨e, m, P, R, rE, rM, t, q, w⟩ := h
  refine ⟨e, m, _, R, rE, rM, t, fun ds m1 h1 vs H1 t1 r1 rm1 => ⟨by rw [← r1.length]; exact big_line h1.1, fun p hp => ?_⟩, w⟩
  exact q (.tup ds) m1 h1.2 (.ref p) _ (t1.trans (Tx.new hp)) ⟨p, vs, rfl, SqT.of upd_same, r1.mono (Tx.new hp)⟩ (rm1.grow hp)
theorem g_lst {es : List Expr} {t : AA} {pos : Pos} (h : GA X W es t) : GE X W (.List es pos) (aLst t) := pe_imp (pe_lst h) fun σ H Q h => by
  obtain ⟨e, m, P, R, rE, rM, t, q, w⟩ := h
  refine ⟨e, m, _, R, rE, rM, t, fun ds m1 h1 vs H1 t1 r1 rm1 => ⟨by rw [← r1.length]; exact big_line h1.1, fun p hp => ?_⟩, w⟩
  exact q (.ref p) _ (h1.2 p (rm1.free hp)) (.ref p) _ (t1.trans (Tx.new hp)) rfl (rm1.newL hp r1)
/-- what a def promises -/
structure EOk (K : PySem.W.Frag) (H : Hp) (R : PX) (E : XK) : Prop where
  go : ∀ x m', R x m' → ∀ cls dd H', Tx H H' → XRep K H' x cls dd → RelM K H' m' → E cls dd H'
def lSp (K : PySem.W.Frag) (n : Nat) (sp : ASp) : Sp := fun vs H Q E => ∃ ds m P R, ds.length = n ∧ Reps K H ds vs ∧ RelM K H m ∧ sp ds m P R ∧ QOk K H P Q ∧ EOk K H R E
def aCall (n : Nat) (sp : ASp) (t : AA) : AE := fun e m Q R => t e m (fun ds m1 => ds.length = n ∧ sp ds m1 Q R) R
section
variable {k n : Nat} {f : Addr} {fd : FuncData} {ps : List Str} {sp : ASp} {x : Str} {p pos : Pos} {e : Expr} {es : List Expr} {t : AA}
theorem g_call (F : FnOk X.prog X.w X.K X.mg X.base (L2.CX X.prog X.w) k f fd ps (lSp X.K n sp)) (tk : Takes X W) (hr : Room k X.A) (hm : X.mg x = some (.ref f)) (hk : PySem.W.keepIn X.K (.ref f) = true) (hb : Binds X.K fd ps []) (ha : GA X W (e :: es) t) (hg : Gl X x := by rfl)
    (hdb : (x == ("__debug__" : Str)) = false := by decide) (he : starEach (e :: es) X.env = (false, eval e X.env) :: starEach es X.env := by rfl) (hpl : (backTo pos (starEach es X.env)).any (·.1) = false := by rfl) :
    GE X W (.Call (.Name x p) (e :: es) [] pos) (aCall n sp t) := pe_imp (pe_callS F hr hg hm hk hb (fun σ => passAt tk σ) ha hdb he hpl) fun σ H Q h => by
  obtain ⟨en, m, P, R, rE, rM, t, q, w⟩ := h
  refine ⟨en, m, _, R, rE, rM, t, fun ds m1 h1 vs H1 t1 r1 rm1 => ?_, w⟩
  exact ⟨ds, m1, P, R, h1.1, r1, rm1, h1.2, q.mono t1, ⟨fun x m' r cls dd H' t' => (w.mono t1).go x m' r cls dd H' t'⟩⟩
end
def aCB (r : ARL) (t : AA) : AE := fun e m Q R => t e m (fun ds m1 => r ds m1 Q) R
theorem lcb {K : PySem.W.Frag} {r : ARL} {t : AA} {σ : L2.St} {H : Hp} {Q : VK} (h : lE K W (aCB r t) σ H Q) : tCB (lRL K r) (lA K W t) σ H Q := by
  obtain ⟨e, m, P, R, rE, rM, t, q, w⟩ := h
  exact ⟨e, m, _, R, rE, rM, t, fun ds m1 h1 vs H1 t1 r1 rm1 => ⟨ds, m1, P, r1, rm1, h1, q.mono t1⟩, w⟩
theorem g_cb {r : ARL} {id : String} {x : Str} {e : Expr} {es : List Expr} {t : AA} {p pos : Pos} (hc : CallR X (.builtin id) (lRL X.K r)) (hm : X.mg x = none) (hv : bootBuiltins x = some (.builtin id)) (ha : GA X W (e :: es) t) (hg : Gl X x := by rfl) (hn : x ≠ "__name__" := by decide) (hdb : (x == ("__debug__" : Str)) = false := by decide)
    (he : starEach (e :: es) X.env = (false, eval e X.env) :: starEach es X.env := by rfl) (hpl : (backTo pos (starEach es X.env)).any (·.1) = false := by rfl) : GE X W (.Call (.Name x p) (e :: es) [] pos) (aCB r t) := pe_imp (pe_callB hc hg hm hv ha hn hdb he hpl) fun _ _ _ h => lcb h
theorem g_ct {r : ARL} {T : String} {x : Str} {e : Expr} {es : List Expr} {t : AA} {p pos : Pos} (hc : CallR X (.type T) (lRL X.K r)) (hm : X.mg x = none) (hv : bootBuiltins x = some (.type T)) (ha : GA X W (e :: es) t) (hg : Gl X x := by rfl) (hn : x ≠ "__name__" := by decide) (hdb : (x == ("__debug__" : Str)) = false := by decide)
    (he : starEach (e :: es) X.env = (false, eval e X.env) :: starEach es X.env := by rfl) (hpl : (backTo pos (starEach es X.env)).any (·.1) = false := by rfl) : GE X W (.Call (.Name x p) (e :: es) [] pos) (aCB r t) := pe_imp (pe_callTy hc hg hm hv ha hn hdb he hpl) fun _ _ _ h => lcb h
/-! ### subscripts -/
theorem g_ix {r : AR2} {a b : Expr} {ta tb : AE} {pos : Pos} (hr : IxR X (lR2 X.K r)) (ha : GE X W a ta) (hb : GE X W b tb) (hs : PlainIx b := by exact fun _ _ => rfl) : GE X W (.Subscript a b pos) (aOp r ta tb) := pe_imp (pe_ix hr ha hb hs) fun _ _ _ h => lop h
abbrev APt := En → M → (Option Int → M → Prop) → PX → Prop
def lPt (K : PySem.W.Frag) (W : WX) (t : APt) : TO := fun σ H Q => ∃ e m P R, RelE K H σ e ∧ RelM K H m ∧ t e m P R ∧ (∀ o m', P o m' → ∀ H', Tx H H' → RelM K H' m' → Q o H') ∧ WOk K W σ H R
abbrev GP (X : Cx) (W : WX) (e : Option Expr) (t : APt) : Prop := PO X e (lPt X.K W t)
def aNoP : APt := fun _ m Q _ => Q none m
def aPt (t : AE) : APt := fun e m Q R => t e m (fun d m1 => match d with
  | .int i => Q (some i) m1
  | _ => False) R
theorem po_imp {e : Option Expr} {t u : TO} (h : PO X e t) (i : ∀ σ H Q, u σ H Q → t σ H Q) : PO X e u := ⟨fun p s σ H Q I q => h.run p s σ H Q I (i σ H Q q)⟩
theorem gp_none : GP X W none aNoP := po_imp po_none fun σ H Q h => by
  obtain ⟨e, m, P, R, rE, rM, t, q, w⟩ := h
  exact q none m t H (Tx.refl H) rM
theorem gp_some {e : Expr} {te : AE} (h : GE X W e te) : GP X W (some e) (aPt te) := po_imp (po_some h) fun σ H Q h => by
  obtain ⟨e, m, P, R, rE, rM, t, q, w⟩ := h
  refine ⟨e, m, _, R, rE, rM, t, fun d m1 h1 x H1 t1 r1 rm1 => ?_, w⟩
  cases d with
  | int i => exact ⟨i, r1, q (some i) m1 h1 H1 t1 rm1⟩
  | _ => exact h1.elim
abbrev ARS := D → Option Int → Option Int → M → PQ → Prop
def lRS (K : PySem.W.Frag) (r : ARS) : V → Option Int → Option Int → Hp → VK → Prop := fun x lo hi H Q => ∃ d m P, Rep K H d x ∧ RelM K H m ∧ r d lo hi m P ∧ QOk K H P Q
def aSl (r : ARS) (te : AE) (tl th : APt) : AE := fun e m Q R => te e m (fun d m1 => tl e m1 (fun l m2 => th e m2 (fun u m3 => r d l u m3 Q) R) R) R
theorem g_slice {r : ARS} {e : Expr} {lo hi : Option Expr} {te : AE} {tl th : APt} {p2 pos : Pos} (hr : SlR X (lRS X.K r)) (he : GE X W e te) (hl : GP X W lo tl) (hu : GP X W hi th) : GE X W (.Subscript e (.Slice lo hi none p2) pos) (aSl r te tl th) := pe_imp (pe_slice hr he hl hu) fun σ H Q h => by
  obtain ⟨e, m, P, R, rE, rM, t, q, w⟩ := h
  refine ⟨e, m, _, R, rE, rM, t, fun d m1 h1 x H1 t1 r1 rm1 => ?_, w⟩
  refine ⟨e, m1, _, R, rE.mono t1, rm1, h1, fun l m2 h2 H2 t2 rm2 => ?_, w.mono t1⟩
  refine ⟨e, m2, _, R, rE.mono (t1.trans t2), rm2, h2, fun u m3 h3 H3 t3 rm3 => ?_, w.mono (t1.trans t2)⟩
  exact ⟨d, m3, P, r1.mono (t2.trans t3), rm3, h3, q.mono (t1.trans (t2.trans t3))⟩
end
end Ab

set_option Elab.async false
set_option linter.all false
set_option maxRecDepth 100000
set_option maxHeartbeats 2000000
namespace Ab
open PySem PySem.Spec PyProof.Rows L2
section
variable {X : Cx} {W : WX}
/-! ### statements -/
def aNext : AS := fun A e m => A.nx e m
def aSeq (t u : AS) : AS := fun A e m => t { A with nx := u A } e m
theorem gs_nil : GSs X W [] aNext := pss_imp pss_nil fun D σ H h => by
  obtain ⟨e, m, A, rE, rM, t, ok⟩ := h
  exact ok.nx e m t σ H (Tx.refl H) rE rM
theorem gs_cons {st : Stmt} {rest : List Stmt} {t u : AS} (h1 : GS X W st t) (h2 : GSs X W rest u) : GSs X W (st :: rest) (aSeq t u) := pss_imp (pss_cons h1 h2) fun D σ H h => by
  obtain ⟨e, m, A, rE, rM, t, ok⟩ := h
  refine ⟨e, m, { A with nx := u A }, rE, rM, t, ⟨fun e' m' h' σ' H' t' rE' rM' => ⟨e', m', A, rE', rM', h', ok.mono t'⟩, ok.rt, ok.bk, ok.ct, ok.xe⟩⟩
theorem gs_one {st : Stmt} {t : AS} (h1 : GS X W st t) : GSs X W [st] t := pss_one h1
def aNever : AS := fun _ _ _ => False
theorem s_never {st : Stmt} : GS X W st aNever := ps_imp ps_never fun D σ H h => by
  obtain ⟨e, m, A, rE, rM, t, ok⟩ := h
  exact t
theorem gs_never {st : List Stmt} : GSs X W st aNever := pss_imp pss_never fun D σ H h => by
  obtain ⟨e, m, A, rE, rM, t, ok⟩ := h
  exact t
theorem s_pass {pos : Pos} : GS X W (.Pass pos) aNext := ps_imp ps_pass fun D σ H h => by
  obtain ⟨e, m, A, rE, rM, t, ok⟩ := h
  exact ok.nx e m t σ H (Tx.refl H) rE rM
def aBrk : AS := fun A e m => A.bk e m
def aCnt : AS := fun A e m => A.ct e m
theorem s_break {pos : Pos} : GS X W (.Break pos) aBrk := ps_imp ps_break fun D σ H h => by
  obtain ⟨e, m, A, rE, rM, t, ok⟩ := h
  exact ok.bk e m t σ H (Tx.refl H) rE rM
theorem s_continue {pos : Pos} : GS X W (.Continue pos) aCnt := ps_imp ps_continue fun D σ H h => by
  obtain ⟨e, m, A, rE, rM, t, ok⟩ := h
  exact ok.ct e m t σ H (Tx.refl H) rE rM
def aDrop (te : AE) : AS := fun A e m => te e m (fun _ m1 => A.nx e m1) (A.xe e)
theorem s_expr {e : Expr} {te : AE} {pos : Pos} (he : GE X W e te) (hs : swapsWith e none pos.line X.env = pure false := by rfl) : GS X W (.Expr e pos) (aDrop te) := ps_imp (ps_expr he hs) fun D σ H h => by
  obtain ⟨e, m, A, rE, rM, t, ok⟩ := h
  exact ⟨e, m, _, _, rE, rM, t, fun d m1 h1 v H1 t1 r1 rm1 => ok.nx e m1 h1 σ H1 t1 (rE.mono t1) rm1, ok.xe e σ H (Tx.refl H) rE⟩
def aRet (te : AE) : AS := fun A e m => te e m A.rt (A.xe e)
theorem s_ret {e : Expr} {te : AE} {pos : Pos} (he : GE X W e te) : GS X W (.Return (some e) pos) (aRet te) := ps_imp (ps_ret he) fun D σ H h => by
  obtain ⟨e, m, A, rE, rM, t, ok⟩ := h
  exact ⟨e, m, _, _, rE, rM, t, ok.rt, ok.xe e σ H (Tx.refl H) rE⟩
def aRetN : AS := fun A _ m => A.rt .non m
theorem s_retN {pos : Pos} : GS X W (.Return none pos) aRetN := ps_imp ps_retN fun D σ H h => by
  obtain ⟨e, m, A, rE, rM, t, ok⟩ := h
  exact ok.rt .non m t .non H (Tx.refl H) rfl rM
def aIfS (c : AT) (t u : AS) : AS := fun A e m => c e m (fun b m1 => if b = true then t A e m1 else u A e m1) (A.xe e)
theorem s_if {c : Expr} {a b : List Stmt} {tc : AT} {t u : AS} {pos : Pos} (hc : GT X W c tc) (ha : GSs X W a t) (hb : GSs X W b u) : GS X W (.If c a b pos) (aIfS tc t u) := ps_imp (ps_if hc ha hb) fun D σ H h => by
  obtain ⟨e, m, A, rE, rM, t, ok⟩ := h
  refine ⟨e, m, _, _, rE, rM, t, fun b m1 h1 H1 t1 rm1 => ?_, ok.xe e σ H (Tx.refl H) rE⟩
  cases b with
  | true => exact ⟨e, m1, A, rE.mono t1, rm1, by simpa using h1, ok.mono t1⟩
  | false => exact ⟨e, m1, A, rE.mono t1, rm1, by simpa using h1, ok.mono t1⟩
/-! ### targets -/
def aN (i : Nat) : AG := fun d e m Q => Q (e.s i d) m
theorem t_name {i : Nat} {x : Str} {pos : Pos} (hN : X.N.Nodup) (hi : X.N[i]? = some x := by rfl) (hx : Loc X.env.scope x := by first | exact .inl rfl | exact .inr rfl) (hf : X.fn x = true ∨ X.env.scope.names.lookup x = some .local := by first | exact .inl rfl | exact .inr rfl) : GG X (.Name x pos) (aN i) := pg_imp (pg_name hN hi hx hf) fun v σ H Q h => by
  obtain ⟨d, e, m, P, r, rE, rM, t, q⟩ := h
  exact q _ m t _ H (Tx.refl H) (rE.set i r) rM
abbrev AGs := List D → En → M → (En → M → Prop) → Prop
def lGs (K : PySem.W.Frag) (g : AGs) : TGs := fun vs σ H Q => ∃ ds e m P, Reps K H ds vs ∧ RelE K H σ e ∧ RelM K H m ∧ g ds e m P ∧ ∀ e' m', P e' m' → ∀ σ' H', Tx H H' → RelE K H' σ' e' → RelM K H' m' → Q σ' H'
abbrev GGs (X : Cx) (tg : List Expr) (g : AGs) : Prop := PGs X tg (lGs X.K g)
theorem pgs_imp {X : Cx} {e : List Expr} {t u : TGs} (h : PGs X e t) (i : ∀ v σ H Q, u v σ H Q → t v σ H Q) : PGs X e u := ⟨fun p s σ H v w Q I r q => h.run p s σ H v w Q I r (i v σ H Q q)⟩
def aGNil : AGs := fun ds e m Q => match ds with
  | [] => Q e m
  | _ => False
def aGCons (g : AG) (u : AGs) : AGs := fun ds e m Q => match ds with
  | d :: r => g d e m fun e1 m1 => u r e1 m1 Q
  | [] => False
theorem ts_nil : GGs X [] aGNil := pgs_imp pgs_nil fun vs σ H Q h => by
  obtain ⟨ds, e, m, P, r, rE, rM, t, q⟩ := h
  cases ds with
  | nil => exact ⟨r, q e m t σ H (Tx.refl H) rE rM⟩
  | cons d r => exact t.elim
theorem ts_cons {e : Expr} {es : List Expr} {t : AG} {u : AGs} (h1 : GG X e t) (h2 : GGs X es u)
    (hs : (assignEach (e :: es) X.env).map (·.2) = assign e X.env :: (assignEach es X.env).map (·.2) := by rfl) : GGs X (e :: es) (aGCons t u) := pgs_imp (pgs_cons h1 h2 hs) fun vs σ H Q h => by
  obtain ⟨ds, e, m, P, r, rE, rM, t, q⟩ := h
  cases ds with
  | nil => exact t.elim
  | cons d ds =>
    obtain ⟨x, xs, e1, rd, rr⟩ := r
    refine ⟨x, xs, e1, d, e, m, _, rd, rE, rM, t, fun e' m' h' σ' H' t' rE' rM' => ?_⟩
    exact ⟨ds, e', m', P, rr.mono t', rE', rM', h', fun e2 m2 h2 σ2 H2 t2 => q e2 m2 h2 σ2 H2 (t'.trans t2)⟩
def aTT (n : Nat) (t : AGs) : AG := fun d e m Q => match d with
  | .tup ds => ds.length = n ∧ t ds e m Q
  | _ => False
theorem t_tup {es : List Expr} {k : Nat} {t : AGs} {n : Nat} {pos : Pos} (hc : X.calm = true) (h : GGs X es t)
    (hn : (assignEach es X.env).length = n := by rfl) (hst : (assignEach es X.env).findIdx? (·.1) = none := by rfl) : GG X (.Tuple es k pos) (aTT n t) := pg_imp (pg_tup hc h hn hst) fun v σ H Q h => by
  obtain ⟨d, e, m, P, r, rE, rM, t, q⟩ := h
  cases d with
  | tup ds =>
    obtain ⟨a, xs, ex, hs, hr⟩ := r
    exact ⟨a, xs, ex, hs, by rw [← hr.length]; exact t.1, ds, e, m, P, hr, rE, rM, t.2, q⟩
  | _ => exact t.elim
def aAsg (te : AE) (g : AG) : AS := fun A e m => te e m (fun d m1 => g d e m1 A.nx) (A.xe e)
theorem lasg {K : PySem.W.Frag} {te : AE} {g : AG} {D : Ends} {σ : L2.St} {H : Hp} (h : lS K W (aAsg te g) D σ H) : tAsg (lE K W te) (lG K g) D σ H := by
  obtain ⟨e, m, A, rE, rM, t, ok⟩ := h
  refine ⟨e, m, _, _, rE, rM, t, fun d m1 h1 v H1 t1 r1 rm1 => ?_, ok.xe e σ H (Tx.refl H) rE⟩
  exact ⟨d, e, m1, _, r1, rE.mono t1, rm1, h1, fun e' m' h' σ' H' t' rE' rM' => ok.nx e' m' h' σ' H' (t1.trans t') rE' rM'⟩
theorem s_asg {tg e : Expr} {te : AE} {g : AG} {pos : Pos} (he : GE X W e te) (hg : GG X tg g) (hs : swapsWithSole [tg] e pos.line X.env = pure false := by rfl) (hw : swappedStores [tg] e X.env = pure none := by rfl)
    (h1 : (assignEach [tg] X.env).map (·.2) = [assign tg X.env] := by rfl) : GS X W (.Assign [tg] e pos) (aAsg te g) := ps_imp (ps_asg he hg hs hw h1) fun _ _ _ h => lasg h
theorem s_set {i : Nat} {x : Str} {e : Expr} {te : AE} {pos pos' : Pos} (hN : X.N.Nodup) (he : GE X W e te) (hi : X.N[i]? = some x := by rfl) (hx : Loc X.env.scope x := by first | exact .inl rfl | exact .inr rfl) (hs : swapsWith e (some (.Name x pos')) pos.line X.env = pure false := by rfl) (hf : X.fn x = true ∨ X.env.scope.names.lookup x = some .local := by first | exact .inl rfl | exact .inr rfl) :
    GS X W (.Assign [.Name x pos'] e pos) (aAsg te (aN i)) := ps_imp (ps_set hN hi hx he hs hf) fun D σ H h => by
  obtain ⟨e, m, A, rE, rM, t, ok⟩ := h
  refine ⟨e, m, _, _, rE, rM, t, fun d m1 h1 v H1 t1 r1 rm1 => ?_, ok.xe e σ H (Tx.refl H) rE⟩
  exact ok.nx _ m1 h1 _ H1 t1 ((rE.mono t1).set i r1) rm1
/-- a, b = x, y with plain local names -/
def aPar (i j : Nat) (ta : AA) : AS := fun A e m => ta e m (fun ds m1 => match ds with
  | [d, d'] => A.nx ((e.s i d).s j d') m1
  | _ => False) (A.xe e)
theorem s_par {i j : Nat} {x y : Str} {a b : Expr} {ta : AA} {px py pt pos : Pos} {kt k2 pt2} (hc : X.calm = true) (hN : X.N.Nodup) (ha : GA X W [a, b] ta) (hi : X.N[i]? = some x := by rfl) (hj : X.N[j]? = some y := by rfl) (hij : i ≠ j := by decide)
    (hx : X.env.scope.names.lookup x = some .local := by rfl) (hy : X.env.scope.names.lookup y = some .local := by rfl)
    (hw : swappedStores [.Tuple [.Name x px, .Name y py] kt pt] (.Tuple [a, b] k2 pt2) X.env = pure (some [x, y]) := by rfl)
    (hs : swapsWithSole [.Tuple [.Name x px, .Name y py] kt pt] (.Tuple [a, b] k2 pt2) pos.line X.env = pure false := by rfl) :
    GS X W (.Assign [.Tuple [.Name x px, .Name y py] kt pt] (.Tuple [a, b] k2 pt2) pos) (aPar i j ta) := ps_imp (ps_par hc hN hi hj hij hx hy ha hw hs) fun D σ H h => by
  obtain ⟨e, m, A, rE, rM, t, ok⟩ := h
  refine ⟨e, m, _, _, rE, rM, t, fun ds m1 h1 vs H1 t1 r1 rm1 => ?_, ok.xe e σ H (Tx.refl H) rE⟩
  match ds, h1, r1 with
  | [d, d'], h1, r1 =>
    obtain ⟨v, r, e1, rv, w, r', e2, rw', e3⟩ := r1
    subst e1 e2
    obtain rfl : r' = [] := e3
    exact ⟨v, w, rfl, ok.nx _ m1 h1 _ H1 t1 (((rE.mono t1).set i rv).set j rw') rm1⟩
/-! ### while -/
def whileN (c : AT) (b : AS) : Nat → AEnds → En → M → Prop
  | 0, _, _, _ => False
  | n + 1, A, e, m => c e m (fun t m1 => if t = true then b { A with nx := whileN c b n A, ct := whileN c b n A, bk := A.nx } e m1 else A.nx e m1) (A.xe e)
def aWhile (c : AT) (b : AS) : AS := fun A e m => ∃ n, whileN c b n A e m
theorem s_while {c : Expr} {body : List Stmt} {tc : AT} {tb : AS} {pos : Pos} (hp : PassesOwn (model X.prog X.w) X.A X.env X.xe) (hc : GT X W c tc) (hb : GSs X W body tb) : GS X W (.While c body [] pos) (aWhile tc tb) := ps_imp (ps_while hp hc hb) fun D σ H h => by
  obtain ⟨e, m, A, rE, rM, ⟨n, t⟩, ok⟩ := h
  refine ⟨fun k σ1 H1 => ∃ e1 m1, Tx H H1 ∧ RelE X.K H1 σ1 e1 ∧ RelM X.K H1 m1 ∧ whileN tc tb k A e1 m1, ⟨n, e, m, Tx.refl H, rE, rM, t⟩, ?_⟩
  rintro k σ1 H1 ⟨e1, m1, t1, rE1, rM1, w1⟩
  cases k with
  | zero => exact w1.elim
  | succ k =>
    refine ⟨e1, m1, _, _, rE1, rM1, w1, fun b m2 h2 H2 t2 rm2 => ?_, ok.xe e1 σ1 H1 t1 rE1⟩
    cases b with
    | true =>
      rw [if_pos rfl]
      refine ⟨fun σ3 H3 => ∃ e3 m3, Tx H H3 ∧ RelE X.K H3 σ3 e3 ∧ RelM X.K H3 m3 ∧ whileN tc tb k A e3 m3, fun σ3 H3 h3 => ⟨k, Nat.lt_succ_self k, h3⟩, e1, m2, { A with nx := whileN tc tb k A, ct := whileN tc tb k A, bk := A.nx }, rE1.mono t2, rm2, by simpa using h2, ?_⟩
      have o2 := ok.mono (t1.trans t2)
      exact ⟨fun e3 m3 h3 σ3 H3 t3 rE3 rM3 => ⟨e3, m3, (t1.trans t2).trans t3, rE3, rM3, h3⟩, o2.rt, o2.nx, fun e3 m3 h3 σ3 H3 t3 rE3 rM3 => ⟨e3, m3, (t1.trans t2).trans t3, rE3, rM3, h3⟩, o2.xe⟩
    | false =>
      rw [if_neg Bool.false_ne_true]
      exact ok.nx e1 m2 (by simpa using h2) σ1 H2 (t1.trans t2) (rE1.mono t2) rm2
/-! ### what is walked -/
/-- items, and what must hold of the store at each turn -/
abbrev AI := En → M → (List D → (M → Prop) → M → Prop) → PX → Prop
/-- what a walk gives, as data -/
structure ItR (K : PySem.W.Frag) (H : Hp) (J : It) (its : List D) (gd : M → Prop) : Prop where
  go : ∀ i H2 m2, Tx H H2 → RelM K H2 m2 → gd m2 → i < its.length → J.go i H2
  yld : ∀ i d H2 m2 x H3, Tx H H2 → RelM K H2 m2 → gd m2 → its[i]? = some d → J.yld i H2 x H3 → Tx H2 H3 ∧ Rep K H3 d x ∧ ∀ m3, RelM K H2 m3 → RelM K H3 m3
  stop : ∀ H2 m2, Tx H H2 → RelM K H2 m2 → gd m2 → J.stop its.length H2
def lI (K : PySem.W.Frag) (W : WX) (t : AI) : TI := fun σ H R => ∃ e m P E, RelE K H σ e ∧ RelM K H m ∧ t e m P E ∧ (∀ its gd m', P its gd m' → ∀ J H', Tx H H' → RelM K H' m' → ItR K H' J its gd → R J H') ∧ WOk K W σ H E
abbrev GI' (X : Cx) (W : WX) (tg iter : Expr) (t : AI) : Prop := PI X tg iter (lI X.K W t)
theorem pi_imp {X : Cx} {tg e : Expr} {t u : TI} (h : PI X tg e t) (i : ∀ σ H Q, u σ H Q → t σ H Q) : PI X tg e u := ⟨fun p s σ H Q I q => h.run p s σ H Q I (i σ H Q q)⟩
/-- over a tuple (or a list that nobody changes) -/
def aITup (te : AE) : AI := fun e m Q R => te e m (fun d m1 => match d with
  | .tup ds => Q ds (fun _ => True) m1
  | _ => False) R
theorem i_tup {tg e : Expr} {te : AE} (he : GE X W e te) : GI' X W tg e (aITup te) := pi_imp (pi_tup he) fun σ H Q h => by
  obtain ⟨e, m, P, R, rE, rM, t, q, w⟩ := h
  refine ⟨e, m, _, R, rE, rM, t, fun d m1 h1 x H1 t1 r1 rm1 => ?_, w⟩
  cases d with
  | tup ds =>
    obtain ⟨a, xs, rfl, hs, hr⟩ := r1
    refine ⟨a, rfl, ⟨xs, hs⟩, q ds _ m1 h1 _ H1 t1 rm1 ⟨fun i H2 m2 t2 _ _ hi => ?_, fun i d H2 m2 x H3 t2 rm2 _ hd y => ?_, fun H2 m2 t2 _ _ => ?_⟩⟩
    · have hi' : i < xs.length := by rw [← hr.length]; exact hi
      exact ⟨xs, xs[i], sqT_tx t2 hs, by simp [hi']⟩
    · obtain ⟨e3, hx⟩ := y
      subst e3
      refine ⟨Tx.refl _, ?_, fun _ z => z⟩
      obtain ⟨v, hv, rv⟩ := hr.get hd
      have := hx xs (sqT_tx t2 hs)
      rw [hv] at this
      cases this
      exact rv.mono t2
    · exact ⟨xs, sqT_tx t2 hs, by rw [← hr.length]; exact Nat.le_refl _⟩
  | _ => exact h1.elim
/-- over a list: it stays as it is while it is walked -/
def aILst (te : AE) : AI := fun e m Q R => te e m (fun d m1 => match d with
  | .fls ds => Q ds (fun _ => True) m1
  | .ref a => (match m1 a with
    | some (.lst ds) => Q ds (fun m2 => m2 a = some (.lst ds)) m1
    | _ => False)
  | _ => False) R
theorem i_lst {tg e : Expr} {te : AE} (he : GE X W e te) : GI' X W tg e (aILst te) := pi_imp (pi_list he) fun σ H Q h => by
  obtain ⟨e, m, P, R, rE, rM, t, q, w⟩ := h
  refine ⟨e, m, _, R, rE, rM, t, fun d m1 h1 x H1 t1 r1 rm1 => ?_, w⟩
  cases d with
  | fls ds =>
    obtain ⟨a, xs, rfl, hs, hr⟩ := r1
    refine ⟨a, rfl, ⟨xs, hs.sq⟩, q ds _ m1 h1 _ H1 t1 rm1 ⟨fun i H2 m2 t2 _ _ hi => ?_, fun i d H2 m2 x H3 t2 rm2 _ hd y => ?_, fun H2 m2 t2 _ _ => ?_⟩⟩
    · have hi' : i < xs.length := by rw [← hr.length]; exact hi
      exact ⟨xs, xs[i], (FrL.tx t2 hs).sq, by simp [hi']⟩
    · obtain ⟨e3, hx⟩ := y
      subst e3
      refine ⟨Tx.refl _, ?_, fun _ z => z⟩
      obtain ⟨v, hv, rv⟩ := hr.get hd
      have := hx xs (FrL.tx t2 hs).sq
      rw [hv] at this
      cases this
      exact rv.mono t2
    · exact ⟨xs, (FrL.tx t2 hs).sq, by rw [← hr.length]; exact Nat.le_refl _⟩
  | ref a =>
    have h1' : (match m1 a with | some (.lst ds) => P ds (fun m2 => m2 a = some (.lst ds)) m1 | _ => False) := h1
    cases hm : m1 a with
    | none => rw [hm] at h1'; exact h1'.elim
    | some o =>
      rw [hm] at h1'
      cases o with
      | lst ds =>
        obtain ⟨xs, hx, hr⟩ := rm1 a _ hm
        refine ⟨a, r1, ⟨xs, SqL.of hx⟩, q ds _ m1 h1' _ H1 t1 rm1 ⟨fun i H2 m2 t2 rm2 g2 hi => ?_, fun i d H2 m2 x H3 t2 rm2 g2 hd y => ?_, fun H2 m2 t2 rm2 g2 => ?_⟩⟩
        · obtain ⟨ys, hy, hr2⟩ := rm2 a _ g2
          have hi' : i < ys.length := by rw [← hr2.length]; exact hi
          exact ⟨ys, ys[i], SqL.of hy, by simp [hi']⟩
        · obtain ⟨ys, hy, hr2⟩ := rm2 a _ g2
          obtain ⟨e3, hx3⟩ := y
          subst e3
          refine ⟨Tx.refl _, ?_, fun _ z => z⟩
          obtain ⟨v, hv, rv⟩ := hr2.get hd
          have := hx3 ys (SqL.of hy)
          rw [hv] at this
          cases this
          exact rv
        · obtain ⟨ys, hy, hr2⟩ := rm2 a _ g2
          exact ⟨ys, SqL.of hy, by rw [← hr2.length]; exact Nat.le_refl _⟩
      | _ => exact h1'.elim
  | _ => exact h1.elim
/-- range -/
def rngD (lo : Int) (n : Nat) : List D := (List.range n).map fun i => .int (lo + (i : Nat))
theorem itr_ok {K : PySem.W.Frag} {H : Hp} {lo : Int} {n : Nat} : ItR K H (Itr lo n) (rngD lo n) fun _ => True := by
  refine ⟨fun i H2 m2 _ _ _ hi => ?_, fun i d H2 m2 x H3 t2 rm2 _ hd y => ?_, fun H2 m2 _ _ _ => ?_⟩
  · show i < n
    simpa [rngD] using hi
  · obtain ⟨e3, ex⟩ := y
    subst e3
    refine ⟨Tx.refl _, ?_, fun _ z => z⟩
    unfold rngD at hd
    rw [List.getElem?_map] at hd
    cases q : (List.range n)[i]? with
    | none => rw [q] at hd; cases hd
    | some j =>
      rw [q] at hd
      have hj : j = i := by
        obtain ⟨h1, h2⟩ := List.getElem?_eq_some_iff.mp q
        rw [List.getElem_range] at h2
        exact h2.symm
      subst hj
      cases hd
      exact ex
  · show n ≤ (rngD lo n).length
    simp [rngD]
def aIR1 (ta : AA) : AI := fun e m Q R => ta e m (fun ds m1 => match ds with
  | [.int j] => (-(2 ^ 62) ≤ j ∧ j < 2 ^ 62) ∧ Q (rngD 0 j.toNat) (fun _ => True) m1
  | _ => False) R
def aIR2 (ta : AA) : AI := fun e m Q R => ta e m (fun ds m1 => match ds with
  | [.int i, .int j] => (-(2 ^ 62) ≤ i ∧ i < 2 ^ 62 ∧ -(2 ^ 62) ≤ j ∧ j < 2 ^ 62) ∧ Q (rngD i (j - i).toNat) (fun _ => True) m1
  | _ => False) R
theorem i_r1 {tg a : Expr} {ta : AA} {p pos : Pos} (hm : X.mg "range" = none) (ha : GA X W [a] ta) (hg : Gl X "range" := by rfl) (hs : starEach [a] X.env = [(false, eval a X.env)] := by rfl) : GI' X W tg (.Call (.Name "range" p) [a] [] pos) (aIR1 ta) := pi_imp (pi_range1 hg hm ha hs) fun σ H Q h => by
  obtain ⟨e, m, P, R, rE, rM, t, q, w⟩ := h
  refine ⟨e, m, _, R, rE, rM, t, fun ds m1 h1 vs H1 t1 r1 rm1 => ?_, w⟩
  match ds, h1, r1 with
  | [.int j], h1, r1 =>
    obtain ⟨v, r, e1, rv, e2⟩ := r1
    obtain rfl : r = [] := e2
    obtain rfl : v = .int j := rv
    exact ⟨j, e1, h1.1.1, h1.1.2, q _ _ m1 h1.2 _ H1 t1 rm1 itr_ok⟩
theorem i_r2 {tg a b : Expr} {ta : AA} {p pos : Pos} (hm : X.mg "range" = none) (ha : GA X W [a, b] ta) (hg : Gl X "range" := by rfl) (hs : starEach [a, b] X.env = [(false, eval a X.env), (false, eval b X.env)] := by rfl) (hs2 : starEach [b] X.env = [(false, eval b X.env)] := by rfl) : GI' X W tg (.Call (.Name "range" p) [a, b] [] pos) (aIR2 ta) := pi_imp (pi_range2 hg hm ha hs hs2) fun σ H Q h => by
  obtain ⟨e, m, P, R, rE, rM, t, q, w⟩ := h
  refine ⟨e, m, _, R, rE, rM, t, fun ds m1 h1 vs H1 t1 r1 rm1 => ?_, w⟩
  match ds, h1, r1 with
  | [.int i, .int j], h1, r1 =>
    obtain ⟨v, r, e1, rv, u, r', e2, ru, e3⟩ := r1
    subst e2
    obtain rfl : r' = [] := e3
    obtain rfl : v = .int i := rv
    obtain rfl : u = .int j := ru
    exact ⟨i, j, e1, h1.1, q _ _ m1 h1.2 _ H1 t1 rm1 itr_ok⟩
/-! ### for -/
def forL (g : AG) (b : AS) (gd : M → Prop) : List D → AEnds → En → M → Prop
  | [], A, e, m => gd m ∧ A.nx e m
  | d :: r, A, e, m => gd m ∧ g d e m fun e1 m1 => b { A with nx := forL g b gd r A, ct := forL g b gd r A, bk := A.nx } e1 m1
def aFor (ti : AI) (g : AG) (b : AS) : AS := fun A e m => ti e m (fun its gd m1 => forL g b gd its A e m1) (A.xe e)
theorem s_for {tg iter : Expr} {body : List Stmt} {ti : AI} {g : AG} {tb : AS} {pos : Pos} (hp : PassesOwn (model X.prog X.w) X.A X.env X.xe) (hc : X.calm = true) (hi : GI' X W tg iter ti) (hg : GG X tg g) (hb : GSs X W body tb)
    (hs : ∀ x, foldedSetIterable iter X.env x = pure x := by intro _; rfl) : GS X W (.For tg iter body [] pos) (aFor ti g tb) := ps_imp (ps_for hp hc hi hg hb hs) fun D σ H h => by
  obtain ⟨e, m, A, rE, rM, t, ok⟩ := h
  refine ⟨e, m, _, _, rE, rM, t, fun its gd m1 h1 J H1 t1 rm1 it => ?_, ok.xe e σ H (Tx.refl H) rE⟩
  refine ⟨fun i k σ2 H2 => ∃ e2 m2, k = its.length - i ∧ i ≤ its.length ∧ Tx H1 H2 ∧ RelE X.K H2 σ2 e2 ∧ RelM X.K H2 m2 ∧ forL g tb gd (its.drop i) A e2 m2, ⟨its.length, e, m1, by simp, Nat.zero_le _, Tx.refl _, rE.mono t1, rm1, h1⟩, ?_⟩
  rintro i k σ2 H2 ⟨e2, m2, rfl, hi, t2, rE2, rM2, w2⟩
  by_cases hlt : i < its.length
  · have hd : its.drop i = its[i] :: its.drop (i + 1) := List.drop_eq_getElem_cons hlt
    rw [hd] at w2
    refine .inr ⟨it.go i H2 m2 t2 rM2 w2.1 hlt, fun σ3 H3 => ∃ e3 m3, Tx H1 H3 ∧ RelE X.K H3 σ3 e3 ∧ RelM X.K H3 m3 ∧ forL g tb gd (its.drop (i + 1)) A e3 m3, fun σ3 H3 ⟨e3, m3, t3, a3, b3, c3⟩ => ⟨its.length - (i + 1), by omega, e3, m3, rfl, hlt, t3, a3, b3, c3⟩, fun x H3 y => ?_⟩
    obtain ⟨t3, rx, keep⟩ := it.yld i its[i] H2 m2 x H3 t2 rM2 w2.1 (by simp [hlt]) y
    refine ⟨its[i], e2, m2, _, rx, rE2.mono t3, keep m2 rM2, w2.2, fun e4 m4 h4 σ4 H4 t4 rE4 rM4 => ?_⟩
    have t14 := (t2.trans t3).trans t4
    have o2 := ok.mono (t1.trans t14)
    exact ⟨e4, m4, _, rE4, rM4, h4, ⟨fun e5 m5 h5 σ5 H5 t5 rE5 rM5 => ⟨e5, m5, t14.trans t5, rE5, rM5, h5⟩, o2.rt, o2.nx, fun e5 m5 h5 σ5 H5 t5 rE5 rM5 => ⟨e5, m5, t14.trans t5, rE5, rM5, h5⟩, o2.xe⟩⟩
  · have e1 : i = its.length := by omega
    subst e1
    rw [List.drop_length] at w2
    exact .inl ⟨it.stop H2 m2 t2 rM2 w2.1, ok.nx e2 m2 w2.2 σ2 H2 (t1.trans t2) rE2 rM2⟩
end
end Ab

set_option Elab.async false
set_option linter.all false
set_option maxRecDepth 100000
set_option maxHeartbeats 2000000
namespace Ab
open PySem PySem.Spec PyProof.Rows L2
section
variable {X : Cx} {W : WX}
/-! ### list comprehensions: nothing may be raised within -/
abbrev W0 : WX := fun _ _ _ _ => False
theorem tk0 {X : Cx} : Takes X W0 := takes0
theorem wok0 {K : PySem.W.Frag} {σ : L2.St} {H : Hp} : WOk K W0 σ H fun _ _ => False := ⟨fun _ _ z => z.elim⟩
def wipeE (e : En) : List Nat → En
  | [] => e
  | v :: vs => (wipeE e vs).x v
theorem RelE.wipe {K : PySem.W.Frag} {H : Hp} {σ : L2.St} {e : En} (r : RelE K H σ e) : ∀ vs, RelE K H (L2.wipe σ vs) (wipeE e vs)
  | [] => r
  | v :: vs => RelE.unset v (RelE.wipe r vs)
theorem wipe_set {σ : L2.St} {i : Nat} {x : Option V} : ∀ {vs : List Nat}, i ∈ vs → L2.wipe (σ.set i x) vs = L2.wipe σ vs
  | v :: vs, h => by
    show (L2.wipe (σ.set i x) vs).set v none = (L2.wipe σ vs).set v none
    by_cases hv : i ∈ vs
    · rw [wipe_set hv]
    · have e : i = v := by
        rcases List.mem_cons.mp h with h | h
        · exact h
        · exact absurd h hv
      subst e
      have go : ∀ (us : List Nat), i ∉ us → L2.wipe (σ.set i x) us = (L2.wipe σ us).set i x := by
        intro us
        induction us with
        | nil => intro _; rfl
        | cons u us ih =>
          intro hn
          show (L2.wipe (σ.set i x) us).set u none = ((L2.wipe σ us).set u none).set i x
          rw [ih fun z => hn (List.mem_cons_of_mem _ z), List.set_comm _ _ fun z => hn (by rw [z]; exact List.mem_cons_self)]
      rw [go vs hv, List.set_set]
/-- a target of a comprehension: it stores into the slots vs alone -/
def lGc (K : PySem.W.Frag) (vs : List Nat) (g : AG) : TG := fun v σ H Q => ∃ d e m P, Rep K H d v ∧ RelE K H σ e ∧ RelM K H m ∧ g d e m P ∧ ∀ e' m', P e' m' → ∀ σ' H', Tx H H' → RelE K H' σ' e' → RelM K H' m' → L2.wipe σ' vs = L2.wipe σ vs → Q σ' H'
def lGsc (K : PySem.W.Frag) (vs : List Nat) (g : AGs) : TGs := fun us σ H Q => ∃ ds e m P, Reps K H ds us ∧ RelE K H σ e ∧ RelM K H m ∧ g ds e m P ∧ ∀ e' m', P e' m' → ∀ σ' H', Tx H H' → RelE K H' σ' e' → RelM K H' m' → L2.wipe σ' vs = L2.wipe σ vs → Q σ' H'
theorem c_name {i : Nat} {x : Str} {pos : Pos} {vs : List Nat} (hN : X.N.Nodup) (hm : i ∈ vs := by decide) (hi : X.N[i]? = some x := by rfl) (hx : Loc X.env.scope x := by first | exact .inl rfl | exact .inr rfl) (hf : X.fn x = true ∨ X.env.scope.names.lookup x = some .local := by first | exact .inl rfl | exact .inr rfl) : PG X (.Name x pos) (lGc X.K vs (aN i)) := pg_imp (pg_name hN hi hx hf) fun v σ H Q h => by
  obtain ⟨d, e, m, P, r, rE, rM, t, q⟩ := h
  exact q _ m t _ H (Tx.refl H) (rE.set i r) rM (wipe_set hm)
theorem cs_nil {vs : List Nat} : PGs X [] (lGsc X.K vs aGNil) := pgs_imp pgs_nil fun us σ H Q h => by
  obtain ⟨ds, e, m, P, r, rE, rM, t, q⟩ := h
  cases ds with
  | nil => exact ⟨r, q e m t σ H (Tx.refl H) rE rM rfl⟩
  | cons d r => exact t.elim
theorem cs_cons {vs : List Nat} {e : Expr} {es : List Expr} {t : AG} {u : AGs} (h1 : PG X e (lGc X.K vs t)) (h2 : PGs X es (lGsc X.K vs u))
    (hs : (assignEach (e :: es) X.env).map (·.2) = assign e X.env :: (assignEach es X.env).map (·.2) := by rfl) : PGs X (e :: es) (lGsc X.K vs (aGCons t u)) := pgs_imp (pgs_cons h1 h2 hs) fun us σ H Q h => by
  obtain ⟨ds, e, m, P, r, rE, rM, t, q⟩ := h
  cases ds with
  | nil => exact t.elim
  | cons d ds =>
    obtain ⟨x, xs, e1, rd, rr⟩ := r
    refine ⟨x, xs, e1, d, e, m, _, rd, rE, rM, t, fun e' m' h' σ' H' t' rE' rM' w1 => ?_⟩
    exact ⟨ds, e', m', P, rr.mono t', rE', rM', h', fun e2 m2 h2 σ2 H2 t2 a b w2 => q e2 m2 h2 σ2 H2 (t'.trans t2) a b (w2.trans w1)⟩
theorem c_tup {vs : List Nat} {es : List Expr} {k : Nat} {t : AGs} {n : Nat} {pos : Pos} (hc : X.calm = true) (h : PGs X es (lGsc X.K vs t))
    (hn : (assignEach es X.env).length = n := by rfl) (hst : (assignEach es X.env).findIdx? (·.1) = none := by rfl) : PG X (.Tuple es k pos) (lGc X.K vs (aTT n t)) := pg_imp (pg_tup hc h hn hst) fun v σ H Q h => by
  obtain ⟨d, e, m, P, r, rE, rM, t, q⟩ := h
  cases d with
  | tup ds =>
    obtain ⟨a, xs, ex, hs, hr⟩ := r
    exact ⟨a, xs, ex, hs, by rw [← hr.length]; exact t.1, ds, e, m, P, hr, rE, rM, t.2, q⟩
  | _ => exact t.elim
def aYes : AT := fun _ m Q _ => Q true m
theorem ts_yes {K : PySem.W.Frag} : PTs X [] (lT K W0 aYes) := ⟨fun p s σ H Q I h => pts_nil.run p s σ H Q I (by
  obtain ⟨e, m, P, R, rE, rM, t, q, w⟩ := h
  exact q true m t H (Tx.refl H) rM)⟩
theorem ts_if {c : Expr} {t : AT} (h : GT X W0 c t) : PTs X [c] (lT X.K W0 t) := pts_one h
def lcL (g : AG) (tt : AT) (te : AE) (e : En) (p : Addr) (gd : M → Prop) : List D → PQ → M → Prop
  | [], Q, m => gd m ∧ Q (.ref p) m
  | d :: r, Q, m => gd m ∧ g d e m fun e1 m1 => tt e1 m1 (fun b m2 => if b = true then te e1 m2 (fun y m3 => match m3 p with
    | some (.lst acc) => acc.length < big ∧ lcL g tt te e p gd r Q (mset m3 p (.lst (acc ++ [y])))
    | _ => False) (fun _ _ => False) else lcL g tt te e p gd r Q m2) fun _ _ => False
def aLc (ti : AI) (g : AG) (tt : AT) (te : AE) (vs : List Nat) : AE := fun e m Q R => ti e m (fun its gd m1 => ∀ p, m1 p = none → lcL g tt te (wipeE e vs) p gd its Q (mset m1 p (.lst []))) R
theorem llc {K : PySem.W.Frag} {ti : AI} {g : AG} {tt : AT} {te : AE} {vs : List Nat} {σ : L2.St} {H : Hp} {Q : VK} (h : lE K W (aLc ti g tt te vs) σ H Q) : tLc (lI K W ti) (lGc K vs g) (lT K W0 tt) (lE K W0 te) vs σ H Q := by
  obtain ⟨e, m, P, R, rE, rM, t, q, w⟩ := h
  refine ⟨e, m, _, R, rE, rM, t, fun its gd m1 h1 J H1 t1 rm1 it p hp => ?_, w⟩
  refine ⟨fun i k H2 => ∃ m2, k = its.length - i ∧ i ≤ its.length ∧ Tx H1 H2 ∧ RelM K H2 m2 ∧ lcL g tt te (wipeE e vs) p gd (its.drop i) P m2, ⟨its.length, _, by simp, Nat.zero_le _, Tx.new hp, rm1.newL hp (show Reps K H1 [] [] from rfl), h1 p (rm1.free hp)⟩, ?_⟩
  rintro i k H2 ⟨m2, rfl, hi, t2, rM2, w2⟩
  by_cases hlt : i < its.length
  · have hd : its.drop i = its[i] :: its.drop (i + 1) := List.drop_eq_getElem_cons hlt
    rw [hd] at w2
    refine .inr ⟨it.go i H2 m2 t2 rM2 w2.1 hlt, fun H3 => ∃ m3, Tx H1 H3 ∧ RelM K H3 m3 ∧ lcL g tt te (wipeE e vs) p gd (its.drop (i + 1)) P m3, fun H3 ⟨m3, t3, b3, c3⟩ => ⟨its.length - (i + 1), by omega, m3, rfl, hlt, t3, b3, c3⟩, fun x H3 y => ?_⟩
    obtain ⟨t3, rx, keep⟩ := it.yld i its[i] H2 m2 x H3 t2 rM2 w2.1 (by simp [hlt]) y
    have rE3 : RelE K H3 (L2.wipe σ vs) (wipeE e vs) := (rE.mono (t1.trans (t2.trans t3))).wipe vs
    refine ⟨its[i], wipeE e vs, m2, _, rx, rE3, keep m2 rM2, w2.2, fun e4 m4 h4 σ4 H4 t4 rE4 rM4 wp => ⟨?_, ?_⟩⟩
    · have e9 : L2.wipe (L2.wipe σ vs) vs = L2.wipe σ vs := by
        have go : ∀ (us : List Nat) (τ : L2.St), (∀ u ∈ us, u ∈ vs) → L2.wipe (L2.wipe τ us) vs = L2.wipe τ vs := by
          intro us
          induction us with
          | nil => intro τ _; rfl
          | cons u us ih =>
            intro τ hu
            show L2.wipe ((L2.wipe τ us).set u none) vs = _
            rw [wipe_set (hu u List.mem_cons_self), ih τ fun z hz => hu z (List.mem_cons_of_mem _ hz)]
        exact go vs σ fun _ z => z
      rw [wp, e9]
    · refine ⟨e4, m4, _, _, rE4, rM4, h4, fun b m5 h5 H5 t5 rm5 => ?_, wok0⟩
      cases b with
      | true =>
        rw [if_pos rfl]
        refine ⟨e4, m5, _, _, rE4.mono t5, rm5, by simpa using h5, fun d6 m6 h6 v H6 t6 r6 rm6 => ?_, wok0⟩
        have h6' : (match m6 p with | some (.lst acc) => acc.length < big ∧ lcL g tt te (wipeE e vs) p gd (its.drop (i + 1)) P (mset m6 p (.lst (acc ++ [d6]))) | _ => False) := h6
        cases hm : m6 p with
        | none => rw [hm] at h6'; exact h6'.elim
        | some o =>
          rw [hm] at h6'
          cases o with
          | lst acc =>
            obtain ⟨xs, hx, hr⟩ := rm6 p _ hm
            exact ⟨xs, hx, by rw [← hr.length]; exact big_lt h6'.1, _, ((t2.trans t3).trans t4).trans (t5.trans (t6.trans (Tx.mut hx trivial))), rm6.putL hx (hr.append (show Reps K H6 [d6] [v] from ⟨v, [], rfl, r6, rfl⟩)), h6'.2⟩
          | _ => exact h6'.elim
      | false =>
        rw [if_neg Bool.false_ne_true]
        exact ⟨m5, ((t2.trans t3).trans t4).trans t5, rm5, by simpa using h5⟩
  · have e1 : i = its.length := by omega
    subst e1
    rw [List.drop_length] at w2
    exact .inl ⟨it.stop H2 m2 t2 rM2 w2.1, q _ m2 w2.2 _ H2 (t1.trans t2) rfl rM2⟩
abbrev Blk (X : Cx) (s : Shared) (H : Hp) (scope : Scope) (C : Addr) (cl : List (Str × Addr)) (fp : List Addr) : Cx := X.blk s H scope (compEnvC scope cl C X.env) fp
theorem g_lc {elt tg iter : Expr} {ifs : List Expr} {scope : Scope} {own : List (Str × Nat)} {pos : Pos} {ti : AI} {g : AG} {tt : AT} {te : AE} (hc : X.calm = true) (hN : X.N.Nodup) (hi : GI' X W tg iter ti) (ok : BlkOk X.N X.env.scope scope own)
    (hg : ∀ (s : Shared) (H : Hp) (C : Addr) (cl : List (Str × Addr)) (fp : List Addr), PG (Blk X s H scope C cl fp) tg (lGc X.K (own.map (·.2)) g)) (ht : ∀ (s : Shared) (H : Hp) (C : Addr) (cl : List (Str × Addr)) (fp : List Addr), PTs (Blk X s H scope C cl fp) ifs (lT X.K W0 tt))
    (he : ∀ (s : Shared) (H : Hp) (C : Addr) (cl : List (Str × Addr)) (fp : List Addr), GE (Blk X s H scope C cl fp) W0 elt te) (hs : ∀ x, foldedSetIterable iter X.env x = pure x := by intro _; rfl) :
    GE X W (.ListComp elt [⟨tg, iter, ifs, 0⟩] scope pos) (aLc ti g tt te (own.map (·.2))) := pe_imp (pe_lc hc hN hi ok hg ht he hs) fun _ _ _ h => llc h
theorem s_setLc {i : Nat} {y : Str} {py : Pos} {elt tg iter : Expr} {ifs : List Expr} {scope : Scope} {own : List (Str × Nat)} {pos spos : Pos} {ti : AI} {g : AG} {tt : AT} {te : AE} (hc : X.calm = true) (hN : X.N.Nodup) (hi : GI' X W tg iter ti) (ok : BlkOk X.N X.env.scope scope own)
    (hsw : swapsWith (.ListComp elt [⟨tg, iter, ifs, 0⟩] scope pos) (some (.Name y py)) spos.line X.env = pure true)
    (hg : ∀ (s : Shared) (H : Hp) (C : Addr) (cl : List (Str × Addr)) (fp : List Addr), PG (Blk X s H scope C cl fp) tg (lGc X.K (own.map (·.2)) g)) (ht : ∀ (s : Shared) (H : Hp) (C : Addr) (cl : List (Str × Addr)) (fp : List Addr), PTs (Blk X s H scope C cl fp) ifs (lT X.K W0 tt))
    (he : ∀ (s : Shared) (H : Hp) (C : Addr) (cl : List (Str × Addr)) (fp : List Addr), GE (Blk X s H scope C cl fp) W0 elt te) (hy : X.N[i]? = some y := by rfl) (hyl : X.env.scope.names.lookup y = some .local := by rfl) (hs : ∀ x, foldedSetIterable iter X.env x = pure x := by intro _; rfl) :
    GS X W (.Assign [.Name y py] (.ListComp elt [⟨tg, iter, ifs, 0⟩] scope pos) spos) (aAsg (aLc ti g tt te (own.map (·.2))) (aN i)) := ps_imp (ps_setLc hc hN hy hyl hsw hi ok hg ht he hs) fun D σ H h => by
  obtain ⟨e, m, A, rE, rM, t, ok2⟩ := h
  refine llc ⟨e, m, _, _, rE, rM, t, fun d m1 h1 v H1 t1 r1 rm1 => ?_, ok2.xe e σ H (Tx.refl H) rE⟩
  exact ok2.nx _ m1 h1 _ H1 t1 ((rE.mono t1).set i r1) rm1
end
end Ab

set_option Elab.async false
set_option linter.all false
set_option maxRecDepth 100000
set_option maxHeartbeats 2000000
namespace Ab
open PySem PySem.Spec PyProof.Rows L2
/-- a list of the store -/
def M.l (m : M) (a : Addr) : Option (List D) := match m a with
  | some (.lst ds) => some ds
  | _ => none
theorem M.l_of {m : M} {a : Addr} {ds : List D} (h : m.l a = some ds) : m a = some (.lst ds) := by
  unfold M.l at h
  cases e : m a with
  | none => rw [e] at h; cases h
  | some o => rw [e] at h; cases o with
    | lst xs => cases h; rfl
    | _ => cases h
theorem M.l_mk {m : M} {a : Addr} {ds : List D} (h : m a = some (.lst ds)) : m.l a = some ds := by unfold M.l; rw [h]
theorem M.l_set {m : M} {a : Addr} {ds : List D} : (mset m a (.lst ds)).l a = some ds := M.l_mk mset_same
theorem M.l_ne {m : M} {a b : Addr} {o : O} (h : b ≠ a) : (mset m a o).l b = m.l b := by unfold M.l; rw [mset_ne h]
section
variable {X : Cx} {W : WX}
/-! ### operators on data -/
def rAddA : AR2
  | .int i, .int j, m, Q => Q (.int (i + j)) m
  | .tup a, .tup b, m, Q => a.length + b.length ≤ big ∧ Q (.tup (a ++ b)) m
  | .str a, .str b, m, Q => a.length + b.length ≤ big ∧ Q (.str (a ++ b)) m
  | .ref a, .ref b, m, Q => (match m.l a, m.l b with
    | some xs, some ys => xs.length + ys.length ≤ big ∧ ∀ p, m p = none → Q (.ref p) (mset m p (.lst (xs ++ ys)))
    | _, _ => False)
  | _, _, _, _ => False
theorem or_int {f : Value → Value → Sem Value} {C : Int → Int → Prop} {g : Int → Int → V} {pins : List (Addr × Obj)} {s : Shared} {σ : L2.St} {H : Hp} {x y : V} {v u : Value} {Q : VK} {i j : Int} (h : OpR X f (rI C g)) (I : Inv X pins σ H s) (rx : RelV x v) (ry : RelV y u) (ex : x = .int i) (ey : y = .int j) (c : C i j) (q : Q (g i j) H) :
    wpAny (model X.prog X.w) X.A (f v u) (EP X pins σ Q) X.xe s := h pins s σ H x y v u Q I rx ry ⟨i, j, ex, ey, c, q⟩
theorem or_int0 {f : Value → Value → Sem Value} {g : Int → Int → V} {pins : List (Addr × Obj)} {s : Shared} {σ : L2.St} {H : Hp} {x y : V} {v u : Value} {Q : VK} {i j : Int} (h : OpR X f (rI0 g)) (I : Inv X pins σ H s) (rx : RelV x v) (ry : RelV y u) (ex : x = .int i) (ey : y = .int j) (q : Q (g i j) H) :
    wpAny (model X.prog X.w) X.A (f v u) (EP X pins σ Q) X.xe s := h pins s σ H x y v u Q I rx ry ⟨i, j, ex, ey, q⟩
theorem o_add : OpR X (binaryOp .Add) (lR2 X.K rAddA) := by
  intro pins s σ H x y v u Q I rx ry ⟨d1, d2, m, P, r1, r2, rM, h, q⟩
  cases d1 with
  | int i => cases d2 with
    | int j => exact or_int0 op_add I rx ry r1 r2 (q _ m h _ H (Tx.refl H) rfl rM)
    | _ => exact h.elim
  | str a => cases d2 with
    | str b => exact op_add_str pins s σ H x y v u Q I rx ry ⟨a, b, r1, r2, big_line h.1, q _ m h.2 _ H (Tx.refl H) rfl rM⟩
    | _ => exact h.elim
  | tup a => cases d2 with
    | tup b =>
      obtain ⟨p1, xs, e1, s1, z1⟩ := r1
      obtain ⟨p2, ys, e2, s2, z2⟩ := r2
      refine op_catA pins s σ H x y v u Q I rx ry ⟨p1, p2, xs, ys, e1, e2, s1, s2, by rw [← z1.length, ← z2.length]; exact big_line h.1, fun hx => ?_, fun hx hy => ?_, fun hx hy p hp => ?_⟩
      · refine q _ m h.2 _ H (Tx.refl H) ⟨p2, ys, rfl, s2, ?_⟩ rM
        have := z1.append z2
        rw [hx] at this
        exact this
      · refine q _ m h.2 _ H (Tx.refl H) ⟨p1, xs, rfl, s1, ?_⟩ rM
        have := z1.append z2
        rw [hy, List.append_nil] at this
        exact this
      · exact q _ m h.2 _ _ (Tx.new hp) ⟨p, xs ++ ys, rfl, SqT.of upd_same, (z1.append z2).mono (Tx.new hp)⟩ (rM.grow hp)
    | _ => exact h.elim
  | ref a => cases d2 with
    | ref b =>
      have h' : (match m.l a, m.l b with | some xs, some ys => xs.length + ys.length ≤ big ∧ ∀ p, m p = none → P (.ref p) (mset m p (.lst (xs ++ ys))) | _, _ => False) := h
      cases e1 : m.l a with
      | none => rw [e1] at h'; exact h'.elim
      | some xs => cases e2 : m.l b with
        | none => rw [e1, e2] at h'; exact h'.elim
        | some ys =>
          rw [e1, e2] at h'
          obtain ⟨xv, hx, zx⟩ := rM a _ (M.l_of e1)
          obtain ⟨yv, hy, zy⟩ := rM b _ (M.l_of e2)
          exact op_cat pins s σ H x y v u Q I rx ry ⟨a, b, xv, yv, r1, r2, hx, hy, by rw [← zx.length, ← zy.length]; exact big_line h'.1, fun p hp => q _ _ (h'.2 p (rM.free hp)) _ _ (Tx.new hp) rfl (rM.newL hp (zx.append zy))⟩
    | _ => exact h.elim
  | _ => exact h.elim
/-- ints alone -/
def rIntC (C : Int → Int → Prop) (g : Int → Int → D) : AR2
  | .int i, .int j, m, Q => C i j ∧ Q (g i j) m
  | _, _, _, _ => False
def rInt0 (g : Int → Int → D) : AR2
  | .int i, .int j, m, Q => Q (g i j) m
  | _, _, _, _ => False
theorem o_intC {f : Value → Value → Sem Value} {C : Int → Int → Prop} {g : Int → Int → Int} (h : OpR X f (rI C fun i j => .int (g i j))) : OpR X f (lR2 X.K (rIntC C fun i j => .int (g i j))) := by
  intro pins s σ H x y v u Q I rx ry ⟨d1, d2, m, P, r1, r2, rM, hh, q⟩
  cases d1 with
  | int i => cases d2 with
    | int j => exact or_int h I rx ry r1 r2 hh.1 (q _ m hh.2 _ H (Tx.refl H) rfl rM)
    | _ => exact hh.elim
  | _ => exact hh.elim
theorem o_int0 {f : Value → Value → Sem Value} {g : Int → Int → Int} (h : OpR X f (rI0 fun i j => .int (g i j))) : OpR X f (lR2 X.K (rInt0 fun i j => .int (g i j))) := by
  intro pins s σ H x y v u Q I rx ry ⟨d1, d2, m, P, r1, r2, rM, hh, q⟩
  cases d1 with
  | int i => cases d2 with
    | int j => exact or_int0 h I rx ry r1 r2 (q _ m hh _ H (Tx.refl H) rfl rM)
    | _ => exact hh.elim
  | _ => exact hh.elim
theorem o_intB {f : Value → Value → Sem Value} {g : Int → Int → Bool} (h : OpR X f (rI0 fun i j => .bl (g i j))) : OpR X f (lR2 X.K (rInt0 fun i j => .bl (g i j))) := by
  intro pins s σ H x y v u Q I rx ry ⟨d1, d2, m, P, r1, r2, rM, hh, q⟩
  cases d1 with
  | int i => cases d2 with
    | int j => exact or_int0 h I rx ry r1 r2 (q _ m hh _ H (Tx.refl H) rfl rM)
    | _ => exact hh.elim
  | _ => exact hh.elim
abbrev rSubA : AR2 := rInt0 fun i j => .int (i - j)
abbrev rFdivA : AR2 := rIntC CDivW fun i j => .int (i / j)
abbrev rModA : AR2 := rIntC (fun _ j => 0 < j) fun i j => .int (i % j)
abbrev rPowA : AR2 := rIntC CPow fun i j => .int (i ^ j.toNat)
abbrev rShlA : AR2 := rIntC CPow fun i j => .int (i * 2 ^ j.toNat)
abbrev rShrA : AR2 := rIntC (fun _ j => 0 ≤ j) fun i j => .int (i / 2 ^ j.toNat)
abbrev rAndA : AR2 := rInt0 fun i j => .int (Builtin.bitAnd i j)
abbrev rOrA : AR2 := rInt0 fun i j => .int (Builtin.bitOr i j)
abbrev rXorA : AR2 := rInt0 fun i j => .int (Builtin.bitXor i j)
theorem o_sub : OpR X (binaryOp .Sub) (lR2 X.K rSubA) := o_int0 op_sub
theorem o_fdiv : OpR X (binaryOp .FloorDiv) (lR2 X.K rFdivA) := o_intC op_fdivW
theorem o_mod : OpR X (binaryOp .Mod) (lR2 X.K rModA) := o_intC op_mod
theorem o_pow : OpR X (binaryOp .Pow) (lR2 X.K rPowA) := o_intC op_pow
theorem o_shl : OpR X (binaryOp .LShift) (lR2 X.K rShlA) := o_intC op_shl
theorem o_shr : OpR X (binaryOp .RShift) (lR2 X.K rShrA) := o_intC op_shr
theorem o_and : OpR X (binaryOp .BitAnd) (lR2 X.K rAndA) := o_int0 op_and
theorem o_or : OpR X (binaryOp .BitOr) (lR2 X.K rOrA) := o_int0 op_or
theorem o_xor : OpR X (binaryOp .BitXor) (lR2 X.K rXorA) := o_int0 op_xor
abbrev rLtA : AR2 := rInt0 fun i j => .bl (decide (i < j))
abbrev rLeA : AR2 := rInt0 fun i j => .bl (decide (i ≤ j))
abbrev rGtA : AR2 := rInt0 fun i j => .bl (decide (j < i))
abbrev rGeA : AR2 := rInt0 fun i j => .bl (decide (j ≤ i))
theorem o_lt : OpR X (compareOp .Lt) (lR2 X.K rLtA) := o_intB op_lt
theorem o_le : OpR X (compareOp .LtE) (lR2 X.K rLeA) := o_intB op_le
theorem o_gt : OpR X (compareOp .Gt) (lR2 X.K rGtA) := o_intB op_gt
theorem o_ge : OpR X (compareOp .GtE) (lR2 X.K rGeA) := o_intB op_ge
/-- i * j; t * n -/
def rMulA : AR2
  | .int i, .int j, m, Q => CMulW i j ∧ Q (.int (i * j)) m
  | .tup a, .int k, m, Q => (a ≠ [] ∧ 2 ≤ k ∧ k ≤ 1000 ∧ a.length ≤ 1000) ∧ Q (.tup (List.replicate k.toNat a).flatten) m
  | .ref a, .int k, m, Q => (match m.l a with
    | some xs => (-(2 ^ 62) ≤ k ∧ k < 2 ^ 62 ∧ xs.length * k.toNat ≤ big) ∧ ∀ p, m p = none → Q (.ref p) (mset m p (.lst (List.replicate k.toNat xs).flatten))
    | none => False)
  | _, _, _, _ => False
theorem Reps.nil_iff {K : PySem.W.Frag} {H : Hp} {ds : List D} {vs : List V} (h : Reps K H ds vs) (n : ds ≠ []) : vs ≠ [] := by
  intro e
  subst e
  have := h.length
  exact n (List.length_eq_zero_iff.mp this)
theorem o_mul : OpR X (binaryOp .Mult) (lR2 X.K rMulA) := by
  intro pins s σ H x y v u Q I rx ry ⟨d1, d2, m, P, r1, r2, rM, h, q⟩
  cases d1 with
  | int i => cases d2 with
    | int j => exact or_int op_mulW I rx ry r1 r2 h.1 (q _ m h.2 _ H (Tx.refl H) rfl rM)
    | _ => exact h.elim
  | tup a => cases d2 with
    | int k =>
      obtain ⟨p1, xs, e1, s1, z1⟩ := r1
      obtain ⟨⟨h1, h2, h3, h4⟩, h5⟩ := h
      exact op_repT pins s σ H x y v u Q I rx ry ⟨p1, k, xs, e1, r2, s1, z1.nil_iff h1, h2, h3, by rw [← z1.length]; exact h4, fun p hp => q _ m h5 _ _ (Tx.new hp) ⟨p, _, rfl, SqT.of upd_same, (z1.flat _).mono (Tx.new hp)⟩ (rM.grow hp)⟩
    | _ => exact h.elim
  | ref a => cases d2 with
    | int k =>
      have h' : (match m.l a with | some xs => (-(2 ^ 62) ≤ k ∧ k < 2 ^ 62 ∧ xs.length * k.toNat ≤ big) ∧ ∀ p, m p = none → P (.ref p) (mset m p (.lst (List.replicate k.toNat xs).flatten)) | none => False) := h
      cases e1 : m.l a with
      | none => rw [e1] at h'; exact h'.elim
      | some xs =>
        rw [e1] at h'
        obtain ⟨xv, hx, zx⟩ := rM a _ (M.l_of e1)
        exact op_rep pins s σ H x y v u Q I rx ry ⟨a, k, xv, r1, r2, hx, by omega, by omega, by rw [← zx.length]; exact big_line h'.1.2.2, fun p hp => q _ _ (h'.2 p (rM.free hp)) _ _ (Tx.new hp) rfl (rM.newL hp (zx.flat _))⟩
    | _ => exact h.elim
  | _ => exact h.elim
def rNegA : AR1
  | .int i, m, Q => Q (.int (-i)) m
  | _, _, _ => False
theorem u_neg : UnR X (unaryOp .USub) (lR1 X.K rNegA) := by
  intro pins s σ H x v Q I rx ⟨d, m, P, r, rM, h, q⟩
  cases d with
  | int i => exact un_neg pins s σ H x v Q I rx ⟨i, r, q _ m h _ H (Tx.refl H) rfl rM⟩
  | _ => exact h.elim
/-! ### == -/
mutual
def D.py : D → Option PyData
  | .non => some .none
  | .bl b => some (.bool b)
  | .int i => some (.int i)
  | .str x => some (.str x)
  | .tup ds => (D.pys ds).map .tuple
  | .fls ds => (D.pys ds).map .list
  | _ => none
def D.pys : List D → Option (List PyData)
  | [] => some []
  | d :: ds => match D.py d, D.pys ds with
    | some p, some ps => some (p :: ps)
    | _, _ => none
end
mutual
theorem dp_of {K : PySem.W.Frag} {H : Hp} : ∀ {d : D} {p : PyData} {v : V}, d.py = some p → Rep K H d v → Dp K H v p
  | .non, _, _, e, r => by cases e; rw [show _ = V.non from r]; exact .non
  | .bl b, _, _, e, r => by cases e; rw [show _ = V.bl b from r]; exact .bl b
  | .int i, _, _, e, r => by cases e; rw [show _ = V.int i from r]; exact .int i
  | .str x, _, _, e, r => by cases e; rw [show _ = V.str x from r]; exact .str x
  | .tup ds, p, v, e, ⟨a, xs, ev, hs, hr⟩ => by
    have e' : (D.pys ds).map PyData.tuple = some p := e
    cases q : D.pys ds with
    | none => rw [q] at e'; cases e'
    | some ps => rw [q] at e'; cases e'; rw [ev]; exact .tup hs (dps_of q hr)
  | .fls ds, p, v, e, ⟨a, xs, ev, hs, hr⟩ => by
    have e' : (D.pys ds).map PyData.list = some p := e
    cases q : D.pys ds with
    | none => rw [q] at e'; cases e'
    | some ps => rw [q] at e'; cases e'; rw [ev]; exact .lst hs.sq (dps_of q hr)
  | .ref _, _, _, e, _ => by cases e
  | .ty _, _, _, e, _ => by cases e
theorem dps_of {K : PySem.W.Frag} {H : Hp} : ∀ {ds : List D} {ps : List PyData} {vs : List V}, D.pys ds = some ps → Reps K H ds vs → DpAll K H vs ps
  | [], _, _, e, r => by cases e; rw [show _ = [] from r]; exact .nil
  | d :: ds, ps, _, e, ⟨x, r, ev, hx, hr⟩ => by
    have e' : (match D.py d, D.pys ds with | some p, some ps => some (p :: ps) | _, _ => none) = some ps := e
    cases q1 : D.py d with
    | none => rw [q1] at e'; cases e'
    | some p => cases q2 : D.pys ds with
      | none => rw [q1, q2] at e'; cases e'
      | some qs => rw [q1, q2] at e'; cases e'; rw [ev]; exact .cons (dp_of q1 hx) (dps_of q2 hr)
end
/-- data, a list of the store at the top -/
def D.pyM (m : M) : D → Option PyData
  | .ref a => (match m.l a with
    | some ds => (D.pys ds).map .list
    | none => none)
  | d => d.py
theorem dpM_of {K : PySem.W.Frag} {H : Hp} {m : M} (rM : RelM K H m) : ∀ {d : D} {p : PyData} {v : V}, d.pyM m = some p → Rep K H d v → Dp K H v p
  | .ref a, p, v, e, r => by
    have e' : (match m.l a with | some ds => (D.pys ds).map PyData.list | none => none) = some p := e
    cases q : m.l a with
    | none => rw [q] at e'; cases e'
    | some ds =>
      rw [q] at e'
      obtain ⟨xs, hx, hr⟩ := rM a _ (M.l_of q)
      cases q2 : D.pys ds with
      | none => simp only [q2, Option.map_none] at e'; cases e'
      | some ps => simp only [q2, Option.map_some] at e'; cases e'; rw [show v = .ref a from r]; exact .lst (SqL.of hx) (dps_of q2 hr)
  | .non, p, v, e, r => dp_of e r
  | .bl _, p, v, e, r => dp_of e r
  | .int _, p, v, e, r => dp_of e r
  | .str _, p, v, e, r => dp_of e r
  | .tup _, p, v, e, r => dp_of e r
  | .fls _, p, v, e, r => dp_of e r
  | .ty _, p, v, e, r => by cases e
def eqA (x y : D) (m : M) (k : Bool → Prop) : Prop := match x, y with
  | .int i, .int j => k (decide (i = j))
  | .str i, .str j => k (decide (i = j))
  | .bl i, .bl j => k (decide (i = j))
  | .non, .non => k true
  | x, y => match x.pyM m, y.pyM m with
    | some p, some q => (SeqAt.shaped p = true ∧ SeqAt.shaped q = true) ∧ k (PyData.eqv p q)
    | _, _ => False
def rEqA : AR2 := fun x y m Q => eqA x y m fun b => Q (.bl b) m
def rNeA : AR2 := fun x y m Q => eqA x y m fun b => Q (.bl (!b)) m
theorem eq_go {op : CmpOp} {n : Bool → Bool} (hs : ∀ {x y : V}, scal x y = true → ∀ (pins : List (Addr × Obj)) (s : Shared) (σ : L2.St) (H : Hp) (v u : Value) (Q : VK), Inv X pins σ H s → RelV x v → RelV y u → Q (.bl (n (decide (x = y)))) H → wpAny (model X.prog X.w) X.A (compareOp op v u) (EP X pins σ Q) X.xe s)
    (hd : ∀ (pins : List (Addr × Obj)) (s : Shared) (σ : L2.St) (H : Hp) (x y : V) (v u : Value) (Q : VK) (d e : PyData), Inv X pins σ H s → RelV x v → RelV y u → Dp X.K H x d → Dp X.K H y e → SeqAt.shaped d = true → SeqAt.shaped e = true → Q (.bl (n (PyData.eqv d e))) H → wpAny (model X.prog X.w) X.A (compareOp op v u) (EP X pins σ Q) X.xe s) :
    OpR X (compareOp op) (lR2 X.K fun x y m Q => eqA x y m fun b => Q (.bl (n b)) m) := by
  intro pins s σ H x y v u Q I rx ry ⟨d1, d2, m, P, r1, r2, rM, h, q⟩
  have fin : ∀ b, P (.bl (n b)) m → Q (.bl (n b)) H := fun b p => q _ m p _ H (Tx.refl H) rfl rM
  have gen : (match d1.pyM m, d2.pyM m with | some p, some q => (SeqAt.shaped p = true ∧ SeqAt.shaped q = true) ∧ P (.bl (n (PyData.eqv p q))) m | _, _ => False) → wpAny (model X.prog X.w) X.A (compareOp op v u) (EP X pins σ Q) X.xe s := fun h => by
    cases e1 : d1.pyM m with
    | none => rw [e1] at h; exact h.elim
    | some p => cases e2 : d2.pyM m with
      | none => rw [e1, e2] at h; exact h.elim
      | some p2 =>
        rw [e1, e2] at h
        exact hd pins s σ H x y v u Q p p2 I rx ry (dpM_of rM e1 r1) (dpM_of rM e2 r2) h.1.1 h.1.2 (fin _ h.2)
  cases d1 with
  | int i => cases d2 with
    | int j =>
      obtain rfl : x = .int i := r1
      obtain rfl : y = .int j := r2
      refine hs (x := .int i) (y := .int j) rfl pins s σ H v u Q I rx ry ?_
      have : decide (V.int i = V.int j) = decide (i = j) := by simp
      rw [this]
      exact fin _ h
    | _ => exact gen h
  | str i => cases d2 with
    | str j =>
      obtain rfl : x = .str i := r1
      obtain rfl : y = .str j := r2
      refine hs (x := .str i) (y := .str j) rfl pins s σ H v u Q I rx ry ?_
      have : decide (V.str i = V.str j) = decide (i = j) := by simp
      rw [this]
      exact fin _ h
    | _ => exact gen h
  | bl i => cases d2 with
    | bl j =>
      obtain rfl : x = .bl i := r1
      obtain rfl : y = .bl j := r2
      refine hs (x := .bl i) (y := .bl j) rfl pins s σ H v u Q I rx ry ?_
      have : decide (V.bl i = V.bl j) = decide (i = j) := by simp
      rw [this]
      exact fin _ h
    | _ => exact gen h
  | non => cases d2 with
    | non =>
      obtain rfl : x = .non := r1
      obtain rfl : y = .non := r2
      refine hs (x := .non) (y := .non) rfl pins s σ H v u Q I rx ry ?_
      have : decide (V.non = V.non) = true := by simp
      rw [this]
      exact fin _ h
    | _ => exact gen h
  | _ => exact gen h
theorem o_eq (hu : X.A.units + 64 < cLine) : OpR X (compareOp .Eq) (lR2 X.K rEqA) := eq_go (n := id) (fun {x y} hxy pins s σ H v u Q I rx ry q => op_eq pins s σ H x y v u Q I rx ry ⟨hxy, q⟩) fun pins s σ H x y v u Q d e I rx ry dx dy sx sy q => op_eqD hu pins s σ H x y v u Q I rx ry ⟨d, e, dx, dy, sx, sy, q⟩
theorem o_ne (hu : X.A.units + 64 < cLine) : OpR X (compareOp .NotEq) (lR2 X.K rNeA) := eq_go (n := not) (fun {x y} hxy pins s σ H v u Q I rx ry q => op_ne pins s σ H x y v u Q I rx ry ⟨hxy, q⟩) fun pins s σ H x y v u Q d e I rx ry dx dy sx sy q => op_neD hu pins s σ H x y v u Q I rx ry ⟨d, e, dx, dy, sx, sy, q⟩
end
end Ab

set_option Elab.async false
set_option linter.all false
set_option maxRecDepth 100000
set_option maxHeartbeats 2000000
namespace Ab
open PySem PySem.Spec PyProof.Rows L2
section
variable {X : Cx} {W : WX}
/-! ### is -/
def D.isNon : D → Bool
  | .non => true
  | _ => false
def rIsA : AR2 := fun x y m Q => match x, y with
  | .bl a, .bl b => Q (.bl (decide (a = b))) m
  | x, .non => Q (.bl x.isNon) m
  | _, _ => False
def rIsNotA : AR2 := fun x y m Q => match x, y with
  | .bl a, .bl b => Q (.bl (!decide (a = b))) m
  | x, .non => Q (.bl (!x.isNon)) m
  | _, _ => False
theorem isNon_of {K : PySem.W.Frag} {H : Hp} {d : D} {v : V} (r : Rep K H d v) : decide (v = V.non) = d.isNon := by
  cases d with
  | non => rw [show v = .non from r]; rfl
  | bl _ => rw [show v = .bl _ from r]; rfl
  | int _ => rw [show v = .int _ from r]; rfl
  | str _ => rw [show v = .str _ from r]; rfl
  | ty _ => rw [show v = .ty _ from r]; rfl
  | ref _ => rw [show v = .ref _ from r]; rfl
  | tup _ => obtain ⟨a, xs, e, _⟩ := r; rw [e]; rfl
  | fls _ => obtain ⟨a, xs, e, _⟩ := r; rw [e]; rfl
theorem is_go {op : CmpOp} {n : Bool → Bool} (h1 : OpR X (compareOp op) fun x y H Q => ∃ a b : Bool, x = .bl a ∧ y = .bl b ∧ Q (.bl (n (decide (a = b)))) H)
    (h2 : OpR X (compareOp op) fun x y H Q => y = .non ∧ Q (.bl (n (decide (x = .non)))) H) : OpR X (compareOp op) (lR2 X.K fun x y m Q => match x, y with
  | .bl a, .bl b => Q (.bl (n (decide (a = b)))) m
  | x, .non => Q (.bl (n x.isNon)) m
  | _, _ => False) := by
  intro pins s σ H x y v u Q I rx ry ⟨d1, d2, m, P, r1, r2, rM, h, q⟩
  have non : d2 = .non → P (.bl (n d1.isNon)) m → wpAny (model X.prog X.w) X.A (compareOp op v u) (EP X pins σ Q) X.xe s := fun e p => by
    subst e
    refine h2 pins s σ H x y v u Q I rx ry ⟨r2, ?_⟩
    rw [isNon_of r1]
    exact q _ m p _ H (Tx.refl H) rfl rM
  cases d2 with
  | bl b => cases d1 with
    | bl a => exact h1 pins s σ H x y v u Q I rx ry ⟨a, b, r1, r2, q _ m h _ H (Tx.refl H) rfl rM⟩
    | _ => exact h.elim
  | non => exact non rfl (by cases d1 <;> exact h)
  | _ => cases d1 <;> exact h.elim
theorem o_is : OpR X (compareOp .Is) (lR2 X.K rIsA) := is_go (n := id) op_isBl op_isN
theorem o_isNot : OpR X (compareOp .IsNot) (lR2 X.K rIsNotA) := is_go (n := not) op_notBl op_notN
/-! ### len, int, tuple, list .. -/
def lenD (m : M) : D → Option Nat
  | .tup ds => some ds.length
  | .fls ds => some ds.length
  | .str x => if x.length ≤ big then some x.length else none
  | .ref a => (m.l a).map List.length
  | _ => none
def rLenA : ARL := fun ds m Q => match ds with
  | [d] => (match lenD m d with
    | some n => Q (.int (n : Int)) m
    | none => False)
  | _ => False
theorem reps1 {K : PySem.W.Frag} {H : Hp} {d : D} {vs : List V} (r : Reps K H [d] vs) : ∃ v, vs = [v] ∧ Rep K H d v := by
  obtain ⟨v, r, e, rv, e2⟩ := r
  obtain rfl : r = [] := e2
  exact ⟨v, e, rv⟩
theorem reps2 {K : PySem.W.Frag} {H : Hp} {d d' : D} {vs : List V} (r : Reps K H [d, d'] vs) : ∃ v v', vs = [v, v'] ∧ Rep K H d v ∧ Rep K H d' v' := by
  obtain ⟨v, r, e, rv, r2⟩ := r
  obtain ⟨v', e2, rv'⟩ := reps1 r2
  subst e2
  exact ⟨v, v', e, rv, rv'⟩
theorem c_len : CallR X (.builtin "len") (lRL X.K rLenA) := by
  intro pins s σ H xs us Q I r ⟨ds, m, P, rs, rM, h, q⟩
  match ds, h, rs with
  | [d], h, rs =>
    obtain ⟨v, rfl, rv⟩ := reps1 rs
    have h' : (match lenD m d with | some n => P (.int (n : Int)) m | none => False) := h
    have go : ∀ n : Nat, LenV X.K v H n → P (.int (n : Int)) m → wpAny (model X.prog X.w) X.A (call (.builtin "len") us) (EP X pins σ Q) X.xe s := fun n ln p => call_len pins s σ H [v] us Q I r ⟨v, n, rfl, ln, q _ m p _ H (Tx.refl H) rfl rM⟩
    cases d with
    | tup es => obtain ⟨a, zs, e, hs, hr⟩ := rv; subst e; exact go _ (.inr ⟨zs, hs, hr.length⟩) h'
    | fls es => obtain ⟨a, zs, e, hs, hr⟩ := rv; subst e; exact go _ (.inl ⟨zs, hs.sq, hr.length⟩) h'
    | str z =>
      obtain rfl : v = .str z := rv
      have h2 : (match (if z.length ≤ big then some z.length else none) with | some n => P (.int (n : Int)) m | none => False) := h'
      by_cases c : z.length ≤ big
      · rw [if_pos c] at h2; exact go _ ⟨big_line c, rfl⟩ h2
      · rw [if_neg c] at h2; exact h2.elim
    | ref a =>
      have h2 : (match (m.l a).map List.length with | some n => P (.int (n : Int)) m | none => False) := h'
      cases e : m.l a with
      | none => rw [e] at h2; exact h2.elim
      | some es =>
        rw [e] at h2
        have h' : P (.int (es.length : Int)) m := h2
        obtain ⟨zs, hz, hr⟩ := rM a _ (M.l_of e)
        obtain rfl : v = .ref a := rv
        exact go _ (.inl ⟨zs, SqL.of hz, hr.length⟩) h'
    | _ => exact h'.elim
def rIntA : ARL := fun ds m Q => match ds with
  | [.int i] => Q (.int i) m
  | [.bl k] => Q (.int (if k then 1 else 0)) m
  | _ => False
theorem c_int : CallR X (.type "int") (lRL X.K rIntA) := by
  intro pins s σ H xs us Q I r ⟨ds, m, P, rs, rM, h, q⟩
  match ds, h, rs with
  | [.int i], h, rs =>
    obtain ⟨v, rfl, rv⟩ := reps1 rs
    exact call_int1 pins s σ H [v] us Q I r (.inl ⟨i, by rw [show v = .int i from rv], q _ m h _ H (Tx.refl H) rfl rM⟩)
  | [.bl k], h, rs =>
    obtain ⟨v, rfl, rv⟩ := reps1 rs
    exact call_int1 pins s σ H [v] us Q I r (.inr ⟨k, by rw [show v = .bl k from rv], q _ m h _ H (Tx.refl H) rfl rM⟩)
def rTupleA : ARL := fun ds m Q => match ds with
  | [.tup es] => Q (.tup es) m
  | [.fls es] => Q (.tup es) m
  | [.ref a] => (match m.l a with
    | some es => Q (.tup es) m
    | none => False)
  | _ => False
theorem c_tuple : CallR X (.type "tuple") (lRL X.K rTupleA) := by
  intro pins s σ H xs us Q I r ⟨ds, m, P, rs, rM, h, q⟩
  match ds, h, rs with
  | [.tup es], h, rs =>
    obtain ⟨v, rfl, a, zs, e, hs, hr⟩ := reps1 rs
    subst e
    exact call_tuple_of pins s σ H _ us Q I r ⟨a, zs, rfl, .inr ⟨hs, q _ m h _ H (Tx.refl H) ⟨a, zs, rfl, hs, hr⟩ rM⟩⟩
  | [.fls es], h, rs =>
    obtain ⟨v, rfl, a, zs, e, hs, hr⟩ := reps1 rs
    subst e
    exact call_tuple_of pins s σ H _ us Q I r ⟨a, zs, rfl, .inl ⟨hs.sq, fun p hp => q _ m h _ _ (Tx.new hp) ⟨p, zs, rfl, SqT.of upd_same, hr.mono (Tx.new hp)⟩ (rM.grow hp)⟩⟩
  | [.ref a], h, rs =>
    obtain ⟨v, rfl, rv⟩ := reps1 rs
    have h' : (match m.l a with | some es => P (.tup es) m | none => False) := h
    cases e : m.l a with
    | none => rw [e] at h'; exact h'.elim
    | some es =>
      rw [e] at h'
      obtain ⟨zs, hz, hr⟩ := rM a _ (M.l_of e)
      exact call_tuple_of pins s σ H _ us Q I r ⟨a, zs, by rw [show v = .ref a from rv], .inl ⟨SqL.of hz, fun p hp => q _ m h' _ _ (Tx.new hp) ⟨p, zs, rfl, SqT.of upd_same, hr.mono (Tx.new hp)⟩ (rM.grow hp)⟩⟩
def itemsD (m : M) : D → Option (List D)
  | .tup ds => some ds
  | .fls ds => some ds
  | .ref a => m.l a
  | _ => none
def rListA : ARL := fun ds m Q => match ds with
  | [d] => (match itemsD m d with
    | some es => ∀ p, m p = none → Q (.ref p) (mset m p (.lst es))
    | none => False)
  | _ => False
theorem items_of {K : PySem.W.Frag} {H : Hp} {m : M} {d : D} {es : List D} {v : V} (rM : RelM K H m) (e : itemsD m d = some es) (r : Rep K H d v) : ∃ a xs, v = .ref a ∧ (SqL K H a xs ∨ SqT K H a xs) ∧ Reps K H es xs := by
  cases d with
  | tup ds => cases e; obtain ⟨a, xs, ev, hs, hr⟩ := r; exact ⟨a, xs, ev, .inr hs, hr⟩
  | fls ds => cases e; obtain ⟨a, xs, ev, hs, hr⟩ := r; exact ⟨a, xs, ev, .inl hs.sq, hr⟩
  | ref a => obtain ⟨xs, hx, hr⟩ := rM a _ (M.l_of e); exact ⟨a, xs, r, .inl (SqL.of hx), hr⟩
  | _ => cases e
theorem c_list : CallR X (.type "list") (lRL X.K rListA) := by
  intro pins s σ H xs us Q I r ⟨ds, m, P, rs, rM, h, q⟩
  match ds, h, rs with
  | [d], h, rs =>
    obtain ⟨v, rfl, rv⟩ := reps1 rs
    have h' : (match itemsD m d with | some es => ∀ p, m p = none → P (.ref p) (mset m p (.lst es)) | none => False) := h
    cases e : itemsD m d with
    | none => rw [e] at h'; exact h'.elim
    | some es =>
      rw [e] at h'
      obtain ⟨a, zs, ev, hs, hr⟩ := items_of rM e rv
      subst ev
      exact call_list_of pins s σ H _ us Q I r ⟨a, zs, rfl, hs, fun p hp => q _ _ (h' p (rM.free hp)) _ _ (Tx.new hp) rfl (rM.newL hp hr)⟩
def rMinA : ARL := fun ds m Q => match ds with
  | [.int i, .int j] => Q (.int (if j < i then j else i)) m
  | _ => False
def rMaxA : ARL := fun ds m Q => match ds with
  | [.int i, .int j] => Q (.int (if j > i then j else i)) m
  | _ => False
theorem c_min (hc : X.calm = true) : CallR X (.builtin "min") (lRL X.K rMinA) := by
  intro pins s σ H xs us Q I r ⟨ds, m, P, rs, rM, h, q⟩
  match ds, h, rs with
  | [.int i, .int j], h, rs =>
    obtain ⟨v, w, rfl, rv, rw'⟩ := reps2 rs
    exact call_min2 hc pins s σ H _ us Q I r ⟨i, j, by rw [show v = .int i from rv, show w = .int j from rw'], q _ m h _ H (Tx.refl H) rfl rM⟩
theorem c_max (hc : X.calm = true) : CallR X (.builtin "max") (lRL X.K rMaxA) := by
  intro pins s σ H xs us Q I r ⟨ds, m, P, rs, rM, h, q⟩
  match ds, h, rs with
  | [.int i, .int j], h, rs =>
    obtain ⟨v, w, rfl, rv, rw'⟩ := reps2 rs
    exact call_max2 hc pins s σ H _ us Q I r ⟨i, j, by rw [show v = .int i from rv, show w = .int j from rw'], q _ m h _ H (Tx.refl H) rfl rM⟩
/-! ### isinstance with a built-in class, with a tuple of them -/
inductive Ty where
  | non | bool | int | str | tuple | list | dict
  deriving DecidableEq
def Ty.n : Ty → String
  | .non => "NoneType" | .bool => "bool" | .int => "int" | .str => "str" | .tuple => "tuple" | .list => "list" | .dict => "dict"
def Ty.sub (a b : Ty) : Bool := decide (a = b) || (decide (a = .bool) && decide (b = .int))
theorem kit_ty' {K : PySem.W.Frag} (a b : Ty) : PySem.W.kitOne K (.type a.n) (.type b.n) = some (a.sub b) := by
  refine kit_ty ?_
  cases a <;> cases b <;> decide +kernel
def tyD (m : M) : D → Option Ty
  | .non => some .non
  | .bl _ => some .bool
  | .int _ => some .int
  | .str _ => some .str
  | .tup _ => some .tuple
  | .fls _ => some .list
  | .ref a => if (m.l a).isSome then some .list else (match m a with | some (.dic _) => some .dict | _ => none)
  | .ty _ => none
theorem sqT_ty {K : PySem.W.Frag} {H : Hp} {a : Addr} {xs : List V} (h : SqT K H a xs) : TyX K H (.ref a) (.type "tuple") := by
  rcases h with (h | ⟨o, h⟩) | ⟨o, _, _, h, c, _⟩
  · exact .base (.tup h)
  · exact .fTuple h
  · exact .kTuple h c
theorem frL_ty {K : PySem.W.Frag} {H : Hp} {a : Addr} {xs : List V} (h : FrL K H a xs) : TyX K H (.ref a) (.type "list") := by
  rcases h with ⟨o, h⟩ | ⟨o, _, _, h, c, _⟩
  · exact .base (.frz h)
  · exact .kList h c
theorem ty_of {K : PySem.W.Frag} {H : Hp} {m : M} {d : D} {t : Ty} {v : V} (rM : RelM K H m) (e : tyD m d = some t) (r : Rep K H d v) : TyX K H v (.type t.n) := by
  cases d with
  | non => cases e; rw [show v = .non from r]; exact .base .non
  | bl b => cases e; rw [show v = .bl b from r]; exact .base (.bl b)
  | int b => cases e; rw [show v = .int b from r]; exact .base (.int b)
  | str b => cases e; rw [show v = .str b from r]; exact .base (.str b)
  | tup ds => cases e; obtain ⟨a, xs, ev, hs, hr⟩ := r; rw [ev]; exact sqT_ty hs
  | fls ds => cases e; obtain ⟨a, xs, ev, hs, hr⟩ := r; rw [ev]; exact frL_ty hs
  | ref a =>
    have e' : (if (m.l a).isSome then some Ty.list else (match m a with | some (.dic _) => some .dict | _ => none)) = some t := e
    cases q : m.l a with
    | none =>
      rw [q] at e'
      replace e' : (match m a with | some (.dic _) => some Ty.dict | _ => none) = some t := by simpa using e'
      cases q2 : m a with
      | none => rw [q2] at e'; cases e'
      | some ob =>
        rw [q2] at e'
        cases ob with
        | dic ps =>
          cases e'
          obtain ⟨l, hl, _⟩ := rM a _ q2
          rw [show v = .ref a from r]
          exact .base (.dK hl)
        | _ => cases e'
    | some es =>
      rw [q] at e'
      have e2 : t = .list := by simpa using e'.symm
      subst e2
      obtain ⟨xs, hx, hr⟩ := rM a _ (M.l_of q)
      rw [show v = .ref a from r]
      exact .base (.lst hx)
  | ty n => cases e
def aIsi (c : Ty) (ta : AE) : AE := fun e m Q R => ta e m (fun d m1 => match tyD m1 d with
  | some t => Q (.bl (t.sub c)) m1
  | none => False) R
def aIsi2 (c c' : Ty) (ta : AE) : AE := fun e m Q R => ta e m (fun d m1 => match tyD m1 d with
  | some t => Q (.bl (t.sub c || t.sub c')) m1
  | none => False) R
theorem g_isi (c : Ty) {a : Expr} {y : Str} {ta : AE} {p p2 pos : Pos} (ha : GE X W a ta) (hm : X.mg "isinstance" = none) (hmy : X.mg y = none) (hv : bootBuiltins y = some (.type c.n)) (hg : Gl X "isinstance" := by rfl) (hgy : Gl X y := by rfl) (hn : y ≠ "__name__" := by decide) (hd : (y == ("__debug__" : Str)) = false := by decide)
    (hb : bootBuiltins "isinstance" = some (.builtin "isinstance") := by decide +kernel) (he : starEach [a, .Name y p2] X.env = (false, eval a X.env) :: starEach [.Name y p2] X.env := by rfl) (he2 : starEach [.Name y p2] X.env = (false, eval (.Name y p2) X.env) :: starEach [] X.env := by rfl) (hpl : (backTo pos (starEach [.Name y p2] X.env)).any (·.1) = false := by rfl) :
    GE X W (.Call (.Name "isinstance" p) [a, .Name y p2] [] pos) (aIsi c ta) := pe_imp (pe_callB call_isi hg hm hb (pa_cons ha (pa_cons (pe_bltn (v := .ty c.n) hgy hmy hv rfl hn hd) pa_nil he2) he) (by decide) (by decide) he hpl) fun σ H Q h => by
  obtain ⟨e, m, P, R, rE, rM, t, q, w⟩ := h
  refine ⟨e, m, _, R, rE, rM, t, fun d m1 h1 v H1 t1 r1 rm1 => ?_, w⟩
  have h1' : (match tyD m1 d with | some t => P (.bl (t.sub c)) m1 | none => False) := h1
  cases e1 : tyD m1 d with
  | none => rw [e1] at h1'; exact h1'.elim
  | some t =>
    rw [e1] at h1'
    exact ⟨v, .ty c.n, _, _, t.sub c, rfl, .ty c.n, ty_of rm1 e1 r1, kit_ty' t c, q _ m1 h1' _ H1 t1 rfl rm1⟩
theorem g_isi2 (c c' : Ty) {a : Expr} {y z : Str} {ta : AE} {p p2 p3 p4 pos : Pos} {k4} (ha : GE X W a ta) (hm : X.mg "isinstance" = none) (hmy : X.mg y = none) (hv : bootBuiltins y = some (.type c.n)) (hmz : X.mg z = none) (hvz : bootBuiltins z = some (.type c'.n)) (hg : Gl X "isinstance" := by rfl) (hgy : Gl X y := by rfl) (hgz : Gl X z := by rfl) (hn : y ≠ "__name__" := by decide) (hd : (y == ("__debug__" : Str)) = false := by decide) (hnz : z ≠ "__name__" := by decide) (hdz : (z == ("__debug__" : Str)) = false := by decide)
    (hb : bootBuiltins "isinstance" = some (.builtin "isinstance") := by decide +kernel) (he : starEach [a, .Tuple [.Name y p2, .Name z p3] k4 p4] X.env = (false, eval a X.env) :: starEach [.Tuple [.Name y p2, .Name z p3] k4 p4] X.env := by rfl)
    (he2 : starEach [.Tuple [.Name y p2, .Name z p3] k4 p4] X.env = (false, eval (.Tuple [.Name y p2, .Name z p3] k4 p4) X.env) :: starEach [] X.env := by rfl) (he3 : starEach [.Name y p2, .Name z p3] X.env = (false, eval (.Name y p2) X.env) :: starEach [.Name z p3] X.env := by rfl) (he4 : starEach [.Name z p3] X.env = (false, eval (.Name z p3) X.env) :: starEach [] X.env := by rfl)
    (hpl : (backTo pos (starEach [.Tuple [.Name y p2, .Name z p3] k4 p4] X.env)).any (·.1) = false := by rfl) :
    GE X W (.Call (.Name "isinstance" p) [a, .Tuple [.Name y p2, .Name z p3] k4 p4] [] pos) (aIsi2 c c' ta) := pe_imp (pe_callB call_isiT hg hm hb (pa_cons ha (pa_cons (pe_tup (pa_cons (pe_bltn (v := .ty c.n) hgy hmy hv rfl hn hd) (pa_cons (pe_bltn (v := .ty c'.n) hgz hmz hvz rfl hnz hdz) pa_nil he4) he3)) pa_nil he2) he) (by decide) (by decide) he hpl) fun σ H Q h => by
  obtain ⟨e, m, P, R, rE, rM, t, q, w⟩ := h
  refine ⟨e, m, _, R, rE, rM, t, fun d m1 h1 v H1 t1 r1 rm1 => ⟨by show 2 ≤ sizeLine; decide, fun tp htp => ?_⟩, w⟩
  have h1' : (match tyD m1 d with | some t => P (.bl (t.sub c || t.sub c')) m1 | none => False) := h1
  cases e1 : tyD m1 d with
  | none => rw [e1] at h1'; exact h1'.elim
  | some t =>
    rw [e1] at h1'
    refine ⟨v, tp, _, _, _, (t.sub c || t.sub c'), rfl, upd_same, .cons (.ty c.n) (.cons (.ty c'.n) .nil), ty_of (rm1.grow htp) e1 (r1.mono (Tx.new htp)), ?_, q _ m1 h1' _ _ (t1.trans (Tx.new htp)) rfl (rm1.grow htp)⟩
    refine kitAny_cons (kit_ty' t c) (fun hb => kitAny_cons (kit_ty' t c') (fun hb' => ?_) fun hb' => ?_) fun hb => ?_
    · rw [hb, hb']; exact kitAny_nil
    · rw [hb, hb']; rfl
    · rw [hb]; rfl
/-! ### subscripts -/
def rIxA : AR2 := fun x y m Q => match y with
  | .int i => (match x with
    | .str z => z.length ≤ big ∧ (match atI z.cps.toList i with
      | some c => Q (.str ⟨#[c]⟩) m
      | none => False)
    | x => (match itemsD m x with
      | some ds => (match atI ds i with
        | some d => Q d m
        | none => False)
      | none => False))
  | _ => False
theorem Reps.at {K : PySem.W.Frag} {H : Hp} {ds : List D} {vs : List V} {i : Int} {d : D} (r : Reps K H ds vs) (h : atI ds i = some d) : ∃ v, atI vs i = some v ∧ Rep K H d v := by
  unfold atI at h ⊢
  rw [← r.length]
  cases e : ixN ds.length i with
  | none => rw [e] at h; cases h
  | some j =>
    rw [e] at h
    obtain ⟨v, h1, h2⟩ := r.get (i := j) h
    exact ⟨v, h1, h2⟩
theorem x_any : IxR X (lR2 X.K rIxA) := by
  intro value slice pins s σ H x y v u Q I rx ry ⟨d1, d2, m, P, r1, r2, rM, h, q⟩ hs
  cases d2 with
  | int i =>
    obtain rfl : y = .int i := r2
    have gen : (match itemsD m d1 with | some ds => (match atI ds i with | some d => P d m | none => False) | none => False) → wpAny (model X.prog X.w) X.A (subscriptTail value slice v u) (EP X pins σ Q) X.xe s := fun h => by
      cases e1 : itemsD m d1 with
      | none => rw [e1] at h; exact h.elim
      | some ds =>
        rw [e1] at h
        cases e2 : atI ds i with
        | none => simp only [e2] at h
        | some d =>
          simp only [e2] at h
          obtain ⟨a, xs, ev, hq, hr⟩ := items_of rM e1 r1
          subst ev
          obtain ⟨z, hz, rz⟩ := hr.at e2
          rcases hq with hq | hq
          · exact ix_list value slice pins s σ H _ _ v u Q I rx ry ⟨a, xs, i, z, rfl, rfl, hq, hz, q d m h z H (Tx.refl H) rz rM⟩ hs
          · exact ix_tup value slice pins s σ H _ _ v u Q I rx ry ⟨a, xs, i, z, rfl, rfl, hq, hz, q d m h z H (Tx.refl H) rz rM⟩ hs
    cases d1 with
    | str z =>
      obtain rfl : x = .str z := r1
      have h' : z.length ≤ big ∧ (match atI z.cps.toList i with | some c => P (.str ⟨#[c]⟩) m | none => False) := h
      cases e2 : atI z.cps.toList i with
      | none => rw [e2] at h'; exact h'.2.elim
      | some c =>
        rw [e2] at h'
        exact ix_str value slice pins s σ H _ _ v u Q I rx ry ⟨z, i, c, rfl, rfl, big_line h'.1, e2, q _ m h'.2 _ H (Tx.refl H) rfl rM⟩ hs
    | _ => exact gen h
  | _ => exact h.elim
def cutD (xs : List D) (lo hi : Option Int) : List D := (xs.drop (HT.sIx xs.length 0 lo)).take (HT.sIx xs.length xs.length hi - HT.sIx xs.length 0 lo)
theorem Reps.cut {K : PySem.W.Frag} {H : Hp} {ds : List D} {vs : List V} {lo hi : Option Int} (r : Reps K H ds vs) : Reps K H (cutD ds lo hi) (cutV vs lo hi) := by
  unfold cutD cutV
  rw [r.length]
  exact (r.drop _).take _
def rSlA : ARS := fun x lo hi m Q => match x with
  | .tup ds => Q (.tup (cutD ds lo hi)) m
  | .fls ds => ∀ p, m p = none → Q (.ref p) (mset m p (.lst (cutD ds lo hi)))
  | .ref a => (match m.l a with
    | some ds => ∀ p, m p = none → Q (.ref p) (mset m p (.lst (cutD ds lo hi)))
    | none => False)
  | _ => False
theorem sl_any : SlR X (lRS X.K rSlA) := by
  intro pins s σ H x v vl vu lo hi sl Q I rx hs pl pu ⟨d, m, P, r, rM, h, q⟩
  cases d with
  | tup ds =>
    obtain ⟨a, xs, ev, hq, hr⟩ := r
    refine sl_tupA pins s σ H x v vl vu lo hi sl Q I rx hs pl pu ⟨a, xs, ev, hq, fun hw => ?_, fun hw p hp => ?_⟩
    · refine q _ m h _ H (Tx.refl H) ⟨a, xs, rfl, hq, ?_⟩ rM
      have := hr.cut (lo := lo) (hi := hi)
      have e : cutV xs lo hi = xs := by
        unfold cutV
        rw [hw.1, hw.2]
        simp
      rw [e] at this
      exact this
    · exact q _ m h _ _ (Tx.new hp) ⟨p, _, rfl, SqT.of upd_same, hr.cut.mono (Tx.new hp)⟩ (rM.grow hp)
  | fls ds =>
    obtain ⟨a, xs, ev, hq, hr⟩ := r
    exact sl_list pins s σ H x v vl vu lo hi sl Q I rx hs pl pu ⟨a, xs, ev, hq.sq, fun p hp => q _ _ (h p (rM.free hp)) _ _ (Tx.new hp) rfl (rM.newL hp hr.cut)⟩
  | ref a =>
    have h' : (match m.l a with | some ds => ∀ p, m p = none → P (.ref p) (mset m p (.lst (cutD ds lo hi))) | none => False) := h
    cases e : m.l a with
    | none => rw [e] at h'; exact h'.elim
    | some ds =>
      rw [e] at h'
      obtain ⟨xs, hx, hr⟩ := rM a _ (M.l_of e)
      exact sl_list pins s σ H x v vl vu lo hi sl Q I rx hs pl pu ⟨a, xs, r, SqL.of hx, fun p hp => q _ _ (h' p (rM.free hp)) _ _ (Tx.new hp) rfl (rM.newL hp hr.cut)⟩
  | _ => exact h.elim
/-- o[i] = v -/
def aSubL (to ti : AE) : AG := fun v e m Q => to e m (fun o m1 => ti e m1 (fun i m2 => match o, i with
  | .ref a, .int k => (match m2.l a with
    | some ds => (match ixN ds.length k with
      | some j => Q e (mset m2 a (.lst (ds.set j v)))
      | none => False)
    | none => False)
  | _, _ => False) fun _ _ => False) fun _ _ => False
theorem t_sub {o i : Expr} {to ti : AE} {pos : Pos} (ho : GE X W0 o to) (hi : GE X W0 i ti)
    (ha : ∀ v, assign (.Subscript o i pos) X.env v = (do
      let ov ← holding [v] (eval o X.env)
      let iv ← holding [v, ov] (eval i X.env)
      standAt pos
      holding [v, ov, iv] (setItem ov iv v)
      release [v, ov, iv] []) := by intro _; rfl) : GG X (.Subscript o i pos) (aSubL to ti) := pg_imp (pg_sub ho hi set_list ha) fun v σ H Q h => by
  obtain ⟨d, e, m, P, r, rE, rM, t, q⟩ := h
  refine ⟨e, m, _, _, rE, rM, t, fun d1 m1 h1 x1 H1 t1 r1 rm1 => ?_, wok0⟩
  refine ⟨e, m1, _, _, rE.mono t1, rm1, h1, fun d2 m2 h2 x2 H2 t2 r2 rm2 => ?_, wok0⟩
  cases d1 with
  | ref a => cases d2 with
    | int k =>
      have h2' : (match m2.l a with | some ds => (match ixN ds.length k with | some j => P e (mset m2 a (.lst (ds.set j d))) | none => False) | none => False) := h2
      cases e1 : m2.l a with
      | none => rw [e1] at h2'; exact h2'.elim
      | some ds =>
        rw [e1] at h2'
        cases e2 : ixN ds.length k with
        | none => simp only [e2] at h2'
        | some j =>
          simp only [e2] at h2'
          obtain ⟨xs, hx, hr⟩ := rm2 a _ (M.l_of e1)
          have tm : Tx H2 (upd H2 a (.lst (xs.set j v))) := Tx.mut hx trivial
          exact ⟨a, xs, k, j, r1, r2, hx, by rw [← hr.length]; exact e2, q e _ h2' σ _ ((t1.trans t2).trans tm) (rE.mono ((t1.trans t2).trans tm)) (rm2.putL hx (hr.set j (r.mono (t1.trans t2))))⟩
    | _ => exact h2.elim
  | _ => cases d2 <;> exact h2.elim
/-- xs.append(v) -/
def aApp (to ta : AE) : AE := fun e m Q R => to e m (fun o m1 => match o with
  | .ref a => (match m1.l a with
    | some _ => ta e m1 (fun d m2 => match m2.l a with
      | some ds => ds.length < big ∧ Q .non (mset m2 a (.lst (ds ++ [d])))
      | none => False) R
    | none => False)
  | _ => False) R
theorem g_app {o a : Expr} {to ta : AE} {apos cpos : Pos} (ho : GE X W o to) (ha : GE X W a ta) (hbase : attributeBase o "append" X.env (eval o X.env) = eval o X.env := by rfl)
    (hfew : ((backTo cpos (starEach [a] X.env)).all (fun x => !x.1) && (backToKw cpos (keywordEach [] X.env)).all (fun x => x.1.isSome)
      && decide ([a].length + ([] : List Keyword).length + (if ([] : List Keyword).isEmpty then 0 else 1) < 30)) = true := by rfl)
    (hline : (apos.endLine == cpos.line) = true := by rfl) (hs : starEach [a] X.env = (false, eval a X.env) :: starEach [] X.env := by rfl) (hplain : (backTo cpos (starEach [] X.env)).any (·.1) = false := by rfl) :
    GE X W (.Call (.Attribute o "append" apos) [a] [] cpos) (aApp to ta) := pe_imp (pe_bm PySem.F.plainAttrs_list PySem.F.slot_list_append PySem.F.type_list_append mt_append ho (pa_cons ha pa_nil hs) hbase hfew hline hs hplain) fun σ H Q h => by
  obtain ⟨e, m, P, R, rE, rM, t, q, w⟩ := h
  refine ⟨e, m, _, R, rE, rM, t, fun d m1 h1 v H1 t1 r1 rm1 => ?_, w⟩
  cases d with
  | ref b =>
    obtain rfl : v = .ref b := r1
    have h1' : (match m1.l b with | some _ => ta e m1 (fun d m2 => match m2.l b with | some ds => ds.length < big ∧ P .non (mset m2 b (.lst (ds ++ [d]))) | none => False) R | none => False) := h1
    cases e1 : m1.l b with
    | none => rw [e1] at h1'; exact h1'.elim
    | some ds1 =>
      rw [e1] at h1'
      obtain ⟨xs1, hx1, _⟩ := rm1 b _ (M.l_of e1)
      refine ⟨.inl ⟨rfl, _, SqL.of hx1⟩, e, m1, _, R, rE.mono t1, rm1, h1', fun d2 m2 h2 v2 H2 t2 r2 rm2 => ?_, w.mono t1⟩
      have h2' : (match m2.l b with | some ds => ds.length < big ∧ P .non (mset m2 b (.lst (ds ++ [d2]))) | none => False) := h2
      cases e2 : m2.l b with
      | none => rw [e2] at h2'; exact h2'.elim
      | some ds =>
        rw [e2] at h2'
        obtain ⟨xs, hx, hr⟩ := rm2 b _ (M.l_of e2)
        exact ⟨b, xs, v2, rfl, rfl, hx, by rw [← hr.length]; exact big_lt h2'.1, q _ _ h2'.2 _ _ ((t1.trans t2).trans (Tx.mut hx trivial)) rfl (rm2.putL hx (hr.append (show Reps X.K H2 [d2] [v2] from ⟨v2, [], rfl, r2, rfl⟩)))⟩
  | _ => exact h1.elim
/-- tuple(reversed(e)), e a list -/
def aTupRev (te : AE) : AE := fun e m Q R => te e m (fun d m1 => match d with
  | .ref a => (match m1.l a with
    | some ds => Q (.tup ds.reverse) m1
    | none => False)
  | _ => False) R
theorem g_tupRev {e : Expr} {te : AE} {p p2 pos pos2 : Pos} (hc : X.calm = true) (hm : X.mg "tuple" = none) (hm2 : X.mg "reversed" = none) (he : GE X W e te) (hg : Gl X "tuple" := by rfl) (hg2 : Gl X "reversed" := by rfl)
    (hs : starEach [e] X.env = (false, eval e X.env) :: starEach [] X.env := by rfl)
    (hs2 : starEach [.Call (.Name "reversed" p2) [e] [] pos2] X.env = (false, eval (.Call (.Name "reversed" p2) [e] [] pos2) X.env) :: starEach [] X.env := by rfl) :
    GE X W (.Call (.Name "tuple" p) [.Call (.Name "reversed" p2) [e] [] pos2] [] pos) (aTupRev te) := pe_imp (RT.pe_tupRev hc hg hm hg2 hm2 he hs hs2) fun σ H Q h => by
  obtain ⟨e, m, P, R, rE, rM, t, q, w⟩ := h
  refine ⟨e, m, _, R, rE, rM, t, fun d m1 h1 v H1 t1 r1 rm1 => ?_, w⟩
  cases d with
  | ref b =>
    have h1' : (match m1.l b with | some ds => P (.tup ds.reverse) m1 | none => False) := h1
    cases e1 : m1.l b with
    | none => rw [e1] at h1'; exact h1'.elim
    | some ds =>
      rw [e1] at h1'
      obtain ⟨xs, hx, hr⟩ := rm1 b _ (M.l_of e1)
      exact ⟨b, xs, r1, SqL.of hx, fun p hp => q _ m1 h1' _ _ (t1.trans (Tx.new hp)) ⟨p, _, rfl, SqT.of upd_same, hr.reverse.mono (Tx.new hp)⟩ (rm1.grow hp)⟩
  | _ => exact h1.elim
/-! ### defs -/
/-- what a body leaves to its caller: it may forget what the store tells -/
def aDef (n : Nat) (b : AS) : ASp := fun ds m Q R => b { nx := fun _ m' => ∃ m2, Sub m2 m' ∧ Q .non m2, rt := fun d m' => ∃ m2, Sub m2 m' ∧ Q d m2, xe := fun _ x m' => ∃ m2, Sub m2 m' ∧ R x m2 } (eStart n ds) m
end
section
variable {P : Program} {w : World} {K : PySem.W.Frag} {mg : Str → Option Value} {base : Heap} {x qual : Str} {params : Arguments} {body : List Stmt} {scope : Scope} {f : Addr} {fd : FuncData} {N ps : List Str} {k n : Nat} {b : AS}
abbrev WD (E : XK) : WX := fun cls d _ H => E cls d H
theorem ok_def (F : FunD K x qual params body scope [] [] f fd) (S : FnScope N ps scope) (hn : ps.length = n)
    (hb : ∀ (cdv : Value) (A : Around) (outer : List Env) (s : Shared) (H : Hp) (E : XK), Room k (A.deeper (envOfC qual scope s.heap.objs.size f cdv)) → GSs (cxOf (L2.CX P w) P w K mg base N qual scope f cdv A outer s H E) (WD E) body b) :
    FnOk P w K mg base (L2.CX P w) (k + 1) f fd ps (lSp K n (aDef N.length b)) := by
  refine F.ok S (fun vs H Q E h => ?_) (fun cdv A outer s H vs Q E hr h => ⟨_, hb cdv A outer s H E hr, ?_⟩)
  · obtain ⟨ds, m, P', R, e, r, _⟩ := h
    rw [← r.length, e, hn]
  · obtain ⟨ds, m, P', R, e, r, rM, t, q, w'⟩ := h
    refine ⟨_, m, _, RelE.start r, rM, t, ⟨fun e' m' h σ' H' t' rE rM' => ?_, fun d m' h v H' t' rv rM' => ?_, fun _ _ h => h.elim, fun _ _ h => h.elim, fun e' σ' H' t' rE => ⟨fun x' m' h cls dd H2 t2 xr rM2 => ?_⟩⟩⟩
    · obtain ⟨m2, s2, h⟩ := h
      exact q .non m2 h .non H' t' rfl (rM'.sub s2)
    · obtain ⟨m2, s2, h⟩ := h
      exact q d m2 h v H' t' rv (rM'.sub s2)
    · obtain ⟨m2, s2, h⟩ := h
      exact w'.go x' m2 h cls dd H2 (t'.trans t2) xr (rM2.sub s2)
end
end Ab

set_option Elab.async false
set_option linter.all false
set_option maxRecDepth 100000
set_option maxHeartbeats 4000000
namespace Ab
open PySem PySem.Spec PyProof.Rows L2
/-- what is known of an item's class -/
def Kn (h : Heap) (u : Value) : Ty → Prop
  | .non => u = .none
  | .bool => ∃ b, u = .bool b
  | .int => ∃ n t, u = .int n t
  | .str => ∃ x t, u = .str x t
  | .tuple => ∃ a, u = .ref a ∧ PySem.W.KitAt a "tuple" h
  | .list => ∃ a, u = .ref a ∧ PySem.W.KitAt a "list" h
  | .dict => ∃ a, u = .ref a ∧ PySem.W.KitAt a "dict" h
theorem Kn.kit {K : PySem.W.Frag} {h : Heap} {u : Value} : ∀ {t : Ty}, Kn h u t → ∃ P : Heap → Prop, PySem.W.KitX K u (.type t.n) P ∧ P h ∧ u ≠ .builtin "__main__.__loader__#opaque"
  | .non, k => by rw [show u = .none from k]; exact ⟨_, PySem.W.kitx_none, trivial, fun z => nomatch z⟩
  | .bool, ⟨b, e⟩ => by rw [e]; exact ⟨_, PySem.W.kitx_bool, trivial, fun z => nomatch z⟩
  | .int, ⟨n, t, e⟩ => by rw [e]; exact ⟨_, PySem.W.kitx_int, trivial, fun z => nomatch z⟩
  | .str, ⟨n, t, e⟩ => by rw [e]; exact ⟨_, PySem.W.kitx_str, trivial, fun z => nomatch z⟩
  | .tuple, ⟨a, e, k⟩ => by rw [e]; exact ⟨_, PySem.W.kitx_tuple, k, fun z => nomatch z⟩
  | .list, ⟨a, e, k⟩ => by rw [e]; exact ⟨_, PySem.W.kitx_list, k, fun z => nomatch z⟩
  | .dict, ⟨a, e, k⟩ => by rw [e]; exact ⟨_, PySem.W.kitx_dict, k, fun z => nomatch z⟩
theorem Kn.keep {h h' : Heap} {u : Value} (k : ∀ a o n, u = .ref a → h.get? a = some o → o.cls = .type n → h'.get? a = some o) : ∀ {t : Ty}, Kn h u t → Kn h' u t
  | .non, z => z
  | .bool, z => z
  | .int, z => z
  | .str, z => z
  | .tuple, ⟨a, e, o, h1, h2⟩ => ⟨a, e, o, k a o _ e h1 h2, h2⟩
  | .list, ⟨a, e, o, h1, h2⟩ => ⟨a, e, o, k a o _ e h1 h2, h2⟩
  | .dict, ⟨a, e, o, h1, h2⟩ => ⟨a, e, o, k a o _ e h1 h2, h2⟩
theorem kn_of {X : Cx} {pins : List (Addr × Obj)} {σ : L2.St} {H : Hp} {s : Shared} {m : M} {d : D} {t : Ty} {v : V} {u : Value} (I : Inv X pins σ H s) (rM : RelM X.K H m) (e : tyD m d = some t) (r : Rep X.K H d v) (ru : RelV v u) : Kn s.heap u t := by
  cases d with
  | non => cases e; rw [show v = .non from r] at ru; exact ru
  | bl b => cases e; rw [show v = .bl b from r] at ru; exact ⟨b, ru⟩
  | int b => cases e; rw [show v = .int b from r] at ru; obtain ⟨t, h⟩ := ru; exact ⟨b, t, h⟩
  | str b => cases e; rw [show v = .str b from r] at ru; obtain ⟨t, h⟩ := ru; exact ⟨b, t, h⟩
  | tup ds =>
    cases e
    obtain ⟨a, xs, ev, hs, hr⟩ := r
    subst ev
    obtain ⟨its, _, ⟨o, h1, h2, _⟩, _⟩ := I.tuple hs
    exact ⟨a, ru, o, h1, h2⟩
  | fls ds =>
    cases e
    obtain ⟨a, xs, ev, hs, hr⟩ := r
    subst ev
    obtain ⟨its, _, ⟨o, n, h1, h2, _⟩, _⟩ := I.list hs.sq
    exact ⟨a, ru, o, h1, h2⟩
  | ref a =>
    have e' : (if (m.l a).isSome then some Ty.list else (match m a with | some (.dic _) => some .dict | _ => none)) = some t := e
    cases q : m.l a with
    | none =>
      rw [q] at e'
      replace e' : (match m a with | some (.dic _) => some Ty.dict | _ => none) = some t := by simpa using e'
      cases q2 : m a with
      | none => rw [q2] at e'; cases e'
      | some ob =>
        rw [q2] at e'
        cases ob with
        | dic ps =>
          cases e'
          obtain ⟨l, hl, _⟩ := rM a _ q2
          rw [show v = .ref a from r] at ru
          obtain ⟨_, _, vs, _, o, es, ep, h1, h2, _⟩ := I.hok a _ hl
          exact ⟨a, ru, o, h1, h2.1⟩
        | _ => cases e'
    | some es =>
      rw [q] at e'
      have e2 : t = .list := by simpa using e'.symm
      subst e2
      obtain ⟨xs, hx, hr⟩ := rM a _ (M.l_of q)
      rw [show v = .ref a from r] at ru
      obtain ⟨its, _, ⟨o, n, h1, h2, _⟩, _⟩ := I.list (SqL.of hx)
      exact ⟨a, ru, o, h1, h2⟩
  | ty n => cases e
/-- is_integer's answer -/
def isIntD (lo hi : Int) : D → Bool
  | .int i => decide (lo ≤ i) && decide (i ≤ hi)
  | _ => false
def ansV (lo hi : Int) : Value → Bool
  | .int n _ => decide (lo ≤ n) && decide (n ≤ hi)
  | _ => false
theorem ansV_of {K : PySem.W.Frag} {H : Hp} {d : D} {v : V} {u : Value} {lo hi : Int} (r : Rep K H d v) (ru : RelV v u) : isIntD lo hi d = ansV lo hi u := by
  cases d with
  | int i => rw [show v = .int i from r] at ru; obtain ⟨t, e⟩ := ru; rw [e]; rfl
  | non => rw [show v = .non from r] at ru; rw [show u = _ from ru]; rfl
  | bl b => rw [show v = .bl b from r] at ru; rw [show u = _ from ru]; rfl
  | str b => rw [show v = .str b from r] at ru; obtain ⟨t, e⟩ := ru; rw [e]; rfl
  | ty b => rw [show v = .ty b from r] at ru; rw [show u = _ from ru]; rfl
  | ref a => rw [show v = .ref a from r] at ru; rw [show u = _ from ru]; rfl
  | tup ds => obtain ⟨a, xs, e, _⟩ := r; rw [e] at ru; rw [show u = _ from ru]; rfl
  | fls ds => obtain ⟨a, xs, e, _⟩ := r; rw [e] at ru; rw [show u = _ from ru]; rfl
theorem mod_keeps {K : PySem.W.Frag} {mg : Str → Option Value} {h h' : Heap} (m : Mod K mg h) (k : ∀ b o, h.get? b = some o → h'.get? b = some o) : Mod K mg h' :=
  ⟨m.kin.keeps k, m.glob.keeps k, let ⟨mb, a, b⟩ := m.blt; ⟨mb, a.keeps k, b⟩, m.nolimit.keeps k⟩
section
variable {prog : Program} {w : World} {A : Around} {E : Value → Shared → Prop} {s : Shared} {K : PySem.W.Frag} {mg : Str → Option Value}
theorem ldL {env : Env} {m : Str → Option Value} {x : Str} {pos : Pos} {v : Value} {Q : Value → Shared → Prop} (hk : env.scope.kind = .function) (hn : s.heap.Ns env.locals m) (hv : m x = some v) (h : Q v s)
    (hl : env.kindOf x = some .local := by rfl) (hd : (x == ("__debug__" : Str)) = false := by decide) :
    wpAny (model prog w) A (eval (.Name x pos) env) Q E s := wpAny_Name (wpAny_loadName_local hk hl hn hv h) hd
theorem ldB {env : Env} {x : Str} {u : Value} {pos : Pos} {Q : Value → Shared → Prop} (M : Mod K mg s.heap) (hk : env.scope.kind = .function) (hG : env.globals = mainGlobals) (hB : env.builtins = builtinsNs) (hm : mg x = none) (hv : bootBuiltins x = some u) (h : Q u s)
    (hg : env.kindOf x = some .globalImplicit := by rfl) (hn : x ≠ "__name__" := by decide) (hd : (x == ("__debug__" : Str)) = false := by decide) : wpAny (model prog w) A (eval (.Name x pos) env) Q E s := by
  obtain ⟨mb, h1, h2⟩ := M.blt
  exact Calls.Name_function_global hk hg (Calls.loadGlobal_builtin (by rw [hG]; exact M.glob) hm (by rw [hB]; exact h1) ((h2 x hn).trans hv) h) hd
theorem ldF {env : Env} {x : Str} {u : Value} {pos : Pos} {Q : Value → Shared → Prop} (M : Mod K mg s.heap) (hk : env.scope.kind = .function) (hG : env.globals = mainGlobals) (hm : mg x = some u) (h : Q u s)
    (hg : env.kindOf x = some .globalImplicit) (hd : (x == ("__debug__" : Str)) = false := by decide) : wpAny (model prog w) A (eval (.Name x pos) env) Q E s :=
  Calls.Name_function_global hk hg (Calls.loadGlobal_global (by rw [hG]; exact M.glob) hm h) hd
/-- isinstance(x, T), x a local -/
theorem isi_low {env : Env} {m : Str → Option Value} {x y : Str} {p1 p2 p3 p4 : Pos} {v : Value} {t c : Ty} {Q : Value → Shared → Prop} (M : Mod K mg s.heap) (hk : env.scope.kind = .function) (hG : env.globals = mainGlobals) (hB : env.builtins = builtinsNs)
    (hi : mg "isinstance" = none) (hy : mg y = none) (hv : bootBuiltins y = some (.type c.n)) (hn : s.heap.Ns env.locals m) (hx : m x = some v) (k : Kn s.heap v t) (h : ∀ tk, Q (.bool (t.sub c)) { s with toks := tk })
    (hl : env.kindOf x = some .local := by rfl) (hgi : env.kindOf "isinstance" = some .globalImplicit := by rfl) (hgy : env.kindOf y = some .globalImplicit := by rfl) (hd : (x == ("__debug__" : Str)) = false := by decide) (hny : y ≠ "__name__" := by decide) (hdy : (y == ("__debug__" : Str)) = false := by decide) :
    wpAny (model prog w) A (eval (.Call (.Name "isinstance" p1) [.Name x p2, .Name y p3] [] p4) env) Q E s := by
  refine wpAny_Call_Name_kw (ldB M hk hG hB hi (show bootBuiltins "isinstance" = some (.builtin "isinstance") by decide +kernel) ?_ hgi)
  refine PyProof.Rows.callWith_builtin1 (args_cons (ldL hk hn hx ?_ hl hd))
  refine args_cons (ldB M hk hG hB hy hv (args_nil ?_) hgy hny hdy)
  obtain ⟨P, Z, p, hx'⟩ := k.kit (K := K)
  exact PySem.W.kia_one Z M.kin p (kit_ty' t c) hx' h

/-- the body of is_integer -/
def bodyInt (q1 q2 q3 q4 q5 q6 q7 q8 q9 qa qb qc qd qe qf : Pos) : List Stmt :=
  [.Return (some (.BoolOp .And [.Call (.Name "isinstance" q1) [.Name "value" q2, .Name "int" q3] [] q4,
    .UnaryOp .Not (.Call (.Name "isinstance" q5) [.Name "value" q6, .Name "bool" q7] [] q8) q9,
    .Compare (.Name "low" qa) [.LtE, .LtE] [.Name "value" qb, .Name "high" qc] qd] qe)) qf]
/-- a def that stands in K -/
structure DefIn (K : PySem.W.Frag) (name : Str) (params : Arguments) (body : List Stmt) (scope : Scope) (f : Addr) : Prop where
  ex : ∃ (oc : Value) (od : Option Addr) (dV kV doc pm : Value) (an : Option Addr) (cdv ct : Value) (osl : Array (Option Value)),
    K.lookup f = some ⟨oc, od, .func (PySem.W.fnOf name name params body scope dV kV doc pm an cdv ct), osl⟩ ∧ PySem.W.codeIn K cdv name = true
theorem isInt_call {f : Addr} {params : Arguments} {scope : Scope} {fd : FuncData} {q1 q2 q3 q4 q5 q6 q7 q8 q9 qa qb qc qd qe qf : Pos} {v : Value} {t : Ty} {d : D} {lo hi : Int} {t1 t2 : Tok} {Q : Value → Shared → Prop}
    (F : FunD K "is_integer" "is_integer" params (bodyInt q1 q2 q3 q4 q5 q6 q7 q8 q9 qa qb qc qd qe qf) scope [] [] f fd) (hb : Binds K fd ["value", "low", "high"] [])
    (k1 : scope.kind = .function) (k2 : scope.isCoroutine = false) (k3 : scope.isGenerator = false) (l1 : scope.names.lookup ("value" : Str) = some NameKind.local) (l2 : scope.names.lookup ("low" : Str) = some NameKind.local) (l3 : scope.names.lookup ("high" : Str) = some NameKind.local)
    (g1 : scope.names.lookup ("isinstance" : Str) = some NameKind.globalImplicit) (g2 : scope.names.lookup ("int" : Str) = some NameKind.globalImplicit) (g3 : scope.names.lookup ("bool" : Str) = some NameKind.globalImplicit)
    (M : Mod K mg s.heap) (hroom : A.depth < recursionLimit) (hisi : mg "isinstance" = none) (hint : mg "int" = none) (hbool : mg "bool" = none)
    (k : Kn s.heap v t) (hd : isIntD lo hi d = ansV lo hi v)
    (h : ∀ s', Keeps s s' → Q (.bool (isIntD lo hi d)) s') :
    wpAny (model prog w) A (call (.ref f) [v, .int lo t1, .int hi t2]) Q E s := by
  obtain ⟨oc, od, dV, kV, doc, pm, an, cdv, ct, osl, rfl, lk, hcd, _, _⟩ := F.ex
  have bt := hb s [v, .int lo t1, .int hi t2] M.kin rfl
  rw [List.append_nil] at bt
  refine wpAny_call (Att.call_fn (binds := [(("value" : Str), v), (("low" : Str), .int lo t1), (("high" : Str), .int hi t2)]) M.kin M.nolimit lk hcd hroom bt ?_ (fun s₁ IC => ?_) k2 k3 k1)
  · simp [List.all_cons, l1, l2, l3]
  obtain ⟨h₁, tk₁, rfl⟩ := IC.toInCall.same
  have kp : ∀ b o, s.heap.get? b = some o → h₁.get? b = some o := IC.toInCall.keep
  have hn := IC.toInCall.ns
  have ko : ∀ x, (envOfC "is_integer" scope s.heap.objs.size f cdv).kindOf x = scope.names.lookup x := fun _ => rfl
  have m1 : bindL (envOfC "is_integer" scope s.heap.objs.size f cdv).kindOf [(("value" : Str), v), (("low" : Str), Value.int lo t1), (("high" : Str), Value.int hi t2)] (fun _ => none) "value" = some v := by
    exact L2.bindL_get (P := ["value", "low", "high"]) (vs := [v, .int lo t1, .int hi t2]) (i := 0) (by decide) rfl rfl l1
  have m2 : bindL (envOfC "is_integer" scope s.heap.objs.size f cdv).kindOf [(("value" : Str), v), (("low" : Str), Value.int lo t1), (("high" : Str), Value.int hi t2)] (fun _ => none) "low" = some (.int lo t1) := by
    exact L2.bindL_get (P := ["value", "low", "high"]) (vs := [v, .int lo t1, .int hi t2]) (i := 1) (by decide) rfl rfl l2
  have m3 : bindL (envOfC "is_integer" scope s.heap.objs.size f cdv).kindOf [(("value" : Str), v), (("low" : Str), Value.int lo t1), (("high" : Str), Value.int hi t2)] (fun _ => none) "high" = some (.int hi t2) := by
    exact L2.bindL_get (P := ["value", "low", "high"]) (vs := [v, .int lo t1, .int hi t2]) (i := 2) (by decide) rfl rfl l3
  have M1 : Mod K mg h₁ := mod_keeps M kp
  have kn1 : Kn h₁ v t := k.keep fun a o _ _ e _ => kp a o e
  have fin : ∀ tk, Q (.bool (isIntD lo hi d)) { s with heap := h₁, toks := tk } := fun tk => h _ ⟨h₁, tk, rfl, kp⟩
  refine wpAny_execs_cons (wpAny_Return_some ?_)
  refine BoolOp_and (isi_low (c := .int) (t := t) (s := { s with heap := h₁, toks := tk₁ }) M1 k1 rfl rfl hisi hint (by decide +kernel) hn m1 kn1 (fun tk2 => wpAny_truthy_bool ?_) l1 g1 g2)
  by_cases c1 : t.sub .int = true
  · rw [c1]
    refine ite_tt ?_
    refine BoolOp_and (UnaryOp_ (isi_low (c := .bool) (t := t) (s := { s with heap := h₁, toks := tk2 }) M1 k1 rfl rfl hisi hbool (by decide +kernel) hn m1 kn1 (fun tk3 => not_of (wpAny_truthy_bool (wpAny_truthy_bool ?_))) l1 g1 g3))
    by_cases c2 : t.sub .bool = true
    · rw [c2]
      refine ite_ff ?_
      have e : isIntD lo hi d = false := by
        rw [hd]
        cases t with
        | bool => obtain ⟨b, e⟩ := kn1; rw [e]; rfl
        | _ => exact absurd c2 (by decide)
      have := fin tk3
      rw [e] at this
      exact this
    · have c2' : t.sub .bool = false := by simpa using c2
      rw [c2']
      refine ite_tt ?_
      have ht : t = .int := by
        cases t with
        | int => rfl
        | _ => first | exact absurd c1 (by decide) | exact absurd c2' (by decide)
      subst ht
      obtain ⟨n, tn, e⟩ := id kn1
      subst e
      refine BoolOp_one (Compare_chain (ldL (s := { s with heap := h₁, toks := tk3 }) k1 hn m2 (chain_link (ldL (s := { s with heap := h₁, toks := tk3 }) k1 hn m1 (le_int (wpAny_truthy_bool ?_)) l1)) l2))
      by_cases c3 : lo ≤ n
      · rw [decide_eq_true c3]
        refine ite_tt (chain_last (ldL (s := { s with heap := h₁, toks := tk3 }) k1 hn m3 (le_int ?_) l3))
        have e : isIntD lo hi d = decide (n ≤ hi) := by rw [hd]; show (decide (lo ≤ n) && decide (n ≤ hi)) = _; simp [c3]
        have := fin tk3
        rw [e] at this
        exact this
      · rw [decide_eq_false c3]
        refine ite_ff ?_
        have e : isIntD lo hi d = false := by rw [hd]; show (decide (lo ≤ n) && decide (n ≤ hi)) = _; simp [c3]
        have := fin tk3
        rw [e] at this
        exact this
  · have c1' : t.sub .int = false := by simpa using c1
    rw [c1']
    refine ite_ff ?_
    have e : isIntD lo hi d = false := by
      rw [hd]
      cases t with
      | int => exact absurd c1' (by decide)
      | bool => exact absurd c1' (by decide)
      | non => rw [show v = .none from kn1]; rfl
      | str => obtain ⟨n, t, e⟩ := kn1; rw [e]; rfl
      | tuple => obtain ⟨n, e, _⟩ := kn1; rw [e]; rfl
      | list => obtain ⟨n, e, _⟩ := kn1; rw [e]; rfl
      | dict => obtain ⟨n, e, _⟩ := kn1; rw [e]; rfl
    have := fin tk2
    rw [e] at this
    exact this
end
/-! ### all(is_integer(x, lo, hi) for x in a tuple) -/
section
open GxR
variable {X : Cx} {W : WX} {pins : List (Addr × Obj)} {σ : L2.St} {H : Hp} {s : Shared}
/-- an element of a generator expression, by what it says of an item; everything but the table stands as it stood -/
def EltD (X : Cx) (scope : Scope) (x : Str) (elt : Expr) (pb : D → Bool) : Prop :=
  ∀ (cenv : Env) (A' : Around) (E' : Value → Shared → Prop) (d : D) (t : Ty) (u : Value) (s₂ : Shared) (m₂ : Str → Option Value), cenv.scope = scope → cenv.globals = mainGlobals → cenv.builtins = builtinsNs → A'.handled = none → A'.depth ≤ X.A.depth + 1 → A'.units ≤ X.A.units + 8 →
    Mod X.K X.mg s₂.heap → s₂.heap.Ns cenv.locals m₂ → m₂ x = some u → Kn s₂.heap u t → (∀ lo hi, isIntD lo hi d = ansV lo hi u) → wpAny (model X.prog X.w) A' (eval elt cenv) (fun y s₃ => y = .bool (pb d) ∧ Keeps s₂ s₃) E' s₂
def trD (pb : D → Bool) (l : List D) (j : Nat) : Bool := match l[j]? with
  | some b => pb b
  | none => false
theorem trD_some {pb : D → Bool} {l : List D} {j : Nat} {b : D} (h : l[j]? = some b) : trD pb l j = pb b := by
  unfold trD
  rw [h]
def ReadyD (X : Cx) (pins : List (Addr × Obj)) (σ : L2.St) (H1 : Hp) (P : Addr) (l : List D) (pb : D → Bool) (g : Addr) (s5 : Shared) : Prop :=
  ∃ (fp wr : List Addr) (G : Array GenState → Array GenState → Prop) (F : Nat → Value → Prop) (St : Nat → Shared → Prop),
    WalksS X.prog X.w X.A.in1 g fp wr G l.length F St ∧ St 0 s5 ∧
    TruthOf X.prog X.w X.A.in1 F (trD pb l) ∧
    ∀ s', Moved wr G s5 s' → ∃ H2, Tabbed P H1 H2 ∧ Inv X pins σ H2 s'
theorem gen_tup {c P : Addr} {elt iter : Expr} {x : Str} {px gpos : Pos} {scope : Scope} {pb : D → Bool} {te : TE} {k : Nat} {Q' : Value → Shared → Prop} {R : List D → M → Hp → Prop}
    (hr : Room k X.A) (TB : TabB X.base X.mg c P) (hcode : X.env.code = .ref c) (S : GenS X.env scope x) (hi : PE X iter te) (hel : EltD X scope x elt pb)
    (hs : ∀ v, genFold iter X.env v = pure v) (I : Inv X pins σ H s) (h : te σ H fun v H1 => ∃ (ds : List D) (m1 : M), Rep X.K H1 (.tup ds) v ∧ RelM X.K H1 m1 ∧ m1 P = some .tab ∧ (∀ d ∈ ds, ∃ t, tyD m1 d = some t) ∧ R ds m1 H1)
    (hQ : ∀ ds m1 H1 g s5, R ds m1 H1 → ReadyD X pins σ H1 P ds pb g s5 → Q' (.ref g) s5) :
    wpAny (model X.prog X.w) X.A (eval (.GeneratorExp elt [⟨.Name x px, iter, [], 0⟩] scope gpos) X.env) Q' X.xe s := by
  refine wpAny_GeneratorExp_walksQD hr.hd S.co (closure_ok S.free) S.cell S.dot S.loc S.kind (by have := hr.dp; omega) ?_ hs
  refine thn (hi.run pins s σ H _ I h) fun xv s1 ⟨v, H1, I1, r1, q1⟩ => ?_
  obtain ⟨ds, mm, ⟨ta, xs, rfl, hsq, hrs⟩, rM, hmP, hty, q1⟩ := q1
  obtain ⟨ps, hP, ht⟩ : ∃ ps, H1 P = some (.tbl ps) ∧ TriplesOk ps.toList := rM P _ hmP
  obtain rfl : xv = Value.ref ta := r1
  obtain ⟨its, rv, htup, hz⟩ := I1.tuple hsq
  have hlen : its.toArray.size = ds.length := by rw [List.size_toArray, ← rv.length, ← hrs.length]
  refine wpAny_pyIter_tuple (show s1.heap.IsTuple ta its.toArray from htup) ?_
  have hPs : s1.heap.get? P = some { cls := .none, data := .fields ps } := I1.hok P _ hP
  have hPlt : P < s1.heap.objs.size := Heap.lt_size hPs
  have talt : ta < s1.heap.objs.size := by obtain ⟨o, e, _⟩ := id htup; exact Heap.lt_size e
  have taP : ta ≠ P := fun z => by
    obtain ⟨o, e, hc, _⟩ := id htup
    rw [z, hPs] at e
    cases e
    cases hc
  have hP2 : (s1.heap.push { cls := .type "tuple_iterator", data := .fields #[.ref ta, .int 0 0] }).get? P = some { cls := .none, data := .fields ps } := Heap.get?_push_of_some _ hPs
  have cd : PySem.W.CodeHd (s1.heap.push { cls := .type "tuple_iterator", data := .fields #[.ref ta, .int 0 0] }) c P := TB.code.keeps fun b u e => Heap.get?_push_of_some _ (I1.bk b u e)
  have lim2 : (s1.heap.push { cls := .type "tuple_iterator", data := .fields #[.ref ta, .int 0 0] }).NoLimit := I1.nolimit.push _
  have st0 : (s1.heap.push { cls := .type "tuple_iterator", data := .fields #[.ref ta, .int 0 0] }).IsTupleIter s1.heap.objs.size ta 0 ∧ (s1.heap.push { cls := .type "tuple_iterator", data := .fields #[.ref ta, .int 0 0] }).IsTuple ta its.toArray :=
    ⟨⟨_, Heap.get?_push_size _ rfl, rfl, rfl⟩, (show s1.heap.IsTuple ta its.toArray from htup).push _⟩
  have wk : ∀ A' : Around, A'.handled = none → Walks X.prog X.w A' s1.heap.objs.size [s1.heap.objs.size, ta] [s1.heap.objs.size] its.toArray.size (fun i v => its.toArray[i]? = some v) (fun i h => h.IsTupleIter s1.heap.objs.size ta i ∧ h.IsTuple ta its.toArray) :=
    fun A' hA => Walks.tuple hA _ ta (Nat.ne_of_lt talt) its.toArray
  have sz2 : (s1.heap.push { cls := .type "tuple_iterator", data := .fields #[.ref ta, .int 0 0] }).objs.size = s1.heap.objs.size + 1 := Heap.size_push ..
  have cont : ∀ (code : Value) (h3 : Heap) (tk : Nat) (ps' : Array Value), Heap.ExtBut P (s1.heap.push { cls := .type "tuple_iterator", data := .fields #[.ref ta, .int 0 0] }) h3 → (s1.heap.push { cls := .type "tuple_iterator", data := .fields #[.ref ta, .int 0 0] }).objs.size ≤ h3.objs.size → h3.get? P = some { cls := .none, data := .fields ps' } → (∃ more, ps' = ps ++ more) → TriplesOk ps'.toList →
      wpAny (model X.prog X.w) X.A (builtinsFor X.env.globals X.env.builtins) (fun bi s₄ =>
        ∃ Ia fp wr n₀ Pf St₀ pz F, Value.ref s1.heap.objs.size = .ref Ia ∧ (∀ A' : Around, A'.handled = none → Walks X.prog X.w A' Ia fp wr n₀ Pf St₀) ∧ St₀ 0 s₄.heap ∧ (∀ b ∈ fp, b < s₄.heap.objs.size) ∧ s₄.heap.NoLimit ∧ cStatics ∉ wr ∧
          (∀ href : Heap, (∀ b o, s₄.heap.get? b = some o → href.get? b = some o) →
            QuietGenD X.prog X.w (genEnv scope (cloFrom X.env.cells scope.names []) s₄.heap.objs.size code bi X.env) x [] elt (List.range s₄.heap.objs.size) wr Pf pz F href (X.A.depth + 1) (X.A.units + 8)) ∧
          (∀ a h₅ tk gs, gs.bare = true → s₄.heap.objs.size < a → h₅.objs.size = a + 1 → (∀ b o, s₄.heap.get? b = some o → h₅.get? b = some o) →
            WalksS X.prog X.w X.A.in4 a (a :: s₄.heap.objs.size :: List.range s₄.heap.objs.size) (s₄.heap.objs.size :: wr) (GenOnlyQ s₄.gens.size) (passing pz n₀ 0).length
              (fun j y => ∃ i, (passing pz n₀ 0)[j]? = some i ∧ F i y) (GenAt X.prog X.w X.A.in4 a s₄.gens.size s₄.heap.objs.size (List.range s₄.heap.objs.size) wr pz n₀ F) →
            GenAt X.prog X.w X.A.in4 a s₄.gens.size s₄.heap.objs.size (List.range s₄.heap.objs.size) wr pz n₀ F 0 { s₄ with gens := s₄.gens.push gs, toks := tk, heap := h₅ } →
            Q' (.ref a) { s₄ with gens := s₄.gens.push gs, toks := tk, heap := h₅ })) X.xe { s1 with heap := h3, toks := tk } := by
    intro code h3 tk ps' hx hsz hP3 hmore ht3
    have hge3 : s1.heap.objs.size + 1 ≤ h3.objs.size := by rw [← sz2]; exact hsz
    obtain ⟨bm, ob, e1, e2, e3, e4, e5, e6, e7, e8⟩ := TB.bm
    have hcP : cStatics ≠ P := fun e => by
      obtain ⟨_, hns, _⟩ := I1.nolimit
      obtain ⟨o', es, ep, ho, hd, _⟩ := hns
      rw [e, hPs] at ho
      cases ho
      cases hd
    have hcl : cStatics < s1.heap.objs.size := let ⟨_, hns, _⟩ := I1.nolimit; hns.lt
    have keep3 : ∀ b u, b ≠ P → s1.heap.get? b = some u → h3.get? b = some u := fun b u hb e => hx b u hb (Heap.get?_push_of_some _ e)
    refine wpAny_builtinsFor (m := X.mg) (by rw [I1.ok.glob]; exact ((I1.mod.glob.keeps I1.bk).push _).extBut hx TB.gP) e1 e2 (keep3 _ _ e4 (I1.bk _ _ e5)) e6 e7 e8 ?_
    refine ⟨s1.heap.objs.size, [s1.heap.objs.size, ta], [s1.heap.objs.size], its.toArray.size, _, _, (fun _ => true), (fun i y => ∃ d, ds[i]? = some d ∧ y = .bool (pb d)), rfl, wk, ?_, ?_, lim2.extBut hx hcP, ?_, ?_, ?_⟩
    · refine (wk X.A hr.hd).frame _ _ _ st0 fun b hb u e => hx b u (fun z => ?_) e
      rcases List.mem_cons.mp hb with z2 | z2
      · exact Nat.ne_of_lt hPlt (z.symm.trans z2)
      · rcases List.mem_cons.mp z2 with z2 | z2
        · exact taP (z2.symm.trans z)
        · cases z2
    · intro b hb
      rcases List.mem_cons.mp hb with z | z
      · rw [z]
        exact Nat.lt_of_succ_le hge3
      · rcases List.mem_cons.mp z with z | z
        · rw [z]
          exact Nat.lt_of_lt_of_le talt (Nat.le_of_succ_le hge3)
        · cases z
    · intro z
      rcases List.mem_cons.mp z with z | z
      · exact Nat.ne_of_lt hcl z
      · cases z
    · intro href hhref
      have old : ∀ (s₂ : Shared), (∀ b ∈ List.range h3.objs.size, b ∉ [s1.heap.objs.size] → ∀ o, href.get? b = some o → s₂.heap.get? b = some o) → ∀ b o, b ≠ P → s1.heap.get? b = some o → s₂.heap.get? b = some o := fun s₂ hk b o hb e => by
        have hlt := Heap.lt_size e
        refine hk b (List.mem_range.mpr (Nat.lt_of_lt_of_le hlt (Nat.le_of_succ_le hge3))) (fun z => ?_) o (hhref b o (keep3 b o hb e))
        rcases List.mem_cons.mp z with z | z
        · rw [z] at hlt; exact Nat.lt_irrefl _ hlt
        · cases z
      refine ⟨fun A' E' i v s₂ m₂ hA hD hU hPv hn hm hk => ?_, fun A' E' i v s₂ m₂ hA hD hU hPv hp hn hm hk => ?_⟩
      · simp only [List.forIn_nil]
        exact wpAny_pure ⟨rfl, keeps_refl _⟩
      · have hPv' : its.toArray[i]? = some v := hPv
        have hv1 : its[i]? = some v := by simpa using hPv'
        obtain ⟨hlt, _⟩ := List.getElem?_eq_some_iff.mp hv1
        have hltx : i < xs.length := by rw [rv.length]; exact hlt
        obtain ⟨u', hu', rvu⟩ := rv.get (List.getElem?_eq_getElem hltx)
        rw [hv1] at hu'
        cases hu'
        obtain ⟨d, hd, rd⟩ := hrs.get' (List.getElem?_eq_getElem hltx)
        obtain ⟨t, htd⟩ := hty d (List.mem_of_getElem? hd)
        have kn1 := kn_of I1 rM htd rd rvu
        have o2 := old s₂ hk
        have M2 : Mod X.K X.mg s₂.heap := mod_keeps I1.mod fun b o e => by
          obtain ⟨q1, q2⟩ := I1.bs b o e
          exact o2 b o (fun z => by rw [z, hP] at q2; cases q2) q1
        have kn2 : Kn s₂.heap v t := kn1.keep fun a o n _ e hc => o2 a o (fun z => by rw [z, hPs] at e; cases e; cases hc) e
        exact wpAny_mono (hel _ A' E' d t v s₂ m₂ rfl I1.ok.glob rfl hA hD hU M2 hn hm kn2 (fun lo hi => ansV_of rd rvu)) (fun y s3 r => ⟨⟨d, hd, r.1⟩, r.2⟩) fun _ _ e => e
    · intro g h5 tk5 gs hgb hag hsz5 hk5 W5 hat
      simp only [GxR.passing_true, List.length_range] at W5
      rw [hlen] at W5
      rw [hlen] at hat
      refine hQ ds mm H1 g _ q1 ⟨_, _, _, _, _, W5.in4_1, hat, ?_, fun s' hm => ?_⟩
      · intro j y sj Qj Ej hy hQj
        obtain ⟨i, hij, d, hd, rfl⟩ := hy
        obtain ⟨hj, ej⟩ := List.getElem?_eq_some_iff.mp hij
        rw [List.getElem_range] at ej
        subst ej
        have hQ2 : Qj (trD pb ds j) sj := hQj
        rw [trD_some hd] at hQ2
        exact wpAny_truthy_bool hQ2
      · obtain ⟨more, em⟩ := hmore
        have nwr : ∀ b u, s1.heap.get? b = some u → b ∉ h3.objs.size :: [s1.heap.objs.size] := fun b u e hb => by
          have hl := Heap.lt_size e
          rcases List.mem_cons.mp hb with z | z
          · rw [z] at hl
            have h9 : (h3.objs.size : Nat) < s1.heap.objs.size := hl
            omega
          · rcases List.mem_cons.mp z with z | z
            · rw [z] at hl
              exact Nat.lt_irrefl _ hl
            · cases z
        have J := inv_tab (more := more) (h' := s'.heap) (g' := s'.gens) (d' := s'.drawn) (t' := s'.toks) I1 hP (fun b u hb e => hm.heap b u (nwr b u e) (hk5 b u (keep3 b u hb e)))
          (by rw [← em]; exact hm.heap P _ (nwr P _ hPs) (hk5 P _ hP3)) (AllBare.movedS (I1.bare.push hgb) hm)
        rw [sh_eta s1 s' hm.os] at J
        refine ⟨upd H1 P (.tbl (ps ++ more)), ⟨⟨ps ++ more, upd_same, by rw [← em]; exact ht3⟩, fun b hb => upd_ne hb⟩, J⟩
  refine ⟨lim2, ?_⟩
  cases hf : codeAmong gpos ps.toList with
  | none =>
    refine wpAny_genexprCodeX hcode (cd.code hP2 ht) (cd.tab hP2) hf fun c' h' tk hx hge hlt hco' _ htab' _ => ?_
    obtain ⟨o1, vs, f1, tf, fl, tg, inF, tx, tt, op, _, _, _, _, _, _, _, _, _, htr, _⟩ := hco'
    exact cont _ h' tk _ hx (Nat.le_trans hge (Nat.le_of_lt hlt)) htab'.2 ⟨_, rfl⟩ htr
  | some cv =>
    refine wpAny_genexprCode_hit hcode (cd.code hP2 ht) hf ?_
    exact cont cv _ s1.toks ps (Heap.ExtBut.refl _ _) (Nat.le_refl _) hP2 ⟨#[], by simp⟩ ht
theorem rel_tabbed {K : PySem.W.Frag} {H H2 : Hp} {m : M} {P : Addr} (r : RelM K H m) (hm : m P = some .tab) (t : Tabbed P H H2) : RelM K H2 m ∧ Tx H H2 := by
  obtain ⟨ps, hp, _⟩ := r P _ hm
  have tx : Tx H H2 := ⟨fun a xs e => by rw [t.2 a fun z => by rw [z, hp] at e; cases e]; exact e, fun a o u e => by rw [t.2 a fun z => by rw [z, hp] at e; cases e]; exact e⟩
  refine ⟨fun a o e => ?_, tx⟩
  by_cases h : a = P
  · subst h
    rw [hm] at e; cases e
    exact t.1
  · exact (r a o e).move tx fun v q => by rw [t.2 a h]; exact q
/-- all(test(x) for x in e), e a tuple -/
def aAll (P : Addr) (pb : D → Bool) (te : AE) : AE := fun e m Q R => te e m (fun d m1 => match d with
  | .tup ds => m1 P = some .tab ∧ (∀ d ∈ ds, ∃ t, tyD m1 d = some t) ∧ Q (.bl (ds.all pb)) m1
  | _ => False) R
theorem all_rng (l : List D) (pb : D → Bool) : (List.range l.length).all (trD pb l) = l.all pb := by
  rw [Bool.eq_iff_iff, List.all_eq_true, List.all_eq_true]
  constructor
  · intro h b hb
    obtain ⟨j, hj, e⟩ := List.getElem_of_mem hb
    have q := h j (List.mem_range.mpr hj)
    rw [trD_some (List.getElem?_eq_getElem hj), e] at q
    exact q
  · intro h j hj
    have hj' := List.mem_range.mp hj
    rw [trD_some (List.getElem?_eq_getElem hj')]
    exact h _ (List.getElem_mem hj')
theorem g_all {c P : Addr} {elt iter : Expr} {x : Str} {px p pos gpos : Pos} {scope : Scope} {pb : D → Bool} {te : AE} {k : Nat}
    (hr : Room k X.A) (hm : X.mg "all" = none) (TB : TabB X.base X.mg c P) (hcode : X.env.code = .ref c) (S : GenS X.env scope x) (hi : GE X W iter te) (hel : EltD X scope x elt pb)
    (hg : Gl X "all" := by rfl) (hs : ∀ v, genFold iter X.env v = pure v := by exact fun _ => rfl)
    (he : starEach [.GeneratorExp elt [⟨.Name x px, iter, [], 0⟩] scope gpos] X.env = (false, eval (.GeneratorExp elt [⟨.Name x px, iter, [], 0⟩] scope gpos) X.env) :: starEach [] X.env := by rfl) :
    GE X W (.Call (.Name "all" p) [.GeneratorExp elt [⟨.Name x px, iter, [], 0⟩] scope gpos] [] pos) (aAll P pb te) := by
  refine ⟨fun pins s σ H Q I h => ?_⟩
  obtain ⟨e, m, P', R, rE, rM, t, q, w⟩ := h
  have hb : bootBuiltins "all" = some (.builtin "all") := PyProof.Rows.boot_all
  refine wpAny_Call_Name_kw (ld_blt I hg hm hb ?_)
  refine PyProof.Rows.callWith_builtin1 ?_ he (by rfl)
  rw [he]
  show wpAny _ _ (spliced ((false, eval (.GeneratorExp elt [⟨.Name x px, iter, [], 0⟩] scope gpos) X.env) :: backTo pos (starEach [] X.env))) _ _ s
  refine Calls.spliced_cons (gen_tup (R := fun ds m1 H1 => m1 P = some .tab ∧ RelM X.K H1 m1 ∧ Tx H H1 ∧ P' (.bl (ds.all pb)) m1) hr TB hcode S hi hel hs I ?_ fun ds m1 H1 g s5 hR hG => ?_)
  · refine ⟨e, m, _, R, rE, rM, t, fun d m1 h1 v H1 t1 r1 rm1 => ?_, w⟩
    cases d with
    | tup ds => exact ⟨ds, m1, r1, rm1, h1.1, h1.2.1, h1.1, rm1, t1, h1.2.2⟩
    | _ => exact h1.elim
  · obtain ⟨fp, wr, G, F, St, W, hst, htr, hI⟩ := hG
    obtain ⟨hmP, rM1, t1, hp⟩ := hR
    refine Calls.spliced_nil ?_
    refine call_all_walkS (W.self 0 _ _ _ hst ⟨g, fp, wr, G, _, F, St, _, rfl, W, hst, htr, fun s' hmv => ?_⟩)
    obtain ⟨H2, hT, J⟩ := hI s' hmv
    obtain ⟨rM2, t2⟩ := rel_tabbed rM1 hmP hT
    refine ⟨.bl _, H2, J, rfl, ?_⟩
    rw [all_rng]
    exact q _ m1 hp _ H2 (t1.trans t2) rfl rM2

/-- is_integer(x, lo, hi), x the item -/
theorem elt_int {f : Addr} {params : Arguments} {fscope scope : Scope} {fd : FuncData} {q1 q2 q3 q4 q5 q6 q7 q8 q9 qa qb qc qd qe qf p1 p2 p3 p4 p5 : Pos} {k : Nat} {x : Str} {lo hi : Int} {j1 j2 : Nat}
    (F : FunD X.K "is_integer" "is_integer" params (bodyInt q1 q2 q3 q4 q5 q6 q7 q8 q9 qa qb qc qd qe qf) fscope [] [] f fd) (hb : Binds X.K fd ["value", "low", "high"] []) (hmf : X.mg "is_integer" = some (.ref f)) (hr : Room k X.A) (hk : 3 ≤ k)
    (hisi : X.mg "isinstance" = none) (hint : X.mg "int" = none) (hbool : X.mg "bool" = none)
    (k1 : fscope.kind = .function := by rfl) (k2 : fscope.isCoroutine = false := by rfl) (k3 : fscope.isGenerator = false := by rfl) (l1 : fscope.names.lookup ("value" : Str) = some NameKind.local := by rfl) (l2 : fscope.names.lookup ("low" : Str) = some NameKind.local := by rfl) (l3 : fscope.names.lookup ("high" : Str) = some NameKind.local := by rfl)
    (g1 : fscope.names.lookup ("isinstance" : Str) = some NameKind.globalImplicit := by rfl) (g2 : fscope.names.lookup ("int" : Str) = some NameKind.globalImplicit := by rfl) (g3 : fscope.names.lookup ("bool" : Str) = some NameKind.globalImplicit := by rfl)
    (s1 : scope.kind = .function := by rfl) (s2 : scope.names.lookup x = some NameKind.local := by rfl) (s3 : scope.names.lookup ("is_integer" : Str) = some NameKind.globalImplicit := by rfl) (hd : (x == ("__debug__" : Str)) = false := by decide) :
    EltD X scope x (.Call (.Name "is_integer" p1) [.Name x p2, .Constant (.int lo) j1 p3, .Constant (.int hi) j2 p4] [] p5) (isIntD lo hi) := by
  intro cenv A' E' d t u s₂ m₂ hs hG hB hA hD hU M hn hm kn hans
  have ks : cenv.scope.kind = .function := by rw [hs]; exact s1
  have kx : cenv.kindOf x = some .local := by show cenv.scope.names.lookup x = _; rw [hs]; exact s2
  have kf : cenv.kindOf "is_integer" = some .globalImplicit := by show cenv.scope.names.lookup _ = _; rw [hs]; exact s3
  refine wpAny_Call_Name_kw (ldF M ks hG hmf ?_ kf)
  refine PySem.W.callWith_K (h₀ := s₂.heap) M.kin F.kp ?_ (by rfl) (by rfl)
  refine args_cons (ldL ks hn hm ?_ kx hd)
  refine args_cons (wpAny_Constant_int ?_)
  refine args_cons (wpAny_Constant_int (args_nil ⟨M.kin, ?_⟩))
  have hdp := hr.dp
  refine isInt_call (s := { s₂ with toks := s₂.toks + 1 + 1 }) F hb k1 k2 k3 l1 l2 l3 g1 g2 g3 M (by omega) hisi hint hbool kn (hans lo hi) fun s' hk' => ⟨rfl, ?_⟩
  obtain ⟨h', tk, e, kp⟩ := hk'
  exact ⟨h', tk, e, kp⟩
end
end Ab

set_option Elab.async false
set_option linter.all false
set_option maxRecDepth 100000
set_option maxHeartbeats 4000000
namespace Ab
open PySem PySem.Spec PyProof.Rows L2
/-- a def as its callers want it -/
structure Cal (P : Program) (w : World) (K : PySem.W.Frag) (mg : Str → Option Value) (base : Heap) (x : Str) (k n : Nat) (sp : ASp) : Prop where
  ex : ∃ (f : Addr) (fd : FuncData) (ps : List Str), FnOk P w K mg base (L2.CX P w) k f fd ps (lSp K n sp) ∧ mg x = some (.ref f) ∧ PySem.W.keepIn K (.ref f) = true ∧ Binds K fd ps []
theorem Cal.mono {P : Program} {w : World} {K : PySem.W.Frag} {mg : Str → Option Value} {base : Heap} {x : Str} {k j n : Nat} {sp : ASp} (c : Cal P w K mg base x k n sp) (h : k ≤ j) : Cal P w K mg base x j n sp :=
  let ⟨f, fd, ps, a, b⟩ := c.ex; ⟨f, fd, ps, a.mono h, b⟩
section
variable {X : Cx} {W : WX}
theorem g_c {x : Str} {k n : Nat} {sp : ASp} {p pos : Pos} {e : Expr} {es : List Expr} {t : AA} (C : Cal X.prog X.w X.K X.mg X.base x k n sp) (tk : Takes X W) (hr : Room k X.A) (ha : GA X W (e :: es) t) (hg : Gl X x := by rfl)
    (hdb : (x == ("__debug__" : Str)) = false := by decide) (he : starEach (e :: es) X.env = (false, eval e X.env) :: starEach es X.env := by rfl) (hpl : (backTo pos (starEach es X.env)).any (·.1) = false := by rfl) :
    GE X W (.Call (.Name x p) (e :: es) [] pos) (aCall n sp t) := by
  obtain ⟨f, fd, ps, F, hm, hk, hb⟩ := C.ex
  exact g_call F tk hr hm hk hb ha hg hdb he hpl
/-- a constant of the module -/
def CI (mg : Str → Option Value) (x : Str) (i : Int) : Prop := ∃ t, mg x = some (.int i t)
def CS (mg : Str → Option Value) (x z : Str) : Prop := ∃ t, mg x = some (.str z t)
theorem g_ci {x : Str} {i : Int} {pos : Pos} (c : CI X.mg x i) (hg : Gl X x := by rfl) (hd : (x == ("__debug__" : Str)) = false := by decide) : GE X W (.Name x pos) (aC (.int i)) := by
  obtain ⟨t, h⟩ := c
  exact g_glob (v := .int i) hg h ⟨t, rfl⟩ (fun _ => rfl) hd
theorem g_cs {x z : Str} {pos : Pos} (c : CS X.mg x z) (hg : Gl X x := by rfl) (hd : (x == ("__debug__" : Str)) = false := by decide) : GE X W (.Name x pos) (aC (.str z)) := by
  obtain ⟨t, h⟩ := c
  exact g_glob (v := .str z) hg h ⟨t, rfl⟩ (fun _ => rfl) hd
theorem gt_chain {op op' : CmpOp} {r r' : AR2} {a b c : Expr} {ta tb tc : AE} {pos : Pos} (ho : OpR X (compareOp op) (lR2 X.K r)) (ho' : OpR X (compareOp op') (lR2 X.K r')) (ha : GE X W a ta) (hb : GE X W b tb) (hc : GE X W c tc)
    (hm : lastMarks [op, op'] [b, c] = false) : GT X W (.Compare a [op, op'] [b, c] pos) (aTest (aChain r r' ta tb tc)) := pt_imp (pt_chain ho ho' ha hb hc hm) fun σ H Q h => by
  obtain ⟨e, m, P, R, rE, rM, t, q, w⟩ := ltest h
  refine ⟨e, m, _, R, rE, rM, t, fun d1 m1 h1 x H1 t1 r1 rm1 => ?_, w⟩
  refine ⟨e, m1, _, R, rE.mono t1, rm1, h1, fun d2 m2 h2 y H2 t2 r2 rm2 => ?_, w.mono t1⟩
  refine ⟨d1, d2, m2, _, r1.mono t2, r2, rm2, h2, fun d3 m3 h3 z H3 t3 r3 rm3 => ?_⟩
  cases d3 with
  | bl k =>
    refine ⟨k, r3, ?_⟩
    cases k with
    | true =>
      have h3' : tc e m3 (fun u m4 => r' d2 u m4 P) R := by simpa using h3
      refine ⟨e, m3, _, R, rE.mono (t1.trans (t2.trans t3)), rm3, h3', fun d4 m4 h4 u H4 t4 r4 rm4 => ?_, w.mono (t1.trans (t2.trans t3))⟩
      exact ⟨d2, d4, m4, P, r2.mono (t3.trans t4), r4, rm4, h4, q.mono (t1.trans (t2.trans (t3.trans t4)))⟩
    | false =>
      have h3' : P (.bl false) m3 := by simpa using h3
      exact q (.bl false) m3 h3' (.bl false) H3 (t1.trans (t2.trans t3)) rfl rm3
  | _ => exact h3.elim
/-- an expression that ends by its value alone, as a test: a bool by itself -/
theorem gt_b {a : Expr} {ta : AE} (ha : GE X W a ta) (he : ∀ whole, isTrue a X.env whole = (do let v ← whole; standAt a.pos; holding [v] (truthy v)) := by intro _; rfl) : GT X W a (aTest ta) := pt_imp (pt_val ha he) fun σ H Q h => by
  obtain ⟨e, m, P, R, rE, rM, t, q, w⟩ := ltest h
  exact ⟨e, m, P, R, rE, rM, t, q, w⟩
end
/-- the built-ins that the text uses: none of them is a name of the module -/
structure Bi (mg : Str → Option Value) : Prop where
  len : mg "len" = none
  int : mg "int" = none
  bool : mg "bool" = none
  str : mg "str" = none
  tuple : mg "tuple" = none
  list : mg "list" = none
  isinstance : mg "isinstance" = none
  range : mg "range" = none
  all : mg "all" = none
  any : mg "any" = none
  min : mg "min" = none
  max : mg "max" = none
  reversed : mg "reversed" = none
  sorted : mg "sorted" = none
  enumerate : mg "enumerate" = none
  zip : mg "zip" = none
  dict : mg "dict" = none
  sum : mg "sum" = none
  abs : mg "abs" = none
theorem bt_len : bootBuiltins "len" = some (.builtin "len") := by decide +kernel
theorem bt_int : bootBuiltins "int" = some (.type "int") := by decide +kernel
theorem bt_bool : bootBuiltins "bool" = some (.type "bool") := by decide +kernel
theorem bt_str : bootBuiltins "str" = some (.type "str") := by decide +kernel
theorem bt_tuple : bootBuiltins "tuple" = some (.type "tuple") := by decide +kernel
theorem bt_list : bootBuiltins "list" = some (.type "list") := by decide +kernel
theorem bt_min : bootBuiltins "min" = some (.builtin "min") := by decide +kernel
theorem bt_max : bootBuiltins "max" = some (.builtin "max") := by decide +kernel
section
variable {P : Program} {w : World} {K : PySem.W.Frag} {mg : Str → Option Value} {base : Heap}
theorem cal_def {x : Str} {params : Arguments} {body : List Stmt} {scope : Scope} {f : Addr} {fd : FuncData} {N ps : List Str} {k n : Nat} {b : AS} (F : FunD K x x params body scope [] [] f fd) (hm : mg x = some (.ref f)) (bd : Binds K fd ps []) (S : FnScope N ps scope) (hn : ps.length = n)
    (hb : ∀ (cdv : Value) (A : Around) (outer : List Env) (s : Shared) (H : Hp) (E : XK), Room k (A.deeper (envOfC x scope s.heap.objs.size f cdv)) → GSs (cxOf (L2.CX P w) P w K mg base N x scope f cdv A outer s H E) (WD E) body b) :
    Cal P w K mg base x (k + 1) n (aDef N.length b) := ⟨f, fd, ps, ok_def F S hn hb, hm, F.kp, bd⟩
def noSp : ASp := fun _ _ _ _ => False
theorem cal_no {x : Str} {params : Arguments} {body : List Stmt} {scope : Scope} {f : Addr} {fd : FuncData} {ps : List Str} {k n : Nat} (F : FunD K x x params body scope [] [] f fd) (hm : mg x = some (.ref f)) (bd : Binds K fd ps []) : Cal P w K mg base x k n noSp :=
  ⟨f, fd, ps, ⟨fun _ _ _ _ h => by obtain ⟨_, _, _, _, _, _, _, z, _⟩ := h; exact z.elim, fun _ _ _ _ _ _ _ _ _ _ _ _ _ h => by obtain ⟨_, _, _, _, _, _, _, z, _⟩ := h; exact z.elim⟩, hm, F.kp, bd⟩
end
end Ab

set_option Elab.async false
set_option linter.all false
set_option maxRecDepth 100000
set_option maxHeartbeats 4000000
namespace Ab
open PySem PySem.Spec PyProof.Rows L2
section
variable {P : Program} {w : World} {K : PySem.W.Frag} {mg : Str → Option Value} {base : Heap}
/-- a list that is handed in and never changed may be held as it is -/
def spF (K : PySem.W.Frag) (sp : Sp) : Sp := fun vs H Q E => ∃ a xs, vs = [.ref a] ∧ ((FrL K H a xs ∧ sp vs H Q E) ∨ (H a = some (.lst xs) ∧ ∀ o, sp vs (upd H a (.frz o (.lst xs))) Q E))
theorem fn_freeze {k : Nat} {f : Addr} {fd : FuncData} {x : Str} {sp : Sp} (F : FnOk P w K mg base (L2.CX P w) k f fd [x] sp) : FnOk P w K mg base (L2.CX P w) k f fd [x] (spF K sp) := by
  refine ⟨fun vs H Q E h => ?_, fun A outer s H args us vs Q E hr e0 hb hv h => ?_⟩
  · obtain ⟨a, xs, rfl, _⟩ := h
    rfl
  · obtain ⟨a, xs, e, h⟩ := h
    rcases h with ⟨_, h⟩ | ⟨hl, h⟩
    · exact F.run A outer s H args us vs Q E hr e0 hb hv h
    · obtain ⟨z, its, n, rv, ho⟩ := (show ObjOk P w H s.heap a (.lst xs) from e0.hok a _ hl)
      have at_ : ∀ b, b ≠ a → (upd H a (.frz { cls := .type "list", data := .seq its.toArray n } (.lst xs))) b = H b := fun b hb => upd_ne hb
      have ne : ∀ b u, H b = some u → (∀ ys, u ≠ .lst ys) → b ≠ a := fun b u q hu z => by rw [z, hl] at q; cases q; exact hu xs rfl
      have nn : ∀ b, H b = none → b ≠ a := fun b q z => by rw [z, hl] at q; cases q
      have e1 : Env0 P w K mg base A outer s (upd H a (.frz { cls := .type "list", data := .seq its.toArray n } (.lst xs))) := by
        refine ⟨e0.frames, e0.mod, fun b o q => ⟨(e0.bs b o q).1, by rw [at_ b (nn b (e0.bs b o q).2)]; exact (e0.bs b o q).2⟩, e0.bsz, e0.funs, fun b q => by rw [at_ b (nn b (e0.frf b q))]; exact e0.frf b q, fun b u q => ?_, e0.bare⟩
        by_cases hb : b = a
        · subst hb
          rw [upd_same] at q
          cases q
          exact ⟨ho, z, its, n, rv, ho⟩
        · rw [at_ b hb] at q
          refine (e0.hok b u q).stay (fun c v _ y => y) (fun c y => by rw [at_ c (ne c _ y fun ys t => by cases t)]; exact y) fun c ys y => by rw [at_ c (ne c _ y fun ys t => by cases t)]; exact y
      refine codeAny_mono (F.run A outer s _ args us vs Q E hr e1 hb hv (h _)) fun r s' q => ?_
      cases r with
      | error e =>
        obtain ⟨ax, B, H', cls, d, q1, q2, q3, u, q4⟩ := q
        refine ⟨ax, B, H', cls, d, q1, q2, q3, ⟨fun b o e n hb => u.keep b o e (by rw [at_ b (nn b n)]; exact n) hb, u.slot, fun b o e n => u.free b o e (by rw [at_ b (nn b n)]; exact n), u.there, fun b ys y => u.tups b ys (by rw [at_ b (ne b _ y fun ys t => by cases t)]; exact y), fun b o ys y => u.frzs b o ys (by rw [at_ b (ne b _ y fun ys t => by cases t)]; exact y), fun b ps y => u.tbls b ps (by rw [at_ b (ne b _ y fun ys t => by cases t)]; exact y)⟩, q4⟩
      | ok fl =>
        cases fl with
        | ret v =>
          obtain ⟨x', H', q1, q2, u, q4⟩ := q
          exact ⟨x', H', q1, q2, ⟨fun b o e n hb hx => u.keep b o e (by rw [at_ b (nn b n)]; exact n) hb hx, fun b o e n hb hx => u.slot b o e (by rw [at_ b (nn b n)]; exact n) hb hx, fun b o e n hx => u.free b o e (by rw [at_ b (nn b n)]; exact n) hx, u.there, fun b ys y => u.tups b ys (by rw [at_ b (ne b _ y fun ys t => by cases t)]; exact y), fun b o ys y => u.frzs b o ys (by rw [at_ b (ne b _ y fun ys t => by cases t)]; exact y), fun b ps y => u.tbls b ps (by rw [at_ b (ne b _ y fun ys t => by cases t)]; exact y)⟩, q4⟩
        | next => exact q
        | brk => exact q
        | cont => exact q
/-- the law's promise, from what its abstract reading does -/
theorem law_sp {sp : ASp} {ts : List Addr} {H : Hp} {a : Addr} {ns : List Int} (h : ∀ m : M, (∀ p ∈ ts, m p = some .tab) → sp [.fls (ns.map D.int)] m (fun d _ => d = .bl true) fun _ _ => False)
    (hT : ∀ p ∈ ts, H p = some (.tbl #[])) (hS : SqL K H a (ns.map V.int)) : spF K (lSp K 1 sp) [.ref a] H (fun v _ => v = .bl true) fun _ _ _ => False := by
  have go : ∀ H' : Hp, (∀ p ∈ ts, H' p = some (.tbl #[])) → FrL K H' a (ns.map V.int) → lSp K 1 sp [.ref a] H' (fun v _ => v = .bl true) fun _ _ _ => False := fun H' hT' hF => by
    refine ⟨[.fls (ns.map D.int)], fun p => if p ∈ ts then some .tab else none, _, _, rfl, ⟨_, _, rfl, ⟨a, _, rfl, hF, Reps.of_ints ns⟩, rfl⟩, fun p o e => ?_, h _ fun p hp => if_pos hp, fun d m' e v H2 _ r _ => by subst e; exact r, ⟨fun _ _ z => z.elim⟩⟩
    have e : (if p ∈ ts then some O.tab else none) = some o := e
    by_cases hp : p ∈ ts
    · rw [if_pos hp] at e
      cases e
      exact ⟨#[], hT' p hp, by simp [TriplesOk]⟩
    · rw [if_neg hp] at e
      cases e
  rcases hS with (hS | ⟨o, hS⟩) | hS
  · refine ⟨a, _, rfl, .inr ⟨hS, fun o => go _ (fun p hp => ?_) (.inl ⟨o, upd_same⟩)⟩⟩
    rw [upd_ne fun z => by rw [← z, hT p hp] at hS; cases hS]
    exact hT p hp
  · exact ⟨a, _, rfl, .inl ⟨.inl ⟨o, hS⟩, go H hT (.inl ⟨o, hS⟩)⟩⟩
  · exact ⟨a, _, rfl, .inl ⟨.inr hS, go H hT (.inr hS)⟩⟩
/-- a def whose code object is asked for (it holds a generator expression) -/
theorem cal_defT {x : Str} {params : Arguments} {body : List Stmt} {scope : Scope} {fd : FuncData} {N ps : List Str} {k n : Nat} {b : AS} (F : FunD K x x params body scope [] [] (He.fAd K (x, none)) fd) (hm : mg x = some (.ref (He.fAd K (x, none)))) (bd : Binds K fd ps []) (S : FnScope N ps scope) (hn : ps.length = n)
    (hb : ∀ (A : Around) (outer : List Env) (s : Shared) (H : Hp) (E : XK), Room k (A.deeper (envOfC x scope s.heap.objs.size (He.fAd K (x, none)) (.ref (He.codeOf K (x, none))))) → GSs (cxOf (L2.CX P w) P w K mg base N x scope (He.fAd K (x, none)) (.ref (He.codeOf K (x, none))) A outer s H E) (WD E) body b) :
    Cal P w K mg base x (k + 1) n (aDef N.length b) := by
  refine ⟨_, fd, ps, ?_, hm, F.kp, bd⟩
  obtain ⟨oc, od, dV, kV, doc, pm, an, cdv, ct, osl, rfl, lk, hcd, _, _⟩ := F.ex
  obtain ⟨c, rfl⟩ := He.codeIn_ref hcd
  have ec : He.codeOf K (x, none) = c := He.codeOf_eq (p := (x, none)) lk rfl
  rw [ec] at hb
  refine fn_of lk hcd S (fun vs H Q E h => ?_) (fun A outer s H vs Q E hr h => ⟨_, hb A outer s H E hr, ?_⟩)
  · obtain ⟨ds, m, P', R, e, r, _⟩ := h
    rw [← r.length, e, hn]
  · obtain ⟨ds, m, P', R, e, r, rM, t, q, w'⟩ := h
    refine ⟨_, m, _, RelE.start r, rM, t, ⟨fun e' m' h σ' H' t' rE rM' => ?_, fun d m' h v H' t' rv rM' => ?_, fun _ _ h => h.elim, fun _ _ h => h.elim, fun e' σ' H' t' rE => ⟨fun x' m' h cls dd H2 t2 xr rM2 => ?_⟩⟩⟩
    · obtain ⟨m2, s2, h⟩ := h
      exact q .non m2 h .non H' t' rfl (rM'.sub s2)
    · obtain ⟨m2, s2, h⟩ := h
      exact q d m2 h v H' t' rv (rM'.sub s2)
    · obtain ⟨m2, s2, h⟩ := h
      exact w'.go x' m2 h cls dd H2 (t'.trans t2) xr (rM2.sub s2)
end
end Ab

set_option Elab.async false
set_option linter.all false
namespace Ab
open PySem PySem.Spec PyProof.Rows L2
theorem noFree {l : List (Str × NameKind)} {p : Str × NameKind → Prop} (h : (l.all fun y => !decide (y.2 = .free)) = true) : ∀ y ∈ l, y.2 = .free → p y := fun y hy hf => by
  have := List.all_eq_true.mp h y hy
  rw [decide_eq_true hf] at this
  cases this
theorem cx_no {P : Program} {w : World} {H : Hp} {s : Shared} {e : Value} {s' : Shared} (h : L2.CX P w [] H s (fun _ _ _ => False) e s') : False := by
  obtain ⟨_, _, _, _, _, _, _, _, _, _, _, _, z⟩ := h
  exact z
end Ab

set_option Elab.async false
set_option linter.all false
namespace Ab
open PySem PySem.Spec PyProof.Rows L2
theorem l_same {m : M} {a : Addr} {ds : List D} : (mset m a (.lst ds)).l a = some ds := by unfold M.l; rw [mset_same]
theorem l_ne {m : M} {a b : Addr} {o : O} (h : b ≠ a) : (mset m a o).l b = m.l b := by unfold M.l; rw [mset_ne h]
theorem l_of {m : M} {a : Addr} {ds : List D} (h : m a = some (.lst ds)) : m.l a = some ds := by unfold M.l; rw [h]
theorem of_l {m : M} {a : Addr} {ds : List D} (h : m.l a = some ds) : m a = some (.lst ds) := by
  unfold M.l at h
  split at h
  · next z => cases h; exact z
  · cases h
theorem atI_nat {α : Type} {xs : List α} {i : Int} (h0 : 0 ≤ i) (h1 : i < xs.length) : atI xs i = xs[i.toNat]? := by
  unfold atI ixN
  rw [if_pos h0, if_pos h1]
  rfl
theorem atI_get {α : Type} [Inhabited α] {xs : List α} {i : Int} (h0 : 0 ≤ i) (h1 : i < xs.length) : atI xs i = some (xs[i.toNat]'(by omega)) := by
  rw [atI_nat h0 h1]
  exact List.getElem?_eq_getElem _
section
variable {α : Type} {a b c d e f g h i j : α} {l : List α}
theorem at0 : atI (a :: l) 0 = some a := by rw [atI_nat (by decide) (by simp only [List.length_cons]; omega)]; rfl
theorem at1 : atI (a :: b :: l) 1 = some b := by rw [atI_nat (by decide) (by simp only [List.length_cons]; omega)]; rfl
theorem at2 : atI (a :: b :: c :: l) 2 = some c := by rw [atI_nat (by decide) (by simp only [List.length_cons]; omega)]; rfl
theorem at3 : atI (a :: b :: c :: d :: l) 3 = some d := by rw [atI_nat (by decide) (by simp only [List.length_cons]; omega)]; rfl
theorem at4 : atI (a :: b :: c :: d :: e :: l) 4 = some e := by rw [atI_nat (by decide) (by simp only [List.length_cons]; omega)]; rfl
theorem at5 : atI (a :: b :: c :: d :: e :: f :: l) 5 = some f := by rw [atI_nat (by decide) (by simp only [List.length_cons]; omega)]; rfl
theorem ix0 {n : Nat} : ixN (n + 1) 0 = some 0 := by unfold ixN; rw [if_pos (by decide), if_pos (by omega)]; rfl
theorem ix1 {n : Nat} : ixN (n + 2) 1 = some 1 := by unfold ixN; rw [if_pos (by decide), if_pos (by omega)]; rfl
theorem ix2 {n : Nat} : ixN (n + 3) 2 = some 2 := by unfold ixN; rw [if_pos (by decide), if_pos (by omega)]; rfl
theorem ix3 {n : Nat} : ixN (n + 4) 3 = some 3 := by unfold ixN; rw [if_pos (by decide), if_pos (by omega)]; rfl
theorem xN {n k : Nat} (h : k < n) : ixN n (k : Int) = some k := by unfold ixN; rw [if_pos (by omega), if_pos (by omega)]; simp
end
theorem imp_pos {p : Prop} [Decidable p] {a b : Prop} (h : p → a) (h' : ¬p → b) : if p then a else b := by
  split
  · exact h ‹_›
  · exact h' ‹_›
end Ab

set_option Elab.async false
set_option linter.all false
set_option maxRecDepth 100000
set_option maxHeartbeats 4000000
namespace Ab
open PySem PySem.Spec PyProof.Rows L2
/-- flat data -/
def flatD : D → Bool
  | .non => true
  | .bl _ => true
  | .int _ => true
  | .str _ => true
  | _ => false
def D.fv : D → V
  | .bl b => .bl b
  | .int i => .int i
  | .str x => .str x
  | _ => .non
section
variable {K : PySem.W.Frag} {H : Hp}
theorem flat_rep {d : D} {v : V} (f : flatD d = true) (r : Rep K H d v) : v = d.fv ∧ flatV v = true := by
  cases d with
  | non => rw [show v = .non from r]; exact ⟨rfl, rfl⟩
  | bl b => rw [show v = .bl b from r]; exact ⟨rfl, rfl⟩
  | int i => rw [show v = .int i from r]; exact ⟨rfl, rfl⟩
  | str x => rw [show v = .str x from r]; exact ⟨rfl, rfl⟩
  | _ => cases f
theorem flat_reps : ∀ {ds : List D} {vs : List V}, ds.all flatD = true → Reps K H ds vs → vs = ds.map D.fv ∧ vs.all flatV = true
  | [], _, _, h => by rw [show _ = [] from h]; exact ⟨rfl, rfl⟩
  | d :: ds, _, f, ⟨x, r, e, h, hr⟩ => by
    rw [List.all_cons, Bool.and_eq_true] at f
    obtain ⟨a, b⟩ := flat_rep f.1 h
    obtain ⟨c, d'⟩ := flat_reps f.2 hr
    rw [e, List.all_cons, b, d', a, c]
    exact ⟨rfl, rfl⟩
end
def inF (x : D) (ds : List D) : Bool := ds.any fun z => eqV z.fv x.fv
def rInA (neg : Bool) : AR2 := fun x y m Q => match itemsD m y with
  | some ds => (flatD x = true ∧ ds.all flatD = true) ∧ Q (.bl (if neg = true then !inF x ds else inF x ds)) m
  | none => False
section
variable {X : Cx} {W : WX}
theorem items_seq {K : PySem.W.Frag} {H : Hp} {m : M} {d : D} {v : V} {ds : List D} (rM : RelM K H m) (e : itemsD m d = some ds) (r : Rep K H d v) : ∃ p xs, v = .ref p ∧ (SqL K H p xs ∨ SqT K H p xs) ∧ Reps K H ds xs := by
  cases d with
  | tup es => cases e; obtain ⟨a, xs, ev, hs, hr⟩ := r; exact ⟨a, xs, ev, .inr hs, hr⟩
  | fls es => cases e; obtain ⟨a, xs, ev, hs, hr⟩ := r; exact ⟨a, xs, ev, .inl hs.sq, hr⟩
  | ref a =>
    obtain ⟨xs, hx, hr⟩ := rM a _ (M.l_of (show m.l a = some ds from e))
    exact ⟨a, xs, r, .inl (SqL.of hx), hr⟩
  | _ => cases e
theorem in_rel {K : PySem.W.Frag} {neg : Bool} {x y : V} {H : Hp} {Q : VK} (h : lR2 K (rInA neg) x y H Q) : rIn K neg x y H Q := by
  obtain ⟨d1, d2, m, P, r1, r2, rM, h, q⟩ := h
  have h' : (match itemsD m d2 with | some ds => (flatD d1 = true ∧ ds.all flatD = true) ∧ P (.bl (if neg = true then !inF d1 ds else inF d1 ds)) m | none => False) := h
  cases e : itemsD m d2 with
  | none => rw [e] at h'; exact h'.elim
  | some ds =>
    rw [e] at h'
    obtain ⟨⟨f1, f2⟩, p⟩ := h'
    obtain ⟨a, xs, ev, hs, hr⟩ := items_seq rM e r2
    obtain ⟨e1, g1⟩ := flat_rep f1 r1
    obtain ⟨e2, g2⟩ := flat_reps f2 hr
    refine ⟨a, xs, ev, hs, g1, g2, ?_⟩
    have : inV x xs = inF d1 ds := by
      unfold inV inF
      rw [e1, e2, List.any_map]
      rfl
    rw [this]
    exact q _ m p _ H (Tx.refl H) rfl rM
theorem o_in : OpR X (compareOp .In) (lR2 X.K (rInA false)) := fun pins s σ H x y v u Q I rx ry h => op_in_seq pins s σ H x y v u Q I rx ry (in_rel h)
theorem o_notIn : OpR X (compareOp .NotIn) (lR2 X.K (rInA true)) := fun pins s σ H x y v u Q I rx ry h => op_notIn_seq pins s σ H x y v u Q I rx ry (in_rel h)
/-- any of a tuple of numbers and truths -/
def D.tr : D → Bool
  | .bl b => b
  | .int i => i != 0
  | _ => false
def D.isNum : D → Bool
  | .bl _ => true
  | .int _ => true
  | _ => false
def D.pd : D → PyData
  | .bl b => .bool b
  | .int i => .int i
  | _ => .none
def rAnyTA : ARL := fun ds m Q => match ds with
  | [.tup es] => es.all D.isNum = true ∧ Q (.bl (es.any D.tr)) m
  | _ => False
theorem num_pd : ∀ {es : List D}, es.all D.isNum = true → PyData.plainAll (es.map D.pd) = true ∧ (∀ x ∈ es.map D.pd, x.fits63) ∧ (es.map D.pd).any PyData.truthy = es.any D.tr
  | [], _ => ⟨rfl, fun _ h => by simp at h, rfl⟩
  | d :: es, h => by
    rw [List.all_cons, Bool.and_eq_true] at h
    obtain ⟨a, b, c⟩ := num_pd h.2
    cases d with
    | bl k =>
      refine ⟨by rw [List.map_cons, PyData.plainAll, a]; rfl, fun x hx => ?_, ?_⟩
      · rcases List.mem_cons.mp hx with e | e
        · rw [e]; trivial
        · exact b x e
      · rw [List.map_cons, List.any_cons, c]; rfl
    | int i =>
      refine ⟨by rw [List.map_cons, PyData.plainAll, a]; rfl, fun x hx => ?_, ?_⟩
      · rcases List.mem_cons.mp hx with e | e
        · rw [e]; trivial
        · exact b x e
      · rw [List.map_cons, List.any_cons, c]; rfl
    | _ => cases h.1
theorem num_dp {K : PySem.W.Frag} {H : Hp} : ∀ {es : List D} {vs : List V}, es.all D.isNum = true → Reps K H es vs → DpAll K H vs (es.map D.pd)
  | [], _, _, r => by rw [show _ = [] from r]; exact .nil
  | d :: es, _, h, ⟨x, r, e, hx, hr⟩ => by
    rw [List.all_cons, Bool.and_eq_true] at h
    rw [e]
    cases d with
    | bl k => rw [show x = .bl k from hx]; exact .cons (.bl k) (num_dp h.2 hr)
    | int k => rw [show x = .int k from hx]; exact .cons (.int k) (num_dp h.2 hr)
    | _ => cases h.1
theorem c_anyT (hc : X.calm = true) : CallR X (.builtin "any") (lRL X.K rAnyTA) := by
  intro pins s σ H vs us Q I r h
  obtain ⟨ds, m, P, rs, rM, h, q⟩ := h
  match ds, h, rs with
  | [.tup es], h, rs =>
    obtain ⟨v, r', e, ⟨a, xs, ev, hs, hr⟩, e2⟩ := rs
    obtain rfl : r' = [] := e2
    subst e ev
    obtain ⟨its, rv, ht, _⟩ := I.tuple hs
    obtain ⟨n1, n2, n3⟩ := num_pd h.1
    obtain ⟨as, ra⟩ := Dp.readsAll I _ _ its (num_dp h.1 hr) rv
    rw [Vals.ref1 r]
    refine PySem.W.any_tuple_data (vs := its.toArray) (I.ok.hd hc) ht (by simpa using ra) n1 n2 fun h' tk hk => ?_
    exact ⟨.bl _, H, I.kept hk, by rw [n3]; rfl, q _ m h.2 _ H (Tx.refl H) rfl rM⟩
/-! ### the place of an item -/
def aIndex (to ta : AE) : AE := fun e m Q R => to e m (fun o m1 => match o with
  | .ref a => (match m1.l a with
    | some _ => ta e m1 (fun d m2 => match m2.l a with
      | some ds => (flatD d = true ∧ ds.all flatD = true) ∧ ∃ j z, ds[j]? = some z ∧ eqV z.fv d.fv = true ∧ (∀ (i : Nat) z', i < j → ds[i]? = some z' → eqV z'.fv d.fv = false) ∧ Q (.int (j : Nat)) m2
      | none => False) R
    | none => False)
  | _ => False) R
theorem g_index {o a : Expr} {to ta : AE} {apos cpos : Pos} (ho : GE X W o to) (ha : GE X W a ta) (hbase : attributeBase o "index" X.env (eval o X.env) = eval o X.env := by rfl)
    (hfew : ((backTo cpos (starEach [a] X.env)).all (fun x => !x.1) && (backToKw cpos (keywordEach [] X.env)).all (fun x => x.1.isSome)
      && decide ([a].length + ([] : List Keyword).length + (if ([] : List Keyword).isEmpty then 0 else 1) < 30)) = true := by rfl)
    (hline : (apos.endLine == cpos.line) = true := by rfl) (hs : starEach [a] X.env = (false, eval a X.env) :: starEach [] X.env := by rfl) (hplain : (backTo cpos (starEach [] X.env)).any (·.1) = false := by rfl) :
    GE X W (.Call (.Attribute o "index" apos) [a] [] cpos) (aIndex to ta) := pe_imp (pe_bm PySem.F.plainAttrs_list PySem.F.slot_list_index PySem.F.type_list_index mt_index ho (pa_cons ha pa_nil hs) hbase hfew hline hs hplain) fun σ H Q h => by
  obtain ⟨e, m, P, R, rE, rM, t, q, w⟩ := h
  refine ⟨e, m, _, R, rE, rM, t, fun d m1 h1 v H1 t1 r1 rm1 => ?_, w⟩
  cases d with
  | ref b =>
    obtain rfl : v = .ref b := r1
    have h1' : (match m1.l b with | some _ => ta e m1 (fun d m2 => match m2.l b with | some ds => (flatD d = true ∧ ds.all flatD = true) ∧ ∃ j z, ds[j]? = some z ∧ eqV z.fv d.fv = true ∧ (∀ (i : Nat) z', i < j → ds[i]? = some z' → eqV z'.fv d.fv = false) ∧ P (.int (j : Nat)) m2 | none => False) R | none => False) := h1
    cases e1 : m1.l b with
    | none => rw [e1] at h1'; exact h1'.elim
    | some ds1 =>
      rw [e1] at h1'
      obtain ⟨xs1, hx1, _⟩ := rm1 b _ (M.l_of e1)
      refine ⟨.inl ⟨rfl, _, SqL.of hx1⟩, e, m1, _, R, rE.mono t1, rm1, h1', fun d2 m2 h2 v2 H2 t2 r2 rm2 => ?_, w.mono t1⟩
      have h2' : (match m2.l b with | some ds => (flatD d2 = true ∧ ds.all flatD = true) ∧ ∃ j z, ds[j]? = some z ∧ eqV z.fv d2.fv = true ∧ (∀ (i : Nat) z', i < j → ds[i]? = some z' → eqV z'.fv d2.fv = false) ∧ P (.int (j : Nat)) m2 | none => False) := h2
      cases e2 : m2.l b with
      | none => rw [e2] at h2'; exact h2'.elim
      | some ds =>
        rw [e2] at h2'
        obtain ⟨⟨f1, f2⟩, j, z, hj, hz, hn, p⟩ := h2'
        obtain ⟨xs, hx, hr⟩ := rm2 b _ (M.l_of e2)
        obtain ⟨k1, k2⟩ := flat_rep f1 r2
        obtain ⟨k3, k4⟩ := flat_reps f2 hr
        refine ⟨b, xs, v2, j, z.fv, rfl, rfl, SqL.of hx, k2, k4, by rw [k3, List.getElem?_map, hj]; rfl, by rw [k1]; exact hz, fun i z' hi hz' => ?_, q _ m2 p _ H2 (t1.trans t2) rfl rm2⟩
        rw [k3, List.getElem?_map] at hz'
        cases e3 : ds[i]? with
        | none => rw [e3] at hz'; cases hz'
        | some y => rw [e3] at hz'; cases hz'; rw [k1]; exact hn i y hi e3
  | _ => exact h1.elim
/-- a tuple of texts that the module names -/
structure CT (K : PySem.W.Frag) (mg : Str → Option Value) (x : Str) (zs : List Str) : Prop where
  ex : ∃ (a : Addr) (o : Obj) (its : Array Value) (n : Nat), mg x = some (.ref a) ∧ K.lookup a = some o ∧ o.cls = .type "tuple" ∧ o.dict = none ∧ o.data = .seq its n ∧ its.size ≤ sizeLine ∧ Vals (zs.map V.str) its.toList
def strV : Value → Option Str
  | .str z _ => some z
  | _ => none
def tupIn (K : PySem.W.Frag) (x : Str) (zs : List Str) : Bool := match PySem.W.nsIn K mainGlobals x with
  | some (some (.ref a)) => (match K.lookup a with
    | some ⟨.type t, none, .seq its _, _⟩ => decide (t = "tuple") && (decide (its.toList.map strV = zs.map some) && decide (zs.length ≤ 100))
    | _ => false)
  | _ => false
theorem vals_strV : ∀ {l : List Value} {zs : List Str}, l.map strV = zs.map some → Vals (zs.map V.str) l
  | [], [], _ => .nil
  | [], _ :: _, h => by cases h
  | _ :: _, [], h => by cases h
  | v :: l, z :: zs, h => by
    rw [List.map_cons, List.map_cons] at h
    obtain ⟨a, b⟩ := List.cons.inj h
    refine .cons ?_ (vals_strV b)
    cases v with
    | str y t => cases a; exact ⟨t, rfl⟩
    | _ => cases a
theorem ct_ok {K : PySem.W.Frag} {h : Heap} {mg : Str → Option Value} {x : Str} {zs : List Str} (KX : K.In h) (G : h.Ns mainGlobals mg) (c : tupIn K x zs = true) : CT K mg x zs := by
  unfold tupIn at c
  split at c
  · next a ea =>
    split at c
    · next t its n sl eo =>
      obtain ⟨c1, c2⟩ := Bool.and_eq_true_iff.mp c
      obtain ⟨c2, c3⟩ := Bool.and_eq_true_iff.mp c2
      have c1 := of_decide_eq_true c1
      have c2 := of_decide_eq_true c2
      have c3 := of_decide_eq_true c3
      subst c1
      have lz : its.size ≤ 100 := by
        have := congrArg List.length c2
        simp at this
        omega
      exact ⟨a, _, its, n, PySem.W.mg_of KX G ea, eo, rfl, rfl, rfl, Nat.le_trans lz (by decide), vals_strV c2⟩
    · cases c
  · cases c
theorem reps_strs {K : PySem.W.Frag} {H : Hp} : ∀ zs : List Str, Reps K H (zs.map D.str) (zs.map V.str)
  | [] => rfl
  | z :: zs => ⟨_, _, rfl, rfl, reps_strs zs⟩
theorem ct_sqT {K : PySem.W.Frag} {mg : Str → Option Value} {x : Str} {zs : List Str} (c : CT K mg x zs) : ∃ a, mg x = some (.ref a) ∧ (∃ o, K.lookup a = some o ∧ o.cls = .type "tuple" ∧ o.dict = none) ∧ ∀ H, SqT K H a (zs.map V.str) := by
  obtain ⟨a, o, its, n, h1, h2, h3, h4, h5, h6, h7⟩ := c
  exact ⟨a, h1, ⟨o, h2, h3, h4⟩, fun H => .inr ⟨o, its, n, h2, h3, h5, h6, h7⟩⟩
theorem g_ctup {x : Str} {zs : List Str} {pos : Pos} (c : CT X.K X.mg x zs) (hg : Gl X x := by rfl) (hd : (x == ("__debug__" : Str)) = false := by decide) : GE X W (.Name x pos) (aC (.tup (zs.map D.str))) := by
  obtain ⟨a, h, _, s⟩ := ct_sqT c
  exact g_glob (v := .ref a) hg h rfl (fun H => ⟨a, _, rfl, s H, reps_strs zs⟩) hd
/-- the place of a text in such a tuple -/
def aCtIx (zs : List Str) (ta : AE) : AE := fun e m Q R => ta e m (fun d m1 => match d with
  | .str z => ∃ j, zs[j]? = some z ∧ (∀ i, i < j → zs[i]? ≠ some z) ∧ Q (.int (j : Nat)) m1
  | _ => False) R
theorem g_ctIx {x : Str} {zs : List Str} {a : Expr} {ta : AE} {xp apos cpos : Pos} (c : CT X.K X.mg x zs) (ha : GE X W a ta) (hg : Gl X x := by rfl) (hd : (x == ("__debug__" : Str)) = false := by decide) (hbase : attributeBase (.Name x xp) "index" X.env (eval (.Name x xp) X.env) = eval (.Name x xp) X.env := by rfl)
    (hfew : ((backTo cpos (starEach [a] X.env)).all (fun x => !x.1) && (backToKw cpos (keywordEach [] X.env)).all (fun x => x.1.isSome)
      && decide ([a].length + ([] : List Keyword).length + (if ([] : List Keyword).isEmpty then 0 else 1) < 30)) = true := by rfl)
    (hline : (apos.endLine == cpos.line) = true := by rfl) (hs : starEach [a] X.env = (false, eval a X.env) :: starEach [] X.env := by rfl) (hplain : (backTo cpos (starEach [] X.env)).any (·.1) = false := by rfl) :
    GE X W (.Call (.Attribute (.Name x xp) "index" apos) [a] [] cpos) (aCtIx zs ta) := by
  obtain ⟨p, h, hk, s⟩ := ct_sqT c
  refine pe_imp (pe_bm PySem.F.plainAttrs_tuple PySem.F.slot_tuple_index PySem.F.type_tuple_index mt_tup_index (pe_glob (v := .ref p) hg h rfl hd) (pa_cons ha pa_nil hs) hbase hfew hline hs hplain) fun σ H Q h => ?_
  obtain ⟨e, m, P, R, rE, rM, t, q, w⟩ := h
  refine ⟨.inr (.inl ⟨rfl, hk⟩), e, m, _, R, rE, rM, t, fun d m1 h1 v H1 t1 r1 rm1 => ?_, w⟩
  cases d with
  | str z =>
    obtain ⟨j, hj, hn, p1⟩ := h1
    exact ⟨p, zs, z, j, rfl, by rw [show v = .str z from r1], s H1, hj, hn, q _ m1 p1 _ H1 t1 rfl rm1⟩
  | _ => exact h1.elim
end
end Ab

set_option Elab.async false
set_option linter.all false
set_option maxRecDepth 100000
namespace Ab
open PySem PySem.Spec PyProof.Rows L2
section
variable {ds es : List D} {i j k : Int} {m : M} {Q : PQ} {a b : Addr} {x : Str} {p q : Bool}
theorem ixT : rIxA (.tup ds) (.int i) m Q = (match atI ds i with | some d => Q d m | none => False) := rfl
theorem ixF : rIxA (.fls ds) (.int i) m Q = (match atI ds i with | some d => Q d m | none => False) := rfl
theorem ixR : rIxA (.ref a) (.int i) m Q = (match m.l a with | some ds => (match atI ds i with | some d => Q d m | none => False) | none => False) := rfl
theorem intI : rIntA [.int i] m Q = Q (.int i) m := rfl
theorem intB : rIntA [.bl p] m Q = Q (.int (if p then 1 else 0)) m := rfl
theorem tupT : rTupleA [.tup ds] m Q = Q (.tup ds) m := rfl
theorem tupF : rTupleA [.fls ds] m Q = Q (.tup ds) m := rfl
theorem tupR : rTupleA [.ref a] m Q = (match m.l a with | some es => Q (.tup es) m | none => False) := rfl
theorem addI : rAddA (.int i) (.int j) m Q = Q (.int (i + j)) m := rfl
theorem addT : rAddA (.tup ds) (.tup es) m Q = (ds.length + es.length ≤ big ∧ Q (.tup (ds ++ es)) m) := rfl
theorem addR : rAddA (.ref a) (.ref b) m Q = (match m.l a, m.l b with | some xs, some ys => xs.length + ys.length ≤ big ∧ ∀ p, m p = none → Q (.ref p) (mset m p (.lst (xs ++ ys))) | _, _ => False) := rfl
theorem mulI : rMulA (.int i) (.int j) m Q = (CMulW i j ∧ Q (.int (i * j)) m) := rfl
theorem mulT : rMulA (.tup ds) (.int k) m Q = ((ds ≠ [] ∧ 2 ≤ k ∧ k ≤ 1000 ∧ ds.length ≤ 1000) ∧ Q (.tup (List.replicate k.toNat ds).flatten) m) := rfl
theorem mulR : rMulA (.ref a) (.int k) m Q = (match m.l a with
    | some xs => (-(2 ^ 62) ≤ k ∧ k < 2 ^ 62 ∧ xs.length * k.toNat ≤ big) ∧ ∀ p, m p = none → Q (.ref p) (mset m p (.lst (List.replicate k.toNat xs).flatten))
    | none => False) := rfl
theorem slT {l u : Option Int} : Ab.rSlA (.tup ds) l u m Q = Q (.tup (Ab.cutD ds l u)) m := rfl
theorem slR {l u : Option Int} : Ab.rSlA (.ref a) l u m Q = (match m.l a with | some ds => ∀ p, m p = none → Q (.ref p) (mset m p (.lst (Ab.cutD ds l u))) | none => False) := rfl
theorem i2 {f : Int → Int → D} : rInt0 f (.int i) (.int j) m Q = Q (f i j) m := rfl
theorem c2 {C : Int → Int → Prop} {f : Int → Int → D} : rIntC C f (.int i) (.int j) m Q = (C i j ∧ Q (f i j) m) := rfl
theorem negI : rNegA (.int i) m Q = Q (.int (-i)) m := rfl
theorem isB : rIsA (.bl p) (.bl q) m Q = Q (.bl (decide (p = q))) m := rfl
theorem isN {d : D} : rIsA d .non m Q = Q (.bl d.isNon) m := by cases d <;> rfl
theorem notB : rIsNotA (.bl p) (.bl q) m Q = Q (.bl (!decide (p = q))) m := rfl
theorem notN {d : D} : rIsNotA d .non m Q = Q (.bl (!d.isNon)) m := by cases d <;> rfl
theorem eqI : rEqA (.int i) (.int j) m Q = Q (.bl (decide (i = j))) m := rfl
theorem eqS {y : Str} : rEqA (.str x) (.str y) m Q = Q (.bl (decide (x = y))) m := rfl
theorem eqB : rEqA (.bl p) (.bl q) m Q = Q (.bl (decide (p = q))) m := rfl
theorem neI : rNeA (.int i) (.int j) m Q = Q (.bl (!decide (i = j))) m := rfl
theorem neB : rNeA (.bl p) (.bl q) m Q = Q (.bl (!decide (p = q))) m := rfl
theorem nonN : D.isNon .non = true := rfl
theorem nonT : D.isNon (.tup ds) = false := rfl
theorem lenT : lenD m (.tup ds) = some ds.length := rfl
theorem lenF : lenD m (.fls ds) = some ds.length := rfl
theorem lenR : lenD m (.ref a) = (m.l a).map List.length := rfl
theorem itT : itemsD m (.tup ds) = some ds := rfl
theorem itF : itemsD m (.fls ds) = some ds := rfl
theorem itR : itemsD m (.ref a) = m.l a := rfl
theorem minI : rMinA [.int i, .int j] m Q = Q (.int (if j < i then j else i)) m := rfl
theorem maxI : rMaxA [.int i, .int j] m Q = Q (.int (if j > i then j else i)) m := rfl
theorem anyT : rAnyTA [.tup es] m Q = (es.all D.isNum = true ∧ Q (.bl (es.any D.tr)) m) := rfl
def starR (x : D) (m : M) (k : List D → Prop) : Prop := match x with
  | .tup ds => k ds
  | .ref a => (match m a with
    | some (.lst ds) => k ds
    | _ => False)
  | _ => False
theorem star_e {ta : AE} {tr : AA} {e : En} {Q' : List D → M → Prop} {R : PX} : aStar ta tr e m Q' R = ta e m (fun x m1 => starR x m1 fun ds => tr e m1 (fun xs m2 => Q' (ds ++ xs) m2) R) R := by
  unfold aStar
  congr 1
theorem starT {k : List D → Prop} : starR (.tup ds) m k = k ds := rfl
theorem starL {k : List D → Prop} : starR (.ref a) m k = (match m a with | some (.lst ds) => k ds | _ => False) := rfl
end
theorem bt_any : bootBuiltins "any" = some (.builtin "any") := by decide +kernel
end Ab

set_option Elab.async false
set_option linter.all false
set_option maxRecDepth 100000
namespace Ab
open PySem PySem.Spec PyProof.Rows L2
section
variable {e : En} {m : M} {Q : PQ} {R : PX} {A : AEnds} {ta tb te : AE} {t u : AS} {i : Nat} {d : D}
theorem seqI (h : t { A with nx := u A } e m) : aSeq t u A e m := h
theorem retI (h : te e m A.rt (A.xe e)) : aRet te A e m := h
theorem asgI {g : AG} (h : te e m (fun d m1 => g d e m1 A.nx) (A.xe e)) : aAsg te g A e m := h
theorem setI (h : te e m (fun d m1 => A.nx (e.s i d) m1) (A.xe e)) : aAsg te (aN i) A e m := h
theorem dropI (h : te e m (fun _ m1 => A.nx e m1) (A.xe e)) : aDrop te A e m := h
theorem nextI (h : A.nx e m) : aNext A e m := h
theorem ifI {c : AT} (h : c e m (fun b m1 => if b = true then t A e m1 else u A e m1) (A.xe e)) : aIfS c t u A e m := h
theorem tstI {P : Bool → M → Prop} (h : te e m (fun d m' => match d with | .bl b => P b m' | _ => False) R) : aTest te e m P R := h
theorem forI {ti : AI} {g : AG} {b : AS} (h : ti e m (fun its gd m1 => forL g b gd its A e m1) (A.xe e)) : aFor ti g b A e m := h
theorem r1I {P : List D → (M → Prop) → M → Prop} (h : ta e m (fun d m1 => match d with | .int j => (-(2 ^ 62) ≤ j ∧ j < 2 ^ 62) ∧ P (rngD 0 j.toNat) (fun _ => True) m1 | _ => False) R) : aIR1 (aCons ta aNil) e m P R := by
  show ta e m _ R
  refine (show (fun x m1 => aNil e m1 (fun xs m2 => (match x :: xs with | [.int j] => (-(2 ^ 62) ≤ j ∧ j < 2 ^ 62) ∧ P (rngD 0 j.toNat) (fun _ => True) m2 | _ => False)) R) = (fun (d : D) m1 => match d with | .int j => (-(2 ^ 62) ≤ j ∧ j < 2 ^ 62) ∧ P (rngD 0 j.toNat) (fun _ => True) m1 | _ => False) from ?_) ▸ h
  funext x m1
  cases x <;> rfl
theorem tupI {a : AA} (h : a e m (fun ds m1 => ds.length ≤ big ∧ Q (.tup ds) m1) R) : aTup a e m Q R := h
theorem lstI {a : AA} (h : a e m (fun ds m1 => ds.length ≤ big ∧ ∀ p, m1 p = none → Q (.ref p) (mset m1 p (.lst ds))) R) : aLst a e m Q R := h
theorem starI {tr : AA} {P : List D → M → Prop} (h : ta e m (fun x m1 => starR x m1 fun ds => tr e m1 (fun xs m2 => P (ds ++ xs) m2) R) R) : aStar ta tr e m P R := by rw [star_e]; exact h
theorem consI {tr : AA} {P : List D → M → Prop} (h : ta e m (fun x m1 => tr e m1 (fun xs m2 => P (x :: xs) m2) R) R) : aCons ta tr e m P R := h
theorem nilI {P : List D → M → Prop} (h : P [] m) : aNil e m P R := h
theorem callI {n : Nat} {sp : ASp} {a : AA} (h : a e m (fun ds m1 => ds.length = n ∧ sp ds m1 Q R) R) : aCall n sp a e m Q R := h
theorem cbI {r : ARL} {a : AA} (h : a e m (fun ds m1 => r ds m1 Q) R) : aCB r a e m Q R := h
theorem varI (g : e.g i = some d) (h : Q d m) : aVar i e m Q R := by unfold aVar; rw [g]; exact h
theorem cI (h : Q d m) : aC d e m Q R := h
theorem opI {r : AR2} (h : ta e m (fun x m1 => tb e m1 (fun y m2 => r x y m2 Q) R) R) : aOp r ta tb e m Q R := h
theorem andI (h : ta e m (fun x m1 => match x with | .bl c => if c = true then tb e m1 Q R else Q (.bl false) m1 | _ => False) R) : aAndV ta tb e m Q R := h
theorem notI (h : ta e m (fun x m1 => match x with | .bl c => Q (.bl (!c)) m1 | _ => False) R) : aNotV ta e m Q R := h
theorem lcI {ti : AI} {g : AG} {tt : AT} {vs : List Nat} (h : ti e m (fun its gd m1 => ∀ p, m1 p = none → lcL g tt te (wipeE e vs) p gd its Q (mset m1 p (.lst []))) R) : aLc ti g tt te vs e m Q R := h
theorem leI {i j : Int} : rLeA (.int i) (.int j) m Q = Q (.bl (decide (i ≤ j))) m := rfl
theorem ltI {i j : Int} : rLtA (.int i) (.int j) m Q = Q (.bl (decide (i < j))) m := rfl
theorem gtI {i j : Int} : rGtA (.int i) (.int j) m Q = Q (.bl (decide (j < i))) m := rfl
theorem geI {i j : Int} : rGeA (.int i) (.int j) m Q = Q (.bl (decide (j ≤ i))) m := rfl
theorem subI {i j : Int} : rSubA (.int i) (.int j) m Q = Q (.int (i - j)) m := rfl
theorem powI {i j : Int} : rPowA (.int i) (.int j) m Q = (CPow i j ∧ Q (.int (i ^ j.toNat)) m) := rfl
theorem parI {j : Nat} {a : AA} (h : a e m (fun ds m1 => match ds with | [d, d'] => A.nx ((e.s i d).s j d') m1 | _ => False) (A.xe e)) : aPar i j a A e m := h
end
end Ab

set_option Elab.async false
set_option linter.all false
set_option maxRecDepth 100000
set_option maxHeartbeats 4000000
namespace Ab
open PySem PySem.Spec PyProof.Rows L2
/-! ### dicts -/
def putKD (ps : List (Key × D)) (k : Key) (d : D) : List (Key × D) :=
  if (ps.any fun p => decide (p.1 = k)) = true then ps.map (fun p => if p.1 = k then (p.1, d) else p) else ps ++ [(k, d)]
def keyD : Key → D
  | .inl i => .int i
  | .inr x => .str x
section
variable {K : PySem.W.Frag} {H : Hp}
theorem RepKV.any {k : Key} : ∀ {ps : List (Key × D)} {l : List (Key × V)}, RepKV K H ps l → (l.any fun p => decide (p.1 = k)) = ps.any fun p => decide (p.1 = k)
  | [], _, h => by rw [show _ = [] from h]; rfl
  | (k', d) :: ps, _, ⟨v, r, e, h, hr⟩ => by rw [e, List.any_cons, List.any_cons, RepKV.any hr]
theorem RepKV.map {k : Key} {d : D} {v : V} (hd : Rep K H d v) : ∀ {ps : List (Key × D)} {l : List (Key × V)}, RepKV K H ps l → RepKV K H (ps.map fun p => if p.1 = k then (p.1, d) else p) (l.map fun p => if p.1 = k then (p.1, v) else p)
  | [], _, h => by rw [show _ = [] from h]; rfl
  | (k', d') :: ps, _, ⟨v', r, e, h, hr⟩ => by
    rw [e, List.map_cons, List.map_cons]
    by_cases c : k' = k
    · rw [if_pos c, if_pos c]
      exact ⟨v, _, rfl, hd, RepKV.map hd hr⟩
    · rw [if_neg c, if_neg c]
      exact ⟨v', _, rfl, h, RepKV.map hd hr⟩
theorem RepKV.snoc {k : Key} {d : D} {v : V} (hd : Rep K H d v) : ∀ {ps : List (Key × D)} {l : List (Key × V)}, RepKV K H ps l → RepKV K H (ps ++ [(k, d)]) (l ++ [(k, v)])
  | [], _, h => by rw [show _ = [] from h]; exact ⟨v, [], rfl, hd, rfl⟩
  | (k', d') :: ps, _, ⟨v', r, e, h, hr⟩ => by
    rw [e]
    exact ⟨v', _, rfl, h, RepKV.snoc hd hr⟩
theorem RepKV.put {k : Key} {d : D} {v : V} {ps : List (Key × D)} {l : List (Key × V)} (h : RepKV K H ps l) (hd : Rep K H d v) : RepKV K H (putKD ps k d) (putK l k v) := by
  unfold putKD putK
  rw [h.any]
  by_cases c : (ps.any fun p => decide (p.1 = k)) = true
  · rw [if_pos c, if_pos c]; exact RepKV.map hd h
  · rw [if_neg c, if_neg c]; exact RepKV.snoc hd h
theorem RepKV.length : ∀ {ps : List (Key × D)} {l : List (Key × V)}, RepKV K H ps l → ps.length = l.length
  | [], _, h => by rw [show _ = [] from h]; rfl
  | (k', d) :: ps, _, ⟨v, r, e, h, hr⟩ => by rw [e]; exact congrArg (· + 1) (RepKV.length hr)
theorem RepKV.keys : ∀ {ps : List (Key × D)} {l : List (Key × V)}, RepKV K H ps l → Reps K H (ps.map fun p => keyD p.1) (l.map fun p => kV p.1)
  | [], _, h => by rw [show _ = [] from h]; rfl
  | (k', d) :: ps, _, ⟨v, r, e, h, hr⟩ => by
    rw [e]
    refine ⟨kV k', _, rfl, ?_, RepKV.keys hr⟩
    cases k' <;> rfl
end
section
variable {X : Cx} {W : WX}
def aDNew : AE := fun _ m Q _ => ∀ p, m p = none → Q (.ref p) (mset m p (.dic []))
theorem g_dnew {pos : Pos} : GE X W (.Dict [] [] pos) aDNew := pe_imp pe_dnewK fun σ H Q h => by
  obtain ⟨e, m, P, R, rE, rM, t, q, w⟩ := h
  intro p hp
  exact q (.ref p) _ (t p (rM.free hp)) (.ref p) _ (Tx.new hp) rfl (rM.newD hp rfl)
/-- d[k] = v -/
def keyK : D → Option Key
  | .int i => some (.inl i)
  | .str x => some (.inr x)
  | _ => none
def aDPut (tv td tk : AE) : AS := fun A e m => tv e m (fun v m1 => td e m1 (fun o m2 => tk e m2 (fun k m3 => match o with
  | .ref a => (match m3 a, keyK k with
    | some (.dic ps), some k => ps.length < big ∧ A.nx e (mset m3 a (.dic (putKD ps k v)))
    | _, _ => False)
  | _ => False) (A.xe e)) (A.xe e)) (A.xe e)
theorem s_dput {o i value : Expr} {td tk tv : AE} {pos pos' : Pos} (hu : X.A.units + 1 < cLine) (ho : GE X W o td) (hi : GE X W i tk) (hv : GE X W value tv) (hs : swapsWith value (some (.Subscript o i pos')) pos.line X.env = pure false := by rfl) :
    GS X W (.Assign [.Subscript o i pos'] value pos) (aDPut tv td tk) := ps_imp (ps_dput hu ho hi hv hs) fun D σ H h => by
  obtain ⟨e, m, A, rE, rM, t, ok⟩ := h
  refine ⟨e, m, _, _, rE, rM, t, fun dv m1 h1 v H1 t1 r1 rm1 => ?_, ok.xe e σ H (Tx.refl H) rE⟩
  refine ⟨e, m1, _, _, rE.mono t1, rm1, h1, fun dd m2 h2 x H2 t2 r2 rm2 => ?_, ok.xe e σ H1 t1 (rE.mono t1)⟩
  refine ⟨e, m2, _, _, rE.mono (t1.trans t2), rm2, h2, fun dk m3 h3 y H3 t3 r3 rm3 => ?_, ok.xe e σ H2 (t1.trans t2) (rE.mono (t1.trans t2))⟩
  cases dd with
  | ref a =>
    have h3' : (match m3 a, keyK dk with
      | some (.dic ps), some k => ps.length < big ∧ A.nx e (mset m3 a (.dic (putKD ps k dv)))
      | _, _ => False) := h3
    cases e1 : m3 a with
    | none => rw [e1] at h3'; exact h3'.elim
    | some ob =>
      cases e2 : keyK dk with
      | none => rw [e1, e2] at h3'; cases ob <;> exact h3'.elim
      | some k =>
        rw [e1, e2] at h3'
        cases ob with
        | dic ps =>
          obtain ⟨l, hl, hz⟩ := rm3 a _ e1
          have ey : y = kV k := by
            cases dk with
            | int i => cases e2; exact r3
            | str z => cases e2; exact r3
            | _ => cases e2
          subst ey
          refine ⟨a, _, r2, DPut.k hl (by rw [← hz.length]; exact big_lt h3'.1), ok.nx _ _ h3'.2 σ _ ((t1.trans (t2.trans t3)).trans (Tx.mut hl trivial)) ((rE.mono (t1.trans (t2.trans t3))).mono (Tx.mut hl trivial)) (rm3.putD hl (hz.put (r1.mono (t2.trans t3))))⟩
        | _ => exact h3'.elim
  | _ => exact h3.elim
/-- list(x), a dict too -/
def rListXA : ARL := fun ds m Q => match ds with
  | [.ref a] => (match m a with
    | some (.dic ps) => ∀ p, m p = none → Q (.ref p) (mset m p (.lst (ps.map fun q => keyD q.1)))
    | _ => rListA [.ref a] m Q)
  | ds => rListA ds m Q
theorem c_listX (hc : X.calm = true) : CallR X (.type "list") (lRL X.K rListXA) := by
  intro pins s σ H vs us Q I r h
  obtain ⟨ds, m, P, rs, rM, h, q⟩ := h
  have old : rListA ds m P → wpAny (model X.prog X.w) X.A (call (.type "list") us) (EP X pins σ Q) X.xe s := fun z => c_list pins s σ H vs us Q I r ⟨ds, m, P, rs, rM, z, q⟩
  match ds, h, rs, old with
  | [], h, rs, old => exact old h
  | [.ref a], h, rs, old =>
    have h' : (match m a with
      | some (.dic ps) => ∀ p, m p = none → P (.ref p) (mset m p (.lst (ps.map fun q => keyD q.1)))
      | _ => rListA [.ref a] m P) := h
    cases e : m a with
    | none => rw [e] at h'; exact old h'
    | some ob =>
      cases ob with
      | dic ps =>
        rw [e] at h'
        obtain ⟨l, hl, hz⟩ := rM a _ e
        obtain ⟨v, r', ev, hv, hr⟩ := rs
        obtain rfl : r' = [] := hr
        obtain rfl : v = .ref a := hv
        subst ev
        refine call_list_dK hc pins s σ H _ us Q I r ⟨a, l, rfl, hl, fun p hp => ?_⟩
        exact q (.ref p) _ (h' p (rM.free hp)) (.ref p) _ (Tx.new hp) rfl (rM.newL hp hz.keys)
      | _ => rw [e] at h'; exact old h'
  | [.non], h, rs, old => exact old h
  | [.bl _], h, rs, old => exact old h
  | [.int _], h, rs, old => exact old h
  | [.str _], h, rs, old => exact old h
  | [.tup _], h, rs, old => exact old h
  | [.fls _], h, rs, old => exact old h
  | [.ty _], h, rs, old => exact old h
  | d :: _ :: _, h, rs, old => cases d <;> exact old h
/-- sorted(l), a list of ints -/
def intsD : List D → Option (List Int)
  | [] => some []
  | .int i :: r => (intsD r).map (i :: ·)
  | _ :: _ => none
theorem intsD_eq : ∀ {ds : List D} {ns : List Int}, intsD ds = some ns → ds = ns.map D.int
  | [], _, h => by cases h; rfl
  | .int i :: r, ns, h => by
    have h' : (intsD r).map (i :: ·) = some ns := h
    cases e : intsD r with
    | none => rw [e] at h'; cases h'
    | some ms => rw [e] at h'; cases h'; rw [intsD_eq e]; rfl
  | .non :: _, _, h => by cases h
  | .bl _ :: _, _, h => by cases h
  | .str _ :: _, _, h => by cases h
  | .tup _ :: _, _, h => by cases h
  | .fls _ :: _, _, h => by cases h
  | .ref _ :: _, _, h => by cases h
  | .ty _ :: _, _, h => by cases h
def rSortedA : ARL := fun ds m Q => match ds with
  | [.ref a] => ∃ ns, m.l a = some (ns.map D.int) ∧ ∀ (ns' : List Int) p, ns'.Perm ns → ns'.Pairwise (· ≤ ·) → m p = none → Q (.ref p) (mset m p (.lst (ns'.map D.int)))
  | _ => False
theorem c_sorted : CallR X (.builtin "sorted") (lRL X.K rSortedA) := by
  intro pins s σ H vs us Q I r h
  obtain ⟨ds, m, P, rs, rM, h, q⟩ := h
  match ds, h, rs with
  | [.ref a], ⟨ns, ha, h⟩, ⟨v, r', ev, hv, hr⟩ =>
    obtain rfl : r' = [] := hr
    obtain rfl : v = .ref a := hv
    subst ev
    obtain ⟨xs, hx, hz⟩ := rM a _ (M.l_of ha)
    rw [hz.ints] at hx
    refine cr_sortedI pins s σ H _ us Q I r ⟨a, ns, rfl, SqL.of hx, fun ns' p hp hs hn => ?_⟩
    exact q (.ref p) _ (h ns' p hp hs (rM.free hn)) (.ref p) _ (Tx.new hn) rfl (rM.newL hn (Reps.of_ints ns'))
theorem bt_sorted : bootBuiltins "sorted" = some (.builtin "sorted") := by decide +kernel
end
end Ab

set_option Elab.async false
set_option linter.all false
set_option maxRecDepth 100000
namespace Ab
open PySem PySem.Spec PyProof.Rows L2
section
variable {e : En} {m : M} {Q : PQ} {R : PX} {A : AEnds} {ta tb te : AE} {t u : AS} {i j k : Int} {d : D} {C : Int → Int → Prop} {f : Int → Int → D} {p q : Bool} {x y : Str} {a b : Addr} {ds es : List D} {ct cu : AT}
theorem bl_f {b : Bool} {p q : Prop} (hb : b = false) (h : q) : (if b = true then p else q) := by rw [hb]; exact h
theorem bl_t {b : Bool} {p q : Prop} (hb : b = true) (h : p) : (if b = true then p else q) := by rw [hb]; exact h
theorem notTI {P : Bool → M → Prop} (h : ct e m (fun b m1 => P (!b) m1) R) : aNot ct e m P R := h
theorem andTI {P : Bool → M → Prop} (h : ct e m (fun c m1 => if c = true then cu e m1 P R else P false m1) R) : aAnd ct cu e m P R := h
theorem orTI {P : Bool → M → Prop} (h : ct e m (fun c m1 => if c = true then P true m1 else cu e m1 P R) R) : aOr ct cu e m P R := h
theorem ifEI (h : ct e m (fun c m1 => if c = true then ta e m1 Q R else tb e m1 Q R) R) : aIf ct ta tb e m Q R := h
theorem orVI (h : ta e m (fun x m1 => match x with | .bl c => if c = true then Q (.bl true) m1 else tb e m1 Q R | _ => False) R) : aOrV ta tb e m Q R := h
theorem slI {l u : APt} {r : ARS} (h : ta e m (fun d m1 => l e m1 (fun l m2 => u e m2 (fun u m3 => r d l u m3 Q) R) R) R) : aSl r ta l u e m Q R := h
theorem noPI {P : Option Int → M → Prop} (h : P none m) : aNoP e m P R := h
theorem ptI {P : Option Int → M → Prop} (h : ta e m (fun d m1 => match d with | .int i => P (some i) m1 | _ => False) R) : aPt ta e m P R := h
theorem unI {r : AR1} (h : ta e m (fun x m1 => r x m1 Q) R) : aUn r ta e m Q R := h
theorem iTupI {P : List D → (M → Prop) → M → Prop} (h : te e m (fun d m1 => match d with | .tup ds => P ds (fun _ => True) m1 | _ => False) R) : aITup te e m P R := h
theorem parII {n1 n2 : Nat} {aa : AA} (h : aa e m (fun ds m1 => match ds with | [d, d'] => A.nx ((e.s n1 d).s n2 d') m1 | _ => False) (A.xe e)) : aPar n1 n2 aa A e m := h
theorem rIC (h : Q (f i j) m) (c : C i j) : rIntC C f (.int i) (.int j) m Q := ⟨c, h⟩
theorem rI0 (h : Q (f i j) m) : rInt0 f (.int i) (.int j) m Q := h
theorem addII (h : Q (.int (i + j)) m) : rAddA (.int i) (.int j) m Q := h
theorem addTT (h : Q (.tup (ds ++ es)) m) (c : ds.length + es.length ≤ big) : rAddA (.tup ds) (.tup es) m Q := ⟨c, h⟩
theorem addSS (h : Q (.str (x ++ y)) m) (c : x.length + y.length ≤ big) : rAddA (.str x) (.str y) m Q := ⟨c, h⟩
theorem mulII (h : Q (.int (i * j)) m) (c : CMulW i j) : rMulA (.int i) (.int j) m Q := ⟨c, h⟩
theorem negII (h : Q (.int (-i)) m) : rNegA (.int i) m Q := h
theorem eqII (h : Q (.bl (decide (i = j))) m) : rEqA (.int i) (.int j) m Q := h
theorem eqSS (h : Q (.bl (decide (x = y))) m) : rEqA (.str x) (.str y) m Q := h
theorem eqBB (h : Q (.bl (decide (p = q))) m) : rEqA (.bl p) (.bl q) m Q := h
theorem neII (h : Q (.bl (!decide (i = j))) m) : rNeA (.int i) (.int j) m Q := h
theorem neSS (h : Q (.bl (!decide (x = y))) m) : rNeA (.str x) (.str y) m Q := h
theorem neBB (h : Q (.bl (!decide (p = q))) m) : rNeA (.bl p) (.bl q) m Q := h
theorem isNN (h : Q (.bl d.isNon) m) : rIsA d .non m Q := by rw [isN]; exact h
theorem isNotNN (h : Q (.bl (!d.isNon)) m) : rIsNotA d .non m Q := by rw [notN]; exact h
theorem isBB (h : Q (.bl (decide (p = q))) m) : rIsA (.bl p) (.bl q) m Q := h
theorem isNotBB (h : Q (.bl (!decide (p = q))) m) : rIsNotA (.bl p) (.bl q) m Q := h
theorem ixTI (ha : atI ds i = some d) (h : Q d m) : rIxA (.tup ds) (.int i) m Q := by rw [ixT, ha]; exact h
theorem ixFI (ha : atI ds i = some d) (h : Q d m) : rIxA (.fls ds) (.int i) m Q := by rw [ixF, ha]; exact h
theorem ixRI (hl : m.l a = some ds) (ha : atI ds i = some d) (h : Q d m) : rIxA (.ref a) (.int i) m Q := by rw [ixR, hl]; simp only [ha]; exact h
theorem lenTI (h : Q (.int (ds.length : Nat)) m) : rLenA [.tup ds] m Q := h
theorem lenFI (h : Q (.int (ds.length : Nat)) m) : rLenA [.fls ds] m Q := h
theorem lenRI (hl : m.l a = some ds) (h : Q (.int (ds.length : Nat)) m) : rLenA [.ref a] m Q := by
  unfold rLenA; simp only [lenR, hl, Option.map_some]; exact h
theorem intII (h : Q (.int i) m) : rIntA [.int i] m Q := h
theorem intBI (h : Q (.int (if p then 1 else 0)) m) : rIntA [.bl p] m Q := h
theorem tupTI (h : Q (.tup ds) m) : rTupleA [.tup ds] m Q := h
theorem tupRI (hl : m.l a = some ds) (h : Q (.tup ds) m) : rTupleA [.ref a] m Q := by rw [tupR, hl]; exact h
theorem minII (h : Q (.int (if j < i then j else i)) m) : rMinA [.int i, .int j] m Q := h
theorem maxII (h : Q (.int (if j > i then j else i)) m) : rMaxA [.int i, .int j] m Q := h
theorem slTI {l u : Option Int} (h : Q (.tup (Ab.cutD ds l u)) m) : Ab.rSlA (.tup ds) l u m Q := h
theorem starTI {tr : AA} {P : List D → M → Prop} (h : ta e m (fun x m1 => starR x m1 fun ds => tr e m1 (fun xs m2 => P (ds ++ xs) m2) R) R) : aStar ta tr e m P R := starI h
theorem starTT {k : List D → Prop} (h : k ds) : starR (.tup ds) m k := h
theorem lenOk {n : Nat} (h : Nat.ble n 64 = true) : n ≤ big := Nat.le_trans (Nat.le_of_ble_eq_true h) (by decide)
theorem truI {P : Bool → M → Prop} (h : te e m (fun d m' => match d with
  | .bl b => P b m'
  | .non => P false m'
  | .int i => P (i != 0) m'
  | .str x => x.length ≤ 100000 ∧ P ((x.length : Int) != 0) m'
  | .tup ds => P (!ds.isEmpty) m'
  | .ref a => (match m' a with
    | some (.lst ds) => P (!ds.isEmpty) m'
    | _ => False)
  | _ => False) R) : aTru te e m P R := h
theorem ir2I {aa : AA} {P : List D → (M → Prop) → M → Prop} (h : aa e m (fun ds m1 => match ds with
  | [.int i, .int j] => (-(2 ^ 62) ≤ i ∧ i < 2 ^ 62 ∧ -(2 ^ 62) ≤ j ∧ j < 2 ^ 62) ∧ P (rngD i (j - i).toNat) (fun _ => True) m1
  | _ => False) R) : aIR2 aa e m P R := h
theorem chainI {r r' : AR2} {tc : AE} (h : ta e m (fun x m1 => tb e m1 (fun y m2 => r x y m2 fun z m3 => match z with
  | .bl b => if b = true then tc e m3 (fun w m4 => r' y w m4 Q) R else Q (.bl false) m3
  | _ => False) R) R) : aChain r r' ta tb tc e m Q R := h
theorem iLstI {n : Nat} {P : List D → (M → Prop) → M → Prop} (g : e.g n = some (.ref a)) (h : m a = some (.lst ds)) (q : P ds (fun m2 => m2 a = some (.lst ds)) m) : aILst (aVar n) e m P R := by
  unfold aILst aVar
  rw [g]
  show (match m a with | some (.lst ds) => P ds (fun m2 => m2 a = some (.lst ds)) m | _ => False)
  rw [h]
  exact q
theorem brkI (h : A.bk e m) : aBrk A e m := h
theorem cntI (h : A.ct e m) : aCnt A e m := h
theorem retNI (h : A.rt .non m) : aRetN A e m := h
theorem yesI {P : Bool → M → Prop} (h : P true m) : aYes e m P R := h
theorem ttI {n : Nat} {g : AGs} {P : En → M → Prop} (hl : ds.length = n) (h : g ds e m P) : aTT n g (.tup ds) e m P := ⟨hl, h⟩
theorem gcI {g : AG} {v : AGs} {P : En → M → Prop} (h : g d e m fun e1 m1 => v ds e1 m1 P) : aGCons g v (d :: ds) e m P := h
theorem gnI {P : En → M → Prop} (h : P e m) : aGNil [] e m P := h
theorem aNI {n : Nat} {P : En → M → Prop} (h : P (e.s n d) m) : aN n d e m P := h
end
end Ab

set_option Elab.async false
set_option linter.all false
set_option maxRecDepth 100000
set_option maxHeartbeats 2000000
namespace Ab
open PySem PySem.Spec PyProof.Rows L2
/-! ### x in a tuple of texts, x no text -/
theorem dict_eq_declines_str (l : Addr) (es : Array DictEntry) (ep : Nat) (dd : Option Addr) (sl : Array (Option Value)) (b : Str) (u : Tok) :
    Meets (Builtin.«dict.__eq__» ⟨[.ref l, .str b u], []⟩) (fun _ R s => s.heap.get? l = some { cls := .type "dict", dict := dd, data := .dict es ep, slots := sl } ∧ R (.ok (.ret .notImplemented)) s) :=
  .of_wp fun prog w A R s h => by obtain ⟨hp, g, d, tk, os⟩ := s; obtain ⟨hl, h⟩ := h; have f1 := F.sub_str_dict; wp_walk using AutoSeq1.wpAny_loadPart' hl, wpAny_load hl; exact ⟨_, rfl, h⟩
theorem str_eq_declines_dict (b : Str) (u : Tok) (l : Addr) (es : Array DictEntry) (ep : Nat) (dd : Option Addr) (sl : Array (Option Value)) :
    Meets (Builtin.«str.__eq__» ⟨[.str b u, .ref l], []⟩) (fun _ R s => s.heap.get? l = some { cls := .type "dict", dict := dd, data := .dict es ep, slots := sl } ∧ R (.ok (.ret .notImplemented)) s) :=
  .of_wp fun prog w A R s h => by obtain ⟨hp, g, d, tk, os⟩ := s; obtain ⟨hl, h⟩ := h; wp_walk using AutoSeq1.wpAny_loadPart' hl, wpAny_load hl; exact ⟨_, rfl, h⟩
section
variable {A : Around} {s : Shared}
theorem eqAt_str_dict {l : Addr} {es : Array DictEntry} {ep : Nat} {o : Obj} (b : Str) (u : Tok) (hl : s.heap.get? l = some o) (hc : o.cls = .type "dict") (hd : o.data = .dict es ep) (hu : A.units < cLine) : SeqAt.EqAt A s (.str b u) (.ref l) false := fun prog w E Q h => by
  unfold eqBool
  refine wpAny_holding ?_
  refine wpAny_ite_split (fun hab => absurd (eq_of_beq hab) nofun) (fun _ => ?_)
  obtain ⟨cls, dd, data, sl⟩ := o
  simp only at hc hd
  subst hc hd
  refine wpAny_bind (SeqAt.rc_eq_decline_or (k := false) (typeIs_str s b u) ⟨_, hl, rfl⟩ (by decide) F.sub_dict_str F.slot_str_eq F.slot_dict_eq_refl
    (fun _ hq => call_meets F.slot_str_eq (typeIs_str s b u) F.entry_str_eq (F.args_str_eq_2 _ _) (str_eq_declines_dict b u l es ep dd sl) ⟨hl, hq⟩)
    (fun _ hq => call_meets F.slot_dict_eq_refl ⟨_, hl, rfl⟩ F.entry_dict_eq (F.args_dict_eq_2 _ _) (dict_eq_declines_str l es ep dd sl b u) ⟨hl, hq⟩)
    (fun _ hq => wpAny_of_eq (rfl : isSame (.str b u) (.ref l) = pure false) hq) (.inr hu) ?_)
  exact wpAny_truthy_bool h
end
def D.isStr : D → Bool
  | .str _ => true
  | _ => false
/-- a tuple, a list or a dict -/
def heapD (m : M) : D → Bool
  | .tup _ => true
  | .ref a => (m.l a).isSome || (match m a with | some (.dic _) => true | _ => false)
  | _ => false
def rInXA : AR2 := fun x y m Q => match itemsD m y with
  | some ds => ((flatD x = true ∧ ds.all flatD = true) ∧ Q (.bl (inF x ds)) m) ∨ ((heapD m x = true ∧ ds.all D.isStr = true) ∧ Q (.bl false) m)
  | none => False
section
variable {X : Cx} {W : WX}
theorem strs_at {K : PySem.W.Frag} {H : Hp} {A : Around} {s : Shared} {v : Value} (h : ∀ b u, SeqAt.EqAt A s (.str b u) v false) : ∀ {ds : List D} {xs : List V} {us : List Value}, ds.all D.isStr = true → Reps K H ds xs → Vals xs us → ∀ u ∈ us, SeqAt.EqAt A s u v false
  | [], xs, us, _, r, rv => fun u hu => by
    have e : xs = [] := r
    subst e
    cases rv
    cases hu
  | d :: ds, xs, us, f, ⟨x, r, e, hx, hr⟩, rv => fun u hu => by
    subst e
    rw [List.all_cons, Bool.and_eq_true] at f
    cases rv with
    | cons r1 r2 =>
      rcases List.mem_cons.mp hu with z | z
      · cases d with
        | str b =>
          obtain rfl : x = .str b := hx
          obtain ⟨t, et⟩ := r1
          rw [z, et]
          exact h b t
        | _ => cases f.1
      · exact strs_at h f.2 hr r2 u z
theorem heap_eq {pins : List (Addr × Obj)} {σ : L2.St} {H : Hp} {s : Shared} {m : M} {x : D} {v : V} {u : Value} {A : Around} (I : Inv X pins σ H s) (hu : A.units < cLine) (rM : RelM X.K H m) (hx : heapD m x = true) (r : Rep X.K H x v) (ru : RelV v u) (b : Str) (t : Tok) : SeqAt.EqAt A s (.str b t) u false := by
  cases x with
  | tup ds =>
    obtain ⟨a, xs, ev, hs, hr⟩ := r
    subst ev
    cases ru
    obtain ⟨its, _, ht, _⟩ := I.tuple hs
    exact SeqAt.EqAt.str_tuple b t ht hu
  | ref a =>
    rw [show v = .ref a from r] at ru
    cases ru
    have hx' : ((m.l a).isSome || (match m a with | some (.dic _) => true | _ => false)) = true := hx
    cases q : m.l a with
    | some ds =>
      obtain ⟨xs, hl, hr⟩ := rM a _ (M.l_of q)
      obtain ⟨its, _, hl, _⟩ := I.list (SqL.of hl)
      exact SeqAt.EqAt.str_list b t hl.isList hu
    | none =>
      rw [q] at hx'
      cases q2 : m a with
      | none => rw [q2] at hx'; cases hx'
      | some ob =>
        rw [q2] at hx'
        cases ob with
        | dic ps =>
          obtain ⟨l, hl, _⟩ := rM a _ q2
          obtain ⟨_, _, vs, _, o, es, ep, h1, h2, h3, _⟩ := I.hok a _ hl
          exact eqAt_str_dict b t h1 h2.1 h3 hu
        | _ => cases hx'
  | _ => cases hx
theorem o_inX (hu : X.A.units + 64 < cLine) : OpR X (compareOp .In) (lR2 X.K rInXA) := by
  intro pins s σ H x y v u Q I rx ry h
  obtain ⟨d1, d2, m, P, r1, r2, rM, h, q⟩ := h
  have h' : (match itemsD m d2 with | some ds => ((flatD d1 = true ∧ ds.all flatD = true) ∧ P (.bl (inF d1 ds)) m) ∨ ((heapD m d1 = true ∧ ds.all D.isStr = true) ∧ P (.bl false) m) | none => False) := h
  cases e : itemsD m d2 with
  | none => rw [e] at h'; exact h'.elim
  | some ds =>
    rw [e] at h'
    rcases h' with h' | ⟨⟨f1, f2⟩, p⟩
    · refine o_in pins s σ H x y v u Q I rx ry ⟨d1, d2, m, P, r1, r2, rM, ?_, q⟩
      show (match itemsD m d2 with | some ds => (flatD d1 = true ∧ ds.all flatD = true) ∧ P (.bl (if false = true then !inF d1 ds else inF d1 ds)) m | none => False)
      rw [e]
      exact h'
    · obtain ⟨a, xs, ev, hs, hr⟩ := items_seq rM e r2
      subst ev
      cases ry
      have key := fun b t => heap_eq (A := X.A.in1) I (by simp only [Around.in1_units]; omega) rM f1 r1 rx b t
      have nil : ∀ us : List Value, us.any (fun _ => false) = false := fun us => by induction us <;> simp_all
      rcases hs with hs | hs
      · obtain ⟨its, rv, pl, hz⟩ := I.list hs
        refine SeqAt.in_listAt (fun _ => false) pl.isList (fun w hw => strs_at key f2 hr rv w (by simpa using hw)) ⟨.bl _, H, I, rfl, ?_⟩
        rw [show its.toArray.any (fun _ => false) = false by simp [nil]]
        exact q _ m p _ H (Tx.refl H) rfl rM
      · obtain ⟨its, rv, pl, hz⟩ := I.tuple hs
        refine SeqAt.in_tupleAt (fun _ => false) pl (fun w hw => strs_at key f2 hr rv w (by simpa using hw)) ⟨.bl _, H, I, rfl, ?_⟩
        rw [show its.toArray.any (fun _ => false) = false by simp [nil]]
        exact q _ m p _ H (Tx.refl H) rfl rM
theorem inXF {x y : D} {m : M} {Q : PQ} {ds : List D} (hy : itemsD m y = some ds) (h1 : flatD x = true) (h2 : ds.all flatD = true) (q : Q (.bl (inF x ds)) m) : rInXA x y m Q := by
  unfold rInXA; simp only [hy]; exact .inl ⟨⟨h1, h2⟩, q⟩
theorem inXH {x y : D} {m : M} {Q : PQ} {ds : List D} (hy : itemsD m y = some ds) (h1 : heapD m x = true) (h2 : ds.all D.isStr = true) (q : Q (.bl false) m) : rInXA x y m Q := by
  unfold rInXA; simp only [hy]; exact .inr ⟨⟨h1, h2⟩, q⟩
end
end Ab

set_option Elab.async false
set_option linter.all false
set_option maxRecDepth 100000
set_option maxHeartbeats 2000000
/-! lambdas that a def hands out: what is known of them stands in the abstract heap -/
namespace Ab
open PySem PySem.Spec PyProof.Rows L2
section
variable {X : Cx} {pins : List (Addr × Obj)} {σ : L2.St} {H : Hp} {s : Shared}
/-- new objects behind the entry that are known from now on; perhaps the table at P has grown -/
theorem inv_known {P : Addr} {H' : Hp} {h' : Heap} {t' : Nat} (I : Inv X pins σ H s) (hP : ∃ ps, H P = some (.tbl ps)) (kp : ∀ b o, b ≠ P → s.heap.get? b = some o → h'.get? b = some o) (th : ∃ o, h'.get? P = some o)
    (new : ∀ b, (∃ o, s.heap.get? b = some o) → b ≠ P → H' b = H b) (old : ∀ b, b ≠ P → H b ≠ none → H' b = H b) (tb : ∀ ps, H P = some (.tbl ps) → ∃ more, H' P = some (.tbl (ps ++ more)))
    (ok : ∀ b o, H b = none → H' b = some o → ObjOk X.prog X.w H' h' b o) (okP : ∀ ps, H' P = some (.tbl ps) → h'.get? P = some { cls := .none, data := .fields ps }) :
    Inv X pins σ H' { s with heap := h', toks := t' } := by
  obtain ⟨psP, hP⟩ := hP
  have neP : ∀ b u, H b = some u → (∀ q, u ≠ .tbl q) → b ≠ P := fun b u e q z => by
    rw [z, hP] at e
    exact q psP (Option.some.inj e).symm
  have nP : ∀ b, H b = none → b ≠ P := fun b e z => by rw [z, hP] at e; cases e
  refine I.step (g' := s.gens) (d' := s.drawn) (ch := []) (fun b hb => absurd hb (by simp)) (fun b o _ _ _ e n => kp b o (nP b n) e) (fun b o _ _ _ e n => ⟨o.slots, kp b o (nP b n) e⟩)
    (fun b o _ e n => by rw [new b ⟨o, e⟩ (nP b n)]; exact n) (fun b o _ e => ?_) (fun b xs e => ?_) (fun b o u e => ?_) (fun b ps e => ?_) (fun m hn => ?_) (fun b u e => ?_) I.bare
  · by_cases hb : b = P
    · subst hb; exact th
    · exact ⟨o, kp b o hb e⟩
  · rw [old b (neP b _ e fun q z => by cases z) (by rw [e]; simp)]; exact e
  · rw [old b (neP b _ e fun q z => by cases z) (by rw [e]; simp)]; exact e
  · by_cases hb : b = P
    · subst hb; exact tb ps e
    · exact ⟨#[], by rw [old b hb (by rw [e]; simp), e]; simp⟩
  · obtain ⟨ob, es, ep, ho, r⟩ := hn
    exact ⟨ob, es, ep, kp _ ob (nP _ I.free) ho, r⟩
  · by_cases hb : b = P
    · subst hb
      obtain ⟨more, e2⟩ := tb psP hP
      rw [e2] at e
      cases e
      exact okP _ e2
    · cases hn : H b with
      | none => exact ok b u hn e
      | some v =>
        have e' : H b = some u := by rw [← old b hb (by rw [hn]; simp)]; exact e
        refine (I.hok b u e').stay (fun d x hd q => kp d x ?_ q) (fun d q => by rw [old d (neP d _ q fun _ z => by cases z) (by rw [q]; simp)]; exact q) fun d xs q => by rw [old d (neP d _ q fun _ z => by cases z) (by rw [q]; simp)]; exact q
        rcases hd with z | z
        · rw [z]; exact hb
        · exact neP d _ z fun _ z => by cases z
/-- a lambda is made: the function is new and known, its code object is new and known, or known from before -/
theorem lam_made {c P : Addr} {L : LSyn} {pos : Pos} {E : Value → Shared → Prop} {Q : Value → Shared → Prop} (I : Inv X pins σ H s) (TB : LamX.TabB X.base X.mg c P) (hcode : X.env.code = .ref c) (hq : L.qual = X.env.qual ++ "<lambda>")
    (hT : TabK H P L.qual) (hdef : defaultsOf L.params X.env = ([], [])) (hfree : ∀ y ∈ L.scope.names, y.2 = .free → ∃ c, X.env.cells.lookup y.1 = some c)
    (h : ∀ (f : Addr) (H1 : Hp) (s' : Shared), Inv X pins σ H1 s' → Tx H H1 → (∀ b o, b ≠ P → H b = some o → H1 b = some o) → TabK H1 P L.qual → H f = none → FnK H1 f L (cloFrom X.env.cells L.scope.names []) → Q (.ref f) s') :
    wpAny (model X.prog X.w) X.A (eval (.Lambda L.params L.body L.scope pos) X.env) Q E s := by
  obtain ⟨ps, hP, ht, ha⟩ := hT
  refine PySem.W.kla_eval hdef ?_
  rw [← hq]
  have bP : s.heap.BuiltinsAt X.mg P := TB.bm.keeps I.bk
  have atP : s.heap.get? P = some { cls := .none, data := .fields ps } := I.hok P _ hP
  have ltP : P < s.heap.objs.size := Heap.lt_size atP
  cases hc : codeAmong pos ps.toList with
  | none =>
    refine PySem.W.kla_makeFunction (mg := X.mg) (ps := ps) (closure_ok hfree) I.ok.glob (I.mod.glob.keeps I.bk) hcode (TB.code.keeps I.bk) atP ht hc TB.gP bP fun c' ctv h1 tk hx hge hlt hrec htb => ?_
    obtain ⟨c2, oc, vs, t, e2, hoc, hd, hv⟩ := hrec
    cases e2
    have hsz : s.heap.objs.size ≤ h1.objs.size := Nat.le_trans hge (Nat.le_of_lt hlt)
    have nC : H c' = none := I.hok.fresh hge
    have nF : H h1.objs.size = none := I.hok.fresh hsz
    have fc : h1.objs.size ≠ c' := Nat.ne_of_gt hlt
    have fP : h1.objs.size ≠ P := Nat.ne_of_gt (Nat.lt_of_lt_of_le ltP hsz)
    have cP : c' ≠ P := Nat.ne_of_gt (Nat.lt_of_lt_of_le ltP hge)
    generalize hfo : PySem.W.kla_obj "<lambda>" L.qual L.params L.body L.scope (cloFrom X.env.cells L.scope.names []) ((X.mg "__name__").getD .none) c' ctv = fo
    generalize hH1 : (fun b => if b = h1.objs.size then some (Kd fo) else if b = c' then some (Kd oc) else if b = P then some (HO.tbl (ps ++ #[rawInt pos.line, rawInt pos.col, .ref c'])) else H b : Hp) = H1
    have e1 : H1 h1.objs.size = some (Kd fo) := by rw [← hH1]; exact if_pos rfl
    have e2 : H1 c' = some (Kd oc) := by rw [← hH1]; exact (if_neg (Ne.symm fc)).trans (if_pos rfl)
    have e3 : H1 P = some (.tbl (ps ++ #[rawInt pos.line, rawInt pos.col, .ref c'])) := by rw [← hH1]; exact (if_neg (Ne.symm fP)).trans ((if_neg (Ne.symm cP)).trans (if_pos rfl))
    have e4 : ∀ b, b ≠ h1.objs.size → b ≠ c' → b ≠ P → H1 b = H b := fun b x y z => by rw [← hH1]; exact (if_neg x).trans ((if_neg y).trans (if_neg z))
    have old : ∀ b, b ≠ P → H b ≠ none → H1 b = H b := fun b hb hn => e4 b (fun z => hn (z ▸ nF)) (fun z => hn (z ▸ nC)) hb
    have gf : (h1.push fo).get? h1.objs.size = some fo := Heap.get?_push_size _ (by rw [← hfo]; rfl)
    have gc : (h1.push fo).get? c' = some oc := Heap.get?_push_of_some _ hoc
    have gP : (h1.push fo).get? P = some { cls := .none, data := .fields (ps ++ #[rawInt pos.line, rawInt pos.col, .ref c']) } := Heap.get?_push_of_some _ htb
    have tx : Tx H H1 := by
      refine ⟨fun a xs e => ?_, fun a o u e => ?_⟩
      · rw [old a (fun z => by rw [z, hP] at e; cases e) (by rw [e]; simp)]; exact e
      · rw [old a (fun z => by rw [z, hP] at e; cases e) (by rw [e]; simp)]; exact e
    have I1 := inv_known (t' := tk) (H' := H1) (h' := h1.push fo) I ⟨ps, hP⟩ (fun b o hb e => Heap.get?_push_of_some _ (hx b o hb e)) ⟨_, gP⟩
      (fun b ⟨o, e⟩ hb => e4 b (Nat.ne_of_lt (Nat.lt_of_lt_of_le (Heap.lt_size e) hsz)) (Nat.ne_of_lt (Nat.lt_of_lt_of_le (Heap.lt_size e) hge)) hb) old
      (fun qs e => by rw [hP] at e; cases e; exact ⟨_, e3⟩)
      (fun b o hn e => by
        by_cases b1 : b = h1.objs.size
        · subst b1; rw [e1] at e; cases e; exact kd_ok gf
        · by_cases b2 : b = c'
          · subst b2; rw [e2] at e; cases e; exact kd_ok gc
          · by_cases b3 : b = P
            · rw [b3, hP] at hn; cases hn
            · rw [e4 b b1 b2 b3, hn] at e; cases e)
      (fun qs e => by rw [e3] at e; cases e; exact gP)
    have code1 : CodeK H1 c' L.qual := ⟨oc, vs, t, e2, hd, hv⟩
    refine h _ H1 _ I1 tx (fun b o hb e => by rw [old b hb (by rw [e]; simp)]; exact e) ⟨_, e3, ?_, fun p' cv hcv => ?_⟩ nF ⟨c', _, ctv, by rw [e1, ← hfo], code1⟩
    · rw [show (ps ++ #[rawInt pos.line, rawInt pos.col, .ref c']).toList = ps.toList ++ [rawInt pos.line, rawInt pos.col, .ref c'] by simp]
      exact PySem.TriplesOk_snoc _ _ _ _ ht
    · rw [show (ps ++ #[rawInt pos.line, rawInt pos.col, .ref c']).toList = ps.toList ++ [rawInt pos.line, rawInt pos.col, .ref c'] by simp] at hcv
      rcases LamX.among_app _ ht hcv with z | z
      · obtain ⟨c0, a1, a2⟩ := ha p' cv z
        exact ⟨c0, a1, a2.tx tx⟩
      · exact ⟨c', z, code1⟩
  | some cv =>
    obtain ⟨c', ec, hco⟩ := ha pos cv hc
    subst ec
    refine PySem.W.kla_makeFunctionHit (mg := X.mg) (ps := ps) (closure_ok hfree) I.ok.glob (I.mod.glob.keeps I.bk) hcode (TB.code.keeps I.bk) atP ht hc bP fun ctv h1 tk hx hsz => ?_
    have nF : H h1.objs.size = none := I.hok.fresh hsz
    have fP : h1.objs.size ≠ P := Nat.ne_of_gt (Nat.lt_of_lt_of_le ltP hsz)
    have tx : Tx H (upd H h1.objs.size (Kd (PySem.W.kla_obj "<lambda>" L.qual L.params L.body L.scope (cloFrom X.env.cells L.scope.names []) ((X.mg "__name__").getD .none) c' ctv))) := Tx.new nF
    have gf : (h1.push (PySem.W.kla_obj "<lambda>" L.qual L.params L.body L.scope (cloFrom X.env.cells L.scope.names []) ((X.mg "__name__").getD .none) c' ctv)).get? h1.objs.size = some _ := Heap.get?_push_size _ rfl
    have I1 := I.laid (t' := tk) (a := h1.objs.size) (o := Kd (PySem.W.kla_obj "<lambda>" L.qual L.params L.body L.scope (cloFrom X.env.cells L.scope.names []) ((X.mg "__name__").getD .none) c' ctv)) (fun b o e => Heap.get?_push_of_some _ (hx b o e)) hsz (kd_ok gf)
    refine h _ _ _ I1 tx (fun b o _ e => by rw [upd_ne (ne_of_none e nF)]; exact e) ⟨ps, by rw [upd_ne (Ne.symm fP)]; exact hP, ht, fun p' cv hcv => ?_⟩ nF ⟨c', _, ctv, upd_same, hco.tx tx⟩
    obtain ⟨c0, a1, a2⟩ := ha p' cv hcv
    exact ⟨c0, a1, a2.tx tx⟩
end
end Ab

set_option Elab.async false
set_option linter.all false
set_option maxRecDepth 100000
set_option maxHeartbeats 2000000
namespace Ab
open PySem PySem.Spec PyProof.Rows L2
/-- an abstract heap without some cells; with them again -/
def dropC (H : Hp) (cs : List Addr) : Hp := fun b => if b ∈ cs then none else H b
def backC (H H1 : Hp) (cs : List Addr) : Hp := fun b => if b ∈ cs then H b else H1 b
theorem dropC_in {H : Hp} {cs : List Addr} {b : Addr} (h : b ∈ cs) : dropC H cs b = none := if_pos h
theorem dropC_out {H : Hp} {cs : List Addr} {b : Addr} (h : b ∉ cs) : dropC H cs b = H b := if_neg h
theorem backC_in {H H1 : Hp} {cs : List Addr} {b : Addr} (h : b ∈ cs) : backC H H1 cs b = H b := if_pos h
theorem backC_out {H H1 : Hp} {cs : List Addr} {b : Addr} (h : b ∉ cs) : backC H H1 cs b = H1 b := if_neg h
section
variable {P : Program} {w : World} {K : PySem.W.Frag} {mg : Str → Option Value} {base : Heap}
/-- all these addresses hold known objects -/
def AllKd (H : Hp) (cs : List Addr) : Prop := ∀ c ∈ cs, ∃ o, H c = some (Kd o)
theorem ClK.kd {H : Hp} {L : LSyn} {ys : List Str} {cl : List (Str × Addr)} {vs : List V} (x : ClK H L ys cl vs) : AllKd H (cl.map (·.2)) := fun c hc => by
  obtain ⟨y, e⟩ := x.mem c hc
  obtain ⟨i, hi⟩ := x.only y c e
  obtain ⟨c2, v, wv, o, e2, _, _, e3, _⟩ := x.cells i y hi
  rw [e] at e2; cases e2
  exact ⟨o, e3⟩
theorem kd_ne {o : Obj} {u : HO} (h : ∀ o v, u ≠ .frz o v) : Kd o ≠ u := fun z => h o _ z.symm
theorem out_of {H : Hp} {cs : List Addr} (k : AllKd H cs) {b : Addr} {u : HO} (e : H b = some u) (h : ∀ o v, u ≠ .frz o v) : b ∉ cs := fun z => by
  obtain ⟨o, q⟩ := k b z
  rw [q] at e
  cases e
  exact h _ _ rfl
theorem none_out {H : Hp} {cs : List Addr} (k : AllKd H cs) {b : Addr} (e : H b = none) : b ∉ cs := fun z => by
  obtain ⟨o, q⟩ := k b z
  rw [q] at e; cases e
theorem hok_drop {H : Hp} {h : Heap} {cs : List Addr} (k : AllKd H cs) (x : HOk P w H h) : HOk P w (dropC H cs) h := fun a o e => by
  by_cases ha : a ∈ cs
  · rw [dropC_in ha] at e; cases e
  · rw [dropC_out ha] at e
    exact (x a o e).stay (fun _ _ _ q => q) (fun b q => by rw [dropC_out (out_of k q fun _ _ z => by cases z)]; exact q) fun b xs q => by rw [dropC_out (out_of k q fun _ _ z => by cases z)]; exact q
theorem hok_back {H H1 : Hp} {h B : Heap} {cs : List Addr} (k : AllKd H cs) (x : HOk P w H h) (x1 : HOk P w H1 B) (kp : ∀ c ∈ cs, ∀ o, h.get? c = some o → B.get? c = some o ∧ H1 c = none) : HOk P w (backC H H1 cs) B := fun a o e => by
  have nin : ∀ b u, H1 b = some u → b ∉ cs := fun b u q z => by
    obtain ⟨ob, e2⟩ := k b z
    have := (kp b z ob (kd_get x e2)).2
    rw [q] at this; cases this
  by_cases ha : a ∈ cs
  · rw [backC_in ha] at e
    obtain ⟨ob, e2⟩ := k a ha
    rw [e2] at e; cases e
    exact kd_ok (kp a ha ob (kd_get x e2)).1
  · rw [backC_out ha] at e
    exact (x1 a o e).stay (fun _ _ _ q => q) (fun b q => by rw [backC_out (nin b _ q)]; exact q) fun b xs q => by rw [backC_out (nin b _ q)]; exact q
theorem un_back {fs : List Addr} {H H1 : Hp} {h h1 : Heap} {cs : List Addr} (k : AllKd H cs) (u : Un fs [] (dropC H cs) H1 h h1) : Un fs [] H (backC H H1 cs) h h1 := by
  refine ⟨fun b o e n hb hx => u.keep b o e (by rw [dropC_out (none_out k n)]; exact n) hb hx, fun b o e n hb hx => u.slot b o e (by rw [dropC_out (none_out k n)]; exact n) hb hx, fun b o e n hx => ?_, u.there, fun b xs e => ?_, fun b o v e => ?_, fun b ps e => ?_⟩
  · rw [backC_out (none_out k n)]
    exact u.free b o e (by rw [dropC_out (none_out k n)]; exact n) hx
  · have q := out_of k e fun _ _ z => by cases z
    rw [backC_out q]
    exact u.tups b xs (by rw [dropC_out q]; exact e)
  · by_cases hb : b ∈ cs
    · rw [backC_in hb]; exact e
    · rw [backC_out hb]
      exact u.frzs b o v (by rw [dropC_out hb]; exact e)
  · have q := out_of k e fun _ _ z => by cases z
    rw [backC_out q]
    exact u.tbls b ps (by rw [dropC_out q]; exact e)
theorem ub_back {fs : List Addr} {H H1 : Hp} {h B h1 : Heap} {cs : List Addr} (k : AllKd H cs) (u : UB fs (dropC H cs) H1 h B h1) : UB fs H (backC H H1 cs) h B h1 := by
  refine ⟨fun b o e n hb => u.keep b o e (by rw [dropC_out (none_out k n)]; exact n) hb, u.slot, fun b o e n => ?_, u.there, fun b xs e => ?_, fun b o v e => ?_, fun b ps e => ?_⟩
  · rw [backC_out (none_out k n)]
    exact u.free b o e (by rw [dropC_out (none_out k n)]; exact n)
  · have q := out_of k e fun _ _ z => by cases z
    rw [backC_out q]
    exact u.tups b xs (by rw [dropC_out q]; exact e)
  · by_cases hb : b ∈ cs
    · rw [backC_in hb]; exact e
    · rw [backC_out hb]
      exact u.frzs b o v (by rw [dropC_out hb]; exact e)
  · have q := out_of k e fun _ _ z => by cases z
    rw [backC_out q]
    exact u.tbls b ps (by rw [dropC_out q]; exact e)
/-- the environment and the context of a lambda's body -/
abbrev cloEnv (L : LSyn) (s : Shared) (f c' : Addr) (cl : List (Str × Addr)) : Env := PySem.W.envX L.qual L.scope s.heap.objs.size f (.ref c') cl
def cloCx (P : Program) (w : World) (K : PySem.W.Frag) (mg : Str → Option Value) (base : Heap) (ys : List Str) (L : LSyn) (f c' : Addr) (cl : List (Str × Addr)) (A : Around) (outer : List Env) (s : Shared) (H : Hp) (E : XK) : Cx where
  prog := P
  w := w
  K := K
  mg := mg
  base := base
  A := A.deeper (cloEnv L s f c' cl)
  N := ys
  s_0 := s
  H_0 := H
  env := cloEnv L s f c' cl
  outer := outer
  stack := cloEnv L s f c' cl :: outer
  ex := []
  fn := fun _ => false
  calm := true
  pn := []
  xe := fun e s' => wpAny (model P w) (A.deeper (cloEnv L s f c' cl)) (leaving (cloEnv L s f c' cl) e) (fun _ s'' => L2.CX P w outer H s E e s'') (fun e' s'' => L2.CX P w outer H s E e' s'') s'
theorem clo_start {ys : List Str} {L : LSyn} {f c' : Addr} {cl : List (Str × Addr)} {A : Around} {outer : List Env} {s : Shared} {H : Hp} {E : XK} {vs : List V} {h₁ : Heap} {tk : Nat} (S : LSc L ys) (C : ClK H L ys cl vs) (hd : A.handled = none) (e0 : Env0 P w K mg base A outer s H)
    (hns : h₁.Ns s.heap.objs.size fun y => ([] : List (Str × Value)).reverse.lookup y) (kp : ∀ b o, s.heap.get? b = some o → h₁.get? b = some o) :
    Inv (cloCx P w K mg base ys L f c' cl A outer s (dropC H (cl.map (·.2))) E) [] (vs.map some) (dropC H (cl.map (·.2))) { s with heap := h₁, toks := tk } := by
  have KD := C.kd
  have inC : ∀ {y c}, cl.lookup y = some c → c ∈ cl.map (·.2) := fun {y c} e => List.mem_map.mpr ⟨(y, c), PySem.mem_of_lookup e, rfl⟩
  have dn : ∀ {b}, H b = none → dropC H (cl.map (·.2)) b = none := fun {b} n => by rw [dropC_out (none_out KD n)]; exact n
  have fr : dropC H (cl.map (·.2)) s.heap.objs.size = none := dn (e0.hok.fresh (Nat.le_refl _))
  have cellAt : ∀ {i y}, ys[i]? = some y → ∃ c v wv o, cl.lookup y = some c ∧ vs[i]? = some v ∧ RelV v wv ∧ s.heap.get? c = some o ∧ o.data = .cell (some wv) := fun {i y} hi => by
    obtain ⟨c, v, wv, o, a1, a2, a3, a4, a5⟩ := C.cells i y hi
    exact ⟨c, v, wv, o, a1, a2, a3, kd_get e0.hok a4, a5⟩
  refine ⟨⟨e0.mod, S.kind, rfl, rfl, Nat.le_refl _, C.inj, fun y hy => ?_, fun y c z _ => ?_, fun _ => hd, Around.frames_deeper e0.frames, .inr ⟨rfl, rfl⟩, fun b z => absurd z (by simp [cloCx]), fun b o e => ⟨(e0.bs b o e).1, dn (e0.bs b o e).2⟩, e0.bsz, fun b _ _ z => absurd z (by simp [cloCx]),
      fun b z => absurd z (by simp [cloCx]), e0.funs, fun b hb => dn (e0.frf b hb)⟩, rfl, e0.bare, Un.kept kp, ⟨_, hns, fun i y v e1 e2 e3 => ?_⟩, fun y c e => ?_, fr, fun y c e => dropC_in (inC e), fun q hq => absurd (show q ∈ ([] : List (Addr × Obj)) ++ [] from hq) (by simp), (hok_drop KD e0.hok).kept kp, ?_⟩
  · have hy : L.scope.names.lookup y = some .cell ∨ L.scope.names.lookup y = some .free := hy
    rcases hy with hy | hy
    · exact absurd rfl (S.own _ (PySem.mem_of_lookup hy)).2
    · exact C.has _ (PySem.mem_of_lookup hy) rfl
  · exact absurd (show false = true from z) (by simp)
  · have e3 : Vis L.scope y := e3
    have e1 : ys[i]? = some y := e1
    rcases e3 with k | k | k
    · exact absurd rfl (S.own _ (PySem.mem_of_lookup k)).1
    · exact absurd rfl (S.own _ (PySem.mem_of_lookup k)).2
    · obtain ⟨c, v', wv, o, a1, a2, a3, a4, a5⟩ := cellAt e1
      have ev : v' = v := by
        rw [List.getElem?_map, a2] at e2
        exact Option.some.inj (Option.some.inj e2)
      subst ev
      exact ⟨wv, a3, .inr ⟨.inr k, c, a1, ⟨o, kp _ _ a4, a5⟩⟩⟩
  · have e : cl.lookup y = some c := e
    obtain ⟨i, hi⟩ := C.only y c e
    obtain ⟨c2, v, wv, o, a1, a2, a3, a4, a5⟩ := cellAt hi
    rw [e] at a1; cases a1
    exact ⟨_, ⟨o, kp _ _ a4, a5⟩⟩
  · show (vs.map some).length = ys.length
    rw [List.length_map, C.len]
/-- a lambda's call: its body runs without sight of its cells -/
theorem clo_run {ys : List Str} {L : LSyn} {f : Addr} {cl : List (Str × Addr)} {A : Around} {outer : List Env} {s : Shared} {H : Hp} {Q : VK} {E : XK} {vs : List V} {k : Nat} {t : TE} (S : LSc L ys) (C : ClK H L ys cl vs) (F : FnK H f L cl) (hr : Room (k + 1) A) (e0 : Env0 P w K mg base A outer s H)
    (hb : ∀ c', PE (cloCx P w K mg base ys L f c' cl A outer s (dropC H (cl.map (·.2))) (fun cls d H1 => (∀ c ∈ cl.map (·.2), H1 c = none) → E cls d (backC H H1 (cl.map (·.2))))) L.body t)
    (ht : t (vs.map some) (dropC H (cl.map (·.2))) fun v H1 => (∀ c ∈ cl.map (·.2), H1 c = none) → Q v (backC H H1 (cl.map (·.2)))) :
    codeAny (model P w) A (.call (.ref f) ⟨[], []⟩) (CR (L2.CX P w) outer P w H s Q E) s := by
  have KD := C.kd
  obtain ⟨c', pm, ctv, hf, oc, vc, tq, hoc, hdc, hvc⟩ := F
  have nfr : ∀ c ∈ cl.map (·.2), c ∉ frs outer := fun c hc z => none_out KD (e0.frf c z) hc
  refine PySem.W.kla_callFunE hr.depth (kd_get e0.hok hf) rfl S.co S.gen rfl ⟨c', oc, vc, tq, rfl, kd_get e0.hok hoc, hdc, hvc⟩ ?_
  rw [S.bind]
  refine wpAny_pure (wpAny_newFunctionEnv (fun y hy => (S.own y hy).2) (fun y hy => absurd hy (by simp)) (fun h₁ hns hsb => ⟨(e0.mod.nolimit.keeps fun b o e => (e0.bs b o e).1).fresh _ hsb, ?_⟩) S.kind)
  show codeAny _ _ (.expr L.body (cloEnv L s f c' cl)) _ _
  have kp : ∀ b o, s.heap.get? b = some o → h₁.get? b = some o := fun b o e => hsb.extBut b o (Nat.ne_of_lt (Heap.lt_size e)) (Heap.get?_push_of_some _ e)
  have J := clo_start (P := P) (w := w) (K := K) (mg := mg) (base := base) (f := f) (c' := c') (E := fun cls d H1 => (∀ c ∈ cl.map (·.2), H1 c = none) → E cls d (backC H H1 (cl.map (·.2)))) (tk := s.toks + ([] : List (Str × Value)).length) S C hr.hd e0 hns kp
  have cx : ∀ e s', L2.CX P w outer (dropC H (cl.map (·.2))) s (fun cls d H1 => (∀ c ∈ cl.map (·.2), H1 c = none) → E cls d (backC H H1 (cl.map (·.2)))) e s' → L2.CX P w outer H s E e s' := fun e s' ⟨a, B, H1, cls, d, q1, q2, q3, q4, q5, q6, q7, q8⟩ => by
    have kb : ∀ c ∈ cl.map (·.2), ∀ o, s.heap.get? c = some o → B.get? c = some o ∧ H1 c = none := fun c hc o ho => ⟨q4.keep c o ho (dropC_in hc) (nfr c hc), q4.free c o ho (dropC_in hc)⟩
    have nH : ∀ c ∈ cl.map (·.2), H1 c = none := fun c hc => by
      obtain ⟨o, e2⟩ := KD c hc
      exact (kb c hc o (kd_get e0.hok e2)).2
    refine ⟨a, B, backC H H1 (cl.map (·.2)), cls, d, q1, q2, hok_back KD e0.hok q3 kb, ub_back KD q4, ?_, q6, q7, q8 nH⟩
    have na : a ∉ cl.map (·.2) := fun z => by
      obtain ⟨o, e2⟩ := KD a z
      have := (kb a z o (kd_get e0.hok e2)).1
      rw [q2.2.1] at this; cases this
    rw [backC_out na]; exact q5
  refine PySem.W.kla_codeExpr (wpAny_mono ((hb c').run [] _ _ _ _ J ht) (fun u s' hq => ?_) fun e s' hq => ?_)
  · obtain ⟨v, H1, I1, rv, q⟩ := hq
    have u1 : Un (frs outer) [] (dropC H (cl.map (·.2))) H1 s.heap s'.heap := I1.base
    refine ⟨v, backC H H1 (cl.map (·.2)), I1.os, I1.bare, un_back KD u1, hok_back KD e0.hok I1.hok fun c hc o ho => ⟨u1.keep c o ho (dropC_in hc) (nfr c hc) (by simp), u1.free c o ho (dropC_in hc) (by simp)⟩, rv, q fun c hc => ?_⟩
    obtain ⟨o, e2⟩ := KD c hc
    exact u1.free c o (kd_get e0.hok e2) (dropC_in hc) (by simp)
  · exact wpAny_mono hq (fun _ s'' z => cx _ _ z) fun e' s'' z => cx _ _ z
end
end Ab

set_option Elab.async false
set_option linter.all false
set_option maxRecDepth 100000
set_option maxHeartbeats 2000000
namespace Ab
open PySem PySem.Spec PyProof.Rows L2
/-- the cells of the frame have become known -/
structure Sealed (X : Cx) (σ : L2.St) (H H' : Hp) : Prop where
  same : ∀ b, (∀ y, X.env.cells.lookup y ≠ some b) → H' b = H b
  cell : ∀ (i : Nat) (y : Str) (v : V), X.N[i]? = some y → σ[i]? = some (some v) → X.env.scope.names.lookup y = some .cell → ∃ (c : Addr) (u : Value) (o : Obj), X.env.cells.lookup y = some c ∧ RelV v u ∧ H' c = some (Kd o) ∧ o.data = .cell (some u)
  free : ∀ y c, X.env.cells.lookup y = some c → H c = none
  inj : ∀ x y c, X.env.cells.lookup x = some c → X.env.cells.lookup y = some c → x = y
  tx : Tx H H'
open Classical in
theorem inv_seal {X : Cx} {pins : List (Addr × Obj)} {σ : L2.St} {H : Hp} {s : Shared} (J : Inv X pins σ H s) (hx : X.ex = []) (hf : ∀ y, X.fn y = true) :
    ∃ H', Sealed X σ H H' ∧ Un X.fs [] X.H_0 H' X.s_0.heap s.heap ∧ HOk X.prog X.w H' s.heap := by
  have base : Un X.fs [] X.H_0 H X.s_0.heap s.heap := by have := J.base; rw [hx] at this; exact this
  let H' : Hp := fun b => if (∃ y, X.env.cells.lookup y = some b) then (s.heap.get? b).map Kd else H b
  have at_ : ∀ y c, X.env.cells.lookup y = some c → H' c = (s.heap.get? c).map Kd := fun y c e => if_pos ⟨y, e⟩
  have off : ∀ b, (∀ y, X.env.cells.lookup y ≠ some b) → H' b = H b := fun b h => if_neg fun ⟨y, e⟩ => h y e
  have off2 : ∀ b u, H b = some u → H' b = H b := fun b u e => off b fun y z => by rw [J.freeC y b z] at e; cases e
  have tx : Tx H H' := ⟨fun a xs e => by rw [off2 a _ e]; exact e, fun a o u e => by rw [off2 a _ e]; exact e⟩
  refine ⟨H', ⟨off, fun i y v e1 e2 e3 => ?_, J.freeC, J.ok.inj, tx⟩, ⟨base.keep, base.slot, fun b o e n hb => ?_, base.there, fun b xs e => tx.1 b xs (base.tups b xs e), fun b o u e => tx.2 b o u (base.frzs b o u e), fun b ps e => ?_⟩, fun a o e => ?_⟩
  · obtain ⟨m, hn, hl⟩ := J.loc
    obtain ⟨u, r, lk⟩ := hl i y v e1 e2 (.inr (.inl e3))
    rcases lk with ⟨k, _⟩ | ⟨_, c, ec, ob, ho, hd⟩
    · have k : X.env.scope.names.lookup y = some .local := k
      rw [e3] at k; cases k
    · exact ⟨c, u, ob, ec, r, by rw [at_ y c ec, ho]; rfl, hd⟩
  · rw [off b fun y z => ?_]
    · exact base.free b o e n hb
    · exact absurd (Nat.lt_of_lt_of_le (Heap.lt_size e) (J.ok.cab y b (hf y) z)) (Nat.lt_irrefl _)
  · obtain ⟨more, q⟩ := base.tbls b ps e
    exact ⟨more, by rw [off2 b _ q]; exact q⟩
  · by_cases ha : ∃ y, X.env.cells.lookup y = some a
    · obtain ⟨y, ey⟩ := ha
      rw [at_ y a ey] at e
      cases ho : s.heap.get? a with
      | none => rw [ho] at e; cases e
      | some ob => rw [ho] at e; cases e; exact kd_ok ho
    · rw [off a fun y z => ha ⟨y, z⟩] at e
      exact (J.hok a o e).stay (fun _ _ _ q => q) (fun b q => by rw [off2 b _ q]; exact q) fun b xs q => by rw [off2 b _ q]; exact q
/-! ### a body that ends by a return, its slots told at the end -/
abbrev TR := (L2.St → V → Hp → Prop) → L2.St → Hp → Prop
structure PSr (X : Cx) (body : List Stmt) (t : TR) : Prop where
  run : ∀ (pins : List (Addr × Obj)) (s : Shared) (σ : L2.St) (H : Hp) (G : L2.St → V → Hp → Prop), Inv X pins σ H s → t G σ H →
    wpAny (model X.prog X.w) X.A (execs body X.env) (fun fl s' => ∃ u v σ' H', fl = .ret u ∧ Inv X pins σ' H' s' ∧ RelV v u ∧ G σ' v H') X.xe s
section
variable {X : Cx}
theorem psr_imp {body : List Stmt} {t u : TR} (h : PSr X body t) (i : ∀ G σ H, u G σ H → t G σ H) : PSr X body u := ⟨fun p s σ H G I q => h.run p s σ H G I (i G σ H q)⟩
theorem psr_ret {e : Expr} {te : TE} {pos : Pos} (he : PE X e te) : PSr X [.Return (some e) pos] fun G σ H => te σ H (G σ) := by
  refine ⟨fun pins s σ H G I h => wpAny_execs_cons (wpAny_Return_some (thn (he.run pins s σ H _ I h) fun u s1 ⟨v, H1, I1, r, q⟩ => ?_))⟩
  exact ⟨u, v, σ, H1, rfl, I1, r, q⟩
theorem psr_cons {st : Stmt} {rest : List Stmt} {t : TS} {u : TR} (h1 : PS X st t) (h2 : PSr X rest u) : PSr X (st :: rest) fun G σ H => t { nx := u G, rt := fun _ _ => False } σ H := by
  refine ⟨fun pins s σ H G I h => wpAny_execs_cons (thn (h1.run pins s σ H _ I h) fun f s1 q => ?_)⟩
  cases f with
  | next =>
    obtain ⟨σ1, H1, I1, q⟩ := q
    exact h2.run pins s1 σ1 H1 G I1 q
  | ret v => obtain ⟨_, _, _, _, _, z⟩ := q; exact z.elim
  | brk => obtain ⟨_, _, _, z⟩ := q; exact z.elim
  | cont => obtain ⟨_, _, _, z⟩ := q; exact z.elim
end
section
variable {P : Program} {w : World} {K : PySem.W.Frag} {mg : Str → Option Value} {base : Heap}
/-- a def whose lambdas outlive it -/
theorem fn_seal {CX : CXT} {x qual : Str} {params : Arguments} {body : List Stmt} {scope : Scope} {f : Addr} {N ps : List Str} {k : Nat} {sp : Sp} {cdv : Value} {oc dV kV doc pm ct : Value} {an od : Option Addr} {osl : Array (Option Value)}
    (lk : K.lookup f = some ⟨oc, od, .func (PySem.W.fnOf x qual params body scope dV kV doc pm an cdv ct), osl⟩) (hcd : PySem.W.codeIn K cdv qual = true) (S : FnScope N ps scope) (len : ∀ vs H Q E, sp vs H Q E → vs.length = ps.length)
    (hb : ∀ (A : Around) (outer : List Env) (s : Shared) (H : Hp) (vs : List V) (Q : VK) (E : XK), Room k (A.deeper (envOfC qual scope s.heap.objs.size f cdv)) → sp vs H Q E →
      ∃ t, PSr (cxOf CX P w K mg base N qual scope f cdv A outer s H E) body t ∧ t (fun σ v H1 => ∀ H2, Sealed (cxOf CX P w K mg base N qual scope f cdv A outer s H E) σ H1 H2 → Q v H2) (L2.start N vs) H) :
    FnOk P w K mg base CX (k + 1) f (PySem.W.fnOf x qual params body scope dV kV doc pm an cdv ct) ps sp := by
  refine ⟨len, fun A outer s H args us vs Q E room env0 bnd rel promise => ?_⟩
  have kin := env0.mod.kin.keeps fun b o e => (env0.bs b o e).1
  have kinds : ∀ y ∈ ps.zip us, scope.names.lookup y.1 = some .local ∨ (scope.names.lookup y.1 = some .cell ∧ ((cellsFrom (s.heap.objs.size + 1) scope.names []).lookup y.1).isSome = true) := by
    rintro ⟨n, v⟩ hy
    exact (S.par n (List.of_mem_zip hy).1).imp id fun q => ⟨q, PySem.W.cellsFrom_some _ _ _ (.inl q)⟩
  refine codeAny_call_function room.depth (kin _ _ lk) rfl S.co S.gen rfl (PySem.W.codeRec_of kin hcd) (bnd _ _ _ _ (wpAny_newFunctionEnv_cells S.kind kinds fun env he s1 x1 => ?_))
  subst he
  refine ⟨(env0.mod.nolimit.keeps fun b o e => (env0.bs b o e).1).keeps x1.toInCall.keep, codeAny_func ?_⟩
  obtain ⟨t, ht, hq⟩ := hb A outer s H vs Q E (room.deeper _) promise
  have I0 := inv_start (CX := CX) (P := P) (w := w) (K := K) (mg := mg) (base := base) (E := E) S room.hd env0 (len _ _ _ _ promise) rel x1
  refine wpAny_mono (ht.run [] s1 _ H _ I0 hq) (fun fl s' z => ?_) fun _ _ z => z
  obtain ⟨u, v, σ', H', rfl, J, rv, g⟩ := z
  obtain ⟨H2, sl, un, ok⟩ := inv_seal J rfl fun _ => rfl
  exact ⟨v, H2, J.os, J.bare, un, ok, rv, g H2 sl⟩
end
end Ab

set_option Elab.async false
set_option linter.all false
set_option maxRecDepth 100000
set_option maxHeartbeats 2000000
namespace Ab
open PySem PySem.Spec PyProof.Rows L2
/-! ### the store without sight of some cells -/
def AllCell (H : Hp) (cs : List Addr) : Prop := ∀ c ∈ cs, ∃ o v, H c = some (Kd o) ∧ o.data = .cell v
theorem AllCell.kd {H : Hp} {cs : List Addr} (h : AllCell H cs) : AllKd H cs := fun c hc => let ⟨o, _, e, _⟩ := h c hc; ⟨o, e⟩
theorem ClK.allCell {H : Hp} {L : LSyn} {ys : List Str} {cl : List (Str × Addr)} {vs : List V} (x : ClK H L ys cl vs) : AllCell H (cl.map (·.2)) := fun c hc => by
  obtain ⟨y, e⟩ := x.mem c hc
  obtain ⟨i, hi⟩ := x.only y c e
  obtain ⟨c2, v, wv, o, e2, _, _, e3, e4⟩ := x.cells i y hi
  rw [e] at e2; cases e2
  exact ⟨o, _, e3, e4⟩
section
variable {K : PySem.W.Frag} {H H1 : Hp} {cs : List Addr}
theorem frz_out (h : AllCell H cs) {a : Addr} {o : Obj} {u : HO} (e : H a = some (.frz o u)) (hu : u ≠ .ext fun _ => True) : a ∉ cs := fun z => by
  obtain ⟨ob, v, q, _⟩ := h a z
  rw [q] at e
  cases e
  exact hu rfl
theorem kd_out (h : AllCell H cs) {a : Addr} {o : Obj} (e : H a = some (Kd o)) (hd : ∀ v, o.data ≠ .cell v) : a ∉ cs := fun z => by
  obtain ⟨ob, v, q, q2⟩ := h a z
  rw [q] at e
  cases e
  exact hd v q2
theorem sqT_drop (h : AllCell H cs) {a : Addr} {xs : List V} (x : SqT K H a xs) : SqT K (dropC H cs) a xs := by
  rcases x with (x | ⟨o, x⟩) | x
  · exact .inl (.inl (by rw [dropC_out (out_of h.kd x fun _ _ z => by cases z)]; exact x))
  · exact .inl (.inr ⟨o, by rw [dropC_out (frz_out h x fun z => by cases z)]; exact x⟩)
  · exact .inr x
theorem frL_drop (h : AllCell H cs) {a : Addr} {xs : List V} (x : FrL K H a xs) : FrL K (dropC H cs) a xs := by
  rcases x with ⟨o, x⟩ | x
  · exact .inl ⟨o, by rw [dropC_out (frz_out h x fun z => by cases z)]; exact x⟩
  · exact .inr x
mutual
theorem Rep.drop (h : AllCell H cs) : ∀ {d : D} {v : V}, Rep K H d v → Rep K (dropC H cs) d v
  | .non, _, x => x
  | .bl _, _, x => x
  | .int _, _, x => x
  | .str _, _, x => x
  | .ty _, _, x => x
  | .ref _, _, x => x
  | .tup _, _, ⟨a, xs, e, s, r⟩ => ⟨a, xs, e, sqT_drop h s, Reps.dropC h r⟩
  | .fls _, _, ⟨a, xs, e, s, r⟩ => ⟨a, xs, e, frL_drop h s, Reps.dropC h r⟩
theorem Reps.dropC (h : AllCell H cs) : ∀ {ds : List D} {vs : List V}, Reps K H ds vs → Reps K (Ab.dropC H cs) ds vs
  | [], _, x => x
  | _ :: _, _, ⟨x, r, e, q, qs⟩ => ⟨x, r, e, Rep.drop h q, Reps.dropC h qs⟩
end
theorem RepKV.drop (h : AllCell H cs) : ∀ {ps : List (Key × D)} {l : List (Key × V)}, RepKV K H ps l → RepKV K (dropC H cs) ps l
  | [], _, x => x
  | _ :: _, _, ⟨v, r, e, q, qs⟩ => ⟨v, r, e, q.drop h, RepKV.drop h qs⟩
theorem CodeK.drop (h : AllCell H cs) {c : Addr} {q : Str} (x : CodeK H c q) : CodeK (dropC H cs) c q := by
  obtain ⟨oc, vs, t, a, b, d⟩ := x
  exact ⟨oc, vs, t, by rw [dropC_out (kd_out h a fun v z => by rw [b] at z; cases z)]; exact a, b, d⟩
theorem FnK.drop (h : AllCell H cs) {f : Addr} {L : LSyn} {cl : List (Str × Addr)} (x : FnK H f L cl) : FnK (dropC H cs) f L cl ∧ f ∉ cs := by
  obtain ⟨c', pm, ctv, a, b⟩ := x
  have n := kd_out h a fun v z => by cases z
  exact ⟨⟨c', pm, ctv, by rw [dropC_out n]; exact a, b.drop h⟩, n⟩
def hideC (m : M) : M := fun a => match m a with
  | some (.clo _ _ _) => some .opq
  | o => o
def showC (m m1 : M) : M := fun a => match m a with
  | some (.clo L ys ds) => some (.clo L ys ds)
  | _ => m1 a
theorem RelO.dropC (h : AllCell H cs) {a : Addr} : ∀ {o : O}, RelO K H a o → RelO K (Ab.dropC H cs) a (match o with | .clo _ _ _ => .opq | o => o)
  | .lst _, ⟨xs, q, z⟩ => ⟨xs, by rw [dropC_out (out_of h.kd q fun _ _ z => by cases z)]; exact q, Reps.dropC h z⟩
  | .tab, ⟨ps, q, z⟩ => ⟨ps, by rw [dropC_out (out_of h.kd q fun _ _ z => by cases z)]; exact q, z⟩
  | .dic _, ⟨l, q, z⟩ => ⟨l, by rw [dropC_out (out_of h.kd q fun _ _ z => by cases z)]; exact q, z.drop h⟩
  | .ltab _, ⟨ps, q, ht, ha⟩ => ⟨ps, by rw [dropC_out (out_of h.kd q fun _ _ z => by cases z)]; exact q, ht, fun pos cv hc => let ⟨c, a1, a2⟩ := ha pos cv hc; ⟨c, a1, a2.drop h⟩⟩
  | .fn _ _ _ _, x => (FnK.drop h x).1
  | .clo _ _ _, ⟨_, _, ⟨c', pm, ctv, q, _⟩, _, _⟩ => ⟨_, _, by rw [dropC_out (kd_out h q fun v z => by cases z)]; exact q, rfl⟩
  | .opq, ⟨o, fd, q, hd⟩ => ⟨o, fd, by rw [dropC_out (kd_out h q fun v z => by rw [hd] at z; cases z)]; exact q, hd⟩
  | .xd _, ⟨vs, q, z⟩ => ⟨vs, by rw [dropC_out (out_of h.kd q fun _ _ z => by cases z)]; exact q, Reps.dropC h z⟩
theorem RelM.dropC {m : M} (h : AllCell H cs) (r : RelM K H m) : RelM K (Ab.dropC H cs) (hideC m) := fun a o e => by
  unfold hideC at e
  cases hm : m a with
  | none => rw [hm] at e; cases e
  | some u =>
    rw [hm] at e
    have q := (r a u hm).dropC h
    cases u <;> (cases e; exact q)
/-- what stays -/
theorem tx_back (h : AllCell H cs) (t : Tx (Ab.dropC H cs) H1) : Tx H (backC H H1 cs) := by
  refine ⟨fun a xs e => ?_, fun a o u e => ?_⟩
  · have n := out_of h.kd e fun _ _ z => by cases z
    rw [backC_out n]
    exact t.1 a xs (by rw [dropC_out n]; exact e)
  · by_cases n : a ∈ cs
    · rw [backC_in n]; exact e
    · rw [backC_out n]
      exact t.2 a o u (by rw [dropC_out n]; exact e)
theorem back_of (n : ∀ c ∈ cs, H1 c = none) {a : Addr} {u : HO} (e : H1 a = some u) : backC H H1 cs a = some u := by
  rw [backC_out fun z => by rw [n a z] at e; cases e]
  exact e
theorem tx_back1 (n : ∀ c ∈ cs, H1 c = none) : Tx H1 (backC H H1 cs) := ⟨fun _ _ e => back_of n e, fun _ _ _ e => back_of n e⟩
theorem RelM.back {m m1 : M} (h : AllCell H cs) (r : RelM K H m) (t : Tx (Ab.dropC H cs) H1) (n : ∀ c ∈ cs, H1 c = none) (r1 : RelM K H1 m1) : RelM K (backC H H1 cs) (showC m m1) := fun a o e => by
  have old : ∀ o, m1 a = some o → RelO K (backC H H1 cs) a o := fun o e => (r1 a o e).move (tx_back1 n) fun u q => back_of n q
  unfold showC at e
  cases hm : m a with
  | none => rw [hm] at e; exact old o e
  | some u =>
    rw [hm] at e
    cases u with
    | clo L ys ds =>
      cases e
      obtain ⟨cl, vs, f, c, rp⟩ := r a _ hm
      have tt := tx_back h t
      exact ⟨cl, vs, f.tx tt, c.tx tt, rp.mono tt⟩
    | _ => exact old o e
end
/-! ### the call -/
structure LamOk (P : Program) (w : World) (K : PySem.W.Frag) (mg : Str → Option Value) (base : Heap) (k : Nat) (L : LSyn) (ys : List Str) (t : AE) : Prop where
  sc : LSc L ys
  ok : ∀ (f c' : Addr) (cl : List (Str × Addr)) (A : Around) (outer : List Env) (s : Shared) (H : Hp) (E : XK), (∀ y ∈ L.scope.names, y.2 = .free → ∃ c, cl.lookup y.1 = some c) → Room k (A.deeper (cloEnv L s f c' cl)) →
    GE (cloCx P w K mg base ys L f c' cl A outer s H E) (WD E) L.body t
def aCallV (T : LSyn → List Str → AE → Prop) (i : Nat) : AE := fun e m Q R => match e.g i with
  | some (.ref f) => (match m f with
    | some (.clo L ys ds) => ∃ t, T L ys t ∧ t (ds.map some) (hideC m) (fun d m1 => Q d (showC m m1)) (fun x m1 => R x (showC m m1))
    | _ => False)
  | _ => False
theorem RelE.somes {K : PySem.W.Frag} {H : Hp} : ∀ {ds : List D} {vs : List V}, Reps K H ds vs → RelE K H (vs.map some) (ds.map some)
  | [], _, h => by rw [show _ = [] from h]; trivial
  | d :: ds, _, ⟨x, r, e, h, hr⟩ => by rw [e]; exact ⟨⟨x, rfl, h⟩, RelE.somes hr⟩
theorem XRep.back {K : PySem.W.Frag} {H H1 : Hp} {cs : List Addr} {x : Xn} {cls : Value} {dd : Option Addr} (n : ∀ c ∈ cs, H1 c = none) (h : XRep K H1 x cls dd) : XRep K (backC H H1 cs) x cls dd := by
  refine ⟨h.1, ?_⟩
  have h2 := h.2
  cases hf : x.fs with
  | nil => rw [hf] at h2; exact h2
  | cons p fs =>
    rw [hf] at h2
    obtain ⟨d, vs, e, q, r⟩ := h2
    exact ⟨d, vs, e, back_of n q, r.mono (tx_back1 n)⟩
section
variable {X : Cx} {W : WX}
theorem g_callv {T : LSyn → List Str → AE → Prop} {k i : Nat} {x : Str} {p1 p2 : Pos} (hT : ∀ L ys t, T L ys t → LamOk X.prog X.w X.K X.mg X.base k L ys t) (tk : Takes X W) (hr : Room (k + 1) X.A) (hN : X.N[i]? = some x := by rfl) (hv : Vis X.env.scope x := by first | exact .inl rfl | exact .inr (.inl rfl) | exact .inr (.inr rfl))
    (hd : (x == ("__debug__" : Str)) = false := by decide) (hcd : (x == ("__classdict__" : Str)) = false := by decide) : GE X W (.Call (.Name x p1) [] [] p2) (aCallV T i) := by
  refine ⟨fun pins s σ H Q I h => ?_⟩
  obtain ⟨e, m, P, R, rE, rM, t0, q, w⟩ := h
  unfold aCallV at t0
  cases eg : e.g i with
  | none => rw [eg] at t0; exact t0.elim
  | some d =>
    rw [eg] at t0
    cases d with
    | ref f =>
      obtain ⟨v0, hs, rv⟩ := rE.get eg
      obtain rfl : v0 = .ref f := rv
      replace t0 : (match m f with | some (.clo L ys ds) => ∃ t, T L ys t ∧ t (ds.map some) (hideC m) (fun d m1 => P d (showC m m1)) (fun x m1 => R x (showC m m1)) | _ => False) := t0
      cases em : m f with
      | none => rw [em] at t0; exact t0.elim
      | some ob =>
        rw [em] at t0
        cases ob with
        | clo L ys ds =>
          obtain ⟨t, hTt, ht⟩ := t0
          have ok := hT L ys t hTt
          obtain ⟨cl, vs, F, C, rp⟩ := rM f _ em
          refine wpAny_Call_Name_kw (thn ((pe_var (pos := p1) hN hv hd hcd).run pins s σ H (fun v H1 => v = .ref f ∧ H1 = H) I ⟨.ref f, hs, rfl, rfl⟩) fun u s1 ⟨v, H1, I1, r1, q1⟩ => ?_)
          obtain ⟨ev, eH⟩ := q1
          subst ev
          subst eH
          obtain rfl : u = Value.ref f := r1
          obtain ⟨c', pm, ctv, hf, _⟩ := id F
          refine PySem.W.callWith_F0 ⟨_, _, _, _, kd_get I1.hok hf⟩ ?_
          have AC := C.allCell
          have rc := clo_run (P := X.prog) (w := X.w) (K := X.K) (mg := X.mg) (base := X.base) (A := X.A) (outer := X.stack) (s := s1) (Q := Q) (E := fun cls dd H' => W cls dd σ H') (t := lE X.K (WD fun cls dd H' => (∀ c ∈ cl.map (·.2), H' c = none) → W cls dd σ (backC H1 H' (cl.map (·.2)))) t) ok.sc C F hr I1.env0
            (fun c' => ok.ok f c' cl X.A X.stack s1 _ _ C.has (hr.deeper _))
            ⟨_, hideC m, _, _, RelE.somes (Reps.dropC AC rp), rM.dropC AC, ht, fun d m1 hp v H2 t2 rv rm n => ?_, ⟨fun x m1 hx cls dd H2 t2 xr rm n => ?_⟩⟩
          · refine wpAny_call (codeAny_mono rc fun r s' hq => ?_)
            cases r with
            | error ex => exact passAt tk σ pins H1 s1 ex s' I1 hq
            | ok fl =>
              cases fl with
              | ret u => exact I1.after hq
              | next => exact False.elim hq
              | brk => exact False.elim hq
              | cont => exact False.elim hq
          · exact q d _ hp v _ (tx_back AC t2) (rv.mono (tx_back1 n)) (RelM.back AC rM t2 n rm)
          · exact w.go x _ hx cls dd _ (tx_back AC t2) (XRep.back n xr) (RelM.back AC rM t2 n rm)
        | _ => exact t0.elim
    | _ => exact t0.elim
end
end Ab

set_option Elab.async false
set_option linter.all false
set_option maxRecDepth 100000
set_option maxHeartbeats 2000000
namespace Ab
open PySem PySem.Spec PyProof.Rows L2
/-! ### a lambda is made -/
/-- P: the table of its maker's code object; cells: its maker's -/
def aLam (P : Addr) (L : LSyn) (ys : List Str) (cap : List Nat) (cells : List (Str × Addr)) : AE := fun _ m Q _ => m P = some (.ltab L.qual) ∧ ∀ f, m f = none → Q (.ref f) (mset m f (.fn L ys cap (cloFrom cells L.scope.names [])))
section
variable {X : Cx} {W : WX}
theorem g_lam {c P : Addr} {L : LSyn} {ys : List Str} {cap : List Nat} {pos : Pos} (TB : LamX.TabB X.base X.mg c P) (hcode : X.env.code = .ref c) (hq : L.qual = X.env.qual ++ "<lambda>") (hdef : defaultsOf L.params X.env = ([], []))
    (hfree : ∀ y ∈ L.scope.names, y.2 = .free → X.env.scope.names.lookup y.1 = some .cell) : GE X W (.Lambda L.params L.body L.scope pos) (aLam P L ys cap X.env.cells) := by
  refine ⟨fun pins s σ H Q I h => ?_⟩
  obtain ⟨e, m, P', R, rE, rM, ⟨t0, t1⟩, q, w⟩ := h
  refine lam_made I TB hcode hq (rM P _ t0) hdef (fun y hy hf => I.ok.has _ (.inl (hfree y hy hf))) fun f H1 s' I1 tx keep tab nf fk => ?_
  refine ⟨.ref f, H1, I1, rfl, q (.ref f) _ (t1 f (rM.free nf)) (.ref f) H1 tx rfl fun a o ea => ?_⟩
  by_cases ha : a = f
  · subst ha
    rw [mset_same] at ea; cases ea
    exact fk
  · rw [mset_ne ha] at ea
    by_cases hP : a = P
    · subst hP
      rw [t0] at ea; cases ea
      exact tab
    · exact (rM a o ea).move tx fun u qu => keep a u hP qu
end
/-! ### a def that hands lambdas out -/
abbrev AR := (En → D → M → Prop) → En → M → Prop
def lR (K : PySem.W.Frag) (t : AR) : TR := fun G σ H => ∃ e m A, RelE K H σ e ∧ RelM K H m ∧ t A e m ∧ ∀ e' d m', A e' d m' → ∀ σ' v H', Tx H H' → RelE K H' σ' e' → Rep K H' d v → RelM K H' m' → G σ' v H'
def rRet (te : AE) : AR := fun A e m => te e m (fun d m1 => A e d m1) fun _ _ => False
def rSeq (t : AS) (u : AR) : AR := fun A e m => t { nx := u A, rt := fun _ _ => False, xe := fun _ _ _ => False } e m
section
variable {X : Cx} {W : WX}
theorem r_ret {e : Expr} {te : AE} {pos : Pos} (he : GE X W e te) : PSr X [.Return (some e) pos] (lR X.K (rRet te)) := psr_imp (psr_ret he) fun G σ H h => by
  obtain ⟨e, m, A, rE, rM, t, q⟩ := h
  exact ⟨e, m, _, _, rE, rM, t, fun d m1 hp v H1 t1 rv rm => q e d m1 hp σ v H1 t1 (rE.mono t1) rv rm, ⟨fun _ _ z => z.elim⟩⟩
theorem r_cons {st : Stmt} {rest : List Stmt} {t : AS} {u : AR} (h1 : GS X W st t) (h2 : PSr X rest (lR X.K u)) : PSr X (st :: rest) (lR X.K (rSeq t u)) := psr_imp (psr_cons h1 h2) fun G σ H h => by
  obtain ⟨e, m, A, rE, rM, t, q⟩ := h
  refine ⟨e, m, _, rE, rM, t, ⟨fun e1 m1 hp σ1 H1 t1 rE1 rm => ?_, fun _ _ z => z.elim, fun _ _ z => z.elim, fun _ _ z => z.elim, fun _ _ _ _ _ => ⟨fun _ _ z => z.elim⟩⟩⟩
  exact ⟨e1, m1, A, rE1, rm, hp, fun e2 d m2 ha σ2 v H2 t2 => q e2 d m2 ha σ2 v H2 (t1.trans t2)⟩
end
/-- what a lambda captures: names ys, at the slots cap of its maker -/
structure CapOk (N : List Str) (sc : Scope) (L : LSyn) (ys : List Str) (cap : List Nat) : Prop where
  len : cap.length = ys.length
  at_ : ∀ (i : Nat) (y : Str), ys[i]? = some y → ∃ j, cap[i]? = some j ∧ N[j]? = some y ∧ sc.names.lookup y = some .cell
  free : ∀ y ∈ L.scope.names, y.2 = .free → y.1 ∈ ys
  only : ∀ y ∈ ys, (y, NameKind.free) ∈ L.scope.names
def capD (e : En) : List Nat → Option (List D)
  | [] => some []
  | i :: r => match e.g i, capD e r with
    | some d, some ds => some (d :: ds)
    | _, _ => none
theorem capD_get {e : En} : ∀ {cap : List Nat} {ds : List D} {i j : Nat}, capD e cap = some ds → cap[i]? = some j → ∃ d, ds[i]? = some d ∧ e.g j = some d
  | [], _, i, j, _, h => by simp at h
  | k :: cap, ds, i, j, h, hi => by
    have h' : (match e.g k, capD e cap with | some d, some ds => some (d :: ds) | _, _ => none) = some ds := h
    cases e1 : e.g k with
    | none => rw [e1] at h'; cases h'
    | some d =>
      cases e2 : capD e cap with
      | none => rw [e1, e2] at h'; cases h'
      | some es =>
        rw [e1, e2] at h'
        cases h'
        cases i with
        | zero => simp at hi; subst hi; exact ⟨d, rfl, e1⟩
        | succ i =>
          obtain ⟨d2, a, b⟩ := capD_get (i := i) e2 (by simpa using hi)
          exact ⟨d2, by simpa using a, b⟩
theorem capD_len {e : En} : ∀ {cap : List Nat} {ds : List D}, capD e cap = some ds → ds.length = cap.length
  | [], _, h => by cases h; rfl
  | k :: cap, ds, h => by
    have h' : (match e.g k, capD e cap with | some d, some ds => some (d :: ds) | _, _ => none) = some ds := h
    cases e1 : e.g k with
    | none => rw [e1] at h'; cases h'
    | some d =>
      cases e2 : capD e cap with
      | none => rw [e1, e2] at h'; cases h'
      | some es => rw [e1, e2] at h'; cases h'; exact congrArg (· + 1) (capD_len e2)
theorem capD_reps {K : PySem.W.Frag} {H : Hp} {e : En} {σ : L2.St} (rE : RelE K H σ e) : ∀ {cap : List Nat} {ds : List D}, capD e cap = some ds → ∃ vs : List V, Reps K H ds vs ∧ ∀ (i j : Nat), cap[i]? = some j → ∃ v, vs[i]? = some v ∧ σ[j]? = some (some v)
  | [], _, h => by cases h; exact ⟨[], rfl, fun i j hi => by simp at hi⟩
  | k :: cap, ds, h => by
    have h' : (match e.g k, capD e cap with | some d, some ds => some (d :: ds) | _, _ => none) = some ds := h
    cases e1 : e.g k with
    | none => rw [e1] at h'; cases h'
    | some d =>
      cases e2 : capD e cap with
      | none => rw [e1, e2] at h'; cases h'
      | some es =>
        rw [e1, e2] at h'
        cases h'
        obtain ⟨v, q1, q2⟩ := rE.get e1
        obtain ⟨vs, r, at_⟩ := capD_reps rE e2
        refine ⟨v :: vs, ⟨v, vs, rfl, q2, r⟩, fun i j hi => ?_⟩
        cases i with
        | zero => simp at hi; subst hi; exact ⟨v, rfl, q1⟩
        | succ i =>
          obtain ⟨u, a, b⟩ := at_ i j (by simpa using hi)
          exact ⟨u, by simpa using a, b⟩
/-- the lambdas at these addresses have their values -/
def sealM (fs : List Addr) (e : En) (m : M) : M := fun a => if a ∈ fs then (match m a with
  | some (.fn L ys cap _) => (match capD e cap with
    | some ds => some (.clo L ys ds)
    | none => none)
  | _ => none) else m a
/-- the end of such a def: the new lambdas are known by what they captured -/
def EndW (N : List Str) (sc : Scope) (cells : List (Str × Addr)) (P : D → M → Prop) : En → D → M → Prop := fun e d m => ∃ fs : List Addr, (∀ f ∈ fs, ∃ L ys cap, m f = some (.fn L ys cap (cloFrom cells L.scope.names [])) ∧ CapOk N sc L ys cap) ∧ P d (sealM fs e m)
theorem cloFrom_lookup {cells : List (Str × Addr)} {names : List (Str × NameKind)} {y : Str} {c : Addr} (h : (cloFrom cells names []).lookup y = some c) : (y, NameKind.free) ∈ names ∧ c = ((cells.lookup y).getD 0) := by
  rcases cloFrom_mem (PySem.mem_of_lookup h) with z | ⟨a, b⟩
  · cases z
  · exact ⟨a, b⟩
end Ab

set_option Elab.async false
set_option linter.all false
set_option maxRecDepth 100000
set_option maxHeartbeats 2000000
namespace Ab
open PySem PySem.Spec PyProof.Rows L2
theorem cl_at {cells : List (Str × Addr)} {names : List (Str × NameKind)} {y : Str} (h : (y, NameKind.free) ∈ names) : (cloFrom cells names []).lookup y = some ((cells.lookup y).getD 0) := by
  obtain ⟨c, e⟩ := mem_lookup (cloFrom_has (cells := cells) (acc := []) h)
  rw [e, (cloFrom_lookup e).2]
theorem clK_of {X : Cx} {σ : L2.St} {H H2 : Hp} {L : LSyn} {ys : List Str} {cap : List Nat} {vs : List V} (sl : Sealed X σ H H2) (C : CapOk X.N X.env.scope L ys cap) (hl : vs.length = ys.length) (hv : ∀ (i j : Nat), cap[i]? = some j → ∃ v, vs[i]? = some v ∧ σ[j]? = some (some v)) :
    ClK H2 L ys (cloFrom X.env.cells L.scope.names []) vs := by
  have look : ∀ (i : Nat) (y : Str), ys[i]? = some y → ∃ (c : Addr) (v : V) (u : Value) (o : Obj), X.env.cells.lookup y = some c ∧ vs[i]? = some v ∧ RelV v u ∧ H2 c = some (Kd o) ∧ o.data = .cell (some u) ∧ (cloFrom X.env.cells L.scope.names []).lookup y = some c := fun i y hi => by
    obtain ⟨j, h1, h2, h3⟩ := C.at_ i y hi
    obtain ⟨v, h4, h5⟩ := hv i j h1
    obtain ⟨c, u, o, h6, h7, h8, h9⟩ := sl.cell j y v h2 h5 h3
    refine ⟨c, v, u, o, h6, h4, h7, h8, h9, ?_⟩
    rw [cl_at (C.only y (List.mem_of_getElem? hi)), h6]
    rfl
  have ix : ∀ y c, (cloFrom X.env.cells L.scope.names []).lookup y = some c → ∃ i : Nat, ys[i]? = some y := fun y c e => List.getElem?_of_mem (C.free _ (cloFrom_lookup e).1 rfl)
  have real : ∀ y c, (cloFrom X.env.cells L.scope.names []).lookup y = some c → X.env.cells.lookup y = some c := fun y c e => by
    obtain ⟨i, hi⟩ := ix y c e
    obtain ⟨c2, v, u, o, a1, _, _, _, _, a6⟩ := look i y hi
    rw [e] at a6; cases a6
    exact a1
  refine ⟨fun i y hi => ?_, ix, fun c hc => ?_, fun x y c e1 e2 => sl.inj x y c (real x c e1) (real y c e2), hl, fun y hy hf => ?_⟩
  · obtain ⟨c, v, u, o, a1, a2, a3, a4, a5, a6⟩ := look i y hi
    exact ⟨c, v, u, o, a6, a2, a3, a4, a5⟩
  · obtain ⟨⟨y, c'⟩, hm, rfl⟩ := List.mem_map.mp hc
    rcases cloFrom_mem hm with z | ⟨z1, z2⟩
    · cases z
    · exact ⟨y, by rw [cl_at z1, z2]⟩
  · obtain ⟨y, k⟩ := y
    have hf : k = .free := hf
    subst hf
    exact ⟨_, cl_at hy⟩
theorem rel_seal {X : Cx} {σ : L2.St} {H H2 : Hp} {e : En} {m : M} {fs : List Addr} (sl : Sealed X σ H H2) (rE : RelE X.K H σ e) (rM : RelM X.K H m) (h : ∀ f ∈ fs, ∃ L ys cap, m f = some (.fn L ys cap (cloFrom X.env.cells L.scope.names [])) ∧ CapOk X.N X.env.scope L ys cap) :
    RelM X.K H2 (sealM fs e m) := fun a o ea => by
  unfold sealM at ea
  by_cases ha : a ∈ fs
  · rw [if_pos ha] at ea
    obtain ⟨L, ys, cap, em, C⟩ := h a ha
    rw [em] at ea
    replace ea : (match capD e cap with | some ds => some (O.clo L ys ds) | none => none) = some o := ea
    cases ec : capD e cap with
    | none => rw [ec] at ea; cases ea
    | some ds =>
      rw [ec] at ea
      cases ea
      obtain ⟨vs, r, hv⟩ := capD_reps rE ec
      have f := rM a _ em
      exact ⟨_, vs, FnK.tx sl.tx f, clK_of sl C (by rw [← r.length, capD_len ec, C.len]) hv, r.mono sl.tx⟩
  · rw [if_neg ha] at ea
    refine (rM a o ea).move sl.tx fun u q => ?_
    rw [sl.same a fun y z => by rw [sl.free y a z] at q; cases q]
    exact q
def aWorks (N : List Str) (sc : Scope) (rb : List (Str × Addr) → AR) : ASp := fun ds m Q _ => ∀ cells, rb cells (EndW N sc cells fun d m' => ∃ m2, Sub m2 m' ∧ Q d m2) (eStart N.length ds) m
section
variable {P : Program} {w : World} {K : PySem.W.Frag} {mg : Str → Option Value} {base : Heap}
theorem cal_works {x : Str} {params : Arguments} {body : List Stmt} {scope : Scope} {fd : FuncData} {N ps : List Str} {k n : Nat} {rb : List (Str × Addr) → AR} (F : FunD K x x params body scope [] [] (He.fAd K (x, none)) fd) (hm : mg x = some (.ref (He.fAd K (x, none)))) (bd : Binds K fd ps []) (S : FnScope N ps scope) (hn : ps.length = n)
    (hb : ∀ (A : Around) (outer : List Env) (s : Shared) (H : Hp) (E : XK), Room k (A.deeper (envOfC x scope s.heap.objs.size (He.fAd K (x, none)) (.ref (He.codeOf K (x, none))))) →
      PSr (cxOf (L2.CX P w) P w K mg base N x scope (He.fAd K (x, none)) (.ref (He.codeOf K (x, none))) A outer s H E) body (lR K (rb (cellsFrom (s.heap.objs.size + 1) scope.names [])))) :
    Cal P w K mg base x (k + 1) n (aWorks N scope rb) := by
  refine ⟨_, fd, ps, ?_, hm, F.kp, bd⟩
  obtain ⟨oc, od, dV, kV, doc, pm, an, cdv, ct, osl, rfl, lk, hcd, _, _⟩ := F.ex
  obtain ⟨c, rfl⟩ := He.codeIn_ref hcd
  have ec : He.codeOf K (x, none) = c := He.codeOf_eq (p := (x, none)) lk rfl
  rw [ec] at hb
  refine fn_seal lk hcd S (fun vs H Q E h => ?_) fun A outer s H vs Q E hr h => ⟨_, hb A outer s H E hr, ?_⟩
  · obtain ⟨ds, m, P', R, e, r, _⟩ := h
    rw [← r.length, e, hn]
  · obtain ⟨ds, m, P', R, e, r, rM, t, q, w'⟩ := h
    refine ⟨_, m, _, RelE.start r, rM, t _, fun e' d m' hE σ' v H1 t1 rE' rv rm H2 sl => ?_⟩
    obtain ⟨fs, hfs, m2, s2, hp⟩ := hE
    have rs := rel_seal (fs := fs) sl rE' rm hfs
    exact q d m2 hp v H2 (t1.trans sl.tx) (rv.mono sl.tx) (rs.sub s2)
end
end Ab

set_option Elab.async false
set_option linter.all false
set_option maxRecDepth 100000
set_option maxHeartbeats 2000000
namespace Ab
open PySem PySem.Spec PyProof.Rows L2
/-! ### raising an error of the program that has no fields -/
structure ErrK (K : PySem.W.Frag) (mg : Str → Option Value) (x : Str) (C : Addr) : Prop where
  glo : mg x = some (.ref C)
  exc : PySem.W.excIn K C He.veBase "ValueError.__new__" = true
  keep : PySem.W.keepIn K (.ref C) = true
  sub : PySem.W.subIn K (.ref C) (.type "BaseException") = some true
  typ : PySem.W.typeIn K (.ref C) = some (.type "type")
section
variable {X : Cx} {W : WX}
theorem pmk_none {x : Str} {C : Addr} {p pos : Pos} (F : ErrK X.K X.mg x C) (hg : Gl X x) (hdb : (x == ("__debug__" : Str)) = false := by decide) : PMk X (.Call (.Name x p) [] [] pos) fun _ H Q => Q (.ref C) none H := by
  intro pins s σ H Q I h
  refine wpAny_Call_Name_kw (ld_glob I hg F.glo (PySem.W.callWith_K0 (first := []) I.kIn F.keep ?_) hdb)
  show wpAny _ _ (call (.ref C) []) _ _ _
  obtain ⟨bm, N, nm, qn, bs, hdct, sn, sub, ab, col, dd, k0, k1, k2, k3, k5, mN, hC, hN, hni, T⟩ := exc_obj I.kIn F.exc
  exact wpAny_call_exc_subT PySem.F.excBase_ValueError T hC hN hni (fun h' e mk => mk_of I mk (raises_own F.sub F.typ) h (I.hok.gone mk.new)) (Nat.zero_le _)
def aRaise (C : Addr) : AS := fun A e m => A.xe e ⟨C, []⟩ m
theorem s_raise {x : Str} {C : Addr} {p pos pos' : Pos} (F : ErrK X.K X.mg x C) (tk : Takes X W) (hc : X.calm = true := by rfl) (hg : Gl X x := by rfl) (hdb : (x == ("__debug__" : Str)) = false := by decide) : GS X W (.Raise (some (.Call (.Name x p) [] [] pos)) none pos') (aRaise C) := ps_imp (ps_raise hc tk (pmk_none F hg hdb)) fun D σ H h => by
  obtain ⟨e, m, A, rE, rM, t, ok⟩ := h
  exact (ok.xe e σ H (Tx.refl H) rE).go _ m t _ _ H (Tx.refl H) ⟨rfl, rfl⟩ rM
/-! ### try: body, except x as n: suite -/
def aTryAs (mt : Addr → Option Bool) (i : Nat) (tb : AS) (ts : Addr → Xn → AS) : AS := fun A e m => tb { A with xe := fun e1 x m1 => match mt x.cls with
  | some true => x.fs = [] ∧ ∀ a, ts a x { nx := fun e2 m2 => A.nx (e2.x i) m2, rt := A.rt, bk := fun e2 m2 => A.bk (e2.x i) m2, ct := fun e2 m2 => A.ct (e2.x i) m2, xe := fun _ _ _ => False } (e1.s i (.ref a)) m1
  | some false => A.xe e1 x m1
  | none => False } e m
theorem s_tryAs {x n : Str} {c : Value} {i : Nat} {body suite : List Stmt} {b₀ : Stmt} {np pos pos' : Pos} {mt : Addr → Option Bool} {tb : AS} {ts : Addr → Xn → AS} (hs : X.stack = X.env :: X.outer) (hf : X.env.frame = some X.env.locals) (hN : X.N.Nodup) (hc : Names X x c) (tk : Takes X W)
    (hmt : ∀ a b, mt a = some b → PySem.W.exmOne X.K (.ref a) c = some b)
    (hb : ∀ (W' : WX) (pn : List (Addr × Obj)) (xe : Value → Shared → Prop), Takes (X.tr pn xe) W' → PassesOwn (model X.prog X.w) X.A X.env xe → GSs (X.tr pn xe) W' body tb)
    (hsu : ∀ (a : Addr) (oe : Obj) (x : Xn) (pn : List (Addr × Obj)), x.fs = [] → Zc (.ref x.cls) none oe → (∃ vs, oe.data = .fields vs) → GSs (X.suite a ((a, oe) :: pn)) W0 (b₀ :: suite) (ts a x))
    (hi : X.N[i]? = some n := by rfl) (hln : X.env.kindOf n = some .local := by rfl) : GS X W (.Try body [.ExceptHandler (some (.Name x np)) (some n) (b₀ :: suite) pos'] [] [] pos) (aTryAs mt i tb ts) :=
  ps_imp (ps_try_as (tb := fun W' => lS X.K W' tb) (ts := fun a cls d D σ H => ∃ y : Xn, cls = .ref y.cls ∧ d = none ∧ y.fs = [] ∧ lS X.K W0 (ts a y) D σ H) hs hf hN hi hln hc tk hb fun a oe cls d pn hz hd => ⟨fun pins s σ H D I h => by
      obtain ⟨y, rfl, rfl, hfs, h⟩ := h
      exact (hsu a oe y pn hfs hz hd).run pins s σ H D I h⟩) fun D σ H h => by
    obtain ⟨e, m, A, rE, rM, t, ok⟩ := h
    refine ⟨e, m, _, rE, rM, t, ⟨ok.nx, ok.rt, ok.bk, ok.ct, fun e1 σ1 H1 t1 rE1 => ⟨fun y m1 hy cls dd H2 t2 xr rm => ?_⟩⟩⟩
    have hy' : (match mt y.cls with
      | some true => y.fs = [] ∧ ∀ a, ts a y { nx := fun e2 m2 => A.nx (e2.x i) m2, rt := A.rt, bk := fun e2 m2 => A.bk (e2.x i) m2, ct := fun e2 m2 => A.ct (e2.x i) m2, xe := fun _ _ _ => False } (e1.s i (.ref a)) m1
      | some false => A.xe e1 y m1
      | none => False) := hy
    obtain ⟨ec, ed⟩ := id xr
    cases em : mt y.cls with
    | none => rw [em] at hy'; exact hy'.elim
    | some b =>
      rw [em] at hy'
      refine ⟨b, by rw [ec]; exact hmt _ _ em, fun hb1 a na => ?_, fun hb0 => ?_⟩
      · subst hb1
        obtain ⟨hfs, h3⟩ := hy'
        rw [hfs] at ed
        have tt := t1.trans t2
        refine ⟨y, ec, ed, hfs, _, m1, _, (rE1.mono t2).set i (d := .ref a) (v := .ref a) rfl, rm, h3 a, ⟨fun e2 m2 p σ2 H3 t3 r3 rm3 => ?_, ok.rt.mono tt, fun e2 m2 p σ2 H3 t3 r3 rm3 => ?_, fun e2 m2 p σ2 H3 t3 r3 rm3 => ?_, fun _ _ _ _ _ => ⟨fun _ _ z => z.elim⟩⟩⟩
        · exact ok.nx _ m2 p _ H3 (tt.trans t3) (r3.unset i) rm3
        · exact ok.bk _ m2 p _ H3 (tt.trans t3) (r3.unset i) rm3
        · exact ok.ct _ m2 p _ H3 (tt.trans t3) (r3.unset i) rm3
      · subst hb0
        exact (ok.xe e1 σ1 H1 t1 rE1).go y m1 hy' cls dd H2 t2 xr rm
end
/-! ### isinstance of the error in hand -/
def aIsE (isT : Addr → Addr → Option Bool) (a : Addr) (x : Xn) (i : Nat) (C : Addr) : AE := fun e m Q _ => e.g i = some (.ref a) ∧ ∃ b, isT x.cls C = some b ∧ Q (.bl b) m
theorem g_isE {X : Cx} {W : WX} {a C : Addr} {oe : Obj} {x : Xn} {pn : List (Addr × Obj)} {isT : Addr → Addr → Option Bool} {i : Nat} {n z : Str} {p1 p2 p3 pos : Pos} (hz : Zc (.ref x.cls) none oe) (hf : ∃ vs, oe.data = .fields vs) (his : ∀ a1 a2 b, isT a1 a2 = some b → PySem.W.kitOne X.K (.ref a1) (.ref a2) = some b ∧ ExcC X.K a1)
    (hm : X.mg "isinstance" = none) (hgz : X.mg z = some (.ref C)) (hN : X.N[i]? = some n := by rfl) (hv : Vis X.env.scope n := by first | exact .inl rfl | exact .inr (.inl rfl)) (hg : Gl X "isinstance" := by rfl) (hgl : Gl X z := by rfl) (hn1 : (n == ("__debug__" : Str)) = false := by decide) (hn2 : (n == ("__classdict__" : Str)) = false := by decide) (hz1 : (z == ("__debug__" : Str)) = false := by decide)
    (he : starEach [.Name n p2, .Name z p3] X.env = (false, eval (.Name n p2) X.env) :: starEach [.Name z p3] X.env := by rfl) (he2 : starEach [.Name z p3] X.env = (false, eval (.Name z p3) X.env) :: starEach [] X.env := by rfl) (hpl : (backTo pos (starEach [.Name z p3] X.env)).any (·.1) = false := by rfl) :
    GE (X.suite a ((a, oe) :: pn)) W (.Call (.Name "isinstance" p1) [.Name n p2, .Name z p3] [] pos) (aIsE isT a x i C) := by
  refine ⟨fun pins s σ H Q I h => ?_⟩
  obtain ⟨e, m, P, R, rE, rM, ⟨hi, b, hb, t⟩, q, w⟩ := h
  obtain ⟨hk, hE⟩ := his _ _ _ hb
  obtain ⟨v, h1, h2⟩ := rE.get hi
  obtain rfl : v = .ref a := h2
  have ha : PA (X.suite a ((a, oe) :: pn)) [.Name n p2, .Name z p3] (tCons (tVar i) (tCons (tC (.ref C)) tNil)) := pa_cons (pe_var hN hv hn1 hn2) (pa_cons (pe_glob hgl hgz rfl hz1) pa_nil he2) he
  refine (pe_callB (call_isE (D := x.cls) hE hz hf) hg hm (by decide +kernel) ha (by decide) (by decide) he hpl).run pins s σ H Q I ?_
  refine ⟨.ref a, h1, ?_⟩
  exact ⟨.ref C, .ref C, b, rfl, fun u r => r, hk, q _ m t _ H (Tx.refl H) rfl rM⟩
/-! ### l.count(b), bools -/
def eqb (k : Bool) : Value → Bool
  | .bool c => c == k
  | _ => false
theorem bools_of : ∀ {bs : List Bool} {us : List Value}, Vals (bs.map V.bl) us → us = bs.map Value.bool
  | [], us, r => by
    rw [List.map_nil] at r
    cases r
    rfl
  | b :: bs, us, r => by
    rw [List.map_cons] at r
    cases r with
    | cons h t =>
      rw [List.map_cons, ← bools_of t]
      congr 1
def rCountB (K : PySem.W.Frag) : V → List V → Hp → VK → Prop := fun x xs H Q => ∃ (p : Addr) (bs : List Bool) (k : Bool), x = .ref p ∧ xs = [.bl k] ∧ SqL K H p (bs.map V.bl) ∧ Q (.int (bs.count k : Nat)) H
theorem count_eqb (k : Bool) : ∀ bs : List Bool, (bs.map Value.bool).countP (eqb k) = bs.count k
  | [] => rfl
  | b :: bs => by
    rw [List.map_cons, List.countP_cons, List.count_cons, count_eqb k bs]
    rfl
theorem mt_countB {X : Cx} : MtR X "list.count" (rCountB X.K) := by
  intro pins s σ H x xs v us Q I rx rxs h
  obtain ⟨p, bs, k, rfl, rfl, hs, q⟩ := h
  cases rx
  obtain ⟨u, rfl, ru⟩ := rxs.one
  obtain rfl : u = .bool k := ru
  obtain ⟨its, rv, ⟨⟨cls, dd, data, sl⟩, n, ho, hc, hdn, hd⟩, hlen⟩ := I.list hs
  simp only at hc hd
  subst hc hd
  have hi := bools_of rv
  subst hi
  refine call_meets PySem.F.slot_list_count ⟨_, ho, rfl⟩ PySem.F.entry_list_count (PySem.F.args_list_count_2 _ _) (SeqAt.list_countAt p _ n dd sl (.bool k) (eqb k)) ⟨ho, fun y hy => ?_, ?_⟩
  · have hy' : y ∈ bs.map Value.bool := by simpa using hy
    obtain ⟨c, _, rfl⟩ := List.mem_map.mp hy'
    exact SeqAt.EqAt.bool_bool c k
  · have e0 : (bs.map Value.bool).toArray.toList.countP (eqb k) = bs.count k := count_eqb k bs
    refine ⟨.int (bs.count k : Nat), H, I.tok _, ⟨s.toks, ?_⟩, q⟩
    rw [e0]
def bitsD : List D → Option (List Bool)
  | [] => some []
  | .bl b :: r => (bitsD r).map (b :: ·)
  | _ :: _ => none
theorem bitsD_reps {K : PySem.W.Frag} {H : Hp} : ∀ {ds : List D} {bs : List Bool} {vs : List V}, bitsD ds = some bs → Reps K H ds vs → vs = bs.map V.bl
  | [], bs, vs, e, r => by cases e; exact r
  | .bl b :: ds, bs, vs, e, ⟨x, r, ex, hx, hr⟩ => by
    have e' : (bitsD ds).map (b :: ·) = some bs := e
    cases q : bitsD ds with
    | none => rw [q] at e'; cases e'
    | some cs =>
      rw [q] at e'
      cases e'
      rw [ex, show x = .bl b from hx, bitsD_reps q hr]
      rfl
  | .non :: _, _, _, e, _ => by cases e
  | .int _ :: _, _, _, e, _ => by cases e
  | .str _ :: _, _, _, e, _ => by cases e
  | .tup _ :: _, _, _, e, _ => by cases e
  | .fls _ :: _, _, _, e, _ => by cases e
  | .ref _ :: _, _, _, e, _ => by cases e
  | .ty _ :: _, _, _, e, _ => by cases e
def aCount (to ta : AE) : AE := fun e m Q R => to e m (fun o m1 => match o with
  | .ref a => (match m1.l a with
    | some _ => ta e m1 (fun d m2 => match d, m2.l a with
      | .bl k, some ds => (match bitsD ds with
        | some bs => Q (.int (bs.count k : Nat)) m2
        | none => False)
      | _, _ => False) R
    | none => False)
  | _ => False) R
theorem g_count {X : Cx} {W : WX} {o a : Expr} {to ta : AE} {apos cpos : Pos} (ho : GE X W o to) (ha : GE X W a ta) (hbase : attributeBase o "count" X.env (eval o X.env) = eval o X.env := by rfl)
    (hfew : ((backTo cpos (starEach [a] X.env)).all (fun x => !x.1) && (backToKw cpos (keywordEach [] X.env)).all (fun x => x.1.isSome)
      && decide ([a].length + ([] : List Keyword).length + (if ([] : List Keyword).isEmpty then 0 else 1) < 30)) = true := by rfl)
    (hline : (apos.endLine == cpos.line) = true := by rfl) (hs : starEach [a] X.env = (false, eval a X.env) :: starEach [] X.env := by rfl) (hplain : (backTo cpos (starEach [] X.env)).any (·.1) = false := by rfl) :
    GE X W (.Call (.Attribute o "count" apos) [a] [] cpos) (aCount to ta) := pe_imp (pe_bm PySem.F.plainAttrs_list PySem.F.slot_list_count PySem.F.type_list_count mt_countB ho (pa_cons ha pa_nil hs) hbase hfew hline hs hplain) fun σ H Q h => by
  obtain ⟨e, m, P, R, rE, rM, t, q, w⟩ := h
  refine ⟨e, m, _, R, rE, rM, t, fun d m1 h1 v H1 t1 r1 rm1 => ?_, w⟩
  cases d with
  | ref b =>
    obtain rfl : v = .ref b := r1
    have h1' : (match m1.l b with | some _ => ta e m1 (fun d m2 => match d, m2.l b with | .bl k, some ds => (match bitsD ds with | some bs => P (.int (bs.count k : Nat)) m2 | none => False) | _, _ => False) R | none => False) := h1
    cases e1 : m1.l b with
    | none => rw [e1] at h1'; exact h1'.elim
    | some ds1 =>
      rw [e1] at h1'
      obtain ⟨xs1, hx1, _⟩ := rm1 b _ (M.l_of e1)
      refine ⟨.inl ⟨rfl, _, SqL.of hx1⟩, e, m1, _, R, rE.mono t1, rm1, h1', fun d2 m2 h2 v2 H2 t2 r2 rm2 => ?_, w.mono t1⟩
      cases d2 with
      | bl k =>
        obtain rfl : v2 = .bl k := r2
        have h2' : (match m2.l b with | some ds => (match bitsD ds with | some bs => P (.int (bs.count k : Nat)) m2 | none => False) | none => False) := by
          cases e2 : m2.l b with
          | none => simp only [e2] at h2
          | some ds => simp only [e2] at h2; exact h2
        cases e2 : m2.l b with
        | none => rw [e2] at h2'; exact h2'.elim
        | some ds =>
          rw [e2] at h2'
          obtain ⟨xs, hx, hr⟩ := rm2 b _ (M.l_of e2)
          cases e3 : bitsD ds with
          | none => simp only [e3] at h2'
          | some bs =>
            simp only [e3] at h2'
            have ev := bitsD_reps e3 hr
            subst ev
            exact ⟨b, bs, k, rfl, rfl, SqL.of hx, q _ m2 h2' _ H2 (t1.trans t2) rfl rm2⟩
      | _ => exact h2.elim
  | _ => exact h1.elim
end Ab

set_option Elab.async false
set_option linter.all false
set_option maxRecDepth 100000
set_option maxHeartbeats 2000000
namespace Ab
open PySem PySem.Spec PyProof.Rows L2
/-! ### what a text with errors and lambdas asks of its surroundings -/
structure Pm where
  cA : Str → Addr
  mt : Addr → Option Bool
  isT : Addr → Addr → Option Bool
  L : Nat → LSyn
  P : Addr
  sc : Scope
  Pt : Addr
  fld : Addr → Str → Bool := fun _ _ => false
structure PmOk (p : Pm) (errs : List Str) (N : List Str) (cs : List (List Str × List Nat)) (q : Str) : Prop where
  mt : ∀ n ∈ errs, p.mt (p.cA n) = some true
  isT : ∀ n ∈ errs, ∀ k ∈ errs, p.isT (p.cA n) (p.cA k) = some (decide (n = k))
  cap : ∀ (j : Nat) (c : List Str × List Nat), cs[j]? = some c → CapOk N p.sc (p.L j) c.1 c.2
  qual : ∀ j, j < cs.length → (p.L j).qual = q
/-- the lambda in a statement o.append(lambda: ..) -/
def lamAt (st : Stmt) (q : Str) : LSyn := match st with
  | .Expr (.Call _ [.Lambda ps b sc _] _ _) _ => ⟨ps, b, sc, q⟩
  | _ => ⟨{ posonlyargs := [], args := [], vararg := none, kwonlyargs := [], kw_defaults := [], kwarg := none, defaults := [] }, .Constant .none 0 ⟨0, 0, 0, 0⟩, { kind := .function, names := [], isGenerator := false, isCoroutine := false, more := [] }, q⟩
def capB (N : List Str) (sc : Scope) (L : LSyn) (ys : List Str) (cap : List Nat) : Bool :=
  decide (cap.length = ys.length) && (List.range ys.length).all (fun i => match ys[i]?, cap[i]? with
    | some y, some j => decide (N[j]? = some y) && decide (sc.names.lookup y = some .cell)
    | _, _ => false) && L.scope.names.all (fun y => !decide (y.2 = .free) || decide (y.1 ∈ ys)) && ys.all fun y => decide ((y, NameKind.free) ∈ L.scope.names)
theorem capOk_of {N : List Str} {sc : Scope} {L : LSyn} {ys : List Str} {cap : List Nat} (h : capB N sc L ys cap = true) : CapOk N sc L ys cap := by
  unfold capB at h
  simp only [Bool.and_eq_true] at h
  obtain ⟨⟨⟨h1, h2⟩, h3⟩, h4⟩ := h
  refine ⟨of_decide_eq_true h1, fun i y hi => ?_, fun y hy hf => ?_, fun y hy => of_decide_eq_true (List.all_eq_true.mp h4 y hy)⟩
  · have q := List.all_eq_true.mp h2 i (List.mem_range.mpr (List.getElem?_eq_some_iff.mp hi).1)
    rw [hi] at q
    cases e : cap[i]? with
    | none => rw [e] at q; cases q
    | some j =>
      rw [e] at q
      simp only [Bool.and_eq_true] at q
      exact ⟨j, rfl, of_decide_eq_true q.1, of_decide_eq_true q.2⟩
  · have q := List.all_eq_true.mp h3 y hy
    rw [hf] at q
    simpa using q
def lscB (L : LSyn) (ys : List Str) : Bool := decide (L.scope.kind = .function) && (!L.scope.isCoroutine && (!L.scope.isGenerator && L.scope.names.all fun y => !decide (y.2 = .local) && (!decide (y.2 = .cell) && (!decide (y.2 = .free) || decide (y.1 ∈ ys)))))
theorem lsc_of {L : LSyn} {ys : List Str} (h : lscB L ys = true) (hb : ∀ (cl : List (Str × Addr)) (pm cv ctv : Value), bindArgs (PySem.W.kla_fn "<lambda>" L.qual L.params L.body L.scope cl pm cv ctv) ⟨[], []⟩ = pure []) : LSc L ys := by
  unfold lscB at h
  simp only [Bool.and_eq_true, Bool.not_eq_true'] at h
  obtain ⟨h1, h2, h3, h4⟩ := h
  have key : ∀ y ∈ L.scope.names, y.2 ≠ .local ∧ y.2 ≠ .cell ∧ (y.2 = .free → y.1 ∈ ys) := fun y hy => by
    have q := List.all_eq_true.mp h4 y hy
    simp only [Bool.and_eq_true, Bool.not_eq_true', Bool.or_eq_true, decide_eq_false_iff_not, decide_eq_true_eq] at q
    exact ⟨q.1, q.2.1, fun e => q.2.2.resolve_left fun z => z e⟩
  exact ⟨of_decide_eq_true h1, h2, h3, fun y hy => ⟨(key y hy).1, (key y hy).2.1⟩, fun y hy => (key y hy).2.2, hb⟩
/-! ### the facts of the head -/
section
variable {K : PySem.W.Frag} {h : Heap} {mg : Str → Option Value}
theorem err_of (X : K.In h) (G : h.Ns mainGlobals mg) {x : Str} (c : (He.Fa.glo x).ok K = true) (e : (He.Fa.exc x).ok K = true) : ErrK K mg x (He.ga K x) :=
  let ⟨a, b, d, f⟩ := He.exc_ok e; ⟨He.glo_ok X G c, a, b, d, f⟩
def excCB (K : PySem.W.Frag) (D : Addr) : Bool := He.eqO (PySem.W.findIn K (.ref D) "__getattribute__") (some (some (.builtin "BaseException.__getattribute__"))) && (He.eqO (PySem.W.findIn K (.ref D) "__getattr__") (some none) && (decide (PySem.W.subIn K (.ref D) (.type "BaseException") = some true) && (PySem.W.hasDictIn K D &&
  (He.eqO (PySem.W.findIn K (.ref D) "__class__") (some (some (.builtin "object.__class__"))) && (He.eqO (PySem.W.specialIn K (.builtin "object.__class__") "__get__") (some (some (.builtin "getset_descriptor.__get__"))) && (decide (PySem.W.takesIn K (.builtin "object.__class__") = some true) && decide (PySem.W.mroIn K D (.type "object") = some true)))))))
theorem excC_of {D : Addr} (h : excCB K D = true) : ExcC K D := by
  unfold excCB at h
  simp only [Bool.and_eq_true, decide_eq_true_eq] at h
  obtain ⟨h1, h2, h3, h4, h5, h6, h7, h8⟩ := h
  exact ⟨He.eqO_ok h1, He.eqO_ok h2, h3, h4, He.eqO_ok h5, He.eqO_ok h6, h7, h8⟩
def isTK (K : PySem.W.Frag) : Addr → Addr → Option Bool := fun a b => if excCB K a = true then PySem.W.kitOne K (.ref a) (.ref b) else none
theorem isTK_ok : ∀ a1 a2 b, isTK K a1 a2 = some b → PySem.W.kitOne K (.ref a1) (.ref a2) = some b ∧ ExcC K a1 := fun a1 a2 b e => by
  unfold isTK at e
  by_cases c : excCB K a1 = true
  · rw [if_pos c] at e; exact ⟨e, excC_of c⟩
  · rw [if_neg c] at e; cases e
def mtK (K : PySem.W.Frag) (x : Str) : Addr → Option Bool := fun a => PySem.W.exmOne K (.ref a) (.ref (He.ga K x))
/-- the errors are told apart -/
def errsB (K : PySem.W.Frag) (errs : List Str) (x : Str) : Bool := errs.all fun n => decide (mtK K x (He.ga K n) = some true) && errs.all fun k => decide (isTK K (He.ga K n) (He.ga K k) = some (decide (n = k)))
theorem errs_of {errs : List Str} {x : Str} (h : errsB K errs x = true) : (∀ n ∈ errs, mtK K x (He.ga K n) = some true) ∧ ∀ n ∈ errs, ∀ k ∈ errs, isTK K (He.ga K n) (He.ga K k) = some (decide (n = k)) := by
  unfold errsB at h
  have q := List.all_eq_true.mp h
  refine ⟨fun n hn => ?_, fun n hn k hk => ?_⟩
  · have z := q n hn
    simp only [Bool.and_eq_true] at z
    exact of_decide_eq_true z.1
  · have z := q n hn
    simp only [Bool.and_eq_true] at z
    exact of_decide_eq_true (List.all_eq_true.mp z.2 k hk)
theorem look_mem : ∀ (l : List (Addr × Str)) (p : Addr) (q : Str), l.lookup p = some q → (p, q) ∈ l
  | [], _, _, e => by cases e
  | (a, z) :: l, p, q, e => by
    rw [List.lookup_cons] at e
    by_cases c : p = a
    · subst c
      simp at e
      subst e
      exact List.mem_cons_self
    · rw [show (p == a) = false from beq_eq_false_iff_ne.mpr c] at e
      exact List.mem_cons_of_mem _ (look_mem l p q e)
/-- the law's promise, tables of lambdas among the given ones -/
theorem law_sp2 {sp : ASp} {ts : List Addr} {tl : List (Addr × Str)} {H : Hp} {a : Addr} {ns : List Int} (h : ∀ m : M, (∀ p ∈ tl, m p.1 = some (.ltab p.2)) → (∀ p ∈ ts, (∀ z ∈ tl, z.1 ≠ p) → m p = some .tab) → sp [.fls (ns.map D.int)] m (fun d _ => d = .bl true) fun _ _ => False)
    (hd : ∀ p ∈ tl, tl.lookup p.1 = some p.2) (hT : ∀ p ∈ ts, H p = some (.tbl #[])) (hL : ∀ p ∈ tl, p.1 ∈ ts) (hS : SqL K H a (ns.map V.int)) : spF K (lSp K 1 sp) [.ref a] H (fun v _ => v = .bl true) fun _ _ _ => False := by
  have lk : ∀ {l : List (Addr × Str)} {p : Addr} {q : Str}, l.lookup p = some q → (p, q) ∈ l := fun {l p q} => look_mem l p q
  have go : ∀ H' : Hp, (∀ p ∈ ts, H' p = some (.tbl #[])) → FrL K H' a (ns.map V.int) → lSp K 1 sp [.ref a] H' (fun v _ => v = .bl true) fun _ _ _ => False := fun H' hT' hF => by
    refine ⟨[.fls (ns.map D.int)], fun p => match tl.lookup p with | some q => some (.ltab q) | none => if p ∈ ts then some .tab else none, _, _, rfl, ⟨_, _, rfl, ⟨a, _, rfl, hF, Reps.of_ints ns⟩, rfl⟩, fun p o e => ?_, h _ (fun p hp => by show (match tl.lookup p.1 with | some q => some (O.ltab q) | none => _) = _; rw [hd p hp]) (fun p hp hn => ?_), fun d m' e v H2 _ r _ => by subst e; exact r, ⟨fun _ _ z => z.elim⟩⟩
    · have e : (match tl.lookup p with | some q => some (O.ltab q) | none => if p ∈ ts then some .tab else none) = some o := e
      cases eq : tl.lookup p with
      | some q =>
        rw [eq] at e
        cases e
        refine ⟨#[], hT' p (hL (p, q) (lk eq)), by simp [TriplesOk], fun pos cv hc => ?_⟩
        simp [codeAmong] at hc
      | none =>
        rw [eq] at e
        replace e : (if p ∈ ts then some O.tab else none) = some o := e
        by_cases hp : p ∈ ts
        · rw [if_pos hp] at e
          cases e
          exact ⟨#[], hT' p hp, by simp [TriplesOk]⟩
        · rw [if_neg hp] at e
          cases e
    · show (match tl.lookup p with | some q => some (O.ltab q) | none => if p ∈ ts then some O.tab else none) = _
      cases eq : tl.lookup p with
      | some q => exact absurd rfl (hn (p, q) (lk eq))
      | none => exact if_pos hp
  rcases hS with (hS | ⟨o, hS⟩) | hS
  · refine ⟨a, _, rfl, .inr ⟨hS, fun o => go _ (fun p hp => ?_) (.inl ⟨o, upd_same⟩)⟩⟩
    rw [upd_ne fun z => by rw [← z, hT p hp] at hS; cases hS]
    exact hT p hp
  · exact ⟨a, _, rfl, .inl ⟨.inl ⟨o, hS⟩, go H hT (.inl ⟨o, hS⟩)⟩⟩
  · exact ⟨a, _, rfl, .inl ⟨.inr hS, go H hT (.inr hS)⟩⟩
end
end Ab

set_option Elab.async false
set_option linter.all false
set_option maxRecDepth 100000
set_option maxHeartbeats 2000000
namespace Ab
open PySem PySem.Spec PyProof.Rows L2
/-! ### an error with one field: its class's __init__(self, v) stores v -/
def initSp (K : PySem.W.Frag) (C : Addr) (f : Str) : Sp := fun vs H Q E => ∃ a v, vs = [.ref a, v] ∧ OexC K C ∧ PySem.W.findIn K (.ref C) f = some none ∧ H a = some (exo a C none) ∧ ∀ dx, H dx = none → dx ≠ a → Q .non (upd (upd H dx (exd dx [(f, v)])) a (exo a C (some dx)))
section
variable {P : Program} {w : World} {K : PySem.W.Frag} {mg : Str → Option Value} {base : Heap}
theorem fn_init {q f s0 s1 : Str} {params : Arguments} {body : List Stmt} {scope : Scope} {fI C : Addr} {fd : FuncData} (F : FunD K "__init__" q params body scope [] [] fI fd) (S : FnScope [s0, s1] [s0, s1] scope)
    (hb : ∀ (cdv : Value) (A : Around) (outer : List Env) (s : Shared) (H : Hp) (E : XK), PSs (cxOf (L2.CX P w) P w K mg base [s0, s1] q scope fI cdv A outer s H E) body (tOst K f (tVar 0) (tVar 1))) :
    FnOk P w K mg base (L2.CX P w) 1 fI fd [s0, s1] (initSp K C f) := by
  refine F.ok S (fun vs H Q E h => ?_) (fun cdv A outer s H vs Q E hr h => ⟨_, hb cdv A outer s H E, ?_⟩)
  · obtain ⟨a, v, rfl, _⟩ := h
    rfl
  · obtain ⟨a, v, rfl, T, hno, ea, q⟩ := h
    exact ⟨v, rfl, .ref a, rfl, a, C, rfl, T, hno, .inl ⟨ea, fun dx h1 h2 => q dx h1 h2⟩⟩
structure ErrF (P : Program) (w : World) (K : PySem.W.Frag) (mg : Str → Option Value) (base : Heap) (x : Str) (C : Addr) (f : Str) : Prop where
  glo : mg x = some (.ref C)
  T : OexC K C
  no : PySem.W.findIn K (.ref C) f = some none
  ini : ∃ (fI : Addr) (fd : FuncData) (ps : List Str), PySem.W.findIn K (.ref C) "__init__" = some (some (.ref fI)) ∧ PySem.W.typeIn K (.ref fI) = some (.type "function") ∧ FnOk P w K mg base (L2.CX P w) 1 fI fd ps (initSp K C f) ∧ Binds K fd ps []
end
def aRaiseF (C : Addr) (f : Str) (ta : AA) : AS := fun A e m => ta e m (fun ds m1 => match ds with
  | [d] => A.xe e ⟨C, [(f, d)]⟩ m1
  | _ => False) (A.xe e)
section
variable {X : Cx} {W : WX}
theorem s_raiseF {x f : Str} {C : Addr} {e : Expr} {es : List Expr} {ta : AA} {p pos pos' : Pos} (F : ErrF X.prog X.w X.K X.mg X.base x C f) (tk : Takes X W) (hr : Room 2 X.A) (ha : GA X W (e :: es) ta) (hx : Passes (L2.CX X.prog X.w) X (fun _ _ _ => False)) (hc : X.calm = true := by rfl) (hg : Gl X x := by rfl) (hdb : (x == ("__debug__" : Str)) = false := by decide)
    (he : starEach (e :: es) X.env = (false, eval e X.env) :: starEach es X.env := by rfl) (hpl : (backTo pos (starEach es X.env)).any (·.1) = false := by rfl) : GS X W (.Raise (some (.Call (.Name x p) (e :: es) [] pos)) none pos') (aRaiseF C f ta) := by
  obtain ⟨fI, fd, ps, iC, tI, F1, hb⟩ := F.ini
  refine ps_imp (ps_raise hc tk (pmk_oex (dvs := []) F.T iC tI F1 hr hb .nil hx hg F.glo ha hdb he hpl)) fun D σ H h => ?_
  obtain ⟨e, m, A, rE, rM, t, ok⟩ := h
  refine ⟨e, m, _, _, rE, rM, t, fun ds m1 h1 vs H1 t1 r1 rm1 => ?_, ok.xe e σ H (Tx.refl H) rE⟩
  match ds, h1, r1 with
  | [d], h1, r1 =>
    obtain ⟨v, r', e1, rv, e2⟩ := r1
    obtain rfl : r' = [] := e2
    subst e1
    refine ⟨by simp, fun a ha => ⟨a, v, rfl, F.T, F.no, upd_same, fun dx hd hne => ⟨rfl, dx, [(f, v)], upd_same, by rw [upd_ne hne]; exact upd_same, ?_, ?_⟩⟩⟩
    · rw [upd_ne hne] at hd; exact hd
    · rw [upd_ne hne] at hd
      have keep : ∀ b u, H1 b = some u → (upd (del (upd (upd (upd H1 a (exo a C none)) dx (exd dx [(f, v)])) a (exo a C (some dx))) a) dx (.xd [(f, v)])) b = some u := fun b u hb => by
        have n1 : b ≠ dx := fun z => by rw [z, hd] at hb; cases hb
        have n2 : b ≠ a := fun z => by rw [z, ha] at hb; cases hb
        rw [upd_ne n1, del_ne n2, upd_ne n2, upd_ne n1, upd_ne n2]
        exact hb
      have tt : Tx H1 (upd (del (upd (upd (upd H1 a (exo a C none)) dx (exd dx [(f, v)])) a (exo a C (some dx))) a) dx (.xd [(f, v)])) := ⟨fun b xs hb => keep b _ hb, fun b o u hb => keep b _ hb⟩
      refine (ok.xe e σ H (Tx.refl H) rE).go ⟨C, [(f, d)]⟩ m1 h1 _ _ _ (t1.trans tt) ⟨rfl, dx, [v], rfl, upd_same, ⟨v, [], rfl, rv.mono tt, rfl⟩⟩ fun b o ho => (rm1 b o ho).move tt fun u hu => keep b u hu
end
/-! ### the catch, fields and all -/
theorem RelM.setX {K : PySem.W.Frag} {H : Hp} {m : M} {d : Addr} {fs : List (Str × D)} {vs : List V} (r : RelM K H m) (h : H d = some (.xd ((fs.map (·.1)).zip vs))) (z : Reps K H (fs.map (·.2)) vs) : RelM K H (mset m d (.xd fs)) := fun a u e => by
  by_cases hb : a = d
  · subst hb
    rw [mset_same] at e; cases e
    exact ⟨vs, h, z⟩
  · rw [mset_ne hb] at e
    exact r a u e
theorem xd_only {K : PySem.W.Frag} {H : Hp} {m : M} {d : Addr} {g : List (Str × V)} (r : RelM K H m) (h : H d = some (.xd g)) : ∀ o, m d = some o → ∃ fs, o = .xd fs := fun o e => by
  have q := r d o e
  cases o with
  | xd fs => exact ⟨fs, rfl⟩
  | lst ds => obtain ⟨_, q, _⟩ := q; rw [h] at q; cases q
  | tab => obtain ⟨_, q, _⟩ := q; rw [h] at q; cases q
  | dic ps => obtain ⟨_, q, _⟩ := q; rw [h] at q; cases q
  | ltab s => obtain ⟨_, q, _⟩ := q; rw [h] at q; cases q
  | fn L ys cap cl => obtain ⟨_, _, _, q, _⟩ := q; rw [h] at q; cases q
  | clo L ys ds => obtain ⟨_, _, ⟨_, _, _, q, _⟩, _⟩ := q; rw [h] at q; cases q
  | opq => obtain ⟨_, _, q, _⟩ := q; rw [h] at q; cases q
def aTryX (mt : Addr → Option Bool) (i : Nat) (tb : AS) (ts : Addr → Xn → Option Addr → AS) : AS := fun A e m => tb { A with xe := fun e1 x m1 => match mt x.cls with
  | some true => ∀ a, (x.fs = [] → ts a x none { nx := fun e2 m2 => A.nx (e2.x i) m2, rt := A.rt, bk := fun e2 m2 => A.bk (e2.x i) m2, ct := fun e2 m2 => A.ct (e2.x i) m2, xe := fun _ _ _ => False } (e1.s i (.ref a)) m1) ∧
      (x.fs ≠ [] → ∀ d, (∀ o, m1 d = some o → ∃ fs, o = .xd fs) → ts a x (some d) { nx := fun e2 m2 => A.nx (e2.x i) m2, rt := A.rt, bk := fun e2 m2 => A.bk (e2.x i) m2, ct := fun e2 m2 => A.ct (e2.x i) m2, xe := fun _ _ _ => False } (e1.s i (.ref a)) (mset m1 d (.xd x.fs)))
  | some false => A.xe e1 x m1
  | none => False } e m
theorem s_tryX {X : Cx} {W : WX} {x n : Str} {c : Value} {i : Nat} {body suite : List Stmt} {b₀ : Stmt} {np pos pos' : Pos} {mt : Addr → Option Bool} {tb : AS} {ts : Addr → Xn → Option Addr → AS} (hs : X.stack = X.env :: X.outer) (hf : X.env.frame = some X.env.locals) (hN : X.N.Nodup) (hc : Names X x c) (tk : Takes X W)
    (hmt : ∀ a b, mt a = some b → PySem.W.exmOne X.K (.ref a) c = some b)
    (hb : ∀ (W' : WX) (pn : List (Addr × Obj)) (xe : Value → Shared → Prop), Takes (X.tr pn xe) W' → PassesOwn (model X.prog X.w) X.A X.env xe → GSs (X.tr pn xe) W' body tb)
    (hsu : ∀ (a : Addr) (oe : Obj) (x : Xn) (d : Option Addr) (pn : List (Addr × Obj)), Zc (.ref x.cls) d oe → (∃ vs, oe.data = .fields vs) → GSs (X.suite a ((a, oe) :: pn)) W0 (b₀ :: suite) (ts a x d))
    (hi : X.N[i]? = some n := by rfl) (hln : X.env.kindOf n = some .local := by rfl) : GS X W (.Try body [.ExceptHandler (some (.Name x np)) (some n) (b₀ :: suite) pos'] [] [] pos) (aTryX mt i tb ts) :=
  ps_imp (ps_try_as (tb := fun W' => lS X.K W' tb) (ts := fun a cls d D σ H => ∃ y : Xn, cls = .ref y.cls ∧ lS X.K W0 (ts a y d) D σ H) hs hf hN hi hln hc tk hb fun a oe cls d pn hz hd => ⟨fun pins s σ H D I h => by
      obtain ⟨y, rfl, h⟩ := h
      exact (hsu a oe y d pn hz hd).run pins s σ H D I h⟩) fun D σ H h => by
    obtain ⟨e, m, A, rE, rM, t, ok⟩ := h
    refine ⟨e, m, _, rE, rM, t, ⟨ok.nx, ok.rt, ok.bk, ok.ct, fun e1 σ1 H1 t1 rE1 => ⟨fun y m1 hy cls dd H2 t2 xr rm => ?_⟩⟩⟩
    have hy' : (match mt y.cls with
      | some true => ∀ a, (y.fs = [] → ts a y none { nx := fun e2 m2 => A.nx (e2.x i) m2, rt := A.rt, bk := fun e2 m2 => A.bk (e2.x i) m2, ct := fun e2 m2 => A.ct (e2.x i) m2, xe := fun _ _ _ => False } (e1.s i (.ref a)) m1) ∧
          (y.fs ≠ [] → ∀ d, (∀ o, m1 d = some o → ∃ fs, o = .xd fs) → ts a y (some d) { nx := fun e2 m2 => A.nx (e2.x i) m2, rt := A.rt, bk := fun e2 m2 => A.bk (e2.x i) m2, ct := fun e2 m2 => A.ct (e2.x i) m2, xe := fun _ _ _ => False } (e1.s i (.ref a)) (mset m1 d (.xd y.fs)))
      | some false => A.xe e1 y m1
      | none => False) := hy
    obtain ⟨ec, ed⟩ := id xr
    cases em : mt y.cls with
    | none => rw [em] at hy'; exact hy'.elim
    | some b =>
      rw [em] at hy'
      refine ⟨b, by rw [ec]; exact hmt _ _ em, fun hb1 a na => ?_, fun hb0 => ?_⟩
      · subst hb1
        have tt := t1.trans t2
        obtain ⟨h1, h2⟩ := hy' a
        cases hfs : y.fs with
        | nil =>
          rw [hfs] at ed
          have ed' : dd = none := ed
          subst ed'
          refine ⟨y, ec, _, m1, _, (rE1.mono t2).set i (d := .ref a) (v := .ref a) rfl, rm, h1 hfs, ⟨fun e2 m2 p σ2 H3 t3 r3 rm3 => ?_, ok.rt.mono tt, fun e2 m2 p σ2 H3 t3 r3 rm3 => ?_, fun e2 m2 p σ2 H3 t3 r3 rm3 => ?_, fun _ _ _ _ _ => ⟨fun _ _ z => z.elim⟩⟩⟩
          · exact ok.nx _ m2 p _ H3 (tt.trans t3) (r3.unset i) rm3
          · exact ok.bk _ m2 p _ H3 (tt.trans t3) (r3.unset i) rm3
          · exact ok.ct _ m2 p _ H3 (tt.trans t3) (r3.unset i) rm3
        | cons q fs =>
          rw [hfs] at ed
          have ed' : ∃ d vs, dd = some d ∧ H2 d = some (.xd (((q :: fs).map (·.1)).zip vs)) ∧ Reps X.K H2 ((q :: fs).map (·.2)) vs := ed
          obtain ⟨d, vs, e1', e2', e3'⟩ := ed'
          subst e1'
          refine ⟨y, ec, _, mset m1 d (.xd y.fs), _, (rE1.mono t2).set i (d := .ref a) (v := .ref a) rfl, rm.setX (by rw [hfs]; exact e2') (by rw [hfs]; exact e3'), h2 (by rw [hfs]; simp) d (xd_only rm e2'), ⟨fun e2 m2 p σ2 H3 t3 r3 rm3 => ?_, ok.rt.mono tt, fun e2 m2 p σ2 H3 t3 r3 rm3 => ?_, fun e2 m2 p σ2 H3 t3 r3 rm3 => ?_, fun _ _ _ _ _ => ⟨fun _ _ z => z.elim⟩⟩⟩
          · exact ok.nx _ m2 p _ H3 (tt.trans t3) (r3.unset i) rm3
          · exact ok.bk _ m2 p _ H3 (tt.trans t3) (r3.unset i) rm3
          · exact ok.ct _ m2 p _ H3 (tt.trans t3) (r3.unset i) rm3
      · subst hb0
        exact (ok.xe e1 σ1 H1 t1 rE1).go y m1 hy' cls dd H2 t2 xr rm
/-! ### isinstance of the error in hand, a field of it -/
theorem call_isX {X : Cx} {a D : Addr} {d : Option Addr} {oe : Obj} {pn : List (Addr × Obj)} (C : ExcC X.K D) (hz : Zc (.ref D) d oe) (hf : ∃ vs, oe.data = .fields vs) : CallR (X.suite a ((a, oe) :: pn)) (.builtin "isinstance") fun xs H Q => (∀ dd, d = some dd → ∃ g, H dd = some (.xd g)) ∧ rIsE X.K D a xs H Q := by
  intro pins s σ H xs us Q I r h
  obtain ⟨hx, c, cv, b, rfl, hcv, e, q⟩ := h
  cases r with
  | cons rx rr =>
    cases rr with
    | cons rt rr =>
      cases rr
      cases rx
      have ec := hcv _ rt
      subst ec
      obtain ⟨hget, _⟩ := I.pin (a, oe) (List.mem_append.mpr (.inl List.mem_cons_self))
      obtain ⟨vs, hv⟩ := hf
      have J : ∃ od, PySem.W.InstAt s.heap a oe D od := by
        obtain ⟨oc, od, oda, osl⟩ := oe
        obtain ⟨h1, h2⟩ := hz
        dsimp only at h1 h2 hv
        subst h1 h2 hv
        cases od with
        | none => exact ⟨none, hget, rfl, rfl, trivial⟩
        | some dd =>
          obtain ⟨g, hg⟩ := hx dd rfl
          obtain ⟨_, ⟨o, _, _, e, _⟩, _⟩ := (I.hok dd _ hg : ObjOk X.prog X.w H s.heap dd (.xd g))
          exact ⟨some o, hget, rfl, rfl, e⟩
      obtain ⟨od, J⟩ := J
      have hcl : (PySem.W.clsIn X.K D).isSome = true := by
        obtain ⟨cd, hc, _⟩ := PySem.W.any_some C.hd
        rw [hc]; rfl
      exact PySem.W.kia_one (PySem.W.kitx_exc hcl C.hg C.hk C.hs C.ha C.hn C.ht C.hm) I.kIn J e (fun z => nomatch z) fun tk => ⟨.bl b, H, I.kept (t' := tk) fun _ _ z => z, rfl, q⟩
def aIsX (isT : Addr → Addr → Option Bool) (a : Addr) (x : Xn) (d : Option Addr) (i : Nat) (C : Addr) : AE := fun e m Q _ => e.g i = some (.ref a) ∧ (∀ dd, d = some dd → ∃ fs, m dd = some (.xd fs)) ∧ ∃ b, isT x.cls C = some b ∧ Q (.bl b) m
theorem g_isX {X : Cx} {W : WX} {a C : Addr} {oe : Obj} {x : Xn} {d : Option Addr} {pn : List (Addr × Obj)} {isT : Addr → Addr → Option Bool} {i : Nat} {n z : Str} {p1 p2 p3 pos : Pos} (hz : Zc (.ref x.cls) d oe) (hf : ∃ vs, oe.data = .fields vs) (his : ∀ a1 a2 b, isT a1 a2 = some b → PySem.W.kitOne X.K (.ref a1) (.ref a2) = some b ∧ ExcC X.K a1)
    (hm : X.mg "isinstance" = none) (hgz : X.mg z = some (.ref C)) (hN : X.N[i]? = some n := by rfl) (hv : Vis X.env.scope n := by first | exact .inl rfl | exact .inr (.inl rfl) | exact .inr (.inr rfl)) (hg : Gl X "isinstance" := by rfl) (hgl : Gl X z := by rfl) (hn1 : (n == ("__debug__" : Str)) = false := by decide) (hn2 : (n == ("__classdict__" : Str)) = false := by decide) (hz1 : (z == ("__debug__" : Str)) = false := by decide)
    (he : starEach [.Name n p2, .Name z p3] X.env = (false, eval (.Name n p2) X.env) :: starEach [.Name z p3] X.env := by rfl) (he2 : starEach [.Name z p3] X.env = (false, eval (.Name z p3) X.env) :: starEach [] X.env := by rfl) (hpl : (backTo pos (starEach [.Name z p3] X.env)).any (·.1) = false := by rfl) :
    GE (X.suite a ((a, oe) :: pn)) W (.Call (.Name "isinstance" p1) [.Name n p2, .Name z p3] [] pos) (aIsX isT a x d i C) := by
  refine ⟨fun pins s σ H Q I h => ?_⟩
  obtain ⟨e, m, P, R, rE, rM, ⟨hi, hx, b, hb, t⟩, q, w⟩ := h
  obtain ⟨hk, hE⟩ := his _ _ _ hb
  obtain ⟨v, h1, h2⟩ := rE.get hi
  obtain rfl : v = .ref a := h2
  have ha : PA (X.suite a ((a, oe) :: pn)) [.Name n p2, .Name z p3] (tCons (tVar i) (tCons (tC (.ref C)) tNil)) := pa_cons (pe_var hN hv hn1 hn2) (pa_cons (pe_glob hgl hgz rfl hz1) pa_nil he2) he
  refine (pe_callB (call_isX (D := x.cls) (d := d) hE hz hf) hg hm (by decide +kernel) ha (by decide) (by decide) he hpl).run pins s σ H Q I ?_
  refine ⟨.ref a, h1, fun dd hd => ?_, .ref C, .ref C, b, rfl, fun u r => r, hk, q _ m t _ H (Tx.refl H) rfl rM⟩
  obtain ⟨fs, hm⟩ := hx dd hd
  obtain ⟨vs, e, _⟩ := rM dd _ hm
  exact ⟨_, e⟩
theorem zip_look {K : PySem.W.Frag} {H : Hp} {f : Str} {v : D} : ∀ {fs : List (Str × D)} {vs : List V}, Reps K H (fs.map (·.2)) vs → fs.lookup f = some v → ∃ u, ((fs.map (·.1)).zip vs).lookup f = some u ∧ Rep K H v u
  | [], _, _, e => by cases e
  | (g, d) :: fs, vs, ⟨x, r, e1, h, hr⟩, e => by
    subst e1
    rw [List.lookup_cons] at e
    show ∃ u, ((g, x) :: ((fs.map (·.1)).zip r)).lookup f = some u ∧ _
    rw [List.lookup_cons]
    by_cases c : f = g
    · subst c
      simp at e
      subst e
      exact ⟨x, by simp, h⟩
    · have c' : (f == g) = false := by simpa using c
      rw [c'] at e
      rw [c']
      exact zip_look hr e
def aFld (fld : Addr → Str → Bool) (a : Addr) (x : Xn) (d : Option Addr) (i : Nat) (f : Str) : AE := fun e m Q _ => e.g i = some (.ref a) ∧ fld x.cls f = true ∧ ∃ dd fs v, d = some dd ∧ m dd = some (.xd fs) ∧ fs.lookup f = some v ∧ Q v m
theorem g_fld {X : Cx} {W : WX} {a : Addr} {oe : Obj} {x : Xn} {d : Option Addr} {pn : List (Addr × Obj)} {fld : Addr → Str → Bool} {i : Nat} {n f : Str} {p1 pos : Pos} (hz : Zc (.ref x.cls) d oe) (hf : ∃ vs, oe.data = .fields vs) (hfl : ∀ C g, fld C g = true → XfC X.K C ∧ PySem.W.findIn X.K (.ref C) g = some none)
    (hok : fld x.cls f = true → True) (hN : X.N[i]? = some n := by rfl) (hv : Vis X.env.scope n := by first | exact .inl rfl | exact .inr (.inl rfl) | exact .inr (.inr rfl)) (hn1 : (n == ("__debug__" : Str)) = false := by decide) (hn2 : (n == ("__classdict__" : Str)) = false := by decide)
    (hb : attributeBase (.Name n p1) f X.env (eval (.Name n p1) X.env) = eval (.Name n p1) X.env := by rfl) :
    GE (X.suite a ((a, oe) :: pn)) W (.Attribute (.Name n p1) f pos) (aFld fld a x d i f) := by
  refine ⟨fun pins s σ H Q I h => ?_⟩
  obtain ⟨e, m, P, R, rE, rM, ⟨hi, hfl', dd, fs, v, ed, hm, hl, t⟩, q, w⟩ := h
  obtain ⟨T, hno⟩ := hfl _ _ hfl'
  obtain ⟨u, h1, h2⟩ := rE.get hi
  obtain rfl : u = .ref a := h2
  refine (pe_xf (te := tVar i) T hno hz hf (pe_var hN hv hn1 hn2) hb).run pins s σ H Q I ?_
  obtain ⟨vs, e1, e2⟩ := rM dd _ hm
  obtain ⟨y, l1, l2⟩ := zip_look e2 hl
  exact ⟨.ref a, h1, rfl, rfl, dd, _, y, ed, e1, l1, q v m t _ H (Tx.refl H) l2 rM⟩
end Ab

set_option Elab.async false
set_option linter.all false
set_option maxRecDepth 100000
set_option maxHeartbeats 2000000
namespace Ab
open PySem PySem.Spec PyProof.Rows L2
/-! ### facts of the head: errors with a field -/
section
variable {K : PySem.W.Frag} {h : Heap} {mg : Str → Option Value}
def oexB (K : PySem.W.Frag) (C : Addr) : Bool := (match K.lookup C with
  | some ⟨.type "type", _, .cls cd, sl⟩ => (match cd.mro, sl.toList with
    | .ref C' :: bm, [_, _, _, _, some (.builtin n), _] => decide (C' = C) && (decide (n = "ValueError.__new__") && (!cd.hasDel && (cd.hasDict && PySem.HandSPX.refsVE bm)))
    | _, _ => false)
  | _ => false) && (He.eqO (PySem.W.findIn K (.ref C) "__setattr__") (some (some (.builtin "object.__setattr__"))) && (decide (PySem.W.subIn K (.ref C) (.type "BaseException") = some true) && (decide (PySem.W.typeIn K (.ref C) = some (.type "type")) && PySem.W.keepIn K (.ref C))))
theorem oex_of {C : Addr} (q : oexB K C = true) : OexC K C := by
  unfold oexB at q
  simp only [Bool.and_eq_true] at q
  obtain ⟨q, h1, h2, h3, h4⟩ := q
  refine ⟨?_, He.eqO_ok h1, of_decide_eq_true h2, of_decide_eq_true h3, h4⟩
  split at q
  · rename_i dd cd sl ho
    split at q
    · rename_i C' bm k0 k1 k2 k3 n k5 hm hs
      simp only [Bool.and_eq_true, decide_eq_true_eq, Bool.not_eq_true'] at q
      obtain ⟨rfl, rfl, hdel, hdict, hbm⟩ := q
      obtain ⟨nm, bs, mro, ns, qn, hd, sn, sub, ab, col, del⟩ := cd
      dsimp only at hm hdel hdict
      subst hm hdel hdict
      have hsl : sl = #[k0, k1, k2, k3, some (.builtin "ValueError.__new__"), k5] := by
        obtain ⟨l⟩ := sl
        simp only at hs
        rw [hs]
      subst hsl
      exact ⟨nm, qn, ns, bs, bm, sn, sub, ab, col, dd, k0, k1, k2, k3, k5, ho, hbm⟩
    · cases q
  · cases q
def fldK (K : PySem.W.Frag) : Addr → Str → Bool := fun C f => xfB K C && decide (PySem.W.findIn K (.ref C) f = some none)
theorem fldK_ok : ∀ C g, fldK K C g = true → XfC K C ∧ PySem.W.findIn K (.ref C) g = some none := fun C g h => by
  unfold fldK at h
  simp only [Bool.and_eq_true] at h
  exact ⟨xfB_ok h.1, of_decide_eq_true h.2⟩
/-- the class x has an __init__ of its own that stores the field f -/
def efB (K : PySem.W.Frag) (x f : Str) : Bool := He.eqO (PySem.W.nsIn K mainGlobals x) (some (some (.ref (He.ga K x)))) && (oexB K (He.ga K x) && (fldK K (He.ga K x) f && (He.eqO (PySem.W.findIn K (.ref (He.ga K x)) "__init__") (some (some (.ref (He.fAd K (x, some "__init__"))))) && decide (PySem.W.typeIn K (.ref (He.fAd K (x, some "__init__"))) = some (.type "function")))))
theorem ef_of {P : Program} {w : World} {base : Heap} {x f : Str} {fd : FuncData} {ps : List Str} (X : K.In h) (G : h.Ns mainGlobals mg) (q : efB K x f = true) (F : FnOk P w K mg base (L2.CX P w) 1 (He.fAd K (x, some "__init__")) fd ps (initSp K (He.ga K x) f)) (hb : Binds K fd ps []) : ErrF P w K mg base x (He.ga K x) f := by
  unfold efB at q
  simp only [Bool.and_eq_true] at q
  obtain ⟨h1, h2, h3, h4, h5⟩ := q
  exact ⟨PySem.W.mg_of X G (He.eqO_ok h1), oex_of h2, (fldK_ok _ _ h3).2, _, fd, ps, He.eqO_ok h4, of_decide_eq_true h5, F, hb⟩
theorem ef_fld {x f : Str} (q : efB K x f = true) : fldK K (He.ga K x) f = true := by
  unfold efB at q
  simp only [Bool.and_eq_true] at q
  exact q.2.2.1
end
def clsBody (s : Stmt) : List Stmt := match s with
  | .ClassDef _ _ _ b _ _ _ _ _ _ _ => b
  | _ => []
end Ab

set_option Elab.async false
set_option linter.all false
set_option maxRecDepth 100000
set_option maxHeartbeats 2000000
namespace Ab
open PySem PySem.Spec PyProof.Rows L2
/-! ### longer repeated tuples -/
def rRepX (K : PySem.W.Frag) : R2 := fun x y H Q => ∃ l k xs, x = .ref l ∧ y = .int k ∧ SqT K H l xs ∧ xs ≠ [] ∧ 2 ≤ k ∧ xs.length * k.toNat ≤ 1000000 ∧ ∀ p, H p = none → Q (.ref p) (upd H p (.tup (List.replicate k.toNat xs).flatten))
section
variable {X : Cx}
theorem op_repX : OpR X (binaryOp .Mult) (rRepX X.K) := by
  intro pins s σ H x y v u Q I rx ry h
  obtain ⟨l, k, xs, rfl, rfl, hT, hne, h1, h2, q⟩ := h
  cases rx
  obtain ⟨t, rfl⟩ := ry
  obtain ⟨its, r, ⟨⟨cls, dd, data, sl⟩, ho, hc, n, hd⟩, hs⟩ := I.tuple hT
  simp only at hc hd
  subst hc hd
  have hle : its.length = xs.length := r.length.symm
  have hx1 : 1 ≤ xs.length := by
    cases xs with
    | nil => exact absurd rfl hne
    | cons a b => simp
  obtain ⟨kn, rfl⟩ := Int.eq_ofNat_of_zero_le (show (0 : Int) ≤ k by omega)
  rw [Int.toNat_natCast] at h2 q
  have hk : kn ≤ 1000000 := Nat.le_trans (by have := Nat.mul_le_mul_right kn hx1; omega) h2
  have hi : its.toArray.isEmpty = false := by
    cases its with
    | nil => simp at hle; omega
    | cons a b => rfl
  have hsz0 : its.toArray.size = xs.length := by rw [List.size_toArray, hle]
  have hm : ((its.toArray.size : Nat) : Int) * (kn : Int) ≤ 1000000 := by
    rw [hsz0, ← Int.natCast_mul]
    exact Int.ofNat_le.mpr h2
  have flen : (List.replicate kn its).flatten.length ≤ sizeLine := by
    rw [PyProof.Rows.lm_len_rep_flat, hle, sizeLine_eq, Nat.mul_comm]
    omega
  have c0 : (decide ((kn : Int) < -(2 ^ 63)) || decide ((kn : Int) ≥ 2 ^ 63)) = false := by
    rw [decide_eq_false (by omega), decide_eq_false (by omega)] <;> rfl
  have c1 : (its.toArray.isEmpty || (kn : Int) == 1) = false := by
    rw [hi, Bool.false_or]
    exact beq_eq_false_iff_ne.mpr (by omega)
  have c2 : (decide ((kn : Int) ≤ 0) || its.toArray.isEmpty) = false := by
    rw [hi, Bool.or_false]
    exact decide_eq_false (by omega)
  have c4 : Builtin.Tuple.tupleTooMany (((its.toArray.size : Nat) : Int) * (kn : Int)) = false := by
    unfold Builtin.Tuple.tupleTooMany
    rw [sizeLine_eq]
    exact decide_eq_false (by omega)
  refine wpAny_binaryOp_repeat_ref (T := "tuple") (U := "int") (by decide) ⟨_, ho, rfl⟩ (fun s' => typeIs_int s' (kn : Int) t) noFill_tuple_mul F.fills_int_mul F.slot_int_rmul repeat_tuple F.slot_int_index.lookup
    (call_meets F.slot_int_rmul (typeIs_int s (kn : Int) t) F.entry_int_rmul (F.args_int_rmul_2 _ _) (int_rmul_tuple (kn : Int) t l its.toArray n dd sl)
      ⟨ho, rfl, ⟨_, ho, rfl⟩, call_meets F.slot_tuple_mul ⟨_, ho, rfl⟩ F.entry_tuple_mul (F.args_tuple_mul_2 _ _) (tuple_mulW l its.toArray n dd sl (kn : Int) t c0 c1 c2 (by omega) c4 (by rw [size_rep, List.size_toArray, Int.toNat_natCast]; exact flen)) ⟨ho, ?_⟩⟩)
  rw [size_rep, Int.toNat_natCast]
  refine ⟨.ref s.heap.objs.size, _, I.laid (t' := s.toks) (o := .tup (List.replicate kn xs).flatten) (fun b ob q => Heap.get?_push_of_some _ q) (Nat.le_refl _) ?_, rfl, q _ (I.hok.fresh (Nat.le_refl _))⟩
  exact ⟨by rw [PyProof.Rows.lm_len_rep_flat, sizeLine_eq, Nat.mul_comm]; omega, _, r.rep kn, IsTup.new _ _⟩
end
def rMulXA : AR2 := fun x y m Q => (∃ a k, x = .tup a ∧ y = .int k ∧ a ≠ [] ∧ 2 ≤ k ∧ a.length * k.toNat ≤ 1000000 ∧ Q (.tup (List.replicate k.toNat a).flatten) m) ∨ rMulA x y m Q
theorem o_mulX {X : Cx} : OpR X (binaryOp .Mult) (lR2 X.K rMulXA) := by
  intro pins s σ H x y v u Q I rx ry ⟨d1, d2, m, P, r1, r2, rM, h, q⟩
  rcases h with ⟨a, k, rfl, rfl, h1, h2, h3, h4⟩ | h
  · obtain ⟨p1, xs, e1, s1, z1⟩ := r1
    exact op_repX pins s σ H x y v u Q I rx ry ⟨p1, k, xs, e1, r2, s1, z1.nil_iff h1, h2, by rw [← z1.length]; exact h3, fun p hp => q _ m h4 _ _ (Tx.new hp) ⟨p, _, rfl, SqT.of upd_same, (z1.flat _).mono (Tx.new hp)⟩ (rM.grow hp)⟩
  · exact o_mul pins s σ H x y v u Q I rx ry ⟨d1, d2, m, P, r1, r2, rM, h, q⟩
theorem mulXT {x : D} {k : Int} {n : Nat} {m : M} {Q : PQ} (hk : k = (n : Int)) (h2 : 2 ≤ n) (h3 : n ≤ 1000000) (q : Q (.tup (List.replicate n [x]).flatten) m) : rMulXA (.tup [x]) (.int k) m Q := by
  subst hk
  exact .inl ⟨[x], _, rfl, rfl, by simp, by omega, by rw [Int.toNat_natCast]; simpa using h3, by rw [Int.toNat_natCast]; exact q⟩
theorem mulXO {x y : D} {m : M} {Q : PQ} (h : rMulA x y m Q) : rMulXA x y m Q := .inr h
/-! ### tuple(range(n)) -/
def aTupRg (ta : AE) : AE := fun e m Q R => ta e m (fun d m1 => match d with
  | .int n => (0 ≤ n ∧ n ≤ 16777216) ∧ Q (.tup (rngD 0 n.toNat)) m1
  | _ => False) R
theorem g_tupRg {X : Cx} {W : WX} {a : Expr} {ta : AE} {p p2 pos pos2 : Pos} (hc : X.calm = true) (ht : X.mg "tuple" = none) (hr : X.mg "range" = none) (ha : GE X W a ta) (hg : Gl X "tuple" := by rfl) (hg2 : Gl X "range" := by rfl) (na2 : starEach [a] X.env = (false, eval a X.env) :: starEach [] X.env := by rfl)
    (na : starEach [.Call (.Name "range" p2) [a] [] pos2] X.env = (false, eval (.Call (.Name "range" p2) [a] [] pos2) X.env) :: starEach [] X.env := by rfl) : GE X W (.Call (.Name "tuple" p) [.Call (.Name "range" p2) [a] [] pos2] [] pos) (aTupRg ta) :=
  pe_imp (pe_tupRg hc hg ht (prg_1 hg2 hr ha na2) na) fun σ H Q h => by
    obtain ⟨e, m, P, R, rE, rM, t, q, w⟩ := h
    refine ⟨e, m, _, R, rE, rM, t, fun d m1 h1 v H1 t1 r1 rm1 => ?_, w⟩
    cases d with
    | int n =>
      obtain ⟨⟨n0, n1⟩, h2⟩ := h1
      refine ⟨n, r1, RgOk.of_le (by omega) n1 (by omega) n0, fun p hp => ?_⟩
      have e : rngD 0 n.toNat = ((List.range n.toNat).map fun i : Nat => (0 : Int) + (i : Nat)).map D.int := by unfold rngD; rw [List.map_map]; rfl
      have e2 : rgV 0 n = ((List.range n.toNat).map fun i : Nat => (0 : Int) + (i : Nat)).map V.int := by unfold rgV; rw [List.map_map, Int.sub_zero]; rfl
      refine q _ m1 h2 _ _ (t1.trans (Tx.new hp)) ⟨p, _, rfl, SqT.of upd_same, ?_⟩ (rm1.grow hp)
      rw [e, e2]
      exact Reps.of_ints _
    | _ => exact h1.elim
theorem passes_no {P : Program} {w : World} {X : Cx} : Passes (L2.CX P w) X (fun _ _ _ => False) := fun _ _ _ _ _ _ _ c => by
  obtain ⟨_, _, _, _, _, _, _, _, _, _, _, _, z⟩ := c
  exact z.elim
end Ab

set_option Elab.async false
set_option linter.all false
set_option maxRecDepth 100000
set_option maxHeartbeats 4000000
namespace K7
open PySem PySem.Spec PyProof.Rows L2 Ab
/-- slots: 0 row | 1 many | 2 found | 3 cell -/
def b_f_law_taken : AS := aSeq (aIfS (aTest (aOp rGtA (aOp rIxA (aVar 0) (aC (.int 3))) (aC (.int 0)))) (aSeq (aAsg (aOp rModA (aCB rIntA (aCons (aOp rIxA (aVar 0) (aC (.int 3))) (aNil))) (aVar 1)) (aN 2)) (aSeq (aAsg (aOp rFdivA (aOp rIxA (aVar 0) (aC (.int 3))) (aVar 1)) (aSubL (aVar 0) (aC (.int 3)))) (aRet (aVar 2)))) (aNext)) (aSeq (aAsg (aOp rAddA (aOp rIxA (aVar 0) (aC (.int 1))) (aC (.int 1))) (aSubL (aVar 0) (aC (.int 1)))) (aSeq (aIfS (aTest (aOp rGtA (aOp rIxA (aVar 0) (aC (.int 1))) (aCB rLenA (aCons (aOp rIxA (aVar 0) (aC (.int 0))) (aNil))))) (aSeq (aAsg (aOp rModA (aCB rIntA (aCons (aOp rAddA (aOp rMulA (aOp rIxA (aVar 0) (aC (.int 2))) (aC (.int 48271))) (aC (.int 11))) (aNil))) (aC (.int 2147483647))) (aSubL (aVar 0) (aC (.int 2)))) (aRet (aOp rModA (aCB rIntA (aCons (aOp rFdivA (aOp rIxA (aVar 0) (aC (.int 2))) (aC (.int 7))) (aNil))) (aVar 1)))) (aNext)) (aSeq (aAsg (aOp rIxA (aOp rIxA (aVar 0) (aC (.int 0))) (aOp rSubA (aOp rIxA (aVar 0) (aC (.int 1))) (aC (.int 1)))) (aN 3)) (aSeq (aAsg (aOp rModA (aCB rIntA (aCons (aOp rAddA (aOp rAddA (aOp rMulA (aOp rIxA (aVar 0) (aC (.int 2))) (aC (.int 48271))) (aVar 3)) (aC (.int 11))) (aNil))) (aC (.int 2147483647))) (aSubL (aVar 0) (aC (.int 2)))) (aSeq (aIfS (aTest (aOp rGeA (aVar 3) (aOp rPowA (aC (.int 10)) (aC (.int 18))))) (aAsg (aOp rFdivA (aVar 3) (aVar 1)) (aSubL (aVar 0) (aC (.int 3)))) (aNext)) (aRet (aOp rModA (aCB rIntA (aCons (aVar 3) (aNil))) (aVar 1))))))))
def s_f_law_taken : ASp := aDef 4 (b_f_law_taken)
/-- slots: 0 row | 1 things -/
def b_f_law_pick : AS := aRet (aOp rIxA (aVar 1) (aCall 2 s_f_law_taken (aCons (aVar 0) (aCons (aCB rLenA (aCons (aVar 1) (aNil))) (aNil)))))
def s_f_law_pick : ASp := aDef 2 (b_f_law_pick)
/-- slots: 0 value | 1 least | 2 most -/
def b_is_tuple_of : AS := aRet (aAndV (aIsi .tuple (aVar 0)) (aChain rLeA rLeA (aVar 1) (aCB rLenA (aCons (aVar 0) (aNil))) (aVar 2)))
def s_is_tuple_of : ASp := aDef 3 (b_is_tuple_of)
def bl_are_bytes_0 : AS := aIfS (aOr (aNot (aTest (aIsi .int (aVar 3)))) (aOr (aTest (aIsi .bool (aVar 3))) (aOr (aTest (aOp rLtA (aVar 3) (aC (.int 0)))) (aTest (aOp rGtA (aVar 3) (aC (.int 255))))))) (aRet (aC (.bl false))) (aNext)
/-- slots: 0 value | 1 least | 2 most | 3 byte -/
def b_are_bytes : AS := aSeq (aIfS (aNot (aTest (aCall 3 s_is_tuple_of (aCons (aVar 0) (aCons (aVar 1) (aCons (aVar 2) (aNil))))))) (aRet (aC (.bl false))) (aNext)) (aSeq (aFor (aITup (aVar 0)) (aN 3) (bl_are_bytes_0)) (aRet (aC (.bl true))))
def s_are_bytes : ASp := aDef 4 (b_are_bytes)
/-- slots: 0 row -/
def b_check_row (p : Pm) : AS := aIfS (aNot (aTest (aCall 3 s_are_bytes (aCons (aVar 0) (aCons (aC (.int 0)) (aCons (aC (.int 4096)) (aNil))))))) (aRaise (p.cA "BadRow")) (aNext)
def s_check_row (p : Pm) : ASp := aDef 1 (b_check_row p)
def bl_rest_of_0 : AS := aSeq (aAsg (aOp rXorA (aOp rShrA (aVar 1) (aC (.int 8))) (aVar 2)) (aN 3)) (aSeq (aAsg (aOp rXorA (aVar 3) (aOp rShrA (aVar 3) (aC (.int 4)))) (aN 3)) (aAsg (aOp rAndA (aOp rXorA (aOp rXorA (aOp rXorA (aOp rShlA (aVar 1) (aC (.int 8))) (aOp rShlA (aVar 3) (aC (.int 12)))) (aOp rShlA (aVar 3) (aC (.int 5)))) (aVar 3)) (aC (.int 65535))) (aN 1)))
/-- slots: 0 row | 1 rest | 2 byte | 3 ahead -/
def b_rest_of : AS := aSeq (aAsg (aC (.int 0)) (aN 1)) (aSeq (aFor (aITup (aVar 0)) (aN 2) (bl_rest_of_0)) (aRet (aVar 1)))
def s_rest_of : ASp := aDef 4 (b_rest_of)
/-- slots: 0 row -/
def b_check_of (p : Pm) : AS := aSeq (aDrop (aCall 1 (s_check_row p) (aCons (aVar 0) (aNil)))) (aRet (aCall 1 s_rest_of (aCons (aVar 0) (aNil))))
def s_check_of (p : Pm) : ASp := aDef 1 (b_check_of p)
def bl_fixed_code_0 : AS := aSeq (aDrop (aApp (aVar 2) (aOp rModA (aVar 0) (aC (.int 256))))) (aAsg (aOp rFdivA (aVar 0) (aC (.int 256))) (aN 0))
/-- slots: 0 value | 1 many | 2 places | 3 _ -/
def b_fixed_code : AS := aSeq (aAsg (aLst (aNil)) (aN 2)) (aSeq (aFor (aIR1 (aCons (aVar 1) (aNil))) (aN 3) (bl_fixed_code_0)) (aRet (aTupRev (aVar 2))))
def s_fixed_code : ASp := aDef 4 (b_fixed_code)
/-- slots: 0 row -/
def b_sealed (p : Pm) : AS := aSeq (aDrop (aCall 1 (s_check_row p) (aCons (aVar 0) (aNil)))) (aSeq (aIfS (aTest (aOp rGtA (aCB rLenA (aCons (aVar 0) (aNil))) (aOp rSubA (aC (.int 4096)) (aC (.int 2))))) (aRaiseF (p.cA "TooMany") "most" (aCons (aC (.int 4096)) (aNil))) (aNext)) (aRet (aTup (aStar (aVar 0) (aStar (aCall 2 s_fixed_code (aCons (aCall 1 s_rest_of (aCons (aVar 0) (aNil))) (aCons (aC (.int 2)) (aNil)))) (aNil))))))
def s_sealed (p : Pm) : ASp := aDef 1 (b_sealed p)
/-- slots: 0 row -/
def b_is_right : AS := aRet (aAndV (aOp rGeA (aCB rLenA (aCons (aVar 0) (aNil))) (aC (.int 2))) (aOp rEqA (aCall 1 s_rest_of (aCons (aVar 0) (aNil))) (aC (.int 0))))
def s_is_right : ASp := aDef 1 (b_is_right)
/-- slots: 0 row -/
def b_is_sealed (p : Pm) : AS := aSeq (aDrop (aCall 1 (s_check_row p) (aCons (aVar 0) (aNil)))) (aRet (aCall 1 s_is_right (aCons (aVar 0) (aNil))))
def s_is_sealed (p : Pm) : ASp := aDef 1 (b_is_sealed p)
/-- slots: 0 value | 1 low | 2 high -/
def b_is_integer : AS := aRet (aAndV (aIsi .int (aVar 0)) (aAndV (aNotV (aIsi .bool (aVar 0))) (aChain rLeA rLeA (aVar 1) (aVar 0) (aVar 2))))
def s_is_integer : ASp := aDef 3 (b_is_integer)
def bl_check_flips_0 (p : Pm) : AS := aAsg (aOp rAddA (aVar 3) (aC (.int 1))) (aN 2)
def bl_check_flips_1 (p : Pm) : AS := aSeq (aIfS (aNot (aTest (aCall 3 s_is_integer (aCons (aVar 3) (aCons (aVar 2) (aCons (aOp rSubA (aVar 1) (aC (.int 1))) (aNil))))))) (aRaise (p.cA "BadFlips")) (aNext)) (bl_check_flips_0 p)
def bl_check_flips_2 (p : Pm) : AS := aFor (aITup (aVar 0)) (aN 3) (bl_check_flips_1 p)
def bl_check_flips_3 (p : Pm) : AS := aSeq (aAsg (aC (.int 0)) (aN 2)) (bl_check_flips_2 p)
/-- slots: 0 flips | 1 many_bits | 2 least | 3 flip -/
def b_check_flips (p : Pm) : AS := aSeq (aIfS (aNot (aTest (aCall 3 s_is_tuple_of (aCons (aVar 0) (aCons (aC (.int 0)) (aCons (aC (.int 64)) (aNil))))))) (aRaise (p.cA "BadFlips")) (aNext)) (bl_check_flips_3 p)
def s_check_flips (p : Pm) : ASp := aDef 4 (b_check_flips p)
def bl_with_flips_0 : AS := aSeq (aAsg (aOp rFdivA (aVar 3) (aC (.int 8))) (aN 4)) (aAsg (aOp rXorA (aOp rIxA (aVar 2) (aVar 4)) (aOp rShrA (aC (.int 128)) (aOp rModA (aVar 3) (aC (.int 8))))) (aSubL (aVar 2) (aVar 4)))
/-- slots: 0 row | 1 flips | 2 changed_row | 3 flip | 4 at -/
def b_with_flips : AS := aSeq (aAsg (aCB rListA (aCons (aVar 0) (aNil))) (aN 2)) (aSeq (aFor (aITup (aVar 1)) (aN 3) (bl_with_flips_0)) (aRet (aCB rTupleA (aCons (aVar 2) (aNil)))))
def s_with_flips : ASp := aDef 5 (b_with_flips)
/-- slots: 0 row | 1 flips -/
def b_flipped (p : Pm) : AS := aSeq (aDrop (aCall 1 (s_check_row p) (aCons (aVar 0) (aNil)))) (aSeq (aDrop (aCall 2 (s_check_flips p) (aCons (aVar 1) (aCons (aOp rMulA (aC (.int 8)) (aCB rLenA (aCons (aVar 0) (aNil)))) (aNil))))) (aRet (aCall 2 s_with_flips (aCons (aVar 0) (aCons (aVar 1) (aNil))))))
def s_flipped (p : Pm) : ASp := aDef 2 (b_flipped p)
/-- slots: 0 length | 1 flips -/
def b_is_unseen (p : Pm) : AS := aSeq (aIfS (aNot (aTest (aCall 3 s_is_integer (aCons (aVar 0) (aCons (aC (.int 2)) (aCons (aC (.int 4096)) (aNil))))))) (aRaise (p.cA "BadNumber")) (aNext)) (aSeq (aDrop (aCall 2 (s_check_flips p) (aCons (aVar 1) (aCons (aOp rMulA (aC (.int 8)) (aVar 0)) (aNil))))) (aRet (aCall 1 s_is_right (aCons (aCall 2 s_with_flips (aCons (aOp rMulXA (aTup (aCons (aC (.int 0)) (aNil))) (aVar 0)) (aCons (aVar 1) (aNil)))) (aNil)))))
def s_is_unseen (p : Pm) : ASp := aDef 2 (b_is_unseen p)
/-- slots: 0 length | 1 rests | 2 bit_with | 3 bit | 4 rest | 5 many | 6 flips -/
def b_least_unseen (p : Pm) : AS := aSeq (aIfS (aNot (aTest (aCall 3 s_is_integer (aCons (aVar 0) (aCons (aC (.int 2)) (aCons (aC (.int 24)) (aNil))))))) (aRaise (p.cA "BadNumber")) (aNext)) (aNever)
def s_least_unseen (p : Pm) : ASp := aDef 7 (b_least_unseen p)
def lam_0 (p : Pm) : AE := aCall 1 (s_check_of p) (aCons (aVar 0) (aNil))
def lam_1 (p : Pm) : AE := aCall 1 (s_sealed p) (aCons (aVar 0) (aNil))
def lam_2 (p : Pm) : AE := aCall 1 (s_is_sealed p) (aCons (aVar 0) (aNil))
def lam_3 (p : Pm) : AE := aCall 2 (s_flipped p) (aCons (aVar 0) (aCons (aVar 1) (aNil)))
def lam_4 (p : Pm) : AE := aCall 2 (s_is_unseen p) (aCons (aVar 0) (aCons (aVar 1) (aNil)))
def lam_5 (p : Pm) : AE := aCall 1 (s_least_unseen p) (aCons (aVar 0) (aNil))
/-- slots: 0 one | 1 other | 2 works -/
def rb_f_law_works (P : Addr) (L : Nat → LSyn) (cells : List (Str × Addr)) : AR := rSeq (aAsg (aLst (aNil)) (aN 2)) (rSeq (aDrop (aApp (aVar 2) (aLam P (L 0) ["one"] [0] cells)))
  (rSeq (aDrop (aApp (aVar 2) (aLam P (L 1) ["one"] [0] cells)))
  (rSeq (aDrop (aApp (aVar 2) (aLam P (L 2) ["one"] [0] cells)))
  (rSeq (aDrop (aApp (aVar 2) (aLam P (L 3) ["one", "other"] [0, 1] cells)))
  (rSeq (aDrop (aApp (aVar 2) (aLam P (L 4) ["one", "other"] [0, 1] cells)))
  (rSeq (aDrop (aApp (aVar 2) (aLam P (L 5) ["one"] [0] cells)))
  (rRet (aVar 2))))))))
def s_f_law_works (p : Pm) : ASp := aWorks (["one", "other", "works"] : List Str) p.sc (rb_f_law_works p.P p.L)
def T_lam (p : Pm) (L : LSyn) (ys : List Str) (t : AE) : Prop := (L = p.L 0 ∧ ys = (["one"] : List Str) ∧ t = lam_0 p) ∨ (L = p.L 1 ∧ ys = (["one"] : List Str) ∧ t = lam_1 p) ∨ (L = p.L 2 ∧ ys = (["one"] : List Str) ∧ t = lam_2 p) ∨ (L = p.L 3 ∧ ys = (["one", "other"] : List Str) ∧ t = lam_3 p) ∨ (L = p.L 4 ∧ ys = (["one", "other"] : List Str) ∧ t = lam_4 p) ∨ (L = p.L 5 ∧ ys = (["one"] : List Str) ∧ t = lam_5 p)
def bl_f_law_refused_0 (p : Pm) : AS := aRet (aVar 1)
def bl_f_law_refused_1 (p : Pm) : AS := aSeq (aTryX p.mt 2 (aDrop (aCallV (T_lam p) 0)) (fun a x d => aSeq (aAsg (aLst (aNil)) (aN 3)) (aSeq (aDrop (aApp (aVar 3) (aIsX p.isT a x d 2 (p.cA "BadRow")))) (aSeq (aDrop (aApp (aVar 3) (aIsX p.isT a x d 2 (p.cA "BadNumber")))) (aSeq (aDrop (aApp (aVar 3) (aIsX p.isT a x d 2 (p.cA "BadFlips")))) (aSeq (aDrop (aApp (aVar 3) (aIsX p.isT a x d 2 (p.cA "TooMany")))) (aSeq (aAsg (aLst (aCons (aC (.str ("row" : Str))) (aCons (aC (.str ("number" : Str))) (aCons (aC (.str ("flips" : Str))) (aCons (aC (.str ("many" : Str))) (aNil)))))) (aN 4)) (aSeq (aAsg (aIf (aTest (aOp rEqA (aCount (aVar 3) (aC (.bl true))) (aC (.int 1)))) (aOp rIxA (aVar 4) (aIndex (aVar 3) (aC (.bl true)))) (aC (.str ("other" : Str)))) (aN 1)) (aAsg (aIf (aTest (aOp rEqA (aVar 1) (aC (.str ("many" : Str))))) (aTup (aCons (aC (.str ("many" : Str))) (aCons (aFld p.fld a x d 2 "most") (aNil)))) (aVar 1)) (aN 1)))))))))) (bl_f_law_refused_0 p)
/-- slots: 0 work | 1 found | 2 e | 3 tells | 4 names -/
def b_f_law_refused (p : Pm) : AS := aSeq (aAsg (aC .non) (aN 1)) (bl_f_law_refused_1 p)
def s_f_law_refused (p : Pm) : ASp := aDef 5 (b_f_law_refused p)
def bl_law_0 (p : Pm) : AS := aRet (aOp rEqA (aLc (aILst (aSl rSlA (aCall 2 (s_f_law_works p) (aCons (aOp rMulXA (aTup (aCons (aC (.int 0)) (aNil))) (aC (.int 4094))) (aCons (aTup (aNil)) (aNil)))) (aNoP) (aPt (aC (.int 4))))) (aN 3) (aYes) (aCall 1 (s_f_law_refused p) (aCons (aVar 3) (aNil))) [3]) (aOp rMulA (aLst (aCons (aC .non) (aNil))) (aC (.int 4))))
def bl_law_1 (p : Pm) : AS := aSeq (aIfS (aTest (aOp rNeA (aCall 1 (s_f_law_refused p) (aCons (aOp rIxA (aCall 2 (s_f_law_works p) (aCons (aOp rMulXA (aTup (aCons (aC (.int 0)) (aNil))) (aOp rAddA (aC (.int 4095)) (aCall 2 s_f_law_taken (aCons (aVar 1) (aCons (aC (.int 2)) (aNil)))))) (aCons (aC .non) (aNil)))) (aC (.int 1))) (aNil))) (aTup (aCons (aC (.str ("many" : Str))) (aCons (aC (.int 4096)) (aNil)))))) (aRet (aC (.bl false))) (aNext)) (bl_law_0 p)
def bl_law_2 (p : Pm) : AS := aSeq (aIfS (aOr (aTest (aOp rNeA (aCall 1 (s_f_law_refused p) (aCons (aOp rIxA (aCall 2 (s_f_law_works p) (aCons (aTup (aCons (aC (.int 1)) (aCons (aC (.int 2)) (aCons (aC (.int 3)) (aNil))))) (aCons (aVar 5) (aNil)))) (aC (.int 3))) (aNil))) (aC (.str ("flips" : Str))))) (aTest (aOp rNeA (aCall 1 (s_f_law_refused p) (aCons (aOp rIxA (aCall 2 (s_f_law_works p) (aCons (aC (.int 3)) (aCons (aVar 5) (aNil)))) (aC (.int 4))) (aNil))) (aC (.str ("flips" : Str)))))) (aRet (aC (.bl false))) (aNext)) (bl_law_1 p)
def bl_law_3 (p : Pm) : AS := aSeq (aAsg (aCall 2 s_f_law_pick (aCons (aVar 1) (aCons (aVar 5) (aNil)))) (aN 5)) (bl_law_2 p)
def bl_law_4 (p : Pm) : AS := aSeq (aAsg (aLst (aCons (aC .non) (aCons (aLst (aCons (aC (.int 1)) (aNil))) (aCons (aTup (aCons (aC (.int 1)) (aCons (aC (.int 1)) (aNil)))) (aCons (aTup (aCons (aC (.int 2)) (aCons (aC (.int 1)) (aNil)))) (aCons (aTup (aCons (aC (.bl true)) (aNil))) (aCons (aTup (aCons (aOp rSubA (aC (.int 0)) (aC (.int 1))) (aNil))) (aCons (aTup (aCons (aC (.int 24)) (aNil))) (aCons (aTup (aCons (aC (.str ("1" : Str))) (aNil))) (aCons (aC (.int 3)) (aCons (aTupRg (aC (.int 65))) (aCons (aTup (aCons (aC .non) (aNil))) (aCons (aDNew) (aNil)))))))))))))) (aN 5)) (bl_law_3 p)
def bl_law_5 (p : Pm) : AS := aSeq (aIfS (aTest (aOp rNeA (aCall 1 (s_f_law_refused p) (aCons (aOp rIxA (aCall 2 (s_f_law_works p) (aCons (aC (.int 25)) (aCons (aC .non) (aNil)))) (aC (.int 5))) (aNil))) (aC (.str ("number" : Str))))) (aRet (aC (.bl false))) (aNext)) (bl_law_4 p)
def bl_law_6 (p : Pm) : AS := aSeq (aIfS (aTest (aOp rNeA (aLc (aILst (aSl rSlA (aCall 2 (s_f_law_works p) (aCons (aVar 4) (aCons (aC .non) (aNil)))) (aPt (aC (.int 4))) (aNoP))) (aN 3) (aYes) (aCall 1 (s_f_law_refused p) (aCons (aVar 3) (aNil))) [3]) (aOp rMulA (aLst (aCons (aC (.str ("number" : Str))) (aNil))) (aC (.int 2))))) (aRet (aC (.bl false))) (aNext)) (bl_law_5 p)
def bl_law_7 (p : Pm) : AS := aSeq (aAsg (aCall 2 s_f_law_pick (aCons (aVar 1) (aCons (aLst (aCons (aC .non) (aCons (aC (.bl true)) (aCons (aC (.int 1)) (aCons (aC (.int 0)) (aCons (aC (.int 4097)) (aCons (aC (.str ("3" : Str))) (aCons (aTup (aCons (aC (.int 3)) (aNil))) (aCons (aOp rSubA (aC (.int 0)) (aC (.int 5))) (aCons (aLst (aNil)) (aNil))))))))))) (aNil)))) (aN 4)) (bl_law_6 p)
def bl_law_8 (p : Pm) : AS := aSeq (aIfS (aTest (aOp rNeA (aLc (aILst (aSl rSlA (aCall 2 (s_f_law_works p) (aCons (aVar 2) (aCons (aC .non) (aNil)))) (aNoP) (aPt (aC (.int 4))))) (aN 3) (aYes) (aCall 1 (s_f_law_refused p) (aCons (aVar 3) (aNil))) [3]) (aOp rMulA (aLst (aCons (aC (.str ("row" : Str))) (aNil))) (aC (.int 4))))) (aRet (aC (.bl false))) (aNext)) (bl_law_7 p)
def bl_law_9 (p : Pm) : AS := aSeq (aAsg (aCall 2 s_f_law_pick (aCons (aVar 1) (aCons (aLst (aCons (aC .non) (aCons (aLst (aCons (aC (.int 1)) (aNil))) (aCons (aTup (aCons (aC (.int 256)) (aNil))) (aCons (aTup (aCons (aOp rSubA (aC (.int 0)) (aC (.int 1))) (aNil))) (aCons (aTup (aCons (aC (.bl true)) (aNil))) (aCons (aTup (aCons (aC (.str ("1" : Str))) (aNil))) (aCons (aOp rMulXA (aTup (aCons (aC (.int 0)) (aNil))) (aC (.int 4097))) (aCons (aC (.int 3)) (aCons (aC (.str ("ab" : Str))) (aCons (aDNew) (aCons (aTup (aCons (aTup (aNil)) (aNil))) (aNil))))))))))))) (aNil)))) (aN 2)) (bl_law_8 p)
/-- slots: 0 script | 1 row | 2 bad | 3 work | 4 number | 5 flips -/
def b_law (p : Pm) : AS := aSeq (aAsg (aLst (aCons (aVar 0) (aCons (aC (.int 0)) (aCons (aC (.int 9007)) (aCons (aC (.int 0)) (aNil)))))) (aN 1)) (bl_law_9 p)
def s_law (p : Pm) : ASp := aDef 6 (b_law p)
theorem ent_f_law_taken {a0 a1 : D} {m : M} {Q : PQ} {R : PX} (h : b_f_law_taken { nx := fun _ m' => ∃ m2, Sub m2 m' ∧ Q .non m2, rt := fun d m' => ∃ m2, Sub m2 m' ∧ Q d m2, xe := fun _ x m' => ∃ m2, Sub m2 m' ∧ R x m2 } [some a0, some a1, none, none] m) : s_f_law_taken [a0, a1] m Q R := h
theorem ent_f_law_pick {a0 a1 : D} {m : M} {Q : PQ} {R : PX} (h : b_f_law_pick { nx := fun _ m' => ∃ m2, Sub m2 m' ∧ Q .non m2, rt := fun d m' => ∃ m2, Sub m2 m' ∧ Q d m2, xe := fun _ x m' => ∃ m2, Sub m2 m' ∧ R x m2 } [some a0, some a1] m) : s_f_law_pick [a0, a1] m Q R := h
theorem ent_is_tuple_of {a0 a1 a2 : D} {m : M} {Q : PQ} {R : PX} (h : b_is_tuple_of { nx := fun _ m' => ∃ m2, Sub m2 m' ∧ Q .non m2, rt := fun d m' => ∃ m2, Sub m2 m' ∧ Q d m2, xe := fun _ x m' => ∃ m2, Sub m2 m' ∧ R x m2 } [some a0, some a1, some a2] m) : s_is_tuple_of [a0, a1, a2] m Q R := h
theorem ent_are_bytes {a0 a1 a2 : D} {m : M} {Q : PQ} {R : PX} (h : b_are_bytes { nx := fun _ m' => ∃ m2, Sub m2 m' ∧ Q .non m2, rt := fun d m' => ∃ m2, Sub m2 m' ∧ Q d m2, xe := fun _ x m' => ∃ m2, Sub m2 m' ∧ R x m2 } [some a0, some a1, some a2, none] m) : s_are_bytes [a0, a1, a2] m Q R := h
theorem ent_check_row {p : Pm} {a0 : D} {m : M} {Q : PQ} {R : PX} (h : b_check_row p { nx := fun _ m' => ∃ m2, Sub m2 m' ∧ Q .non m2, rt := fun d m' => ∃ m2, Sub m2 m' ∧ Q d m2, xe := fun _ x m' => ∃ m2, Sub m2 m' ∧ R x m2 } [some a0] m) : s_check_row p [a0] m Q R := h
theorem ent_rest_of {a0 : D} {m : M} {Q : PQ} {R : PX} (h : b_rest_of { nx := fun _ m' => ∃ m2, Sub m2 m' ∧ Q .non m2, rt := fun d m' => ∃ m2, Sub m2 m' ∧ Q d m2, xe := fun _ x m' => ∃ m2, Sub m2 m' ∧ R x m2 } [some a0, none, none, none] m) : s_rest_of [a0] m Q R := h
theorem ent_check_of {p : Pm} {a0 : D} {m : M} {Q : PQ} {R : PX} (h : b_check_of p { nx := fun _ m' => ∃ m2, Sub m2 m' ∧ Q .non m2, rt := fun d m' => ∃ m2, Sub m2 m' ∧ Q d m2, xe := fun _ x m' => ∃ m2, Sub m2 m' ∧ R x m2 } [some a0] m) : s_check_of p [a0] m Q R := h
theorem ent_fixed_code {a0 a1 : D} {m : M} {Q : PQ} {R : PX} (h : b_fixed_code { nx := fun _ m' => ∃ m2, Sub m2 m' ∧ Q .non m2, rt := fun d m' => ∃ m2, Sub m2 m' ∧ Q d m2, xe := fun _ x m' => ∃ m2, Sub m2 m' ∧ R x m2 } [some a0, some a1, none, none] m) : s_fixed_code [a0, a1] m Q R := h
theorem ent_sealed {p : Pm} {a0 : D} {m : M} {Q : PQ} {R : PX} (h : b_sealed p { nx := fun _ m' => ∃ m2, Sub m2 m' ∧ Q .non m2, rt := fun d m' => ∃ m2, Sub m2 m' ∧ Q d m2, xe := fun _ x m' => ∃ m2, Sub m2 m' ∧ R x m2 } [some a0] m) : s_sealed p [a0] m Q R := h
theorem ent_is_right {a0 : D} {m : M} {Q : PQ} {R : PX} (h : b_is_right { nx := fun _ m' => ∃ m2, Sub m2 m' ∧ Q .non m2, rt := fun d m' => ∃ m2, Sub m2 m' ∧ Q d m2, xe := fun _ x m' => ∃ m2, Sub m2 m' ∧ R x m2 } [some a0] m) : s_is_right [a0] m Q R := h
theorem ent_is_sealed {p : Pm} {a0 : D} {m : M} {Q : PQ} {R : PX} (h : b_is_sealed p { nx := fun _ m' => ∃ m2, Sub m2 m' ∧ Q .non m2, rt := fun d m' => ∃ m2, Sub m2 m' ∧ Q d m2, xe := fun _ x m' => ∃ m2, Sub m2 m' ∧ R x m2 } [some a0] m) : s_is_sealed p [a0] m Q R := h
theorem ent_is_integer {a0 a1 a2 : D} {m : M} {Q : PQ} {R : PX} (h : b_is_integer { nx := fun _ m' => ∃ m2, Sub m2 m' ∧ Q .non m2, rt := fun d m' => ∃ m2, Sub m2 m' ∧ Q d m2, xe := fun _ x m' => ∃ m2, Sub m2 m' ∧ R x m2 } [some a0, some a1, some a2] m) : s_is_integer [a0, a1, a2] m Q R := h
theorem ent_check_flips {p : Pm} {a0 a1 : D} {m : M} {Q : PQ} {R : PX} (h : b_check_flips p { nx := fun _ m' => ∃ m2, Sub m2 m' ∧ Q .non m2, rt := fun d m' => ∃ m2, Sub m2 m' ∧ Q d m2, xe := fun _ x m' => ∃ m2, Sub m2 m' ∧ R x m2 } [some a0, some a1, none, none] m) : s_check_flips p [a0, a1] m Q R := h
theorem ent_with_flips {a0 a1 : D} {m : M} {Q : PQ} {R : PX} (h : b_with_flips { nx := fun _ m' => ∃ m2, Sub m2 m' ∧ Q .non m2, rt := fun d m' => ∃ m2, Sub m2 m' ∧ Q d m2, xe := fun _ x m' => ∃ m2, Sub m2 m' ∧ R x m2 } [some a0, some a1, none, none, none] m) : s_with_flips [a0, a1] m Q R := h
theorem ent_flipped {p : Pm} {a0 a1 : D} {m : M} {Q : PQ} {R : PX} (h : b_flipped p { nx := fun _ m' => ∃ m2, Sub m2 m' ∧ Q .non m2, rt := fun d m' => ∃ m2, Sub m2 m' ∧ Q d m2, xe := fun _ x m' => ∃ m2, Sub m2 m' ∧ R x m2 } [some a0, some a1] m) : s_flipped p [a0, a1] m Q R := h
theorem ent_is_unseen {p : Pm} {a0 a1 : D} {m : M} {Q : PQ} {R : PX} (h : b_is_unseen p { nx := fun _ m' => ∃ m2, Sub m2 m' ∧ Q .non m2, rt := fun d m' => ∃ m2, Sub m2 m' ∧ Q d m2, xe := fun _ x m' => ∃ m2, Sub m2 m' ∧ R x m2 } [some a0, some a1] m) : s_is_unseen p [a0, a1] m Q R := h
theorem ent_least_unseen {p : Pm} {a0 : D} {m : M} {Q : PQ} {R : PX} (h : b_least_unseen p { nx := fun _ m' => ∃ m2, Sub m2 m' ∧ Q .non m2, rt := fun d m' => ∃ m2, Sub m2 m' ∧ Q d m2, xe := fun _ x m' => ∃ m2, Sub m2 m' ∧ R x m2 } [some a0, none, none, none, none, none, none] m) : s_least_unseen p [a0] m Q R := h
theorem ent_f_law_refused {p : Pm} {a0 : D} {m : M} {Q : PQ} {R : PX} (h : b_f_law_refused p { nx := fun _ m' => ∃ m2, Sub m2 m' ∧ Q .non m2, rt := fun d m' => ∃ m2, Sub m2 m' ∧ Q d m2, xe := fun _ x m' => ∃ m2, Sub m2 m' ∧ R x m2 } [some a0, none, none, none, none] m) : s_f_law_refused p [a0] m Q R := h
theorem ent_law {p : Pm} {a0 : D} {m : M} {Q : PQ} {R : PX} (h : b_law p { nx := fun _ m' => ∃ m2, Sub m2 m' ∧ Q .non m2, rt := fun d m' => ∃ m2, Sub m2 m' ∧ Q d m2, xe := fun _ x m' => ∃ m2, Sub m2 m' ∧ R x m2 } [some a0, none, none, none, none, none] m) : s_law p [a0] m Q R := h
end K7

set_option Elab.async false
set_option linter.all false
set_option maxRecDepth 100000
set_option maxHeartbeats 4000000
namespace K7
open PySem PySem.Spec PyProof.Rows L2 Ab
def top (i : Nat) : Stmt := PySem.Challenge.pw_cutledger_k07_checks_refused.main.body.getD i (.Pass ⟨0, 0, 0, 0⟩)
section
variable {P : Program} {w : World} {K : PySem.W.Frag} {mg : Str → Option Value} {base : Heap}
abbrev st_TooMany_init : Stmt := (clsBody (top 5)).getD 0 (.Pass ⟨0, 0, 0, 0⟩)
theorem sc_TooMany_init : FnScope ["self", "most"] ["self", "most"] (defScope st_TooMany_init) := ⟨rfl, rfl, rfl, by decide +kernel, rfl, by decide +kernel, by decide +kernel⟩
theorem ini_TooMany {fI C : Addr} {fd : FuncData} (F : FunD K "__init__" "TooMany.__init__" (defArgs st_TooMany_init) (defBody st_TooMany_init) (defScope st_TooMany_init) [] [] fI fd) : FnOk P w K mg base (L2.CX P w) 1 fI fd ["self", "most"] (initSp K C "most") :=
  fn_init F sc_TooMany_init fun cdv A outer s H E => pss_one (ps_ost (pe_var rfl (.inl rfl)) (pe_var rfl (.inl rfl)))
abbrev st_f_law_taken : Stmt := top 32
theorem sc_f_law_taken : FnScope ["row", "many", "found", "cell"] ["row", "many"] (defScope st_f_law_taken) := ⟨rfl, rfl, rfl, by decide +kernel, rfl, by decide +kernel, by decide +kernel⟩
theorem ok_f_law_taken (B : Bi mg) {fd : FuncData} (F : FunD K "_law_taken" "_law_taken" (defArgs st_f_law_taken) (defBody st_f_law_taken) (defScope st_f_law_taken) [] [] (He.fAd K ("_law_taken", none)) fd) (hm : mg "_law_taken" = some (.ref (He.fAd K ("_law_taken", none)))) : Cal P w K mg base "_law_taken" (0 + 1) 2 s_f_law_taken := by
  have bd : Binds K fd ["row", "many"] [] := F.bindsN fun _ _ _ _ _ _ us hl => match us, hl with | [_, _], _ => rfl
  refine cal_def F hm bd sc_f_law_taken rfl fun cdv A outer s H E hr => ?_
  have hN : (["row", "many", "found", "cell"] : List Str).Nodup := sc_f_law_taken.nd
  have hu := hr.units
  have tk : Takes (cxOf (L2.CX P w) P w K mg base ["row", "many", "found", "cell"] "_law_taken" (defScope st_f_law_taken) (He.fAd K ("_law_taken", none)) cdv A outer s H E) (WD E) := takes_of rfl rfl rfl rfl
  have hp : PassesOwn (model P w) (cxOf (L2.CX P w) P w K mg base ["row", "many", "found", "cell"] "_law_taken" (defScope st_f_law_taken) (He.fAd K ("_law_taken", none)) cdv A outer s H E).A (cxOf (L2.CX P w) P w K mg base ["row", "many", "found", "cell"] "_law_taken" (defScope st_f_law_taken) (He.fAd K ("_law_taken", none)) cdv A outer s H E).env (cxOf (L2.CX P w) P w K mg base ["row", "many", "found", "cell"] "_law_taken" (defScope st_f_law_taken) (He.fAd K ("_law_taken", none)) cdv A outer s H E).xe := passes_of rfl
  exact gs_cons (s_if (gt_cmp o_gt (g_ix x_any (gv 0) (g_int)) (g_int) (by rfl))
    (gs_cons (s_set (i := 2) hN (g_op o_mod (g_ct c_int B.int bt_int (ga_cons (g_ix x_any (gv 0) (g_int)) (ga_nil))) (gv 1)))
    (gs_cons (s_asg (g_op o_fdiv (g_ix x_any (gv 0) (g_int)) (gv 1)) (t_sub (gv 0) (g_int)))
    (gs_one (s_ret (gv 2)))))
    (gs_nil))
    (gs_cons (s_asg (g_op o_add (g_ix x_any (gv 0) (g_int)) (g_int)) (t_sub (gv 0) (g_int)))
    (gs_cons (s_if (gt_cmp o_gt (g_ix x_any (gv 0) (g_int)) (g_cb c_len B.len bt_len (ga_cons (g_ix x_any (gv 0) (g_int)) (ga_nil))) (by rfl))
    (gs_cons (s_asg (g_op o_mod (g_ct c_int B.int bt_int (ga_cons (g_op o_add (g_op o_mul (g_ix x_any (gv 0) (g_int)) (g_int)) (g_int)) (ga_nil))) (g_int)) (t_sub (gv 0) (g_int)))
    (gs_one (s_ret (g_op o_mod (g_ct c_int B.int bt_int (ga_cons (g_op o_fdiv (g_ix x_any (gv 0) (g_int)) (g_int)) (ga_nil))) (gv 1)))))
    (gs_nil))
    (gs_cons (s_set (i := 3) hN (g_ix x_any (g_ix x_any (gv 0) (g_int)) (g_op o_sub (g_ix x_any (gv 0) (g_int)) (g_int))))
    (gs_cons (s_asg (g_op o_mod (g_ct c_int B.int bt_int (ga_cons (g_op o_add (g_op o_add (g_op o_mul (g_ix x_any (gv 0) (g_int)) (g_int)) (gv 3)) (g_int)) (ga_nil))) (g_int)) (t_sub (gv 0) (g_int)))
    (gs_cons (s_if (gt_cmp o_ge (gv 3) (g_op o_pow (g_int) (g_int)) (by rfl))
    (gs_one (s_asg (g_op o_fdiv (gv 3) (gv 1)) (t_sub (gv 0) (g_int))))
    (gs_nil))
    (gs_one (s_ret (g_op o_mod (g_ct c_int B.int bt_int (ga_cons (gv 3) (ga_nil))) (gv 1)))))))))
abbrev st_f_law_pick : Stmt := top 33
theorem sc_f_law_pick : FnScope ["row", "things"] ["row", "things"] (defScope st_f_law_pick) := ⟨rfl, rfl, rfl, by decide +kernel, rfl, by decide +kernel, by decide +kernel⟩
theorem ok_f_law_pick (B : Bi mg) (h_f_law_taken : Cal P w K mg base "_law_taken" 1 2 s_f_law_taken) {fd : FuncData} (F : FunD K "_law_pick" "_law_pick" (defArgs st_f_law_pick) (defBody st_f_law_pick) (defScope st_f_law_pick) [] [] (He.fAd K ("_law_pick", none)) fd) (hm : mg "_law_pick" = some (.ref (He.fAd K ("_law_pick", none)))) : Cal P w K mg base "_law_pick" (1 + 1) 2 s_f_law_pick := by
  have bd : Binds K fd ["row", "things"] [] := F.bindsN fun _ _ _ _ _ _ us hl => match us, hl with | [_, _], _ => rfl
  refine cal_def F hm bd sc_f_law_pick rfl fun cdv A outer s H E hr => ?_
  have hN : (["row", "things"] : List Str).Nodup := sc_f_law_pick.nd
  have hu := hr.units
  have tk : Takes (cxOf (L2.CX P w) P w K mg base ["row", "things"] "_law_pick" (defScope st_f_law_pick) (He.fAd K ("_law_pick", none)) cdv A outer s H E) (WD E) := takes_of rfl rfl rfl rfl
  have hp : PassesOwn (model P w) (cxOf (L2.CX P w) P w K mg base ["row", "things"] "_law_pick" (defScope st_f_law_pick) (He.fAd K ("_law_pick", none)) cdv A outer s H E).A (cxOf (L2.CX P w) P w K mg base ["row", "things"] "_law_pick" (defScope st_f_law_pick) (He.fAd K ("_law_pick", none)) cdv A outer s H E).env (cxOf (L2.CX P w) P w K mg base ["row", "things"] "_law_pick" (defScope st_f_law_pick) (He.fAd K ("_law_pick", none)) cdv A outer s H E).xe := passes_of rfl
  exact gs_one (s_ret (g_ix x_any (gv 1) (g_c h_f_law_taken tk (hr.mono (by omega)) (ga_cons (gv 0) (ga_cons (g_cb c_len B.len bt_len (ga_cons (gv 1) (ga_nil))) (ga_nil))))))
abbrev st_is_tuple_of : Stmt := top 8
theorem sc_is_tuple_of : FnScope ["value", "least", "most"] ["value", "least", "most"] (defScope st_is_tuple_of) := ⟨rfl, rfl, rfl, by decide +kernel, rfl, by decide +kernel, by decide +kernel⟩
theorem ok_is_tuple_of (B : Bi mg) {fd : FuncData} (F : FunD K "is_tuple_of" "is_tuple_of" (defArgs st_is_tuple_of) (defBody st_is_tuple_of) (defScope st_is_tuple_of) [] [] (He.fAd K ("is_tuple_of", none)) fd) (hm : mg "is_tuple_of" = some (.ref (He.fAd K ("is_tuple_of", none)))) : Cal P w K mg base "is_tuple_of" (0 + 1) 3 s_is_tuple_of := by
  have bd : Binds K fd ["value", "least", "most"] [] := F.bindsN fun _ _ _ _ _ _ us hl => match us, hl with | [_, _, _], _ => rfl
  refine cal_def F hm bd sc_is_tuple_of rfl fun cdv A outer s H E hr => ?_
  have hN : (["value", "least", "most"] : List Str).Nodup := sc_is_tuple_of.nd
  have hu := hr.units
  have tk : Takes (cxOf (L2.CX P w) P w K mg base ["value", "least", "most"] "is_tuple_of" (defScope st_is_tuple_of) (He.fAd K ("is_tuple_of", none)) cdv A outer s H E) (WD E) := takes_of rfl rfl rfl rfl
  have hp : PassesOwn (model P w) (cxOf (L2.CX P w) P w K mg base ["value", "least", "most"] "is_tuple_of" (defScope st_is_tuple_of) (He.fAd K ("is_tuple_of", none)) cdv A outer s H E).A (cxOf (L2.CX P w) P w K mg base ["value", "least", "most"] "is_tuple_of" (defScope st_is_tuple_of) (He.fAd K ("is_tuple_of", none)) cdv A outer s H E).env (cxOf (L2.CX P w) P w K mg base ["value", "least", "most"] "is_tuple_of" (defScope st_is_tuple_of) (He.fAd K ("is_tuple_of", none)) cdv A outer s H E).xe := passes_of rfl
  exact gs_one (s_ret (g_and (g_isi .tuple (gv 0) B.isinstance B.tuple bt_tuple) (g_one (g_chain o_le o_le (gv 1) (g_cb c_len B.len bt_len (ga_cons (gv 0) (ga_nil))) (gv 2) (by with_unfolding_all rfl)))))
abbrev st_are_bytes : Stmt := top 9
theorem sc_are_bytes : FnScope ["value", "least", "most", "byte"] ["value", "least", "most"] (defScope st_are_bytes) := ⟨rfl, rfl, rfl, by decide +kernel, rfl, by decide +kernel, by decide +kernel⟩
theorem ok_are_bytes (B : Bi mg) (h_is_tuple_of : Cal P w K mg base "is_tuple_of" 1 3 s_is_tuple_of) {fd : FuncData} (F : FunD K "are_bytes" "are_bytes" (defArgs st_are_bytes) (defBody st_are_bytes) (defScope st_are_bytes) [] [] (He.fAd K ("are_bytes", none)) fd) (hm : mg "are_bytes" = some (.ref (He.fAd K ("are_bytes", none)))) : Cal P w K mg base "are_bytes" (1 + 1) 3 s_are_bytes := by
  have bd : Binds K fd ["value", "least", "most"] [] := F.bindsN fun _ _ _ _ _ _ us hl => match us, hl with | [_, _, _], _ => rfl
  refine cal_def F hm bd sc_are_bytes rfl fun cdv A outer s H E hr => ?_
  have hN : (["value", "least", "most", "byte"] : List Str).Nodup := sc_are_bytes.nd
  have hu := hr.units
  have tk : Takes (cxOf (L2.CX P w) P w K mg base ["value", "least", "most", "byte"] "are_bytes" (defScope st_are_bytes) (He.fAd K ("are_bytes", none)) cdv A outer s H E) (WD E) := takes_of rfl rfl rfl rfl
  have hp : PassesOwn (model P w) (cxOf (L2.CX P w) P w K mg base ["value", "least", "most", "byte"] "are_bytes" (defScope st_are_bytes) (He.fAd K ("are_bytes", none)) cdv A outer s H E).A (cxOf (L2.CX P w) P w K mg base ["value", "least", "most", "byte"] "are_bytes" (defScope st_are_bytes) (He.fAd K ("are_bytes", none)) cdv A outer s H E).env (cxOf (L2.CX P w) P w K mg base ["value", "least", "most", "byte"] "are_bytes" (defScope st_are_bytes) (He.fAd K ("are_bytes", none)) cdv A outer s H E).xe := passes_of rfl
  exact gs_cons (s_if (gt_not (gt_b (g_c h_is_tuple_of tk (hr.mono (by omega)) (ga_cons (gv 0) (ga_cons (gv 1) (ga_cons (gv 2) (ga_nil)))))))
    (gs_one (s_ret (g_bl)))
    (gs_nil))
    (gs_cons (s_for hp rfl (i_tup (gv 0)) (t_name (i := 3) hN)
    (gs_one (s_if (gt_w (gw_or (gt_not (gt_b (g_isi .int (gv 3) B.isinstance B.int bt_int))) (gw_or (gt_b (g_isi .bool (gv 3) B.isinstance B.bool bt_bool)) (gw_or (gt_cmp o_lt (gv 3) (g_int) (by rfl)) (gw_or1 (gt_cmp o_gt (gv 3) (g_int) (by rfl)))))))
    (gs_one (s_ret (g_bl)))
    (gs_nil))))
    (gs_one (s_ret (g_bl))))
abbrev st_check_row : Stmt := top 12
theorem sc_check_row : FnScope ["row"] ["row"] (defScope st_check_row) := ⟨rfl, rfl, rfl, by decide +kernel, rfl, by decide +kernel, by decide +kernel⟩
theorem ok_check_row {p : Pm} (B : Bi mg) (c_LONGEST_ROW : CI mg "LONGEST_ROW" 4096) (h_are_bytes : Cal P w K mg base "are_bytes" 2 3 s_are_bytes) (err_BadRow : ErrK K mg "BadRow" (p.cA "BadRow")) {fd : FuncData} (F : FunD K "check_row" "check_row" (defArgs st_check_row) (defBody st_check_row) (defScope st_check_row) [] [] (He.fAd K ("check_row", none)) fd) (hm : mg "check_row" = some (.ref (He.fAd K ("check_row", none)))) : Cal P w K mg base "check_row" (2 + 1) 1 (s_check_row p) := by
  have bd : Binds K fd ["row"] [] := F.bindsN fun _ _ _ _ _ _ us hl => match us, hl with | [_], _ => rfl
  refine cal_def F hm bd sc_check_row rfl fun cdv A outer s H E hr => ?_
  have hN : (["row"] : List Str).Nodup := sc_check_row.nd
  have hu := hr.units
  have tk : Takes (cxOf (L2.CX P w) P w K mg base ["row"] "check_row" (defScope st_check_row) (He.fAd K ("check_row", none)) cdv A outer s H E) (WD E) := takes_of rfl rfl rfl rfl
  have hp : PassesOwn (model P w) (cxOf (L2.CX P w) P w K mg base ["row"] "check_row" (defScope st_check_row) (He.fAd K ("check_row", none)) cdv A outer s H E).A (cxOf (L2.CX P w) P w K mg base ["row"] "check_row" (defScope st_check_row) (He.fAd K ("check_row", none)) cdv A outer s H E).env (cxOf (L2.CX P w) P w K mg base ["row"] "check_row" (defScope st_check_row) (He.fAd K ("check_row", none)) cdv A outer s H E).xe := passes_of rfl
  exact gs_one (s_if (gt_not (gt_b (g_c h_are_bytes tk (hr.mono (by omega)) (ga_cons (gv 0) (ga_cons (g_int) (ga_cons (g_ci c_LONGEST_ROW) (ga_nil)))))))
    (gs_one (s_raise err_BadRow tk))
    (gs_nil))
abbrev st_rest_of : Stmt := top 20
theorem sc_rest_of : FnScope ["row", "rest", "byte", "ahead"] ["row"] (defScope st_rest_of) := ⟨rfl, rfl, rfl, by decide +kernel, rfl, by decide +kernel, by decide +kernel⟩
theorem ok_rest_of (B : Bi mg) {fd : FuncData} (F : FunD K "rest_of" "rest_of" (defArgs st_rest_of) (defBody st_rest_of) (defScope st_rest_of) [] [] (He.fAd K ("rest_of", none)) fd) (hm : mg "rest_of" = some (.ref (He.fAd K ("rest_of", none)))) : Cal P w K mg base "rest_of" (0 + 1) 1 s_rest_of := by
  have bd : Binds K fd ["row"] [] := F.bindsN fun _ _ _ _ _ _ us hl => match us, hl with | [_], _ => rfl
  refine cal_def F hm bd sc_rest_of rfl fun cdv A outer s H E hr => ?_
  have hN : (["row", "rest", "byte", "ahead"] : List Str).Nodup := sc_rest_of.nd
  have hu := hr.units
  have tk : Takes (cxOf (L2.CX P w) P w K mg base ["row", "rest", "byte", "ahead"] "rest_of" (defScope st_rest_of) (He.fAd K ("rest_of", none)) cdv A outer s H E) (WD E) := takes_of rfl rfl rfl rfl
  have hp : PassesOwn (model P w) (cxOf (L2.CX P w) P w K mg base ["row", "rest", "byte", "ahead"] "rest_of" (defScope st_rest_of) (He.fAd K ("rest_of", none)) cdv A outer s H E).A (cxOf (L2.CX P w) P w K mg base ["row", "rest", "byte", "ahead"] "rest_of" (defScope st_rest_of) (He.fAd K ("rest_of", none)) cdv A outer s H E).env (cxOf (L2.CX P w) P w K mg base ["row", "rest", "byte", "ahead"] "rest_of" (defScope st_rest_of) (He.fAd K ("rest_of", none)) cdv A outer s H E).xe := passes_of rfl
  exact gs_cons (s_set (i := 1) hN (g_int))
    (gs_cons (s_for hp rfl (i_tup (gv 0)) (t_name (i := 2) hN)
    (gs_cons (s_set (i := 3) hN (g_op o_xor (g_op o_shr (gv 1) (g_int)) (gv 2)))
    (gs_cons (s_set (i := 3) hN (g_op o_xor (gv 3) (g_op o_shr (gv 3) (g_int))))
    (gs_one (s_set (i := 1) hN (g_op o_and (g_op o_xor (g_op o_xor (g_op o_xor (g_op o_shl (gv 1) (g_int)) (g_op o_shl (gv 3) (g_int))) (g_op o_shl (gv 3) (g_int))) (gv 3)) (g_int)))))))
    (gs_one (s_ret (gv 1))))
abbrev st_check_of : Stmt := top 19
theorem sc_check_of : FnScope ["row"] ["row"] (defScope st_check_of) := ⟨rfl, rfl, rfl, by decide +kernel, rfl, by decide +kernel, by decide +kernel⟩
theorem ok_check_of {p : Pm} (B : Bi mg) (h_check_row : Cal P w K mg base "check_row" 3 1 (s_check_row p)) (h_rest_of : Cal P w K mg base "rest_of" 1 1 s_rest_of) {fd : FuncData} (F : FunD K "check_of" "check_of" (defArgs st_check_of) (defBody st_check_of) (defScope st_check_of) [] [] (He.fAd K ("check_of", none)) fd) (hm : mg "check_of" = some (.ref (He.fAd K ("check_of", none)))) : Cal P w K mg base "check_of" (3 + 1) 1 (s_check_of p) := by
  have bd : Binds K fd ["row"] [] := F.bindsN fun _ _ _ _ _ _ us hl => match us, hl with | [_], _ => rfl
  refine cal_def F hm bd sc_check_of rfl fun cdv A outer s H E hr => ?_
  have hN : (["row"] : List Str).Nodup := sc_check_of.nd
  have hu := hr.units
  have tk : Takes (cxOf (L2.CX P w) P w K mg base ["row"] "check_of" (defScope st_check_of) (He.fAd K ("check_of", none)) cdv A outer s H E) (WD E) := takes_of rfl rfl rfl rfl
  have hp : PassesOwn (model P w) (cxOf (L2.CX P w) P w K mg base ["row"] "check_of" (defScope st_check_of) (He.fAd K ("check_of", none)) cdv A outer s H E).A (cxOf (L2.CX P w) P w K mg base ["row"] "check_of" (defScope st_check_of) (He.fAd K ("check_of", none)) cdv A outer s H E).env (cxOf (L2.CX P w) P w K mg base ["row"] "check_of" (defScope st_check_of) (He.fAd K ("check_of", none)) cdv A outer s H E).xe := passes_of rfl
  exact gs_cons (s_expr (g_c h_check_row tk (hr.mono (by omega)) (ga_cons (gv 0) (ga_nil))))
    (gs_one (s_ret (g_c h_rest_of tk (hr.mono (by omega)) (ga_cons (gv 0) (ga_nil)))))
abbrev st_fixed_code : Stmt := top 13
theorem sc_fixed_code : FnScope ["value", "many", "places", "_"] ["value", "many"] (defScope st_fixed_code) := ⟨rfl, rfl, rfl, by decide +kernel, rfl, by decide +kernel, by decide +kernel⟩
theorem ok_fixed_code (B : Bi mg) {fd : FuncData} (F : FunD K "fixed_code" "fixed_code" (defArgs st_fixed_code) (defBody st_fixed_code) (defScope st_fixed_code) [] [] (He.fAd K ("fixed_code", none)) fd) (hm : mg "fixed_code" = some (.ref (He.fAd K ("fixed_code", none)))) : Cal P w K mg base "fixed_code" (0 + 1) 2 s_fixed_code := by
  have bd : Binds K fd ["value", "many"] [] := F.bindsN fun _ _ _ _ _ _ us hl => match us, hl with | [_, _], _ => rfl
  refine cal_def F hm bd sc_fixed_code rfl fun cdv A outer s H E hr => ?_
  have hN : (["value", "many", "places", "_"] : List Str).Nodup := sc_fixed_code.nd
  have hu := hr.units
  have tk : Takes (cxOf (L2.CX P w) P w K mg base ["value", "many", "places", "_"] "fixed_code" (defScope st_fixed_code) (He.fAd K ("fixed_code", none)) cdv A outer s H E) (WD E) := takes_of rfl rfl rfl rfl
  have hp : PassesOwn (model P w) (cxOf (L2.CX P w) P w K mg base ["value", "many", "places", "_"] "fixed_code" (defScope st_fixed_code) (He.fAd K ("fixed_code", none)) cdv A outer s H E).A (cxOf (L2.CX P w) P w K mg base ["value", "many", "places", "_"] "fixed_code" (defScope st_fixed_code) (He.fAd K ("fixed_code", none)) cdv A outer s H E).env (cxOf (L2.CX P w) P w K mg base ["value", "many", "places", "_"] "fixed_code" (defScope st_fixed_code) (He.fAd K ("fixed_code", none)) cdv A outer s H E).xe := passes_of rfl
  exact gs_cons (s_set (i := 2) hN (g_lst (ga_nil)))
    (gs_cons (s_for hp rfl (i_r1 B.range (ga_cons (gv 1) (ga_nil))) (t_name (i := 3) hN)
    (gs_cons (s_expr (g_app (gv 2) (g_op o_mod (gv 0) (g_int))))
    (gs_one (s_set (i := 0) hN (g_op o_fdiv (gv 0) (g_int))))))
    (gs_one (s_ret (g_tupRev rfl B.tuple B.reversed (gv 2)))))
abbrev st_sealed : Stmt := top 21
theorem sc_sealed : FnScope ["row"] ["row"] (defScope st_sealed) := ⟨rfl, rfl, rfl, by decide +kernel, rfl, by decide +kernel, by decide +kernel⟩
theorem ok_sealed {p : Pm} (B : Bi mg) (c_LONGEST_ROW : CI mg "LONGEST_ROW" 4096) (c_CHECK_BYTES : CI mg "CHECK_BYTES" 2) (h_check_row : Cal P w K mg base "check_row" 3 1 (s_check_row p)) (h_rest_of : Cal P w K mg base "rest_of" 1 1 s_rest_of) (h_fixed_code : Cal P w K mg base "fixed_code" 1 2 s_fixed_code) (ef_TooMany : ErrF P w K mg base "TooMany" (p.cA "TooMany") "most") {fd : FuncData} (F : FunD K "sealed" "sealed" (defArgs st_sealed) (defBody st_sealed) (defScope st_sealed) [] [] (He.fAd K ("sealed", none)) fd) (hm : mg "sealed" = some (.ref (He.fAd K ("sealed", none)))) : Cal P w K mg base "sealed" (3 + 1) 1 (s_sealed p) := by
  have bd : Binds K fd ["row"] [] := F.bindsN fun _ _ _ _ _ _ us hl => match us, hl with | [_], _ => rfl
  refine cal_def F hm bd sc_sealed rfl fun cdv A outer s H E hr => ?_
  have hN : (["row"] : List Str).Nodup := sc_sealed.nd
  have hu := hr.units
  have tk : Takes (cxOf (L2.CX P w) P w K mg base ["row"] "sealed" (defScope st_sealed) (He.fAd K ("sealed", none)) cdv A outer s H E) (WD E) := takes_of rfl rfl rfl rfl
  have hp : PassesOwn (model P w) (cxOf (L2.CX P w) P w K mg base ["row"] "sealed" (defScope st_sealed) (He.fAd K ("sealed", none)) cdv A outer s H E).A (cxOf (L2.CX P w) P w K mg base ["row"] "sealed" (defScope st_sealed) (He.fAd K ("sealed", none)) cdv A outer s H E).env (cxOf (L2.CX P w) P w K mg base ["row"] "sealed" (defScope st_sealed) (He.fAd K ("sealed", none)) cdv A outer s H E).xe := passes_of rfl
  exact gs_cons (s_expr (g_c h_check_row tk (hr.mono (by omega)) (ga_cons (gv 0) (ga_nil))))
    (gs_cons (s_if (gt_cmp o_gt (g_cb c_len B.len bt_len (ga_cons (gv 0) (ga_nil))) (g_op o_sub (g_ci c_LONGEST_ROW) (g_ci c_CHECK_BYTES)) (by rfl))
    (gs_one (s_raiseF ef_TooMany tk (hr.mono (by omega)) (ga_cons (g_ci c_LONGEST_ROW) (ga_nil)) passes_no))
    (gs_nil))
    (gs_one (s_ret (g_tup (ga_star (gv 0) (ga_star (g_c h_fixed_code tk (hr.mono (by omega)) (ga_cons (g_c h_rest_of tk (hr.mono (by omega)) (ga_cons (gv 0) (ga_nil))) (ga_cons (g_ci c_CHECK_BYTES) (ga_nil)))) (ga_nil)))))))
abbrev st_is_right : Stmt := top 23
theorem sc_is_right : FnScope ["row"] ["row"] (defScope st_is_right) := ⟨rfl, rfl, rfl, by decide +kernel, rfl, by decide +kernel, by decide +kernel⟩
theorem ok_is_right (B : Bi mg) (c_CHECK_BYTES : CI mg "CHECK_BYTES" 2) (h_rest_of : Cal P w K mg base "rest_of" 1 1 s_rest_of) {fd : FuncData} (F : FunD K "is_right" "is_right" (defArgs st_is_right) (defBody st_is_right) (defScope st_is_right) [] [] (He.fAd K ("is_right", none)) fd) (hm : mg "is_right" = some (.ref (He.fAd K ("is_right", none)))) : Cal P w K mg base "is_right" (1 + 1) 1 s_is_right := by
  have bd : Binds K fd ["row"] [] := F.bindsN fun _ _ _ _ _ _ us hl => match us, hl with | [_], _ => rfl
  refine cal_def F hm bd sc_is_right rfl fun cdv A outer s H E hr => ?_
  have hN : (["row"] : List Str).Nodup := sc_is_right.nd
  have hu := hr.units
  have tk : Takes (cxOf (L2.CX P w) P w K mg base ["row"] "is_right" (defScope st_is_right) (He.fAd K ("is_right", none)) cdv A outer s H E) (WD E) := takes_of rfl rfl rfl rfl
  have hp : PassesOwn (model P w) (cxOf (L2.CX P w) P w K mg base ["row"] "is_right" (defScope st_is_right) (He.fAd K ("is_right", none)) cdv A outer s H E).A (cxOf (L2.CX P w) P w K mg base ["row"] "is_right" (defScope st_is_right) (He.fAd K ("is_right", none)) cdv A outer s H E).env (cxOf (L2.CX P w) P w K mg base ["row"] "is_right" (defScope st_is_right) (He.fAd K ("is_right", none)) cdv A outer s H E).xe := passes_of rfl
  exact gs_one (s_ret (g_and (g_cmp o_ge (g_cb c_len B.len bt_len (ga_cons (gv 0) (ga_nil))) (g_ci c_CHECK_BYTES) (by rfl)) (g_one (g_cmp (o_eq hu) (g_c h_rest_of tk (hr.mono (by omega)) (ga_cons (gv 0) (ga_nil))) (g_int) (by rfl)))))
abbrev st_is_sealed : Stmt := top 22
theorem sc_is_sealed : FnScope ["row"] ["row"] (defScope st_is_sealed) := ⟨rfl, rfl, rfl, by decide +kernel, rfl, by decide +kernel, by decide +kernel⟩
theorem ok_is_sealed {p : Pm} (B : Bi mg) (h_check_row : Cal P w K mg base "check_row" 3 1 (s_check_row p)) (h_is_right : Cal P w K mg base "is_right" 2 1 s_is_right) {fd : FuncData} (F : FunD K "is_sealed" "is_sealed" (defArgs st_is_sealed) (defBody st_is_sealed) (defScope st_is_sealed) [] [] (He.fAd K ("is_sealed", none)) fd) (hm : mg "is_sealed" = some (.ref (He.fAd K ("is_sealed", none)))) : Cal P w K mg base "is_sealed" (3 + 1) 1 (s_is_sealed p) := by
  have bd : Binds K fd ["row"] [] := F.bindsN fun _ _ _ _ _ _ us hl => match us, hl with | [_], _ => rfl
  refine cal_def F hm bd sc_is_sealed rfl fun cdv A outer s H E hr => ?_
  have hN : (["row"] : List Str).Nodup := sc_is_sealed.nd
  have hu := hr.units
  have tk : Takes (cxOf (L2.CX P w) P w K mg base ["row"] "is_sealed" (defScope st_is_sealed) (He.fAd K ("is_sealed", none)) cdv A outer s H E) (WD E) := takes_of rfl rfl rfl rfl
  have hp : PassesOwn (model P w) (cxOf (L2.CX P w) P w K mg base ["row"] "is_sealed" (defScope st_is_sealed) (He.fAd K ("is_sealed", none)) cdv A outer s H E).A (cxOf (L2.CX P w) P w K mg base ["row"] "is_sealed" (defScope st_is_sealed) (He.fAd K ("is_sealed", none)) cdv A outer s H E).env (cxOf (L2.CX P w) P w K mg base ["row"] "is_sealed" (defScope st_is_sealed) (He.fAd K ("is_sealed", none)) cdv A outer s H E).xe := passes_of rfl
  exact gs_cons (s_expr (g_c h_check_row tk (hr.mono (by omega)) (ga_cons (gv 0) (ga_nil))))
    (gs_one (s_ret (g_c h_is_right tk (hr.mono (by omega)) (ga_cons (gv 0) (ga_nil)))))
abbrev st_is_integer : Stmt := top 7
theorem sc_is_integer : FnScope ["value", "low", "high"] ["value", "low", "high"] (defScope st_is_integer) := ⟨rfl, rfl, rfl, by decide +kernel, rfl, by decide +kernel, by decide +kernel⟩
theorem ok_is_integer (B : Bi mg) {fd : FuncData} (F : FunD K "is_integer" "is_integer" (defArgs st_is_integer) (defBody st_is_integer) (defScope st_is_integer) [] [] (He.fAd K ("is_integer", none)) fd) (hm : mg "is_integer" = some (.ref (He.fAd K ("is_integer", none)))) : Cal P w K mg base "is_integer" (0 + 1) 3 s_is_integer := by
  have bd : Binds K fd ["value", "low", "high"] [] := F.bindsN fun _ _ _ _ _ _ us hl => match us, hl with | [_, _, _], _ => rfl
  refine cal_def F hm bd sc_is_integer rfl fun cdv A outer s H E hr => ?_
  have hN : (["value", "low", "high"] : List Str).Nodup := sc_is_integer.nd
  have hu := hr.units
  have tk : Takes (cxOf (L2.CX P w) P w K mg base ["value", "low", "high"] "is_integer" (defScope st_is_integer) (He.fAd K ("is_integer", none)) cdv A outer s H E) (WD E) := takes_of rfl rfl rfl rfl
  have hp : PassesOwn (model P w) (cxOf (L2.CX P w) P w K mg base ["value", "low", "high"] "is_integer" (defScope st_is_integer) (He.fAd K ("is_integer", none)) cdv A outer s H E).A (cxOf (L2.CX P w) P w K mg base ["value", "low", "high"] "is_integer" (defScope st_is_integer) (He.fAd K ("is_integer", none)) cdv A outer s H E).env (cxOf (L2.CX P w) P w K mg base ["value", "low", "high"] "is_integer" (defScope st_is_integer) (He.fAd K ("is_integer", none)) cdv A outer s H E).xe := passes_of rfl
  exact gs_one (s_ret (g_and (g_isi .int (gv 0) B.isinstance B.int bt_int) (g_and (g_not (g_isi .bool (gv 0) B.isinstance B.bool bt_bool)) (g_one (g_chain o_le o_le (gv 1) (gv 0) (gv 2) (by with_unfolding_all rfl))))))
abbrev st_check_flips : Stmt := top 24
theorem sc_check_flips : FnScope ["flips", "many_bits", "least", "flip"] ["flips", "many_bits"] (defScope st_check_flips) := ⟨rfl, rfl, rfl, by decide +kernel, rfl, by decide +kernel, by decide +kernel⟩
theorem ok_check_flips {p : Pm} (B : Bi mg) (c_MOST_FLIPS : CI mg "MOST_FLIPS" 64) (h_is_tuple_of : Cal P w K mg base "is_tuple_of" 1 3 s_is_tuple_of) (h_is_integer : Cal P w K mg base "is_integer" 1 3 s_is_integer) (err_BadFlips : ErrK K mg "BadFlips" (p.cA "BadFlips")) {fd : FuncData} (F : FunD K "check_flips" "check_flips" (defArgs st_check_flips) (defBody st_check_flips) (defScope st_check_flips) [] [] (He.fAd K ("check_flips", none)) fd) (hm : mg "check_flips" = some (.ref (He.fAd K ("check_flips", none)))) : Cal P w K mg base "check_flips" (1 + 1) 2 (s_check_flips p) := by
  have bd : Binds K fd ["flips", "many_bits"] [] := F.bindsN fun _ _ _ _ _ _ us hl => match us, hl with | [_, _], _ => rfl
  refine cal_def F hm bd sc_check_flips rfl fun cdv A outer s H E hr => ?_
  have hN : (["flips", "many_bits", "least", "flip"] : List Str).Nodup := sc_check_flips.nd
  have hu := hr.units
  have tk : Takes (cxOf (L2.CX P w) P w K mg base ["flips", "many_bits", "least", "flip"] "check_flips" (defScope st_check_flips) (He.fAd K ("check_flips", none)) cdv A outer s H E) (WD E) := takes_of rfl rfl rfl rfl
  have hp : PassesOwn (model P w) (cxOf (L2.CX P w) P w K mg base ["flips", "many_bits", "least", "flip"] "check_flips" (defScope st_check_flips) (He.fAd K ("check_flips", none)) cdv A outer s H E).A (cxOf (L2.CX P w) P w K mg base ["flips", "many_bits", "least", "flip"] "check_flips" (defScope st_check_flips) (He.fAd K ("check_flips", none)) cdv A outer s H E).env (cxOf (L2.CX P w) P w K mg base ["flips", "many_bits", "least", "flip"] "check_flips" (defScope st_check_flips) (He.fAd K ("check_flips", none)) cdv A outer s H E).xe := passes_of rfl
  exact gs_cons (s_if (gt_not (gt_b (g_c h_is_tuple_of tk (hr.mono (by omega)) (ga_cons (gv 0) (ga_cons (g_int) (ga_cons (g_ci c_MOST_FLIPS) (ga_nil)))))))
    (gs_one (s_raise err_BadFlips tk))
    (gs_nil))
    (gs_cons (s_set (i := 2) hN (g_int))
    (gs_one (s_for hp rfl (i_tup (gv 0)) (t_name (i := 3) hN)
    (gs_cons (s_if (gt_not (gt_b (g_c h_is_integer tk (hr.mono (by omega)) (ga_cons (gv 3) (ga_cons (gv 2) (ga_cons (g_op o_sub (gv 1) (g_int)) (ga_nil)))))))
    (gs_one (s_raise err_BadFlips tk))
    (gs_nil))
    (gs_one (s_set (i := 2) hN (g_op o_add (gv 3) (g_int))))))))
abbrev st_with_flips : Stmt := top 26
theorem sc_with_flips : FnScope ["row", "flips", "changed_row", "flip", "at"] ["row", "flips"] (defScope st_with_flips) := ⟨rfl, rfl, rfl, by decide +kernel, rfl, by decide +kernel, by decide +kernel⟩
theorem ok_with_flips (B : Bi mg) {fd : FuncData} (F : FunD K "with_flips" "with_flips" (defArgs st_with_flips) (defBody st_with_flips) (defScope st_with_flips) [] [] (He.fAd K ("with_flips", none)) fd) (hm : mg "with_flips" = some (.ref (He.fAd K ("with_flips", none)))) : Cal P w K mg base "with_flips" (0 + 1) 2 s_with_flips := by
  have bd : Binds K fd ["row", "flips"] [] := F.bindsN fun _ _ _ _ _ _ us hl => match us, hl with | [_, _], _ => rfl
  refine cal_def F hm bd sc_with_flips rfl fun cdv A outer s H E hr => ?_
  have hN : (["row", "flips", "changed_row", "flip", "at"] : List Str).Nodup := sc_with_flips.nd
  have hu := hr.units
  have tk : Takes (cxOf (L2.CX P w) P w K mg base ["row", "flips", "changed_row", "flip", "at"] "with_flips" (defScope st_with_flips) (He.fAd K ("with_flips", none)) cdv A outer s H E) (WD E) := takes_of rfl rfl rfl rfl
  have hp : PassesOwn (model P w) (cxOf (L2.CX P w) P w K mg base ["row", "flips", "changed_row", "flip", "at"] "with_flips" (defScope st_with_flips) (He.fAd K ("with_flips", none)) cdv A outer s H E).A (cxOf (L2.CX P w) P w K mg base ["row", "flips", "changed_row", "flip", "at"] "with_flips" (defScope st_with_flips) (He.fAd K ("with_flips", none)) cdv A outer s H E).env (cxOf (L2.CX P w) P w K mg base ["row", "flips", "changed_row", "flip", "at"] "with_flips" (defScope st_with_flips) (He.fAd K ("with_flips", none)) cdv A outer s H E).xe := passes_of rfl
  exact gs_cons (s_set (i := 2) hN (g_ct c_list B.list bt_list (ga_cons (gv 0) (ga_nil))))
    (gs_cons (s_for hp rfl (i_tup (gv 1)) (t_name (i := 3) hN)
    (gs_cons (s_set (i := 4) hN (g_op o_fdiv (gv 3) (g_int)))
    (gs_one (s_asg (g_op o_xor (g_ix x_any (gv 2) (gv 4)) (g_op o_shr (g_int) (g_op o_mod (gv 3) (g_int)))) (t_sub (gv 2) (gv 4))))))
    (gs_one (s_ret (g_ct c_tuple B.tuple bt_tuple (ga_cons (gv 2) (ga_nil))))))
abbrev st_flipped : Stmt := top 25
theorem sc_flipped : FnScope ["row", "flips"] ["row", "flips"] (defScope st_flipped) := ⟨rfl, rfl, rfl, by decide +kernel, rfl, by decide +kernel, by decide +kernel⟩
theorem ok_flipped {p : Pm} (B : Bi mg) (h_check_row : Cal P w K mg base "check_row" 3 1 (s_check_row p)) (h_check_flips : Cal P w K mg base "check_flips" 2 2 (s_check_flips p)) (h_with_flips : Cal P w K mg base "with_flips" 1 2 s_with_flips) {fd : FuncData} (F : FunD K "flipped" "flipped" (defArgs st_flipped) (defBody st_flipped) (defScope st_flipped) [] [] (He.fAd K ("flipped", none)) fd) (hm : mg "flipped" = some (.ref (He.fAd K ("flipped", none)))) : Cal P w K mg base "flipped" (3 + 1) 2 (s_flipped p) := by
  have bd : Binds K fd ["row", "flips"] [] := F.bindsN fun _ _ _ _ _ _ us hl => match us, hl with | [_, _], _ => rfl
  refine cal_def F hm bd sc_flipped rfl fun cdv A outer s H E hr => ?_
  have hN : (["row", "flips"] : List Str).Nodup := sc_flipped.nd
  have hu := hr.units
  have tk : Takes (cxOf (L2.CX P w) P w K mg base ["row", "flips"] "flipped" (defScope st_flipped) (He.fAd K ("flipped", none)) cdv A outer s H E) (WD E) := takes_of rfl rfl rfl rfl
  have hp : PassesOwn (model P w) (cxOf (L2.CX P w) P w K mg base ["row", "flips"] "flipped" (defScope st_flipped) (He.fAd K ("flipped", none)) cdv A outer s H E).A (cxOf (L2.CX P w) P w K mg base ["row", "flips"] "flipped" (defScope st_flipped) (He.fAd K ("flipped", none)) cdv A outer s H E).env (cxOf (L2.CX P w) P w K mg base ["row", "flips"] "flipped" (defScope st_flipped) (He.fAd K ("flipped", none)) cdv A outer s H E).xe := passes_of rfl
  exact gs_cons (s_expr (g_c h_check_row tk (hr.mono (by omega)) (ga_cons (gv 0) (ga_nil))))
    (gs_cons (s_expr (g_c h_check_flips tk (hr.mono (by omega)) (ga_cons (gv 1) (ga_cons (g_op o_mul (g_int) (g_cb c_len B.len bt_len (ga_cons (gv 0) (ga_nil)))) (ga_nil)))))
    (gs_one (s_ret (g_c h_with_flips tk (hr.mono (by omega)) (ga_cons (gv 0) (ga_cons (gv 1) (ga_nil)))))))
abbrev st_is_unseen : Stmt := top 27
theorem sc_is_unseen : FnScope ["length", "flips"] ["length", "flips"] (defScope st_is_unseen) := ⟨rfl, rfl, rfl, by decide +kernel, rfl, by decide +kernel, by decide +kernel⟩
theorem ok_is_unseen {p : Pm} (B : Bi mg) (c_LONGEST_ROW : CI mg "LONGEST_ROW" 4096) (c_CHECK_BYTES : CI mg "CHECK_BYTES" 2) (h_is_integer : Cal P w K mg base "is_integer" 1 3 s_is_integer) (h_check_flips : Cal P w K mg base "check_flips" 2 2 (s_check_flips p)) (h_with_flips : Cal P w K mg base "with_flips" 1 2 s_with_flips) (h_is_right : Cal P w K mg base "is_right" 2 1 s_is_right) (err_BadNumber : ErrK K mg "BadNumber" (p.cA "BadNumber")) {fd : FuncData} (F : FunD K "is_unseen" "is_unseen" (defArgs st_is_unseen) (defBody st_is_unseen) (defScope st_is_unseen) [] [] (He.fAd K ("is_unseen", none)) fd) (hm : mg "is_unseen" = some (.ref (He.fAd K ("is_unseen", none)))) : Cal P w K mg base "is_unseen" (2 + 1) 2 (s_is_unseen p) := by
  have bd : Binds K fd ["length", "flips"] [] := F.bindsN fun _ _ _ _ _ _ us hl => match us, hl with | [_, _], _ => rfl
  refine cal_def F hm bd sc_is_unseen rfl fun cdv A outer s H E hr => ?_
  have hN : (["length", "flips"] : List Str).Nodup := sc_is_unseen.nd
  have hu := hr.units
  have tk : Takes (cxOf (L2.CX P w) P w K mg base ["length", "flips"] "is_unseen" (defScope st_is_unseen) (He.fAd K ("is_unseen", none)) cdv A outer s H E) (WD E) := takes_of rfl rfl rfl rfl
  have hp : PassesOwn (model P w) (cxOf (L2.CX P w) P w K mg base ["length", "flips"] "is_unseen" (defScope st_is_unseen) (He.fAd K ("is_unseen", none)) cdv A outer s H E).A (cxOf (L2.CX P w) P w K mg base ["length", "flips"] "is_unseen" (defScope st_is_unseen) (He.fAd K ("is_unseen", none)) cdv A outer s H E).env (cxOf (L2.CX P w) P w K mg base ["length", "flips"] "is_unseen" (defScope st_is_unseen) (He.fAd K ("is_unseen", none)) cdv A outer s H E).xe := passes_of rfl
  exact gs_cons (s_if (gt_not (gt_b (g_c h_is_integer tk (hr.mono (by omega)) (ga_cons (gv 0) (ga_cons (g_ci c_CHECK_BYTES) (ga_cons (g_ci c_LONGEST_ROW) (ga_nil)))))))
    (gs_one (s_raise err_BadNumber tk))
    (gs_nil))
    (gs_cons (s_expr (g_c h_check_flips tk (hr.mono (by omega)) (ga_cons (gv 1) (ga_cons (g_op o_mul (g_int) (gv 0)) (ga_nil)))))
    (gs_one (s_ret (g_c h_is_right tk (hr.mono (by omega)) (ga_cons (g_c h_with_flips tk (hr.mono (by omega)) (ga_cons (g_op o_mulX (g_tup (ga_cons (g_int) (ga_nil))) (gv 0)) (ga_cons (gv 1) (ga_nil)))) (ga_nil))))))
abbrev st_least_unseen : Stmt := top 28
theorem sc_least_unseen : FnScope ["length", "rests", "bit_with", "bit", "rest", "many", "flips"] ["length"] (defScope st_least_unseen) := ⟨rfl, rfl, rfl, by decide +kernel, rfl, by decide +kernel, by decide +kernel⟩
theorem ok_least_unseen {p : Pm} (B : Bi mg) (c_LONGEST_SEARCHED : CI mg "LONGEST_SEARCHED" 24) (c_CHECK_BYTES : CI mg "CHECK_BYTES" 2) (h_is_integer : Cal P w K mg base "is_integer" 1 3 s_is_integer) (err_BadNumber : ErrK K mg "BadNumber" (p.cA "BadNumber")) {fd : FuncData} (F : FunD K "least_unseen" "least_unseen" (defArgs st_least_unseen) (defBody st_least_unseen) (defScope st_least_unseen) [] [] (He.fAd K ("least_unseen", none)) fd) (hm : mg "least_unseen" = some (.ref (He.fAd K ("least_unseen", none)))) : Cal P w K mg base "least_unseen" (1 + 1) 1 (s_least_unseen p) := by
  have bd : Binds K fd ["length"] [] := F.bindsN fun _ _ _ _ _ _ us hl => match us, hl with | [_], _ => rfl
  refine cal_def F hm bd sc_least_unseen rfl fun cdv A outer s H E hr => ?_
  have hN : (["length", "rests", "bit_with", "bit", "rest", "many", "flips"] : List Str).Nodup := sc_least_unseen.nd
  have hu := hr.units
  have tk : Takes (cxOf (L2.CX P w) P w K mg base ["length", "rests", "bit_with", "bit", "rest", "many", "flips"] "least_unseen" (defScope st_least_unseen) (He.fAd K ("least_unseen", none)) cdv A outer s H E) (WD E) := takes_of rfl rfl rfl rfl
  have hp : PassesOwn (model P w) (cxOf (L2.CX P w) P w K mg base ["length", "rests", "bit_with", "bit", "rest", "many", "flips"] "least_unseen" (defScope st_least_unseen) (He.fAd K ("least_unseen", none)) cdv A outer s H E).A (cxOf (L2.CX P w) P w K mg base ["length", "rests", "bit_with", "bit", "rest", "many", "flips"] "least_unseen" (defScope st_least_unseen) (He.fAd K ("least_unseen", none)) cdv A outer s H E).env (cxOf (L2.CX P w) P w K mg base ["length", "rests", "bit_with", "bit", "rest", "many", "flips"] "least_unseen" (defScope st_least_unseen) (He.fAd K ("least_unseen", none)) cdv A outer s H E).xe := passes_of rfl
  exact gs_cons (s_if (gt_not (gt_b (g_c h_is_integer tk (hr.mono (by omega)) (ga_cons (gv 0) (ga_cons (g_ci c_CHECK_BYTES) (ga_cons (g_ci c_LONGEST_SEARCHED) (ga_nil)))))))
    (gs_one (s_raise err_BadNumber tk))
    (gs_nil))
    (gs_never)
abbrev st_f_law_works : Stmt := top 35
theorem sc_f_law_works : FnScope ["one", "other", "works"] ["one", "other"] (defScope st_f_law_works) := ⟨rfl, rfl, rfl, by decide +kernel, rfl, by decide +kernel, by decide +kernel⟩
def lamOf (j : Nat) : LSyn := lamAt ((defBody st_f_law_works).getD (1 + j) (.Pass ⟨0, 0, 0, 0⟩)) (("_law_works" ++ ".<locals>.") ++ "<lambda>")
theorem lok_0 {p : Pm} (B : Bi mg) (h_check_of : Cal P w K mg base "check_of" 4 1 (s_check_of p)) : LamOk P w K mg base 4 (lamOf 0) ["one"] (lam_0 p) := ⟨lsc_of (by decide +kernel) (fun _ _ _ _ => rfl), fun f c' cl A outer s H E has hr => by
  have hN : (["one"] : List Str).Nodup := by decide
  have hu := hr.units
  have tk : Takes (cloCx P w K mg base ["one"] (lamOf 0) f c' cl A outer s H E) (WD E) := takes_of rfl rfl rfl rfl
  exact g_c h_check_of tk (hr.mono (by omega)) (ga_cons (gv 0) (ga_nil))⟩
theorem lok_1 {p : Pm} (B : Bi mg) (h_sealed : Cal P w K mg base "sealed" 4 1 (s_sealed p)) : LamOk P w K mg base 4 (lamOf 1) ["one"] (lam_1 p) := ⟨lsc_of (by decide +kernel) (fun _ _ _ _ => rfl), fun f c' cl A outer s H E has hr => by
  have hN : (["one"] : List Str).Nodup := by decide
  have hu := hr.units
  have tk : Takes (cloCx P w K mg base ["one"] (lamOf 1) f c' cl A outer s H E) (WD E) := takes_of rfl rfl rfl rfl
  exact g_c h_sealed tk (hr.mono (by omega)) (ga_cons (gv 0) (ga_nil))⟩
theorem lok_2 {p : Pm} (B : Bi mg) (h_is_sealed : Cal P w K mg base "is_sealed" 4 1 (s_is_sealed p)) : LamOk P w K mg base 4 (lamOf 2) ["one"] (lam_2 p) := ⟨lsc_of (by decide +kernel) (fun _ _ _ _ => rfl), fun f c' cl A outer s H E has hr => by
  have hN : (["one"] : List Str).Nodup := by decide
  have hu := hr.units
  have tk : Takes (cloCx P w K mg base ["one"] (lamOf 2) f c' cl A outer s H E) (WD E) := takes_of rfl rfl rfl rfl
  exact g_c h_is_sealed tk (hr.mono (by omega)) (ga_cons (gv 0) (ga_nil))⟩
theorem lok_3 {p : Pm} (B : Bi mg) (h_flipped : Cal P w K mg base "flipped" 4 2 (s_flipped p)) : LamOk P w K mg base 4 (lamOf 3) ["one", "other"] (lam_3 p) := ⟨lsc_of (by decide +kernel) (fun _ _ _ _ => rfl), fun f c' cl A outer s H E has hr => by
  have hN : (["one", "other"] : List Str).Nodup := by decide
  have hu := hr.units
  have tk : Takes (cloCx P w K mg base ["one", "other"] (lamOf 3) f c' cl A outer s H E) (WD E) := takes_of rfl rfl rfl rfl
  exact g_c h_flipped tk (hr.mono (by omega)) (ga_cons (gv 0) (ga_cons (gv 1) (ga_nil)))⟩
theorem lok_4 {p : Pm} (B : Bi mg) (h_is_unseen : Cal P w K mg base "is_unseen" 3 2 (s_is_unseen p)) : LamOk P w K mg base 4 (lamOf 4) ["one", "other"] (lam_4 p) := ⟨lsc_of (by decide +kernel) (fun _ _ _ _ => rfl), fun f c' cl A outer s H E has hr => by
  have hN : (["one", "other"] : List Str).Nodup := by decide
  have hu := hr.units
  have tk : Takes (cloCx P w K mg base ["one", "other"] (lamOf 4) f c' cl A outer s H E) (WD E) := takes_of rfl rfl rfl rfl
  exact g_c h_is_unseen tk (hr.mono (by omega)) (ga_cons (gv 0) (ga_cons (gv 1) (ga_nil)))⟩
theorem lok_5 {p : Pm} (B : Bi mg) (h_least_unseen : Cal P w K mg base "least_unseen" 2 1 (s_least_unseen p)) : LamOk P w K mg base 4 (lamOf 5) ["one"] (lam_5 p) := ⟨lsc_of (by decide +kernel) (fun _ _ _ _ => rfl), fun f c' cl A outer s H E has hr => by
  have hN : (["one"] : List Str).Nodup := by decide
  have hu := hr.units
  have tk : Takes (cloCx P w K mg base ["one"] (lamOf 5) f c' cl A outer s H E) (WD E) := takes_of rfl rfl rfl rfl
  exact g_c h_least_unseen tk (hr.mono (by omega)) (ga_cons (gv 0) (ga_nil))⟩
theorem ok_f_law_works {PT : Addr} (TB : LamX.TabB base mg (He.codeOf K ("_law_works", none)) PT) {fd : FuncData} (F : FunD K "_law_works" "_law_works" (defArgs st_f_law_works) (defBody st_f_law_works) (defScope st_f_law_works) [] [] (He.fAd K ("_law_works", none)) fd) (hm : mg "_law_works" = some (.ref (He.fAd K ("_law_works", none)))) : Cal P w K mg base "_law_works" 1 2 (aWorks ["one", "other", "works"] (defScope st_f_law_works) (rb_f_law_works PT lamOf)) := by
  have bd : Binds K fd ["one", "other"] [] := F.bindsN fun _ _ _ _ _ _ us hl => match us, hl with | [_, _], _ => rfl
  refine cal_works F hm bd sc_f_law_works rfl fun A outer s H E hr => ?_
  have hN : (["one", "other", "works"] : List Str).Nodup := sc_f_law_works.nd
  exact r_cons (W := W0) (s_set (i := 2) hN (g_lst ga_nil))
    (r_cons (W := W0) (s_expr (g_app (gv 2) (g_lam (L := lamOf 0) TB rfl rfl rfl (show ∀ y ∈ (lamOf 0).scope.names, y.2 = .free → (defScope st_f_law_works).names.lookup y.1 = some .cell by decide +kernel))))
    (r_cons (W := W0) (s_expr (g_app (gv 2) (g_lam (L := lamOf 1) TB rfl rfl rfl (show ∀ y ∈ (lamOf 1).scope.names, y.2 = .free → (defScope st_f_law_works).names.lookup y.1 = some .cell by decide +kernel))))
    (r_cons (W := W0) (s_expr (g_app (gv 2) (g_lam (L := lamOf 2) TB rfl rfl rfl (show ∀ y ∈ (lamOf 2).scope.names, y.2 = .free → (defScope st_f_law_works).names.lookup y.1 = some .cell by decide +kernel))))
    (r_cons (W := W0) (s_expr (g_app (gv 2) (g_lam (L := lamOf 3) TB rfl rfl rfl (show ∀ y ∈ (lamOf 3).scope.names, y.2 = .free → (defScope st_f_law_works).names.lookup y.1 = some .cell by decide +kernel))))
    (r_cons (W := W0) (s_expr (g_app (gv 2) (g_lam (L := lamOf 4) TB rfl rfl rfl (show ∀ y ∈ (lamOf 4).scope.names, y.2 = .free → (defScope st_f_law_works).names.lookup y.1 = some .cell by decide +kernel))))
    (r_cons (W := W0) (s_expr (g_app (gv 2) (g_lam (L := lamOf 5) TB rfl rfl rfl (show ∀ y ∈ (lamOf 5).scope.names, y.2 = .free → (defScope st_f_law_works).names.lookup y.1 = some .cell by decide +kernel))))
    (r_ret (W := W0) (gv 2))))))))
theorem cap_0 : CapOk ["one", "other", "works"] (defScope st_f_law_works) (lamOf 0) ["one"] [0] := capOk_of (by decide +kernel)
theorem cap_1 : CapOk ["one", "other", "works"] (defScope st_f_law_works) (lamOf 1) ["one"] [0] := capOk_of (by decide +kernel)
theorem cap_2 : CapOk ["one", "other", "works"] (defScope st_f_law_works) (lamOf 2) ["one"] [0] := capOk_of (by decide +kernel)
theorem cap_3 : CapOk ["one", "other", "works"] (defScope st_f_law_works) (lamOf 3) ["one", "other"] [0, 1] := capOk_of (by decide +kernel)
theorem cap_4 : CapOk ["one", "other", "works"] (defScope st_f_law_works) (lamOf 4) ["one", "other"] [0, 1] := capOk_of (by decide +kernel)
theorem cap_5 : CapOk ["one", "other", "works"] (defScope st_f_law_works) (lamOf 5) ["one"] [0] := capOk_of (by decide +kernel)
abbrev st_f_law_refused : Stmt := top 34
theorem sc_f_law_refused : FnScope ["work", "found", "e", "tells", "names"] ["work"] (defScope st_f_law_refused) := ⟨rfl, rfl, rfl, by decide +kernel, rfl, by decide +kernel, by decide +kernel⟩
theorem ok_f_law_refused {p : Pm} (B : Bi mg) (err_CutError : ErrK K mg "CutError" (p.cA "CutError")) (err_BadRow : ErrK K mg "BadRow" (p.cA "BadRow")) (err_BadNumber : ErrK K mg "BadNumber" (p.cA "BadNumber")) (err_BadFlips : ErrK K mg "BadFlips" (p.cA "BadFlips")) (ef_TooMany : ErrF P w K mg base "TooMany" (p.cA "TooMany") "most") (hmt : ∀ a b, p.mt a = some b → PySem.W.exmOne K (.ref a) (.ref (p.cA "CutError")) = some b) (his : ∀ a1 a2 b, p.isT a1 a2 = some b → PySem.W.kitOne K (.ref a1) (.ref a2) = some b ∧ ExcC K a1) (hfl : ∀ C g, p.fld C g = true → XfC K C ∧ PySem.W.findIn K (.ref C) g = some none) (hT : ∀ L ys t, T_lam p L ys t → LamOk P w K mg base 4 L ys t) {fd : FuncData} (F : FunD K "_law_refused" "_law_refused" (defArgs st_f_law_refused) (defBody st_f_law_refused) (defScope st_f_law_refused) [] [] (He.fAd K ("_law_refused", none)) fd) (hm : mg "_law_refused" = some (.ref (He.fAd K ("_law_refused", none)))) : Cal P w K mg base "_law_refused" (5 + 1) 1 (s_f_law_refused p) := by
  have bd : Binds K fd ["work"] [] := F.bindsN fun _ _ _ _ _ _ us hl => match us, hl with | [_], _ => rfl
  refine cal_def F hm bd sc_f_law_refused rfl fun cdv A outer s H E hr => ?_
  have hN : (["work", "found", "e", "tells", "names"] : List Str).Nodup := sc_f_law_refused.nd
  have hu := hr.units
  have tk : Takes (cxOf (L2.CX P w) P w K mg base ["work", "found", "e", "tells", "names"] "_law_refused" (defScope st_f_law_refused) (He.fAd K ("_law_refused", none)) cdv A outer s H E) (WD E) := takes_of rfl rfl rfl rfl
  have hp : PassesOwn (model P w) (cxOf (L2.CX P w) P w K mg base ["work", "found", "e", "tells", "names"] "_law_refused" (defScope st_f_law_refused) (He.fAd K ("_law_refused", none)) cdv A outer s H E).A (cxOf (L2.CX P w) P w K mg base ["work", "found", "e", "tells", "names"] "_law_refused" (defScope st_f_law_refused) (He.fAd K ("_law_refused", none)) cdv A outer s H E).env (cxOf (L2.CX P w) P w K mg base ["work", "found", "e", "tells", "names"] "_law_refused" (defScope st_f_law_refused) (He.fAd K ("_law_refused", none)) cdv A outer s H E).xe := passes_of rfl
  exact gs_cons (s_set (i := 1) hN (g_non))
    (gs_cons (s_tryX (i := 2) (mt := p.mt) rfl rfl hN ⟨rfl, rfl, .inl err_CutError.glo⟩ tk hmt (fun W' pn xe tk _ => gs_one (s_expr (g_callv (i := 0) hT tk (hr.mono (by omega))))) (fun a oe x d pn hz hd => gs_cons (s_set (i := 3) hN (g_lst (ga_nil)))
    (gs_cons (s_expr (g_app (gv 3) (g_isX (i := 2) hz hd his B.isinstance err_BadRow.glo)))
    (gs_cons (s_expr (g_app (gv 3) (g_isX (i := 2) hz hd his B.isinstance err_BadNumber.glo)))
    (gs_cons (s_expr (g_app (gv 3) (g_isX (i := 2) hz hd his B.isinstance err_BadFlips.glo)))
    (gs_cons (s_expr (g_app (gv 3) (g_isX (i := 2) hz hd his B.isinstance ef_TooMany.glo)))
    (gs_cons (s_set (i := 4) hN (g_lst (ga_cons (g_str) (ga_cons (g_str) (ga_cons (g_str) (ga_cons (g_str) (ga_nil)))))))
    (gs_cons (s_set (i := 1) hN (g_if (gt_cmp (o_eq hu) (g_count (gv 3) (g_bl)) (g_int) (by rfl)) (g_ix x_any (gv 4) (g_index (gv 3) (g_bl))) (g_str)))
    (gs_one (s_set (i := 1) hN (g_if (gt_cmp (o_eq hu) (gv 1) (g_str) (by rfl)) (g_tup (ga_cons (g_str) (ga_cons (g_fld (i := 2) hz hd hfl (fun _ => trivial)) (ga_nil)))) (gv 1))))))))))))
    (gs_one (s_ret (gv 1))))
abbrev st_law : Stmt := top 36
theorem sc_law : FnScope ["script", "row", "bad", "work", "number", "flips"] ["script"] (defScope st_law) := ⟨rfl, rfl, rfl, by decide +kernel, rfl, by decide +kernel, by decide +kernel⟩
theorem fn_law {p : Pm} (B : Bi mg) (h_f_law_pick : Cal P w K mg base "_law_pick" 2 2 s_f_law_pick) (h_f_law_works : Cal P w K mg base "_law_works" 1 2 (s_f_law_works p)) (h_f_law_refused : Cal P w K mg base "_law_refused" 6 1 (s_f_law_refused p)) (h_f_law_taken : Cal P w K mg base "_law_taken" 1 2 s_f_law_taken) {fd : FuncData} (F : FunD K "law" "law" (defArgs st_law) (defBody st_law) (defScope st_law) [] [] (He.fAd K ("law", none)) fd) (hm : mg "law" = some (.ref (He.fAd K ("law", none)))) : FnOk P w K mg base (L2.CX P w) (6 + 1) (He.fAd K ("law", none)) fd ["script"] (lSp K 1 (s_law p)) := by
  refine ok_def F sc_law rfl fun cdv A outer s H E hr => ?_
  have hN : (["script", "row", "bad", "work", "number", "flips"] : List Str).Nodup := sc_law.nd
  have hu := hr.units
  have tk : Takes (cxOf (L2.CX P w) P w K mg base ["script", "row", "bad", "work", "number", "flips"] "law" (defScope st_law) (He.fAd K ("law", none)) cdv A outer s H E) (WD E) := takes_of rfl rfl rfl rfl
  have hp : PassesOwn (model P w) (cxOf (L2.CX P w) P w K mg base ["script", "row", "bad", "work", "number", "flips"] "law" (defScope st_law) (He.fAd K ("law", none)) cdv A outer s H E).A (cxOf (L2.CX P w) P w K mg base ["script", "row", "bad", "work", "number", "flips"] "law" (defScope st_law) (He.fAd K ("law", none)) cdv A outer s H E).env (cxOf (L2.CX P w) P w K mg base ["script", "row", "bad", "work", "number", "flips"] "law" (defScope st_law) (He.fAd K ("law", none)) cdv A outer s H E).xe := passes_of rfl
  exact gs_cons (s_set (i := 1) hN (g_lst (ga_cons (gv 0) (ga_cons (g_int) (ga_cons (g_int) (ga_cons (g_int) (ga_nil)))))))
    (gs_cons (s_set (i := 2) hN (g_c h_f_law_pick tk (hr.mono (by omega)) (ga_cons (gv 1) (ga_cons (g_lst (ga_cons (g_non) (ga_cons (g_lst (ga_cons (g_int) (ga_nil))) (ga_cons (g_tup (ga_cons (g_int) (ga_nil))) (ga_cons (g_tup (ga_cons (g_op o_sub (g_int) (g_int)) (ga_nil))) (ga_cons (g_tup (ga_cons (g_bl) (ga_nil))) (ga_cons (g_tup (ga_cons (g_str) (ga_nil))) (ga_cons (g_op o_mulX (g_tup (ga_cons (g_int) (ga_nil))) (g_int)) (ga_cons (g_int) (ga_cons (g_str) (ga_cons (g_dnew) (ga_cons (g_tup (ga_cons (g_tup (ga_nil)) (ga_nil))) (ga_nil))))))))))))) (ga_nil)))))
    (gs_cons (s_if (gt_cmp (o_ne hu) (g_lc (own := [(("work" : Str), 3)]) rfl hN (i_lst (g_slice sl_any (g_c h_f_law_works tk (hr.mono (by omega)) (ga_cons (gv 2) (ga_cons (g_non) (ga_nil)))) (gp_none) (gp_some (g_int)))) (blkOk_by (by exact (show blkC (["script", "row", "bad", "work", "number", "flips"] : List Str) (defScope st_law) _ [(("work" : Str), 3)] = true by decide +kernel))) (fun _ _ _ _ _ => c_name (i := 3) hN (by decide)) (fun _ _ _ _ _ => ts_yes) (fun _ _ _ _ _ => g_c h_f_law_refused tk0 (hr.mono (by omega)) (ga_cons (gv 3) (ga_nil)))) (g_op o_mul (g_lst (ga_cons (g_str) (ga_nil))) (g_int)) (by rfl))
    (gs_one (s_ret (g_bl)))
    (gs_nil))
    (gs_cons (s_set (i := 4) hN (g_c h_f_law_pick tk (hr.mono (by omega)) (ga_cons (gv 1) (ga_cons (g_lst (ga_cons (g_non) (ga_cons (g_bl) (ga_cons (g_int) (ga_cons (g_int) (ga_cons (g_int) (ga_cons (g_str) (ga_cons (g_tup (ga_cons (g_int) (ga_nil))) (ga_cons (g_op o_sub (g_int) (g_int)) (ga_cons (g_lst (ga_nil)) (ga_nil))))))))))) (ga_nil)))))
    (gs_cons (s_if (gt_cmp (o_ne hu) (g_lc (own := [(("work" : Str), 3)]) rfl hN (i_lst (g_slice sl_any (g_c h_f_law_works tk (hr.mono (by omega)) (ga_cons (gv 4) (ga_cons (g_non) (ga_nil)))) (gp_some (g_int)) (gp_none))) (blkOk_by (by exact (show blkC (["script", "row", "bad", "work", "number", "flips"] : List Str) (defScope st_law) _ [(("work" : Str), 3)] = true by decide +kernel))) (fun _ _ _ _ _ => c_name (i := 3) hN (by decide)) (fun _ _ _ _ _ => ts_yes) (fun _ _ _ _ _ => g_c h_f_law_refused tk0 (hr.mono (by omega)) (ga_cons (gv 3) (ga_nil)))) (g_op o_mul (g_lst (ga_cons (g_str) (ga_nil))) (g_int)) (by rfl))
    (gs_one (s_ret (g_bl)))
    (gs_nil))
    (gs_cons (s_if (gt_cmp (o_ne hu) (g_c h_f_law_refused tk (hr.mono (by omega)) (ga_cons (g_ix x_any (g_c h_f_law_works tk (hr.mono (by omega)) (ga_cons (g_int) (ga_cons (g_non) (ga_nil)))) (g_int)) (ga_nil))) (g_str) (by rfl))
    (gs_one (s_ret (g_bl)))
    (gs_nil))
    (gs_cons (s_set (i := 5) hN (g_lst (ga_cons (g_non) (ga_cons (g_lst (ga_cons (g_int) (ga_nil))) (ga_cons (g_tup (ga_cons (g_int) (ga_cons (g_int) (ga_nil)))) (ga_cons (g_tup (ga_cons (g_int) (ga_cons (g_int) (ga_nil)))) (ga_cons (g_tup (ga_cons (g_bl) (ga_nil))) (ga_cons (g_tup (ga_cons (g_op o_sub (g_int) (g_int)) (ga_nil))) (ga_cons (g_tup (ga_cons (g_int) (ga_nil))) (ga_cons (g_tup (ga_cons (g_str) (ga_nil))) (ga_cons (g_int) (ga_cons (g_tupRg rfl B.tuple B.range (g_int)) (ga_cons (g_tup (ga_cons (g_non) (ga_nil))) (ga_cons (g_dnew) (ga_nil)))))))))))))))
    (gs_cons (s_set (i := 5) hN (g_c h_f_law_pick tk (hr.mono (by omega)) (ga_cons (gv 1) (ga_cons (gv 5) (ga_nil)))))
    (gs_cons (s_if (gt_w (gw_or (gt_cmp (o_ne hu) (g_c h_f_law_refused tk (hr.mono (by omega)) (ga_cons (g_ix x_any (g_c h_f_law_works tk (hr.mono (by omega)) (ga_cons (g_tup (ga_cons (g_int) (ga_cons (g_int) (ga_cons (g_int) (ga_nil))))) (ga_cons (gv 5) (ga_nil)))) (g_int)) (ga_nil))) (g_str) (by rfl)) (gw_or1 (gt_cmp (o_ne hu) (g_c h_f_law_refused tk (hr.mono (by omega)) (ga_cons (g_ix x_any (g_c h_f_law_works tk (hr.mono (by omega)) (ga_cons (g_int) (ga_cons (gv 5) (ga_nil)))) (g_int)) (ga_nil))) (g_str) (by rfl)))))
    (gs_one (s_ret (g_bl)))
    (gs_nil))
    (gs_cons (s_if (gt_cmp (o_ne hu) (g_c h_f_law_refused tk (hr.mono (by omega)) (ga_cons (g_ix x_any (g_c h_f_law_works tk (hr.mono (by omega)) (ga_cons (g_op o_mulX (g_tup (ga_cons (g_int) (ga_nil))) (g_op o_add (g_int) (g_c h_f_law_taken tk (hr.mono (by omega)) (ga_cons (gv 1) (ga_cons (g_int) (ga_nil)))))) (ga_cons (g_non) (ga_nil)))) (g_int)) (ga_nil))) (g_tup (ga_cons (g_str) (ga_cons (g_int) (ga_nil)))) (by rfl))
    (gs_one (s_ret (g_bl)))
    (gs_nil))
    (gs_one (s_ret (g_cmp (o_eq hu) (g_lc (own := [(("work" : Str), 3)]) rfl hN (i_lst (g_slice sl_any (g_c h_f_law_works tk (hr.mono (by omega)) (ga_cons (g_op o_mulX (g_tup (ga_cons (g_int) (ga_nil))) (g_int)) (ga_cons (g_tup (ga_nil)) (ga_nil)))) (gp_none) (gp_some (g_int)))) (blkOk_by (by exact (show blkC (["script", "row", "bad", "work", "number", "flips"] : List Str) (defScope st_law) _ [(("work" : Str), 3)] = true by decide +kernel))) (fun _ _ _ _ _ => c_name (i := 3) hN (by decide)) (fun _ _ _ _ _ => ts_yes) (fun _ _ _ _ _ => g_c h_f_law_refused tk0 (hr.mono (by omega)) (ga_cons (gv 3) (ga_nil)))) (g_op o_mul (g_lst (ga_cons (g_non) (ga_nil))) (g_int)) (by rfl)))))))))))))
end
end K7

set_option linter.all false
set_option maxRecDepth 100000
namespace K7
open PySem PySem.Spec PyProof.Rows L2 Ab
def RowAt (ns : List Int) (m : M) (r : Addr) : Prop := ∃ i s k : Int, 0 ≤ i ∧ 0 ≤ s ∧ s < 2147483647 ∧ 0 ≤ k ∧ m r = some (.lst [.fls (ns.map .int), .int i, .int s, .int k])
def Ev (r : Addr) (m m' : M) : Prop := ∀ a o, a ≠ r → m a = some o → m' a = some o
theorem Ev.refl {r : Addr} (m : M) : Ev r m m := fun _ _ _ h => h
theorem Ev.trans {r : Addr} {m m1 m2 : M} (a : Ev r m m1) (b : Ev r m1 m2) : Ev r m m2 := fun x o n h => b x o n (a x o n h)
theorem Ev.set {r : Addr} {m : M} {o : O} : Ev r m (mset m r o) := fun x u n h => by rw [mset_ne n]; exact h
theorem Ev.new {r p : Addr} {m : M} {o : O} (h : m p = none) : Ev r m (mset m p o) := fun x u n e => by
  rw [mset_ne fun z => by rw [z, h] at e; cases e]; exact e
theorem RowAt.ne {ns : List Int} {m : M} {r p : Addr} (h : RowAt ns m r) (hp : m p = none) : p ≠ r := fun z => by
  obtain ⟨_, _, _, _, _, _, _, e⟩ := h
  rw [z, e] at hp
  cases hp
theorem RowAt.new {ns : List Int} {m : M} {r p : Addr} {o : O} (h : RowAt ns m r) (hp : m p = none) : RowAt ns (mset m p o) r := by
  have n := h.ne hp
  obtain ⟨i, s, k, a, b, c, d, e⟩ := h
  exact ⟨i, s, k, a, b, c, d, by rw [mset_ne (Ne.symm n)]; exact e⟩
theorem RowAt.put {ns : List Int} {m : M} {r p : Addr} {o : O} (h : RowAt ns m r) (n : p ≠ r) : RowAt ns (mset m p o) r := by
  obtain ⟨i, s, k, a, b, c, d, e⟩ := h
  exact ⟨i, s, k, a, b, c, d, by rw [mset_ne (Ne.symm n)]; exact e⟩
theorem rowAt_set {ns : List Int} {m : M} {r : Addr} {i s k : Int} (hi : 0 ≤ i) (hs : 0 ≤ s) (hs2 : s < 2147483647) (hk : 0 ≤ k) : RowAt ns (mset m r (.lst [.fls (ns.map .int), .int i, .int s, .int k])) r := ⟨i, s, k, hi, hs, hs2, hk, mset_same⟩
theorem atI_map {ns : List Int} {i : Int} (h0 : 0 ≤ i) (h1 : i < ns.length) : ∃ z, z ∈ ns ∧ atI (ns.map D.int) i = some (.int z) := by
  rw [atI_nat h0 (by rw [List.length_map]; exact h1), List.getElem?_map]
  have hl : i.toNat < ns.length := by omega
  rw [List.getElem?_eq_getElem hl]
  exact ⟨_, List.getElem_mem hl, rfl⟩
theorem log_le {a : Int} {n : Nat} (h : a.natAbs < 2 ^ n) : a.natAbs.log2 < n ∨ n = 0 := by
  rcases Nat.eq_zero_or_pos a.natAbs with e | e
  · rw [e]
    rcases Nat.eq_zero_or_pos n with z | z
    · exact .inr z
    · exact .inl z
  · exact .inl ((Nat.log2_lt (by omega)).mpr h)
theorem log_small {a : Int} (h : a.natAbs < 2 ^ 63) : a.natAbs.log2 < 63 := by
  rcases log_le h with h | h
  · exact h
  · omega
theorem cdiv {a b : Int} (h0 : 0 < b) (h : b < 2 ^ 63) : CDivW a b := ⟨h0, Nat.lt_trans (log_small (by omega)) (by decide)⟩
theorem cmul {a b : Int} (h : a.natAbs < 2 ^ 63) (h' : b.natAbs < 2 ^ 63) : CMulW a b := by
  have h1 := log_small h
  have h2 := log_small h'
  unfold CMulW
  omega
theorem taken {ns : List Int} {m : M} {r : Addr} {many : Int} {Q : PQ} {R : PX} (h : RowAt ns m r) (h0 : 0 < many) (hb : many < 2 ^ 63) (q : ∀ x m', 0 ≤ x → x < many → RowAt ns m' r → Ev r m m' → Q (.int x) m') : s_f_law_taken [.ref r, .int many] m Q R := by
  obtain ⟨i, s, k, hi, hs, hs2, hk, hm⟩ := h
  have h18 : (10 : Int) ^ (Int.toNat 18) = 1000000000000000000 := by decide
  refine ent_f_law_taken ?_
  unfold b_f_law_taken
  simp (config := {failIfUnchanged := false}) only [aSeq, aIfS, aTest, aTru, aOp, aUn, aCB, aVar, aC, aCons, aNil, aStar, aAsg, aN, aSubL, aRet, aRetN, aNext, aNever, aDrop, aApp, aTup, aLst, aPar, aAnd, aOr, aNot, aAndV, aOrV, aNotV, aIf, aChain, aCall, aIsi, aIsi2, aSl, aNoP, aPt, aTupRev, aAll, aFor, aITup, aILst, aIR1, aIR2, aTT, aGCons, aGNil, aLc, aYes, aBrk, aCnt, aWhile, En.g, En.s, rIxA, itemsD, rLenA, lenD, rIntA, rTupleA, rListA, rMinA, rMaxA, rAddA, rSubA, rMulA, rFdivA, rModA, rPowA, rShlA, rShrA, rAndA, rOrA, rXorA, rLtA, rLeA, rGtA, rGeA, rNegA, rInt0, rIntC, rIsA, rIsNotA, rEqA, rNeA, eqA, D.isNon, Ab.rSlA, wipeE, En.x, l_same, mset_same, mset_mset, Option.map_some, List.length_cons, List.length_nil, Nat.zero_add, Nat.reduceAdd, true_and, and_true, decide_eq_true_eq, ite_true, ite_false, Bool.not_true, Bool.not_false, Bool.false_eq_true, if_true, if_false, List.append_assoc, List.cons_append, List.nil_append, at0, at1, at2, at3, at4, at5, ix0, ix1, ix2, ix3, List.set_cons_zero, List.set_cons_succ,l_of hm]
  refine imp_pos (fun c => ?_) (fun c => ?_)
  · exact ⟨h0, cdiv h0 hb, _, Sub.refl _, q _ _ (Int.emod_nonneg _ (by omega)) (Int.emod_lt_of_pos _ h0) (rowAt_set hi hs hs2 (Int.ediv_nonneg hk (by omega))) Ev.set⟩
  · refine imp_pos (fun c2 => ?_) (fun c2 => ?_)
    · exact ⟨cmul (by omega) (by decide), by decide, cdiv (by decide) (by decide), h0, _, Sub.refl _, q _ _ (Int.emod_nonneg _ (by omega)) (Int.emod_lt_of_pos _ h0) (rowAt_set (by omega) (by omega) (by omega) hk) Ev.set⟩
    · rw [List.length_map] at c2
      obtain ⟨z, hz, e⟩ := atI_map (ns := ns) (i := i + 1 - 1) (by omega) (by omega)
      rw [e]
      simp (config := {failIfUnchanged := false}) only [aSeq, aIfS, aTest, aTru, aOp, aUn, aCB, aVar, aC, aCons, aNil, aStar, aAsg, aN, aSubL, aRet, aRetN, aNext, aNever, aDrop, aApp, aTup, aLst, aPar, aAnd, aOr, aNot, aAndV, aOrV, aNotV, aIf, aChain, aCall, aIsi, aIsi2, aSl, aNoP, aPt, aTupRev, aAll, aFor, aITup, aILst, aIR1, aIR2, aTT, aGCons, aGNil, aLc, aYes, aBrk, aCnt, aWhile, En.g, En.s, rIxA, itemsD, rLenA, lenD, rIntA, rTupleA, rListA, rMinA, rMaxA, rAddA, rSubA, rMulA, rFdivA, rModA, rPowA, rShlA, rShrA, rAndA, rOrA, rXorA, rLtA, rLeA, rGtA, rGeA, rNegA, rInt0, rIntC, rIsA, rIsNotA, rEqA, rNeA, eqA, D.isNon, Ab.rSlA, wipeE, En.x, l_same, mset_same, mset_mset, Option.map_some, List.length_cons, List.length_nil, Nat.zero_add, Nat.reduceAdd, true_and, and_true, decide_eq_true_eq, ite_true, ite_false, Bool.not_true, Bool.not_false, Bool.false_eq_true, if_true, if_false, List.append_assoc, List.cons_append, List.nil_append, at0, at1, at2, at3, at4, at5, ix0, ix1, ix2, ix3, List.set_cons_zero, List.set_cons_succ,true_and]
      refine ⟨cmul (by omega) (by decide), by decide, by unfold CPow; decide, imp_pos (fun c3 => ⟨cdiv h0 hb, h0, _, Sub.refl _, ?_⟩) (fun c3 => ⟨h0, _, Sub.refl _, ?_⟩)⟩
      · exact q _ _ (Int.emod_nonneg _ (by omega)) (Int.emod_lt_of_pos _ h0) (rowAt_set (by omega) (by omega) (by omega) (Int.ediv_nonneg (by omega) (by omega))) Ev.set
      · exact q _ _ (Int.emod_nonneg _ (by omega)) (Int.emod_lt_of_pos _ h0) (rowAt_set (by omega) (by omega) (by omega) hk) Ev.set
theorem pick {ns : List Int} {m : M} {r p : Addr} {ds : List D} {Q : PQ} {R : PX} (h : RowAt ns m r) (hp : m p = some (.lst ds)) (hn : p ≠ r) (h0 : 0 < ds.length) (hb : ds.length < 2 ^ 62) (q : ∀ d m', d ∈ ds → RowAt ns m' r → Ev r m m' → Q d m') : s_f_law_pick [.ref r, .ref p] m Q R := by
  refine ent_f_law_pick ?_
  unfold b_f_law_pick
  simp (config := {failIfUnchanged := false}) only [aSeq, aIfS, aTest, aTru, aOp, aUn, aCB, aVar, aC, aCons, aNil, aStar, aAsg, aN, aSubL, aRet, aRetN, aNext, aNever, aDrop, aApp, aTup, aLst, aPar, aAnd, aOr, aNot, aAndV, aOrV, aNotV, aIf, aChain, aCall, aIsi, aIsi2, aSl, aNoP, aPt, aTupRev, aAll, aFor, aITup, aILst, aIR1, aIR2, aTT, aGCons, aGNil, aLc, aYes, aBrk, aCnt, aWhile, En.g, En.s, rIxA, itemsD, rLenA, lenD, rIntA, rTupleA, rListA, rMinA, rMaxA, rAddA, rSubA, rMulA, rFdivA, rModA, rPowA, rShlA, rShrA, rAndA, rOrA, rXorA, rLtA, rLeA, rGtA, rGeA, rNegA, rInt0, rIntC, rIsA, rIsNotA, rEqA, rNeA, eqA, D.isNon, Ab.rSlA, wipeE, En.x, l_same, mset_same, mset_mset, Option.map_some, List.length_cons, List.length_nil, Nat.zero_add, Nat.reduceAdd, true_and, and_true, decide_eq_true_eq, ite_true, ite_false, Bool.not_true, Bool.not_false, Bool.false_eq_true, if_true, if_false, List.append_assoc, List.cons_append, List.nil_append, at0, at1, at2, at3, at4, at5, ix0, ix1, ix2, ix3, List.set_cons_zero, List.set_cons_succ,l_of hp]
  refine taken h (by omega) (by omega) fun x m' h1 h2 h3 h4 => ?_
  rw [l_of (h4 p _ hn hp)]
  simp (config := {failIfUnchanged := false}) only [aSeq, aIfS, aTest, aTru, aOp, aUn, aCB, aVar, aC, aCons, aNil, aStar, aAsg, aN, aSubL, aRet, aRetN, aNext, aNever, aDrop, aApp, aTup, aLst, aPar, aAnd, aOr, aNot, aAndV, aOrV, aNotV, aIf, aChain, aCall, aIsi, aIsi2, aSl, aNoP, aPt, aTupRev, aAll, aFor, aITup, aILst, aIR1, aIR2, aTT, aGCons, aGNil, aLc, aYes, aBrk, aCnt, aWhile, En.g, En.s, rIxA, itemsD, rLenA, lenD, rIntA, rTupleA, rListA, rMinA, rMaxA, rAddA, rSubA, rMulA, rFdivA, rModA, rPowA, rShlA, rShrA, rAndA, rOrA, rXorA, rLtA, rLeA, rGtA, rGeA, rNegA, rInt0, rIntC, rIsA, rIsNotA, rEqA, rNeA, eqA, D.isNon, Ab.rSlA, wipeE, En.x, l_same, mset_same, mset_mset, Option.map_some, List.length_cons, List.length_nil, Nat.zero_add, Nat.reduceAdd, true_and, and_true, decide_eq_true_eq, ite_true, ite_false, Bool.not_true, Bool.not_false, Bool.false_eq_true, if_true, if_false, List.append_assoc, List.cons_append, List.nil_append, at0, at1, at2, at3, at4, at5, ix0, ix1, ix2, ix3, List.set_cons_zero, List.set_cons_succ,true_and]
  rw [atI_nat h1 h2, List.getElem?_eq_getElem (show x.toNat < ds.length by omega)]
  exact ⟨_, Sub.refl _, q _ _ (List.getElem_mem _) h3 h4⟩
theorem isInt {m : M} {v lo hi : Int} {Q : PQ} {R : PX} (q : Q (.bl (decide (lo ≤ v) && decide (v ≤ hi))) m) : s_is_integer [.int v, .int lo, .int hi] m Q R := by
  refine ent_is_integer ?_
  unfold b_is_integer
  simp (config := {failIfUnchanged := false}) only [aSeq, aIfS, aTest, aTru, aOp, aUn, aCB, aVar, aC, aCons, aNil, aStar, aAsg, aN, aSubL, aRet, aRetN, aNext, aNever, aDrop, aApp, aTup, aLst, aPar, aAnd, aOr, aNot, aAndV, aOrV, aNotV, aIf, aChain, aCall, aIsi, aIsi2, aSl, aNoP, aPt, aTupRev, aAll, aFor, aITup, aILst, aIR1, aIR2, aTT, aGCons, aGNil, aLc, aYes, aBrk, aCnt, aWhile, En.g, En.s, rIxA, itemsD, rLenA, lenD, rIntA, rTupleA, rListA, rMinA, rMaxA, rAddA, rSubA, rMulA, rFdivA, rModA, rPowA, rShlA, rShrA, rAndA, rOrA, rXorA, rLtA, rLeA, rGtA, rGeA, rNegA, rInt0, rIntC, rIsA, rIsNotA, rEqA, rNeA, eqA, D.isNon, Ab.rSlA, wipeE, En.x, l_same, mset_same, mset_mset, Option.map_some, List.length_cons, List.length_nil, Nat.zero_add, Nat.reduceAdd, true_and, and_true, decide_eq_true_eq, ite_true, ite_false, Bool.not_true, Bool.not_false, Bool.false_eq_true, if_true, if_false, List.append_assoc, List.cons_append, List.nil_append, at0, at1, at2, at3, at4, at5, ix0, ix1, ix2, ix3, List.set_cons_zero, List.set_cons_succ,tyD, show Ty.sub .int .int = true from rfl, show Ty.sub .int .bool = false from rfl]
  by_cases h : lo ≤ v
  · rw [if_pos h]
    exact ⟨_, Sub.refl _, by simpa [h] using q⟩
  · rw [if_neg h]
    exact ⟨_, Sub.refl _, by simpa [h] using q⟩
theorem isInt_t {m : M} {v lo hi : Int} {Q : PQ} {R : PX} (h1 : lo ≤ v) (h2 : v ≤ hi) (q : Q (.bl true) m) : s_is_integer [.int v, .int lo, .int hi] m Q R := isInt (by simpa [h1, h2] using q)
def iD (l : List Nat) : List D := l.map fun n : Nat => D.int (n : Int)
theorem iD_len (l : List Nat) : (iD l).length = l.length := List.length_map ..
theorem iD_app (l k : List Nat) : iD (l ++ k) = iD l ++ iD k := List.map_append ..
theorem rngD_zero {lo : Int} : rngD lo 0 = [] := rfl
theorem rngD_succ {lo : Int} {n : Nat} : rngD lo (n + 1) = .int lo :: rngD (lo + 1) n := by
  unfold rngD
  rw [List.range_succ_eq_map, List.map_cons, List.map_map]
  congr 1
  · simp
  · apply List.map_congr_left
    intro a _
    simp only [Function.comp]
    congr 1
    omega
theorem tupOf {m : M} {ds : List D} {lo hi : Int} {Q : PQ} {R : PX} (h1 : lo ≤ ds.length) (h2 : ds.length ≤ hi) (q : Q (.bl true) m) : s_is_tuple_of [.tup ds, .int lo, .int hi] m Q R := by
  refine ent_is_tuple_of ?_
  unfold b_is_tuple_of
  simp (config := {failIfUnchanged := false}) only [aSeq, aIfS, aTest, aTru, aOp, aUn, aCB, aVar, aC, aCons, aNil, aStar, aAsg, aN, aSubL, aRet, aRetN, aNext, aNever, aDrop, aApp, aTup, aLst, aPar, aAnd, aOr, aNot, aAndV, aOrV, aNotV, aIf, aChain, aCall, aIsi, aIsi2, aSl, aNoP, aPt, aTupRev, aAll, aFor, aITup, aILst, aIR1, aIR2, aTT, aGCons, aGNil, aLc, aYes, aBrk, aCnt, aWhile, En.g, En.s, rIxA, itemsD, rLenA, lenD, rIntA, rTupleA, rListA, rMinA, rMaxA, rAddA, rSubA, rMulA, rFdivA, rModA, rPowA, rShlA, rShrA, rAndA, rOrA, rXorA, rLtA, rLeA, rGtA, rGeA, rNegA, rInt0, rIntC, rIsA, rIsNotA, rEqA, rNeA, eqA, D.isNon, Ab.rSlA, wipeE, En.x, l_same, mset_same, mset_mset, Option.map_some, List.length_cons, List.length_nil, Nat.zero_add, Nat.reduceAdd, true_and, and_true, decide_eq_true_eq, ite_true, ite_false, Bool.not_true, Bool.not_false, Bool.false_eq_true, if_true, if_false, List.append_assoc, List.cons_append, List.nil_append, at0, at1, at2, at3, at4, at5, ix0, ix1, ix2, ix3, List.set_cons_zero, List.set_cons_succ,tyD, show Ty.sub .tuple .tuple = true from rfl]
  rw [if_pos h1]
  exact ⟨_, Sub.refl _, by simpa [h2] using q⟩
def Bytes (ds : List D) : Prop := ∀ d ∈ ds, ∃ n : Nat, d = .int (n : Int) ∧ n < 256
theorem Bytes.app {a b : List D} (ha : Bytes a) (hb : Bytes b) : Bytes (a ++ b) := fun d h => by
  rcases List.mem_append.mp h with h | h
  · exact ha d h
  · exact hb d h
theorem bytes_iD {l : List Nat} (h : ∀ b ∈ l, b < 256) : Bytes (iD l) := fun d hd => by
  obtain ⟨n, hn, e⟩ := List.mem_map.mp hd
  exact ⟨n, e.symm, h n hn⟩
theorem ab_loop {A : AEnds} {x0 x1 x2 : Option D} {m : M} {gd : M → Prop} (hgd : ∀ m, gd m) : ∀ (ds : List D) (x3 : Option D), Bytes ds → (∀ y3, A.nx [x0, x1, x2, y3] m) → forL (aN 3) bl_are_bytes_0 gd ds A [x0, x1, x2, x3] m
  | [], x3, hb, q => ⟨hgd _, q _⟩
  | d :: ds, x3, hb, q => by
    obtain ⟨n, rfl, hn⟩ := hb d (by simp)
    have ih := ab_loop hgd (A := A) (x0 := x0) (x1 := x1) (x2 := x2) (m := m) ds (some (.int (n : Int))) (fun d hd => hb d (by simp [hd])) q
    unfold forL
    refine ⟨hgd _, ?_⟩
    generalize forL (aN 3) bl_are_bytes_0 gd ds A = X at ih ⊢
    unfold bl_are_bytes_0
    simp (config := {failIfUnchanged := false}) only [aSeq, aIfS, aTest, aTru, aOp, aUn, aCB, aVar, aC, aCons, aNil, aStar, aAsg, aN, aSubL, aRet, aRetN, aNext, aNever, aDrop, aApp, aTup, aLst, aPar, aAnd, aOr, aNot, aAndV, aOrV, aNotV, aIf, aChain, aCall, aIsi, aIsi2, aSl, aNoP, aPt, aTupRev, aAll, aFor, aITup, aILst, aIR1, aIR2, aTT, aGCons, aGNil, aLc, aYes, aBrk, aCnt, aWhile, En.g, En.s, rIxA, itemsD, rLenA, lenD, rIntA, rTupleA, rListA, rMinA, rMaxA, rAddA, rSubA, rMulA, rFdivA, rModA, rPowA, rShlA, rShrA, rAndA, rOrA, rXorA, rLtA, rLeA, rGtA, rGeA, rNegA, rInt0, rIntC, rIsA, rIsNotA, rEqA, rNeA, eqA, D.isNon, Ab.rSlA, wipeE, En.x, l_same, mset_same, mset_mset, Option.map_some, List.length_cons, List.length_nil, Nat.zero_add, Nat.reduceAdd, true_and, and_true, decide_eq_true_eq, ite_true, ite_false, Bool.not_true, Bool.not_false, Bool.false_eq_true, if_true, if_false, List.append_assoc, List.cons_append, List.nil_append, at0, at1, at2, at3, at4, at5, ix0, ix1, ix2, ix3, List.set_cons_zero, List.set_cons_succ,tyD, show Ty.sub .int .int = true from rfl, show Ty.sub .int .bool = false from rfl]
    have e1 : decide ((n : Int) < 0) = false := decide_eq_false (by omega)
    have e2 : decide ((255 : Int) < (n : Int)) = false := decide_eq_false (by omega)
    simpa [e1, e2, show ¬ ((n : Int) < 0) by omega, show ¬ ((255 : Int) < (n : Int)) by omega] using ih
theorem areBytes {m : M} {ds : List D} {lo hi : Int} {Q : PQ} {R : PX} (h1 : lo ≤ ds.length) (h2 : ds.length ≤ hi) (hb : Bytes ds) (q : Q (.bl true) m) : s_are_bytes [.tup ds, .int lo, .int hi] m Q R := by
  refine ent_are_bytes ?_
  unfold b_are_bytes
  simp (config := {failIfUnchanged := false}) only [aSeq, aIfS, aTest, aTru, aOp, aUn, aCB, aVar, aC, aCons, aNil, aStar, aAsg, aN, aSubL, aRet, aRetN, aNext, aNever, aDrop, aApp, aTup, aLst, aPar, aAnd, aOr, aNot, aAndV, aOrV, aNotV, aIf, aChain, aCall, aIsi, aIsi2, aSl, aNoP, aPt, aTupRev, aAll, aFor, aITup, aILst, aIR1, aIR2, aTT, aGCons, aGNil, aLc, aYes, aBrk, aCnt, aWhile, En.g, En.s, rIxA, itemsD, rLenA, lenD, rIntA, rTupleA, rListA, rMinA, rMaxA, rAddA, rSubA, rMulA, rFdivA, rModA, rPowA, rShlA, rShrA, rAndA, rOrA, rXorA, rLtA, rLeA, rGtA, rGeA, rNegA, rInt0, rIntC, rIsA, rIsNotA, rEqA, rNeA, eqA, D.isNon, Ab.rSlA, wipeE, En.x, l_same, mset_same, mset_mset, Option.map_some, List.length_cons, List.length_nil, Nat.zero_add, Nat.reduceAdd, true_and, and_true, decide_eq_true_eq, ite_true, ite_false, Bool.not_true, Bool.not_false, Bool.false_eq_true, if_true, if_false, List.append_assoc, List.cons_append, List.nil_append, at0, at1, at2, at3, at4, at5, ix0, ix1, ix2, ix3, List.set_cons_zero, List.set_cons_succ,true_and]
  refine tupOf h1 h2 ?_
  simp (config := {failIfUnchanged := false}) only [aSeq, aIfS, aTest, aTru, aOp, aUn, aCB, aVar, aC, aCons, aNil, aStar, aAsg, aN, aSubL, aRet, aRetN, aNext, aNever, aDrop, aApp, aTup, aLst, aPar, aAnd, aOr, aNot, aAndV, aOrV, aNotV, aIf, aChain, aCall, aIsi, aIsi2, aSl, aNoP, aPt, aTupRev, aAll, aFor, aITup, aILst, aIR1, aIR2, aTT, aGCons, aGNil, aLc, aYes, aBrk, aCnt, aWhile, En.g, En.s, rIxA, itemsD, rLenA, lenD, rIntA, rTupleA, rListA, rMinA, rMaxA, rAddA, rSubA, rMulA, rFdivA, rModA, rPowA, rShlA, rShrA, rAndA, rOrA, rXorA, rLtA, rLeA, rGtA, rGeA, rNegA, rInt0, rIntC, rIsA, rIsNotA, rEqA, rNeA, eqA, D.isNon, Ab.rSlA, wipeE, En.x, l_same, mset_same, mset_mset, Option.map_some, List.length_cons, List.length_nil, Nat.zero_add, Nat.reduceAdd, true_and, and_true, decide_eq_true_eq, ite_true, ite_false, Bool.not_true, Bool.not_false, Bool.false_eq_true, if_true, if_false, List.append_assoc, List.cons_append, List.nil_append, at0, at1, at2, at3, at4, at5, ix0, ix1, ix2, ix3, List.set_cons_zero, List.set_cons_succ,true_and]
  refine ab_loop (fun _ => trivial) ds _ hb fun y3 => ?_
  simp (config := {failIfUnchanged := false}) only [aSeq, aIfS, aTest, aTru, aOp, aUn, aCB, aVar, aC, aCons, aNil, aStar, aAsg, aN, aSubL, aRet, aRetN, aNext, aNever, aDrop, aApp, aTup, aLst, aPar, aAnd, aOr, aNot, aAndV, aOrV, aNotV, aIf, aChain, aCall, aIsi, aIsi2, aSl, aNoP, aPt, aTupRev, aAll, aFor, aITup, aILst, aIR1, aIR2, aTT, aGCons, aGNil, aLc, aYes, aBrk, aCnt, aWhile, En.g, En.s, rIxA, itemsD, rLenA, lenD, rIntA, rTupleA, rListA, rMinA, rMaxA, rAddA, rSubA, rMulA, rFdivA, rModA, rPowA, rShlA, rShrA, rAndA, rOrA, rXorA, rLtA, rLeA, rGtA, rGeA, rNegA, rInt0, rIntC, rIsA, rIsNotA, rEqA, rNeA, eqA, D.isNon, Ab.rSlA, wipeE, En.x, l_same, mset_same, mset_mset, Option.map_some, List.length_cons, List.length_nil, Nat.zero_add, Nat.reduceAdd, true_and, and_true, decide_eq_true_eq, ite_true, ite_false, Bool.not_true, Bool.not_false, Bool.false_eq_true, if_true, if_false, List.append_assoc, List.cons_append, List.nil_append, at0, at1, at2, at3, at4, at5, ix0, ix1, ix2, ix3, List.set_cons_zero, List.set_cons_succ,true_and]
  exact ⟨_, Sub.refl _, q⟩
def be : Nat → Nat → List Nat
  | 0, _ => []
  | k + 1, v => be k (v / 256) ++ [v % 256]
def le : Nat → Nat → List Nat
  | 0, _ => []
  | k + 1, v => v % 256 :: le k (v / 256)
theorem le_rev : ∀ (k v : Nat), (le k v).reverse = be k v
  | 0, _ => rfl
  | k + 1, v => by rw [le, be, List.reverse_cons, le_rev k]
theorem be_len : ∀ (k v : Nat), (be k v).length = k
  | 0, _ => rfl
  | k + 1, v => by rw [be, List.length_append, be_len k]; rfl
theorem be_lt : ∀ (k v : Nat), ∀ b ∈ be k v, b < 256
  | 0, _, b, h => by simp [be] at h
  | k + 1, v, b, h => by
    rw [be] at h
    rcases List.mem_append.mp h with h | h
    · exact be_lt k _ b h
    · simp at h; omega
def fold (a : Nat) (l : List Nat) : Nat := l.foldl (fun a b => a * 256 + b) a
theorem fold_be : ∀ (k v : Nat), v < 256 ^ k → fold 0 (be k v) = v
  | 0, v, h => by simp [fold, be]; omega
  | k + 1, v, h => by
    have := fold_be k (v / 256) (by rw [Nat.pow_succ] at h; omega)
    unfold fold at this ⊢
    rw [be, List.foldl_append, this]
    simp
    omega
theorem fc_loop {A : AEnds} {p : Addr} {m : M} {many : D} {gd : M → Prop} (hgd : ∀ m, gd m) : ∀ (n : Nat) (lo : Int) (v : Nat) (acc : List D) (x : Option D), acc.length + n ≤ 100 → (∀ (v' : D) (x' : Option D), A.nx [some v', some many, some (.ref p), x'] (mset m p (.lst (acc ++ iD (le n v))))) →
    forL (aN 3) bl_fixed_code_0 gd (rngD lo n) A [some (.int (v : Int)), some many, some (.ref p), x] (mset m p (.lst acc))
  | 0, lo, v, acc, x, hl, q => by
    rw [rngD_zero]
    refine ⟨hgd _, ?_⟩
    have := q (.int (v : Int)) x
    simpa [le, iD] using this
  | n + 1, lo, v, acc, x, hl, q => by
    have ih := fc_loop hgd (A := A) (p := p) (m := m) (many := many) n (lo + 1) (v / 256) (acc ++ iD [v % 256]) (some (.int lo)) (by simp [iD]; omega) (fun v' x' => by
      have := q v' x'
      rw [le] at this
      rw [List.append_assoc, ← iD_app]
      exact this)
    rw [rngD_succ]
    unfold forL
    refine ⟨hgd _, ?_⟩
    generalize forL (aN 3) bl_fixed_code_0 gd (rngD (lo + 1) n) A = X at ih ⊢
    unfold bl_fixed_code_0
    simp (config := {failIfUnchanged := false}) only [aSeq, aIfS, aTest, aTru, aOp, aUn, aCB, aVar, aC, aCons, aNil, aStar, aAsg, aN, aSubL, aRet, aRetN, aNext, aNever, aDrop, aApp, aTup, aLst, aPar, aAnd, aOr, aNot, aAndV, aOrV, aNotV, aIf, aChain, aCall, aIsi, aIsi2, aSl, aNoP, aPt, aTupRev, aAll, aFor, aITup, aILst, aIR1, aIR2, aTT, aGCons, aGNil, aLc, aYes, aBrk, aCnt, aWhile, En.g, En.s, rIxA, itemsD, rLenA, lenD, rIntA, rTupleA, rListA, rMinA, rMaxA, rAddA, rSubA, rMulA, rFdivA, rModA, rPowA, rShlA, rShrA, rAndA, rOrA, rXorA, rLtA, rLeA, rGtA, rGeA, rNegA, rInt0, rIntC, rIsA, rIsNotA, rEqA, rNeA, eqA, D.isNon, Ab.rSlA, wipeE, En.x, l_same, mset_same, mset_mset, Option.map_some, List.length_cons, List.length_nil, Nat.zero_add, Nat.reduceAdd, true_and, and_true, decide_eq_true_eq, ite_true, ite_false, Bool.not_true, Bool.not_false, Bool.false_eq_true, if_true, if_false, List.append_assoc, List.cons_append, List.nil_append, at0, at1, at2, at3, at4, at5, ix0, ix1, ix2, ix3, List.set_cons_zero, List.set_cons_succ,true_and]
    refine ⟨by decide, by unfold big; omega, cdiv (by decide) (by decide), ?_⟩
    rw [show (v : Int) / 256 = ((v / 256 : Nat) : Int) by omega]
    simpa [iD] using ih
theorem fixedCode {m : M} {v k : Nat} {Q : PQ} {R : PX} (hk : k ≤ 7) (q : Q (.tup (iD (be k v))) m) : s_fixed_code [.int (v : Int), .int (k : Int)] m Q R := by
  refine ent_fixed_code ?_
  unfold b_fixed_code
  simp (config := {failIfUnchanged := false}) only [aSeq, aIfS, aTest, aTru, aOp, aUn, aCB, aVar, aC, aCons, aNil, aStar, aAsg, aN, aSubL, aRet, aRetN, aNext, aNever, aDrop, aApp, aTup, aLst, aPar, aAnd, aOr, aNot, aAndV, aOrV, aNotV, aIf, aChain, aCall, aIsi, aIsi2, aSl, aNoP, aPt, aTupRev, aAll, aFor, aITup, aILst, aIR1, aIR2, aTT, aGCons, aGNil, aLc, aYes, aBrk, aCnt, aWhile, En.g, En.s, rIxA, itemsD, rLenA, lenD, rIntA, rTupleA, rListA, rMinA, rMaxA, rAddA, rSubA, rMulA, rFdivA, rModA, rPowA, rShlA, rShrA, rAndA, rOrA, rXorA, rLtA, rLeA, rGtA, rGeA, rNegA, rInt0, rIntC, rIsA, rIsNotA, rEqA, rNeA, eqA, D.isNon, Ab.rSlA, wipeE, En.x, l_same, mset_same, mset_mset, Option.map_some, List.length_cons, List.length_nil, Nat.zero_add, Nat.reduceAdd, true_and, and_true, decide_eq_true_eq, ite_true, ite_false, Bool.not_true, Bool.not_false, Bool.false_eq_true, if_true, if_false, List.append_assoc, List.cons_append, List.nil_append, at0, at1, at2, at3, at4, at5, ix0, ix1, ix2, ix3, List.set_cons_zero, List.set_cons_succ,true_and]
  refine ⟨by unfold big; decide, fun p hp => ⟨by omega, ?_⟩⟩
  rw [Int.toNat_natCast]
  refine fc_loop (fun _ => trivial) k 0 v [] none (by simp; omega) fun v' x' => ?_
  simp (config := {failIfUnchanged := false}) only [aSeq, aIfS, aTest, aTru, aOp, aUn, aCB, aVar, aC, aCons, aNil, aStar, aAsg, aN, aSubL, aRet, aRetN, aNext, aNever, aDrop, aApp, aTup, aLst, aPar, aAnd, aOr, aNot, aAndV, aOrV, aNotV, aIf, aChain, aCall, aIsi, aIsi2, aSl, aNoP, aPt, aTupRev, aAll, aFor, aITup, aILst, aIR1, aIR2, aTT, aGCons, aGNil, aLc, aYes, aBrk, aCnt, aWhile, En.g, En.s, rIxA, itemsD, rLenA, lenD, rIntA, rTupleA, rListA, rMinA, rMaxA, rAddA, rSubA, rMulA, rFdivA, rModA, rPowA, rShlA, rShrA, rAndA, rOrA, rXorA, rLtA, rLeA, rGtA, rGeA, rNegA, rInt0, rIntC, rIsA, rIsNotA, rEqA, rNeA, eqA, D.isNon, Ab.rSlA, wipeE, En.x, l_same, mset_same, mset_mset, Option.map_some, List.length_cons, List.length_nil, Nat.zero_add, Nat.reduceAdd, true_and, and_true, decide_eq_true_eq, ite_true, ite_false, Bool.not_true, Bool.not_false, Bool.false_eq_true, if_true, if_false, List.append_assoc, List.cons_append, List.nil_append, at0, at1, at2, at3, at4, at5, ix0, ix1, ix2, ix3, List.set_cons_zero, List.set_cons_succ,true_and]
  refine ⟨m, Sub.new hp, ?_⟩
  rw [show (iD (le k v)).reverse = iD (be k v) by rw [← le_rev]; unfold iD; rw [List.map_reverse]]
  exact q
theorem p256 {k : Nat} (hk : k ≤ 7) : 256 ^ k ≤ 72057594037927936 := Nat.pow_le_pow_right (by decide) hk
end K7

set_option linter.all false
set_option maxRecDepth 100000
namespace K7
def crcS (r b : Nat) : Nat := ((r * 256) % 65536) ^^^ ((((r / 256 ^^^ b) ^^^ (r / 256 ^^^ b) / 16) * 4096) % 65536) ^^^ (((r / 256 ^^^ b) ^^^ (r / 256 ^^^ b) / 16) * 32) ^^^ ((r / 256 ^^^ b) ^^^ (r / 256 ^^^ b) / 16)
open PySem PySem.Spec PyProof.Rows L2 Ab
theorem xor_and : ∀ (a b : Nat), (a ^^^ b) + 2 * (a &&& b) = a + b := fun a => by
  induction a using Nat.strongRecOn with
  | _ a ih =>
    intro b
    by_cases h : a = 0
    · subst h; simp
    · have i := ih (a / 2) (by omega) (b / 2)
      have h1 : (a ^^^ b) / 2 = a / 2 ^^^ b / 2 := Nat.xor_div_two
      have h2 : (a &&& b) / 2 = a / 2 &&& b / 2 := Nat.and_div_two
      have h3 : (a ^^^ b) % 2 = 1 ↔ ¬(a % 2 = 1 ↔ b % 2 = 1) := Nat.xor_mod_two_eq_one
      have h6 : (a ^^^ b) % 2 = 0 ∨ (a ^^^ b) % 2 = 1 := Nat.mod_two_eq_zero_or_one _
      have h4 : (a &&& b) % 2 = 1 ↔ a % 2 = 1 ∧ b % 2 = 1 := Nat.and_mod_two_eq_one
      have h5 : (a &&& b) % 2 = 0 ∨ (a &&& b) % 2 = 1 := Nat.mod_two_eq_zero_or_one _
      omega
theorem bxor (a b : Nat) : Builtin.bitXor (a : Int) (b : Int) = ((a ^^^ b : Nat) : Int) := by
  rw [bitXor_and, PySem.W.os_band]
  have := xor_and a b
  omega
theorem xlt {a b n : Nat} (h : a < 2 ^ n) (h' : b < 2 ^ n) : a ^^^ b < 2 ^ n := Nat.xor_lt_two_pow h h'
theorem crc_a {r b : Nat} (h : r < 65536) (hb : b < 256) : r / 256 ^^^ b < 256 ∧ (r / 256 ^^^ b) ^^^ (r / 256 ^^^ b) / 16 < 256 := by
  have h1 : r / 256 ^^^ b < 2 ^ 8 := xlt (by omega) hb
  exact ⟨h1, show _ < 2 ^ 8 from xlt h1 (by omega)⟩
theorem crcS_lt {r b : Nat} (h : r < 65536) (hb : b < 256) : crcS r b < 65536 := by
  obtain ⟨h1, h2⟩ := crc_a h hb
  unfold crcS
  exact show _ < 2 ^ 16 from xlt (xlt (xlt (by omega) (by omega)) (by omega)) (by omega)
def crc (l : List Nat) : Nat := l.foldl crcS 0
theorem crcL_lt : ∀ {l : List Nat} {r : Nat}, r < 65536 → (∀ b ∈ l, b < 256) → l.foldl crcS r < 65536
  | [], _, h, _ => h
  | b :: l, r, h, hb => crcL_lt (l := l) (crcS_lt h (hb b (by simp))) fun c hc => hb c (by simp [hc])
theorem crc_lt {l : List Nat} (h : ∀ b ∈ l, b < 256) : crc l < 65536 := crcL_lt (by decide) h
theorem cpow8 {i : Nat} (h : i < 2 ^ 63) {j : Int} (h0 : 0 ≤ j) (h1 : j ≤ 100) : CPow (i : Int) j := ⟨h0, by omega, by omega⟩
theorem ro_loop {A : AEnds} {m : M} {x0 : Option D} {gd : M → Prop} (hgd : ∀ m, gd m) : ∀ (l : List Nat) (r : Nat) (x2 x3 : Option D), r < 65536 → (∀ b ∈ l, b < 256) → (∀ y2 y3, A.nx [x0, some (.int (l.foldl crcS r : Nat)), y2, y3] m) → forL (aN 2) bl_rest_of_0 gd (iD l) A [x0, some (.int (r : Int)), x2, x3] m
  | [], r, x2, x3, hr, hb, q => ⟨hgd _, q _ _⟩
  | b :: l, r, x2, x3, hr, hb, q => by
    have hbb := hb b (by simp)
    obtain ⟨h1, h2⟩ := crc_a hr hbb
    have ih := fun y2 y3 => ro_loop hgd (A := A) (m := m) (x0 := x0) l (crcS r b) y2 y3 (crcS_lt hr hbb) (fun c hc => hb c (by simp [hc])) q
    show forL (aN 2) bl_rest_of_0 gd (.int (b : Int) :: iD l) A _ m
    refine ⟨hgd _, ?_⟩
    generalize forL (aN 2) bl_rest_of_0 gd (iD l) A = X at ih ⊢
    unfold bl_rest_of_0
    have e1 : (r : Int) / 2 ^ (Int.toNat 8) = ((r / 256 : Nat) : Int) := by
      rw [show (2 : Int) ^ (Int.toNat 8) = 256 by decide]; omega
    have e2 : ∀ a : Nat, (a : Int) / 2 ^ (Int.toNat 4) = ((a / 16 : Nat) : Int) := fun a => by
      rw [show (2 : Int) ^ (Int.toNat 4) = 16 by decide]; omega
    have e3 : ∀ a : Nat, (a : Int) * 2 ^ (Int.toNat 8) = ((a * 256 : Nat) : Int) := fun a => by
      rw [show (2 : Int) ^ (Int.toNat 8) = 256 by decide]; omega
    have e4 : ∀ a : Nat, (a : Int) * 2 ^ (Int.toNat 12) = ((a * 4096 : Nat) : Int) := fun a => by
      rw [show (2 : Int) ^ (Int.toNat 12) = 4096 by decide]; omega
    have e5 : ∀ a : Nat, (a : Int) * 2 ^ (Int.toNat 5) = ((a * 32 : Nat) : Int) := fun a => by
      rw [show (2 : Int) ^ (Int.toNat 5) = 32 by decide]; omega
    have e6 : ∀ a : Nat, Builtin.bitAnd (a : Int) 65535 = ((a % 65536 : Nat) : Int) := fun a => by
      rw [show (65535 : Int) = ((65535 : Nat) : Int) by rfl, PySem.W.os_band, show 65535 = 2 ^ 16 - 1 by decide, Nat.and_two_pow_sub_one_eq_mod]
    simp (config := {failIfUnchanged := false, implicitDefEqProofs := false}) only [aSeq, aIfS, aTest, aOp, aUn, aCB, aVar, aC, aCons, aNil, star_e, starT, starL, aAsg, aN, aSubL, aRet, aRetN, aNext, aNever, aDrop, aApp, aTup, aLst, aPar, aAnd, aOr, aNot, aAndV, aOrV, aNotV, aIf, aChain, aCall, aIsi, aIsi2, aSl, aNoP, aPt, aTupRev, aAll, aFor, aITup, aILst, aIR1, aIR2, aTT, aGCons, aGNil, aLc, aYes, aBrk, aCnt, aWhile, aIndex, aCtIx, En.g, En.s, rLenA, rListA, ixT, ixF, ixR, intI, intB, tupT, tupF, tupR, addI, addT, addR, mulI, mulT, mulR, slT, slR, i2, c2, negI, isB, isN, notB, notN, eqI, eqS, eqB, neI, neB, nonN, nonT, lenT, lenF, lenR, itT, itF, itR, minI, maxI, anyT, rSubA, rFdivA, rModA, rPowA, rShlA, rShrA, rAndA, rOrA, rXorA, rLtA, rLeA, rGtA, rGeA, rInA, wipeE, En.x, l_same, mset_same, mset_mset, Option.map_some, List.length_cons, List.length_nil, Nat.zero_add, Nat.reduceAdd, true_and, and_true, decide_eq_true_eq, ite_true, ite_false, Bool.not_true, Bool.not_false, Bool.false_eq_true, if_true, if_false, List.append_assoc, List.cons_append, List.nil_append, at0, at1, at2, at3, at4, at5, ix0, ix1, ix2, ix3, List.set_cons_zero, List.set_cons_succ,e1, e2, e3, e4, e5, e6, bxor]
    refine ⟨by decide, by decide, cpow8 (by omega) (by decide) (by decide), cpow8 (by omega) (by decide) (by decide), cpow8 (by omega) (by decide) (by decide), ?_⟩
    have e : ((r * 256 ^^^ ((r / 256 ^^^ b) ^^^ (r / 256 ^^^ b) / 16) * 4096 ^^^ ((r / 256 ^^^ b) ^^^ (r / 256 ^^^ b) / 16) * 32) ^^^ ((r / 256 ^^^ b) ^^^ (r / 256 ^^^ b) / 16)) % 65536 = crcS r b := by
      unfold crcS
      rw [show 65536 = 2 ^ 16 by decide, Nat.xor_mod_two_pow, Nat.xor_mod_two_pow, Nat.xor_mod_two_pow]
      rw [Nat.mod_eq_of_lt (show ((r / 256 ^^^ b) ^^^ (r / 256 ^^^ b) / 16) * 32 < 2 ^ 16 by omega), Nat.mod_eq_of_lt (show ((r / 256 ^^^ b) ^^^ (r / 256 ^^^ b) / 16) < 2 ^ 16 by omega)]
    rw [e]
    exact ih _ _
theorem restOf {m : M} {l : List Nat} {Q : PQ} {R : PX} (h : ∀ b ∈ l, b < 256) (q : Q (.int (crc l : Nat)) m) : s_rest_of [.tup (iD l)] m Q R := by
  refine ent_rest_of ?_
  unfold b_rest_of
  simp (config := {failIfUnchanged := false, implicitDefEqProofs := false}) only [aSeq, aIfS, aTest, aOp, aUn, aCB, aVar, aC, aCons, aNil, star_e, starT, starL, aAsg, aN, aSubL, aRet, aRetN, aNext, aNever, aDrop, aApp, aTup, aLst, aPar, aAnd, aOr, aNot, aAndV, aOrV, aNotV, aIf, aChain, aCall, aIsi, aIsi2, aSl, aNoP, aPt, aTupRev, aAll, aFor, aITup, aILst, aIR1, aIR2, aTT, aGCons, aGNil, aLc, aYes, aBrk, aCnt, aWhile, aIndex, aCtIx, En.g, En.s, rLenA, rListA, ixT, ixF, ixR, intI, intB, tupT, tupF, tupR, addI, addT, addR, mulI, mulT, mulR, slT, slR, i2, c2, negI, isB, isN, notB, notN, eqI, eqS, eqB, neI, neB, nonN, nonT, lenT, lenF, lenR, itT, itF, itR, minI, maxI, anyT, rSubA, rFdivA, rModA, rPowA, rShlA, rShrA, rAndA, rOrA, rXorA, rLtA, rLeA, rGtA, rGeA, rInA, wipeE, En.x, l_same, mset_same, mset_mset, Option.map_some, List.length_cons, List.length_nil, Nat.zero_add, Nat.reduceAdd, true_and, and_true, decide_eq_true_eq, ite_true, ite_false, Bool.not_true, Bool.not_false, Bool.false_eq_true, if_true, if_false, List.append_assoc, List.cons_append, List.nil_append, at0, at1, at2, at3, at4, at5, ix0, ix1, ix2, ix3, List.set_cons_zero, List.set_cons_succ,true_and]
  refine ro_loop (fun _ => trivial) l 0 none none (by decide) h fun y2 y3 => ?_
  simp (config := {failIfUnchanged := false, implicitDefEqProofs := false}) only [aSeq, aIfS, aTest, aOp, aUn, aCB, aVar, aC, aCons, aNil, star_e, starT, starL, aAsg, aN, aSubL, aRet, aRetN, aNext, aNever, aDrop, aApp, aTup, aLst, aPar, aAnd, aOr, aNot, aAndV, aOrV, aNotV, aIf, aChain, aCall, aIsi, aIsi2, aSl, aNoP, aPt, aTupRev, aAll, aFor, aITup, aILst, aIR1, aIR2, aTT, aGCons, aGNil, aLc, aYes, aBrk, aCnt, aWhile, aIndex, aCtIx, En.g, En.s, rLenA, rListA, ixT, ixF, ixR, intI, intB, tupT, tupF, tupR, addI, addT, addR, mulI, mulT, mulR, slT, slR, i2, c2, negI, isB, isN, notB, notN, eqI, eqS, eqB, neI, neB, nonN, nonT, lenT, lenF, lenR, itT, itF, itR, minI, maxI, anyT, rSubA, rFdivA, rModA, rPowA, rShlA, rShrA, rAndA, rOrA, rXorA, rLtA, rLeA, rGtA, rGeA, rInA, wipeE, En.x, l_same, mset_same, mset_mset, Option.map_some, List.length_cons, List.length_nil, Nat.zero_add, Nat.reduceAdd, true_and, and_true, decide_eq_true_eq, ite_true, ite_false, Bool.not_true, Bool.not_false, Bool.false_eq_true, if_true, if_false, List.append_assoc, List.cons_append, List.nil_append, at0, at1, at2, at3, at4, at5, ix0, ix1, ix2, ix3, List.set_cons_zero, List.set_cons_succ,true_and]
  exact ⟨_, Sub.refl _, q⟩
end K7

set_option linter.all false
set_option maxRecDepth 100000
namespace K7
open PySem PySem.Spec PyProof.Rows L2 Ab
/-! parts of rows -/
theorem cut_iD {b : List Nat} {i j : Nat} (hi : i ≤ b.length) (hj : j ≤ b.length) : Ab.cutD (iD b) (some (i : Int)) (some (j : Int)) = iD ((b.drop i).take (j - i)) := by
  unfold Ab.cutD
  rw [HT.sIx_nat, HT.sIx_nat, iD_len, Nat.min_eq_left hi, Nat.min_eq_left hj]
  unfold iD
  rw [List.map_take, List.map_drop]
theorem cut_iD0 {b : List Nat} {j : Nat} (hj : j ≤ b.length) : Ab.cutD (iD b) none (some (j : Int)) = iD (b.take j) := by
  unfold Ab.cutD
  rw [HT.sIx_none, HT.sIx_nat, iD_len, Nat.min_eq_left hj]
  unfold iD
  rw [List.map_take]
  simp
theorem cut_iDe {b : List Nat} {i : Nat} (hi : i ≤ b.length) : Ab.cutD (iD b) (some (i : Int)) none = iD (b.drop i) := by
  unfold Ab.cutD
  rw [HT.sIx_none, HT.sIx_nat, iD_len, Nat.min_eq_left hi]
  unfold iD
  rw [List.map_drop, List.take_of_length_le (by simp)]
theorem at_iD {b : List Nat} {i v : Nat} (h : b[i]? = some v) : atI (iD b) (i : Int) = some (.int (v : Int)) := by
  have hl : i < b.length := (List.getElem?_eq_some_iff.mp h).1
  rw [atI_nat (by omega) (by rw [iD_len]; omega), Int.toNat_natCast]
  unfold iD
  rw [List.getElem?_map, h]
  rfl
def sl (b : List Nat) (i k : Nat) : List Nat := (b.drop i).take k
def By (b : List Nat) : Prop := ∀ x ∈ b, x < 256
theorem By.sl {b : List Nat} (h : By b) (i k : Nat) : By (sl b i k) := fun x hx => h x (List.mem_of_mem_drop (List.mem_of_mem_take hx))
theorem By.app {a b : List Nat} (h : By a) (h' : By b) : By (a ++ b) := fun x hx => by
  rcases List.mem_append.mp hx with z | z
  · exact h x z
  · exact h' x z
theorem By.take {b : List Nat} (h : By b) (k : Nat) : By (b.take k) := fun x hx => h x (List.mem_of_mem_take hx)
theorem By.drop {b : List Nat} (h : By b) (k : Nat) : By (b.drop k) := fun x hx => h x (List.mem_of_mem_drop hx)
/-! labels -/
section
variable {s : Nat} {l : Lab}
theorem be_by (k v : Nat) : By (be k v) := be_lt k v
theorem rep0 {n : Nat} : (List.replicate n [D.int 0]).flatten = iD (List.replicate n 0) := by
  induction n with
  | zero => rfl
  | succ n ih => rw [List.replicate_succ, List.flatten_cons, ih]; rfl
end
theorem checkRow {p : Pm} {m : M} {ds : List D} {Q : PQ} {R : PX} (h2 : ds.length ≤ 4096) (hb : Bytes ds) (q : Q .non m) : s_check_row p [.tup ds] m Q R := by
  refine ent_check_row ?_
  unfold b_check_row
  simp (config := {failIfUnchanged := false}) only [aSeq, aIfS, aTest, aTru, aOp, aUn, aCB, aVar, aC, aCons, aNil, aStar, aAsg, aN, aSubL, aRet, aRetN, aNext, aNever, aDrop, aApp, aTup, aLst, aPar, aAnd, aOr, aNot, aAndV, aOrV, aNotV, aIf, aChain, aCall, aIsi, aIsi2, aSl, aNoP, aPt, aTupRev, aAll, aFor, aITup, aILst, aIR1, aIR2, aTT, aGCons, aGNil, aLc, aYes, aBrk, aCnt, aWhile, En.g, En.s, rIxA, itemsD, rLenA, lenD, rIntA, rTupleA, rListA, rMinA, rMaxA, rAddA, rSubA, rMulA, rFdivA, rModA, rPowA, rShlA, rShrA, rAndA, rOrA, rXorA, rLtA, rLeA, rGtA, rGeA, rNegA, rInt0, rIntC, rIsA, rIsNotA, rEqA, rNeA, eqA, D.isNon, Ab.rSlA, wipeE, En.x, l_same, mset_same, mset_mset, Option.map_some, List.length_cons, List.length_nil, Nat.zero_add, Nat.reduceAdd, true_and, and_true, decide_eq_true_eq, ite_true, ite_false, Bool.not_true, Bool.not_false, Bool.false_eq_true, if_true, if_false, List.append_assoc, List.cons_append, List.nil_append, at0, at1, at2, at3, at4, at5, ix0, ix1, ix2, ix3, List.set_cons_zero, List.set_cons_succ,true_and]
  refine areBytes (by omega) (by omega) hb ?_
  simp (config := {failIfUnchanged := false}) only [aSeq, aIfS, aTest, aTru, aOp, aUn, aCB, aVar, aC, aCons, aNil, aStar, aAsg, aN, aSubL, aRet, aRetN, aNext, aNever, aDrop, aApp, aTup, aLst, aPar, aAnd, aOr, aNot, aAndV, aOrV, aNotV, aIf, aChain, aCall, aIsi, aIsi2, aSl, aNoP, aPt, aTupRev, aAll, aFor, aITup, aILst, aIR1, aIR2, aTT, aGCons, aGNil, aLc, aYes, aBrk, aCnt, aWhile, En.g, En.s, rIxA, itemsD, rLenA, lenD, rIntA, rTupleA, rListA, rMinA, rMaxA, rAddA, rSubA, rMulA, rFdivA, rModA, rPowA, rShlA, rShrA, rAndA, rOrA, rXorA, rLtA, rLeA, rGtA, rGeA, rNegA, rInt0, rIntC, rIsA, rIsNotA, rEqA, rNeA, eqA, D.isNon, Ab.rSlA, wipeE, En.x, l_same, mset_same, mset_mset, Option.map_some, List.length_cons, List.length_nil, Nat.zero_add, Nat.reduceAdd, true_and, and_true, decide_eq_true_eq, ite_true, ite_false, Bool.not_true, Bool.not_false, Bool.false_eq_true, if_true, if_false, List.append_assoc, List.cons_append, List.nil_append, at0, at1, at2, at3, at4, at5, ix0, ix1, ix2, ix3, List.set_cons_zero, List.set_cons_succ,true_and]
  exact ⟨_, Sub.refl _, q⟩
end K7

set_option linter.all false
set_option maxRecDepth 100000
set_option maxHeartbeats 2000000
namespace K7
open PySem PySem.Spec PyProof.Rows L2 Ab
abbrev lq : Str := (("_law_works" ++ ".<locals>.") ++ "<lambda>")
abbrev Ok (p : Pm) : Prop := PmOk p ["BadFlips", "BadNumber", "BadRow", "TooMany"] ["one", "other", "works"] [(["one"], [0]), (["one"], [0]), (["one"], [0]), (["one", "other"], [0, 1]), (["one", "other"], [0, 1]), (["one"], [0])] lq
theorem app_lam {P : Addr} {L : LSyn} {ys : List Str} {cap : List Nat} {cells : List (Str × Addr)} {e : En} {m : M} {pl : Addr} {acc : List D} {A : AEnds} (hP : m P = some (.ltab L.qual)) (g : e.g 2 = some (.ref pl)) (hl : m pl = some (.lst acc)) (hn : acc.length ≤ 64)
    (k : ∀ f m1, m f = none → (∀ a o, a ≠ pl → m a = some o → m1 a = some o) → m1 pl = some (.lst (acc ++ [.ref f])) → m1 f = some (.fn L ys cap (cloFrom cells L.scope.names [])) → A.nx e m1) : aDrop (aApp (aVar 2) (aLam P L ys cap cells)) A e m := by
  refine dropI ?_
  unfold aApp
  refine varI g ?_
  show (match m.l pl with | some _ => aLam P L ys cap cells e m _ _ | none => False)
  rw [l_of hl]
  refine ⟨hP, fun f hf => ?_⟩
  have nf : f ≠ pl := fun z => by rw [z, hl] at hf; cases hf
  show (match (mset m f _).l pl with | some ds => ds.length < big ∧ _ | none => False)
  rw [l_ne (Ne.symm nf), l_of hl]
  refine ⟨Nat.lt_of_le_of_lt hn (by unfold big; decide), k f _ hf (fun a o n h => ?_) mset_same ?_⟩
  · rw [mset_ne n, mset_ne fun z => by rw [z, hf] at h; cases h]; exact h
  · rw [mset_ne nf]; exact mset_same
theorem seal_in {fs : List Addr} {e : En} {m : M} {f : Addr} {L : LSyn} {ys : List Str} {cap : List Nat} {cl : List (Str × Addr)} {ds : List D} (h : f ∈ fs) (hm : m f = some (.fn L ys cap cl)) (hc : capD e cap = some ds) : sealM fs e m f = some (.clo L ys ds) := by
  unfold sealM; rw [if_pos h, hm]; simp only [hc]
theorem seal_out {fs : List Addr} {e : En} {m : M} {f : Addr} (h : f ∉ fs) : sealM fs e m f = m f := by unfold sealM; rw [if_neg h]
/-- the works made over one, other -/
structure Works (p : Pm) (m : M) (l : Addr) (one other : D) (f0 f1 f2 f3 f4 f5 : Addr) : Prop where
  lst : m l = some (.lst [.ref f0, .ref f1, .ref f2, .ref f3, .ref f4, .ref f5])
  w0 : m f0 = some (.clo (p.L 0) ["one"] [one])
  w1 : m f1 = some (.clo (p.L 1) ["one"] [one])
  w2 : m f2 = some (.clo (p.L 2) ["one"] [one])
  w3 : m f3 = some (.clo (p.L 3) ["one", "other"] [one, other])
  w4 : m f4 = some (.clo (p.L 4) ["one", "other"] [one, other])
  w5 : m f5 = some (.clo (p.L 5) ["one"] [one])
theorem works {p : Pm} {m : M} {one other : D} {Q : PQ} {R : PX} (pk : Ok p) (hm : m p.P = some (.ltab lq)) (q : ∀ l f0 f1 f2 f3 f4 f5 m', m l = none → Sub m m' → Works p m' l one other f0 f1 f2 f3 f4 f5 → Q (.ref l) m') : s_f_law_works p [one, other] m Q R := by
  intro cells
  unfold rb_f_law_works
  have q0 : (p.L 0).qual = lq := pk.qual 0 (by decide)
  have c0 := pk.cap 0 (["one"], [0]) rfl
  have q1 : (p.L 1).qual = lq := pk.qual 1 (by decide)
  have c1 := pk.cap 1 (["one"], [0]) rfl
  have q2 : (p.L 2).qual = lq := pk.qual 2 (by decide)
  have c2 := pk.cap 2 (["one"], [0]) rfl
  have q3 : (p.L 3).qual = lq := pk.qual 3 (by decide)
  have c3 := pk.cap 3 (["one", "other"], [0, 1]) rfl
  have q4 : (p.L 4).qual = lq := pk.qual 4 (by decide)
  have c4 := pk.cap 4 (["one", "other"], [0, 1]) rfl
  have q5 : (p.L 5).qual = lq := pk.qual 5 (by decide)
  have c5 := pk.cap 5 (["one"], [0]) rfl
  unfold rSeq
  refine setI (lstI (nilI ⟨by show 0 ≤ big; decide, fun l hl => ?_⟩))
  have nP : l ≠ p.P := fun z => by rw [z, hm] at hl; cases hl
  have k0 : ∀ a o, m a = some o → mset m l (.lst []) a = some o := fun a o h => Sub.new hl a o h
  have e0 : (mset m l (.lst [])) l = some (.lst []) := mset_same
  have hk : ∀ a o, m a = some o → a ≠ l := fun a o h z => by rw [z, hl] at h; cases h
  generalize mset m l (.lst []) = m0 at k0 e0 ⊢
  have step : ∀ {m1 m2 : M}, (∀ a o, m a = some o → m1 a = some o) → (∀ a o, a ≠ l → m1 a = some o → m2 a = some o) → ∀ a o, m a = some o → m2 a = some o := fun h1 h2 a o h => h2 a o (hk a o h) (h1 a o h)
  dsimp only
  refine app_lam (by rw [q0]; exact k0 _ _ hm) rfl e0 (by simp) fun f0 m1 n0 s1 e1 w0 => ?_
  have k1 := step k0 s1
  dsimp only
  refine app_lam (by rw [q1]; exact k1 _ _ hm) rfl e1 (by simp) fun f1 m2 n1 s2 e2 w1 => ?_
  have k2 := step k1 s2
  dsimp only
  refine app_lam (by rw [q2]; exact k2 _ _ hm) rfl e2 (by simp) fun f2 m3 n2 s3 e3 w2 => ?_
  have k3 := step k2 s3
  dsimp only
  refine app_lam (by rw [q3]; exact k3 _ _ hm) rfl e3 (by simp) fun f3 m4 n3 s4 e4 w3 => ?_
  have k4 := step k3 s4
  dsimp only
  refine app_lam (by rw [q4]; exact k4 _ _ hm) rfl e4 (by simp) fun f4 m5 n4 s5 e5 w4 => ?_
  have k5 := step k4 s5
  dsimp only
  refine app_lam (by rw [q5]; exact k5 _ _ hm) rfl e5 (by simp) fun f5 m6 n5 s6 e6 w5 => ?_
  have k6 := step k5 s6
  have g0 : f0 ≠ l := fun z => by rw [z, e0] at n0; cases n0
  have g1 : f1 ≠ l := fun z => by rw [z, e1] at n1; cases n1
  have g2 : f2 ≠ l := fun z => by rw [z, e2] at n2; cases n2
  have g3 : f3 ≠ l := fun z => by rw [z, e3] at n3; cases n3
  have g4 : f4 ≠ l := fun z => by rw [z, e4] at n4; cases n4
  have g5 : f5 ≠ l := fun z => by rw [z, e5] at n5; cases n5
  have v0 := s6 _ _ g0 (s5 _ _ g0 (s4 _ _ g0 (s3 _ _ g0 (s2 _ _ g0 (w0)))))
  have v1 := s6 _ _ g1 (s5 _ _ g1 (s4 _ _ g1 (s3 _ _ g1 (w1))))
  have v2 := s6 _ _ g2 (s5 _ _ g2 (s4 _ _ g2 (w2)))
  have v3 := s6 _ _ g3 (s5 _ _ g3 (w3))
  have v4 := s6 _ _ g4 (w4)
  have v5 := w5
  have nl : l ∉ [f0, f1, f2, f3, f4, f5] := fun z => by
    simp only [List.mem_cons, List.not_mem_nil, or_false] at z
    rcases z with z | z | z | z | z | z
    · exact g0 z.symm
    · exact g1 z.symm
    · exact g2 z.symm
    · exact g3 z.symm
    · exact g4 z.symm
    · exact g5 z.symm
  have nf : ∀ a o, m a = some o → a ∉ [f0, f1, f2, f3, f4, f5] := fun a o h z => by
    simp only [List.mem_cons, List.not_mem_nil, or_false] at z
    rcases z with z | z | z | z | z | z
    · rw [← z, k0 a o h] at n0; cases n0
    · rw [← z, k1 a o h] at n1; cases n1
    · rw [← z, k2 a o h] at n2; cases n2
    · rw [← z, k3 a o h] at n3; cases n3
    · rw [← z, k4 a o h] at n4; cases n4
    · rw [← z, k5 a o h] at n5; cases n5
  unfold rRet
  dsimp only
  refine varI rfl ⟨[f0, f1, f2, f3, f4, f5], fun f hf => ?_, _, Sub.refl _, ?_⟩
  · simp only [List.mem_cons, List.not_mem_nil, or_false] at hf
    rcases hf with z | z | z | z | z | z <;> subst z
    · exact ⟨_, _, _, v0, c0⟩
    · exact ⟨_, _, _, v1, c1⟩
    · exact ⟨_, _, _, v2, c2⟩
    · exact ⟨_, _, _, v3, c3⟩
    · exact ⟨_, _, _, v4, c4⟩
    · exact ⟨_, _, _, v5, c5⟩
  · refine q l f0 f1 f2 f3 f4 f5 _ hl (fun a o h => by rw [seal_out (nf a o h)]; exact k6 a o h) ⟨by rw [seal_out nl]; exact e6, ?_, ?_, ?_, ?_, ?_, ?_⟩
    · exact seal_in (by simp) v0 rfl
    · exact seal_in (by simp) v1 rfl
    · exact seal_in (by simp) v2 rfl
    · exact seal_in (by simp) v3 rfl
    · exact seal_in (by simp) v4 rfl
    · exact seal_in (by simp) v5 rfl
theorem show_hide (m : M) : showC m (hideC m) = m := by
  funext a
  unfold showC hideC
  cases h : m a with
  | none => simp
  | some o => cases o <;> simp
def tell : Str → Str := fun n => if n = "BadRow" then "row" else if n = "BadNumber" then "number" else "flips"
theorem tellI {n i : Nat} {pl a : Addr} {acc : List D} {isT : Addr → Addr → Option Bool} {x : Xn} {d : Option Addr} {C : Addr} {b : Bool} {e : En} {m : M} {A : AEnds} (g : e.g n = some (.ref pl)) (ga : e.g i = some (.ref a)) (hl : m pl = some (.lst acc)) (hn : acc.length ≤ 64) (hd : ∀ dd, d = some dd → ∃ fs, m dd = some (.xd fs)) (hb : isT x.cls C = some b)
    (h : A.nx e (mset m pl (.lst (acc ++ [.bl b])))) : aDrop (aApp (aVar n) (aIsX isT a x d i C)) A e m := by
  refine dropI ?_
  unfold aApp
  refine varI g ?_
  show (match m.l pl with | some _ => aIsX isT a x d i C e m _ _ | none => False)
  rw [l_of hl]
  refine ⟨ga, hd, b, hb, ?_⟩
  show (match m.l pl with | some ds => ds.length < big ∧ _ | none => False)
  rw [l_of hl]
  exact ⟨Nat.lt_of_le_of_lt hn (by unfold big; decide), h⟩
theorem countI {n : Nat} {pl : Addr} {ds : List D} {bs : List Bool} {k : Bool} {e : En} {m : M} {Q : PQ} {R : PX} (g : e.g n = some (.ref pl)) (hl : m pl = some (.lst ds)) (hb : bitsD ds = some bs) (q : Q (.int (bs.count k : Nat)) m) : aCount (aVar n) (aC (.bl k)) e m Q R := by
  unfold aCount
  refine varI g ?_
  simp only [l_of hl]
  refine cI ?_
  simp only [l_of hl, hb]
  exact q
theorem indexI {n j : Nat} {pl : Addr} {ds : List D} {d z : D} {e : En} {m : M} {Q : PQ} {R : PX} (g : e.g n = some (.ref pl)) (hl : m pl = some (.lst ds)) (hf : flatD d = true ∧ ds.all flatD = true) (hj : ds[j]? = some z) (he : eqV z.fv d.fv = true) (hn : ∀ (i : Nat) z', i < j → ds[i]? = some z' → eqV z'.fv d.fv = false) (q : Q (.int (j : Nat)) m) : aIndex (aVar n) (aC d) e m Q R := by
  unfold aIndex
  refine varI g ?_
  simp only [l_of hl]
  refine cI ?_
  simp only [l_of hl]
  exact ⟨hf, j, z, hj, he, hn, q⟩
end K7

set_option linter.all false
set_option maxRecDepth 100000
set_option maxHeartbeats 2000000
namespace K7
open PySem PySem.Spec PyProof.Rows L2 Ab
def suiteS (p : Pm) (a : Addr) (x : Xn) (d : Option Addr) : AS := aSeq (aAsg (aLst (aNil)) (aN 3)) (aSeq (aDrop (aApp (aVar 3) (aIsX p.isT a x d 2 (p.cA "BadRow")))) (aSeq (aDrop (aApp (aVar 3) (aIsX p.isT a x d 2 (p.cA "BadNumber")))) (aSeq (aDrop (aApp (aVar 3) (aIsX p.isT a x d 2 (p.cA "BadFlips")))) (aSeq (aDrop (aApp (aVar 3) (aIsX p.isT a x d 2 (p.cA "TooMany")))) (aSeq (aAsg (aLst (aCons (aC (.str ("row" : Str))) (aCons (aC (.str ("number" : Str))) (aCons (aC (.str ("flips" : Str))) (aCons (aC (.str ("many" : Str))) (aNil)))))) (aN 4)) (aSeq (aAsg (aIf (aTest (aOp rEqA (aCount (aVar 3) (aC (.bl true))) (aC (.int 1)))) (aOp rIxA (aVar 4) (aIndex (aVar 3) (aC (.bl true)))) (aC (.str ("other" : Str)))) (aN 1)) (aAsg (aIf (aTest (aOp rEqA (aVar 1) (aC (.str ("many" : Str))))) (aTup (aCons (aC (.str ("many" : Str))) (aCons (aFld p.fld a x d 2 "most") (aNil)))) (aVar 1)) (aN 1))))))))
theorem ref1 (p : Pm) : bl_f_law_refused_1 p = aSeq (aTryX p.mt 2 (aDrop (aCallV (T_lam p) 0)) (suiteS p)) (bl_f_law_refused_0 p) := rfl
theorem suite {p : Pm} {x : Xn} {d : Option Addr} {n : Str} {a f : Addr} {m : M} {A : AEnds} {out : D} (pk : Ok p) (hx : x.cls = p.cA n) (hn : n ∈ (["BadFlips", "BadNumber", "BadRow", "TooMany"] : List Str)) (hd : ∀ dd, d = some dd → ∃ fs, m dd = some (.xd fs))
    (hout : (n ≠ "TooMany" ∧ out = .str (tell n)) ∨ (n = "TooMany" ∧ ∃ dd, d = some dd ∧ m dd = some (.xd [(("most" : Str), .int 4096)]) ∧ p.fld (p.cA "TooMany") "most" = true ∧ out = .tup [.str ("many" : Str), .int 4096]))
    (q : ∀ y3 y4 m', Sub m m' → A.nx [some (.ref f), some out, some (.ref a), y3, y4] m') : suiteS p a x d A [some (.ref f), some .non, some (.ref a), none, none] m := by
  have i1 : p.isT x.cls (p.cA "BadRow") = some (decide (n = "BadRow")) := by rw [hx]; exact pk.isT n hn "BadRow" (by simp)
  have i2 : p.isT x.cls (p.cA "BadNumber") = some (decide (n = "BadNumber")) := by rw [hx]; exact pk.isT n hn "BadNumber" (by simp)
  have i3 : p.isT x.cls (p.cA "BadFlips") = some (decide (n = "BadFlips")) := by rw [hx]; exact pk.isT n hn "BadFlips" (by simp)
  have i4 : p.isT x.cls (p.cA "TooMany") = some (decide (n = "TooMany")) := by rw [hx]; exact pk.isT n hn "TooMany" (by simp)
  unfold suiteS
  (repeat (first | with_reducible refine seqI ?_ | with_reducible refine setI ?_ | with_reducible refine asgI ?_ | with_reducible refine retI ?_ | with_reducible refine opI ?_ | with_reducible refine callI ?_ | with_reducible refine consI ?_ | with_reducible refine cI ?_ | with_reducible refine nilI ?_ | ((with_reducible apply varI); exact rfl) | with_reducible refine cbI ?_ | with_reducible refine ifI ?_ | with_reducible refine tstI ?_ | with_reducible refine notTI ?_ | with_reducible refine andTI ?_ | with_reducible refine orTI ?_ | with_reducible refine dropI ?_ | with_reducible refine nextI ?_ | with_reducible refine tupI ?_ | with_reducible refine lstI ?_ | with_reducible refine starI ?_ | with_reducible refine starTT ?_ | with_reducible refine andI ?_ | with_reducible refine orVI ?_ | with_reducible refine notI ?_ | with_reducible refine ifEI ?_ | with_reducible refine forI ?_ | with_reducible refine r1I ?_ | with_reducible refine ir2I ?_ | with_reducible refine iTupI ?_ | with_reducible refine truI ?_ | with_reducible refine chainI ?_ | with_reducible refine lcI ?_ | with_reducible refine slI ?_ | with_reducible refine noPI ?_ | with_reducible refine ptI ?_ | with_reducible refine unI ?_ | with_reducible refine brkI ?_ | with_reducible refine cntI ?_ | with_reducible refine retNI ?_ | with_reducible refine addII ?_ | with_reducible refine rI0 ?_ | with_reducible refine rIC ?_ ?_ | with_reducible refine mulII ?_ ?_ | with_reducible refine addTT ?_ ?_ | with_reducible refine addSS ?_ ?_ | with_reducible refine negII ?_ | with_reducible refine eqII ?_ | with_reducible refine eqSS ?_ | with_reducible refine eqBB ?_ | with_reducible refine neII ?_ | with_reducible refine neSS ?_ | with_reducible refine neBB ?_ | with_reducible refine isNN ?_ | with_reducible refine isNotNN ?_ | with_reducible refine isBB ?_ | with_reducible refine isNotBB ?_ | with_reducible refine lenTI ?_ | with_reducible refine lenFI ?_ | with_reducible refine intII ?_ | with_reducible refine intBI ?_ | with_reducible refine tupTI ?_ | with_reducible refine minII ?_ | with_reducible refine maxII ?_ | with_reducible refine slTI ?_ | with_reducible refine gcI ?_ | with_reducible refine gnI ?_ | with_reducible refine aNI ?_ | ((with_reducible refine ttI ?_ ?_); exact rfl) | ((with_reducible refine And.intro ?_ ?_); exact rfl) | ((with_reducible refine And.intro ?_ ?_); exact lenOk rfl) | dsimp only [En.s]))
  intro pt hpt
  have st0 := Sub.new (o := .lst []) hpt
  have sx : ∀ {o : O} {m' : M}, Sub m m' → Sub m (mset m' pt o) := fun h a o' ha => by rw [mset_ne fun z => by rw [z, hpt] at ha; cases ha]; exact h a o' ha
  have hdS : ∀ {m' : M}, Sub m m' → ∀ dd, d = some dd → ∃ fs, m' dd = some (.xd fs) := fun s dd e => let ⟨fs, h⟩ := hd dd e; ⟨fs, s _ _ h⟩
  refine tellI rfl rfl mset_same (Nat.le_of_ble_eq_true rfl) (hdS st0) i1 ?_
  have s1 := sx (o := .lst ([] ++ [D.bl (decide (n = "BadRow"))])) st0
  dsimp only
  refine seqI ?_
  refine tellI rfl rfl mset_same (Nat.le_of_ble_eq_true rfl) (hdS s1) i2 ?_
  have s2 := sx (o := .lst ([] ++ [D.bl (decide (n = "BadRow"))] ++ [D.bl (decide (n = "BadNumber"))])) s1
  dsimp only
  refine seqI ?_
  refine tellI rfl rfl mset_same (Nat.le_of_ble_eq_true rfl) (hdS s2) i3 ?_
  have s3 := sx (o := .lst ([] ++ [D.bl (decide (n = "BadRow"))] ++ [D.bl (decide (n = "BadNumber"))] ++ [D.bl (decide (n = "BadFlips"))])) s2
  dsimp only
  refine seqI ?_
  refine tellI rfl rfl mset_same (Nat.le_of_ble_eq_true rfl) (hdS s3) i4 ?_
  have s4 := sx (o := .lst ([] ++ [D.bl (decide (n = "BadRow"))] ++ [D.bl (decide (n = "BadNumber"))] ++ [D.bl (decide (n = "BadFlips"))] ++ [D.bl (decide (n = "TooMany"))])) s3
  generalize hm3 : mset (mset (mset (mset (mset m pt (.lst [])) pt (.lst ([] ++ [D.bl (decide (n = "BadRow"))]))) pt (.lst ([] ++ [D.bl (decide (n = "BadRow"))] ++ [D.bl (decide (n = "BadNumber"))]))) pt (.lst ([] ++ [D.bl (decide (n = "BadRow"))] ++ [D.bl (decide (n = "BadNumber"))] ++ [D.bl (decide (n = "BadFlips"))]))) pt (.lst ([] ++ [D.bl (decide (n = "BadRow"))] ++ [D.bl (decide (n = "BadNumber"))] ++ [D.bl (decide (n = "BadFlips"))] ++ [D.bl (decide (n = "TooMany"))])) = m3 at s4 ⊢
  have l3 : m3 pt = some (.lst [D.bl (decide (n = "BadRow")), D.bl (decide (n = "BadNumber")), D.bl (decide (n = "BadFlips")), D.bl (decide (n = "TooMany"))]) := by rw [← hm3]; exact mset_same
  clear hm3 s1 s2 s3
  (repeat (first | with_reducible refine seqI ?_ | with_reducible refine setI ?_ | with_reducible refine asgI ?_ | with_reducible refine retI ?_ | with_reducible refine opI ?_ | with_reducible refine callI ?_ | with_reducible refine consI ?_ | with_reducible refine cI ?_ | with_reducible refine nilI ?_ | ((with_reducible apply varI); exact rfl) | with_reducible refine cbI ?_ | with_reducible refine ifI ?_ | with_reducible refine tstI ?_ | with_reducible refine notTI ?_ | with_reducible refine andTI ?_ | with_reducible refine orTI ?_ | with_reducible refine dropI ?_ | with_reducible refine nextI ?_ | with_reducible refine tupI ?_ | with_reducible refine lstI ?_ | with_reducible refine starI ?_ | with_reducible refine starTT ?_ | with_reducible refine andI ?_ | with_reducible refine orVI ?_ | with_reducible refine notI ?_ | with_reducible refine ifEI ?_ | with_reducible refine forI ?_ | with_reducible refine r1I ?_ | with_reducible refine ir2I ?_ | with_reducible refine iTupI ?_ | with_reducible refine truI ?_ | with_reducible refine chainI ?_ | with_reducible refine lcI ?_ | with_reducible refine slI ?_ | with_reducible refine noPI ?_ | with_reducible refine ptI ?_ | with_reducible refine unI ?_ | with_reducible refine brkI ?_ | with_reducible refine cntI ?_ | with_reducible refine retNI ?_ | with_reducible refine addII ?_ | with_reducible refine rI0 ?_ | with_reducible refine rIC ?_ ?_ | with_reducible refine mulII ?_ ?_ | with_reducible refine addTT ?_ ?_ | with_reducible refine addSS ?_ ?_ | with_reducible refine negII ?_ | with_reducible refine eqII ?_ | with_reducible refine eqSS ?_ | with_reducible refine eqBB ?_ | with_reducible refine neII ?_ | with_reducible refine neSS ?_ | with_reducible refine neBB ?_ | with_reducible refine isNN ?_ | with_reducible refine isNotNN ?_ | with_reducible refine isBB ?_ | with_reducible refine isNotBB ?_ | with_reducible refine lenTI ?_ | with_reducible refine lenFI ?_ | with_reducible refine intII ?_ | with_reducible refine intBI ?_ | with_reducible refine tupTI ?_ | with_reducible refine minII ?_ | with_reducible refine maxII ?_ | with_reducible refine slTI ?_ | with_reducible refine gcI ?_ | with_reducible refine gnI ?_ | with_reducible refine aNI ?_ | ((with_reducible refine ttI ?_ ?_); exact rfl) | ((with_reducible refine And.intro ?_ ?_); exact rfl) | ((with_reducible refine And.intro ?_ ?_); exact lenOk rfl) | dsimp only [En.s]))
  intro pn hpn
  have n1 : pt ≠ pn := fun z => by rw [← z, l3] at hpn; cases hpn
  have l4 := (mset_ne (m := m3) (o := .lst [D.str "row", D.str "number", D.str "flips", D.str "many"]) n1).trans l3
  have e4 : (mset m3 pn (.lst [D.str "row", D.str "number", D.str "flips", D.str "many"])) pn = some (.lst [D.str "row", D.str "number", D.str "flips", D.str "many"]) := mset_same
  have s5 := s4.trans (Sub.new (o := .lst [D.str "row", D.str "number", D.str "flips", D.str "many"]) hpn)
  generalize mset m3 pn (.lst [D.str "row", D.str "number", D.str "flips", D.str "many"]) = m4 at s5 l4 e4 ⊢
  (repeat (first | with_reducible refine seqI ?_ | with_reducible refine setI ?_ | with_reducible refine asgI ?_ | with_reducible refine retI ?_ | with_reducible refine opI ?_ | with_reducible refine callI ?_ | with_reducible refine consI ?_ | with_reducible refine cI ?_ | with_reducible refine nilI ?_ | ((with_reducible apply varI); exact rfl) | with_reducible refine cbI ?_ | with_reducible refine ifI ?_ | with_reducible refine tstI ?_ | with_reducible refine notTI ?_ | with_reducible refine andTI ?_ | with_reducible refine orTI ?_ | with_reducible refine dropI ?_ | with_reducible refine nextI ?_ | with_reducible refine tupI ?_ | with_reducible refine lstI ?_ | with_reducible refine starI ?_ | with_reducible refine starTT ?_ | with_reducible refine andI ?_ | with_reducible refine orVI ?_ | with_reducible refine notI ?_ | with_reducible refine ifEI ?_ | with_reducible refine forI ?_ | with_reducible refine r1I ?_ | with_reducible refine ir2I ?_ | with_reducible refine iTupI ?_ | with_reducible refine truI ?_ | with_reducible refine chainI ?_ | with_reducible refine lcI ?_ | with_reducible refine slI ?_ | with_reducible refine noPI ?_ | with_reducible refine ptI ?_ | with_reducible refine unI ?_ | with_reducible refine brkI ?_ | with_reducible refine cntI ?_ | with_reducible refine retNI ?_ | with_reducible refine addII ?_ | with_reducible refine rI0 ?_ | with_reducible refine rIC ?_ ?_ | with_reducible refine mulII ?_ ?_ | with_reducible refine addTT ?_ ?_ | with_reducible refine addSS ?_ ?_ | with_reducible refine negII ?_ | with_reducible refine eqII ?_ | with_reducible refine eqSS ?_ | with_reducible refine eqBB ?_ | with_reducible refine neII ?_ | with_reducible refine neSS ?_ | with_reducible refine neBB ?_ | with_reducible refine isNN ?_ | with_reducible refine isNotNN ?_ | with_reducible refine isBB ?_ | with_reducible refine isNotBB ?_ | with_reducible refine lenTI ?_ | with_reducible refine lenFI ?_ | with_reducible refine intII ?_ | with_reducible refine intBI ?_ | with_reducible refine tupTI ?_ | with_reducible refine minII ?_ | with_reducible refine maxII ?_ | with_reducible refine slTI ?_ | with_reducible refine gcI ?_ | with_reducible refine gnI ?_ | with_reducible refine aNI ?_ | ((with_reducible refine ttI ?_ ?_); exact rfl) | ((with_reducible refine And.intro ?_ ?_); exact rfl) | ((with_reducible refine And.intro ?_ ?_); exact lenOk rfl) | dsimp only [En.s]))
  refine countI rfl l4 (bs := [decide (n = "BadRow"), decide (n = "BadNumber"), decide (n = "BadFlips"), decide (n = "TooMany")]) rfl ?_
  (repeat (first | with_reducible refine seqI ?_ | with_reducible refine setI ?_ | with_reducible refine asgI ?_ | with_reducible refine retI ?_ | with_reducible refine opI ?_ | with_reducible refine callI ?_ | with_reducible refine consI ?_ | with_reducible refine cI ?_ | with_reducible refine nilI ?_ | ((with_reducible apply varI); exact rfl) | with_reducible refine cbI ?_ | with_reducible refine ifI ?_ | with_reducible refine tstI ?_ | with_reducible refine notTI ?_ | with_reducible refine andTI ?_ | with_reducible refine orTI ?_ | with_reducible refine dropI ?_ | with_reducible refine nextI ?_ | with_reducible refine tupI ?_ | with_reducible refine lstI ?_ | with_reducible refine starI ?_ | with_reducible refine starTT ?_ | with_reducible refine andI ?_ | with_reducible refine orVI ?_ | with_reducible refine notI ?_ | with_reducible refine ifEI ?_ | with_reducible refine forI ?_ | with_reducible refine r1I ?_ | with_reducible refine ir2I ?_ | with_reducible refine iTupI ?_ | with_reducible refine truI ?_ | with_reducible refine chainI ?_ | with_reducible refine lcI ?_ | with_reducible refine slI ?_ | with_reducible refine noPI ?_ | with_reducible refine ptI ?_ | with_reducible refine unI ?_ | with_reducible refine brkI ?_ | with_reducible refine cntI ?_ | with_reducible refine retNI ?_ | with_reducible refine addII ?_ | with_reducible refine rI0 ?_ | with_reducible refine rIC ?_ ?_ | with_reducible refine mulII ?_ ?_ | with_reducible refine addTT ?_ ?_ | with_reducible refine addSS ?_ ?_ | with_reducible refine negII ?_ | with_reducible refine eqII ?_ | with_reducible refine eqSS ?_ | with_reducible refine eqBB ?_ | with_reducible refine neII ?_ | with_reducible refine neSS ?_ | with_reducible refine neBB ?_ | with_reducible refine isNN ?_ | with_reducible refine isNotNN ?_ | with_reducible refine isBB ?_ | with_reducible refine isNotBB ?_ | with_reducible refine lenTI ?_ | with_reducible refine lenFI ?_ | with_reducible refine intII ?_ | with_reducible refine intBI ?_ | with_reducible refine tupTI ?_ | with_reducible refine minII ?_ | with_reducible refine maxII ?_ | with_reducible refine slTI ?_ | with_reducible refine gcI ?_ | with_reducible refine gnI ?_ | with_reducible refine aNI ?_ | ((with_reducible refine ttI ?_ ?_); exact rfl) | ((with_reducible refine And.intro ?_ ?_); exact rfl) | ((with_reducible refine And.intro ?_ ?_); exact lenOk rfl) | dsimp only [En.s]))
  simp only [List.mem_cons, List.not_mem_nil, or_false] at hn
  rcases hn with z | z | z | z <;> subst z
  · rcases hout with ⟨_, rfl⟩ | ⟨z, _⟩
    · refine bl_t (by decide) ?_
      (repeat (first | with_reducible refine seqI ?_ | with_reducible refine setI ?_ | with_reducible refine asgI ?_ | with_reducible refine retI ?_ | with_reducible refine opI ?_ | with_reducible refine callI ?_ | with_reducible refine consI ?_ | with_reducible refine cI ?_ | with_reducible refine nilI ?_ | ((with_reducible apply varI); exact rfl) | with_reducible refine cbI ?_ | with_reducible refine ifI ?_ | with_reducible refine tstI ?_ | with_reducible refine notTI ?_ | with_reducible refine andTI ?_ | with_reducible refine orTI ?_ | with_reducible refine dropI ?_ | with_reducible refine nextI ?_ | with_reducible refine tupI ?_ | with_reducible refine lstI ?_ | with_reducible refine starI ?_ | with_reducible refine starTT ?_ | with_reducible refine andI ?_ | with_reducible refine orVI ?_ | with_reducible refine notI ?_ | with_reducible refine ifEI ?_ | with_reducible refine forI ?_ | with_reducible refine r1I ?_ | with_reducible refine ir2I ?_ | with_reducible refine iTupI ?_ | with_reducible refine truI ?_ | with_reducible refine chainI ?_ | with_reducible refine lcI ?_ | with_reducible refine slI ?_ | with_reducible refine noPI ?_ | with_reducible refine ptI ?_ | with_reducible refine unI ?_ | with_reducible refine brkI ?_ | with_reducible refine cntI ?_ | with_reducible refine retNI ?_ | with_reducible refine addII ?_ | with_reducible refine rI0 ?_ | with_reducible refine rIC ?_ ?_ | with_reducible refine mulII ?_ ?_ | with_reducible refine addTT ?_ ?_ | with_reducible refine addSS ?_ ?_ | with_reducible refine negII ?_ | with_reducible refine eqII ?_ | with_reducible refine eqSS ?_ | with_reducible refine eqBB ?_ | with_reducible refine neII ?_ | with_reducible refine neSS ?_ | with_reducible refine neBB ?_ | with_reducible refine isNN ?_ | with_reducible refine isNotNN ?_ | with_reducible refine isBB ?_ | with_reducible refine isNotBB ?_ | with_reducible refine lenTI ?_ | with_reducible refine lenFI ?_ | with_reducible refine intII ?_ | with_reducible refine intBI ?_ | with_reducible refine tupTI ?_ | with_reducible refine minII ?_ | with_reducible refine maxII ?_ | with_reducible refine slTI ?_ | with_reducible refine gcI ?_ | with_reducible refine gnI ?_ | with_reducible refine aNI ?_ | ((with_reducible refine ttI ?_ ?_); exact rfl) | ((with_reducible refine And.intro ?_ ?_); exact rfl) | ((with_reducible refine And.intro ?_ ?_); exact lenOk rfl) | dsimp only [En.s]))
      refine indexI (j := 2) (z := .bl true) rfl l4 ⟨rfl, rfl⟩ (by rfl) (by decide) (fun i z' hi hz => ?_) ?_
      · match i, hi, hz with
        | 0, _, hz => cases hz; decide
        | 1, _, hz => cases hz; decide
      refine ixRI (l_of e4) (d := .str "flips") at2 ?_
      (repeat (first | with_reducible refine seqI ?_ | with_reducible refine setI ?_ | with_reducible refine asgI ?_ | with_reducible refine retI ?_ | with_reducible refine opI ?_ | with_reducible refine callI ?_ | with_reducible refine consI ?_ | with_reducible refine cI ?_ | with_reducible refine nilI ?_ | ((with_reducible apply varI); exact rfl) | with_reducible refine cbI ?_ | with_reducible refine ifI ?_ | with_reducible refine tstI ?_ | with_reducible refine notTI ?_ | with_reducible refine andTI ?_ | with_reducible refine orTI ?_ | with_reducible refine dropI ?_ | with_reducible refine nextI ?_ | with_reducible refine tupI ?_ | with_reducible refine lstI ?_ | with_reducible refine starI ?_ | with_reducible refine starTT ?_ | with_reducible refine andI ?_ | with_reducible refine orVI ?_ | with_reducible refine notI ?_ | with_reducible refine ifEI ?_ | with_reducible refine forI ?_ | with_reducible refine r1I ?_ | with_reducible refine ir2I ?_ | with_reducible refine iTupI ?_ | with_reducible refine truI ?_ | with_reducible refine chainI ?_ | with_reducible refine lcI ?_ | with_reducible refine slI ?_ | with_reducible refine noPI ?_ | with_reducible refine ptI ?_ | with_reducible refine unI ?_ | with_reducible refine brkI ?_ | with_reducible refine cntI ?_ | with_reducible refine retNI ?_ | with_reducible refine addII ?_ | with_reducible refine rI0 ?_ | with_reducible refine rIC ?_ ?_ | with_reducible refine mulII ?_ ?_ | with_reducible refine addTT ?_ ?_ | with_reducible refine addSS ?_ ?_ | with_reducible refine negII ?_ | with_reducible refine eqII ?_ | with_reducible refine eqSS ?_ | with_reducible refine eqBB ?_ | with_reducible refine neII ?_ | with_reducible refine neSS ?_ | with_reducible refine neBB ?_ | with_reducible refine isNN ?_ | with_reducible refine isNotNN ?_ | with_reducible refine isBB ?_ | with_reducible refine isNotBB ?_ | with_reducible refine lenTI ?_ | with_reducible refine lenFI ?_ | with_reducible refine intII ?_ | with_reducible refine intBI ?_ | with_reducible refine tupTI ?_ | with_reducible refine minII ?_ | with_reducible refine maxII ?_ | with_reducible refine slTI ?_ | with_reducible refine gcI ?_ | with_reducible refine gnI ?_ | with_reducible refine aNI ?_ | ((with_reducible refine ttI ?_ ?_); exact rfl) | ((with_reducible refine And.intro ?_ ?_); exact rfl) | ((with_reducible refine And.intro ?_ ?_); exact lenOk rfl) | dsimp only [En.s]))
      refine bl_f (by decide) ?_
      (repeat (first | with_reducible refine seqI ?_ | with_reducible refine setI ?_ | with_reducible refine asgI ?_ | with_reducible refine retI ?_ | with_reducible refine opI ?_ | with_reducible refine callI ?_ | with_reducible refine consI ?_ | with_reducible refine cI ?_ | with_reducible refine nilI ?_ | ((with_reducible apply varI); exact rfl) | with_reducible refine cbI ?_ | with_reducible refine ifI ?_ | with_reducible refine tstI ?_ | with_reducible refine notTI ?_ | with_reducible refine andTI ?_ | with_reducible refine orTI ?_ | with_reducible refine dropI ?_ | with_reducible refine nextI ?_ | with_reducible refine tupI ?_ | with_reducible refine lstI ?_ | with_reducible refine starI ?_ | with_reducible refine starTT ?_ | with_reducible refine andI ?_ | with_reducible refine orVI ?_ | with_reducible refine notI ?_ | with_reducible refine ifEI ?_ | with_reducible refine forI ?_ | with_reducible refine r1I ?_ | with_reducible refine ir2I ?_ | with_reducible refine iTupI ?_ | with_reducible refine truI ?_ | with_reducible refine chainI ?_ | with_reducible refine lcI ?_ | with_reducible refine slI ?_ | with_reducible refine noPI ?_ | with_reducible refine ptI ?_ | with_reducible refine unI ?_ | with_reducible refine brkI ?_ | with_reducible refine cntI ?_ | with_reducible refine retNI ?_ | with_reducible refine addII ?_ | with_reducible refine rI0 ?_ | with_reducible refine rIC ?_ ?_ | with_reducible refine mulII ?_ ?_ | with_reducible refine addTT ?_ ?_ | with_reducible refine addSS ?_ ?_ | with_reducible refine negII ?_ | with_reducible refine eqII ?_ | with_reducible refine eqSS ?_ | with_reducible refine eqBB ?_ | with_reducible refine neII ?_ | with_reducible refine neSS ?_ | with_reducible refine neBB ?_ | with_reducible refine isNN ?_ | with_reducible refine isNotNN ?_ | with_reducible refine isBB ?_ | with_reducible refine isNotBB ?_ | with_reducible refine lenTI ?_ | with_reducible refine lenFI ?_ | with_reducible refine intII ?_ | with_reducible refine intBI ?_ | with_reducible refine tupTI ?_ | with_reducible refine minII ?_ | with_reducible refine maxII ?_ | with_reducible refine slTI ?_ | with_reducible refine gcI ?_ | with_reducible refine gnI ?_ | with_reducible refine aNI ?_ | ((with_reducible refine ttI ?_ ?_); exact rfl) | ((with_reducible refine And.intro ?_ ?_); exact rfl) | ((with_reducible refine And.intro ?_ ?_); exact lenOk rfl) | dsimp only [En.s]))
      exact q _ _ m4 s5
    · exact absurd z (by decide)
  · rcases hout with ⟨_, rfl⟩ | ⟨z, _⟩
    · refine bl_t (by decide) ?_
      (repeat (first | with_reducible refine seqI ?_ | with_reducible refine setI ?_ | with_reducible refine asgI ?_ | with_reducible refine retI ?_ | with_reducible refine opI ?_ | with_reducible refine callI ?_ | with_reducible refine consI ?_ | with_reducible refine cI ?_ | with_reducible refine nilI ?_ | ((with_reducible apply varI); exact rfl) | with_reducible refine cbI ?_ | with_reducible refine ifI ?_ | with_reducible refine tstI ?_ | with_reducible refine notTI ?_ | with_reducible refine andTI ?_ | with_reducible refine orTI ?_ | with_reducible refine dropI ?_ | with_reducible refine nextI ?_ | with_reducible refine tupI ?_ | with_reducible refine lstI ?_ | with_reducible refine starI ?_ | with_reducible refine starTT ?_ | with_reducible refine andI ?_ | with_reducible refine orVI ?_ | with_reducible refine notI ?_ | with_reducible refine ifEI ?_ | with_reducible refine forI ?_ | with_reducible refine r1I ?_ | with_reducible refine ir2I ?_ | with_reducible refine iTupI ?_ | with_reducible refine truI ?_ | with_reducible refine chainI ?_ | with_reducible refine lcI ?_ | with_reducible refine slI ?_ | with_reducible refine noPI ?_ | with_reducible refine ptI ?_ | with_reducible refine unI ?_ | with_reducible refine brkI ?_ | with_reducible refine cntI ?_ | with_reducible refine retNI ?_ | with_reducible refine addII ?_ | with_reducible refine rI0 ?_ | with_reducible refine rIC ?_ ?_ | with_reducible refine mulII ?_ ?_ | with_reducible refine addTT ?_ ?_ | with_reducible refine addSS ?_ ?_ | with_reducible refine negII ?_ | with_reducible refine eqII ?_ | with_reducible refine eqSS ?_ | with_reducible refine eqBB ?_ | with_reducible refine neII ?_ | with_reducible refine neSS ?_ | with_reducible refine neBB ?_ | with_reducible refine isNN ?_ | with_reducible refine isNotNN ?_ | with_reducible refine isBB ?_ | with_reducible refine isNotBB ?_ | with_reducible refine lenTI ?_ | with_reducible refine lenFI ?_ | with_reducible refine intII ?_ | with_reducible refine intBI ?_ | with_reducible refine tupTI ?_ | with_reducible refine minII ?_ | with_reducible refine maxII ?_ | with_reducible refine slTI ?_ | with_reducible refine gcI ?_ | with_reducible refine gnI ?_ | with_reducible refine aNI ?_ | ((with_reducible refine ttI ?_ ?_); exact rfl) | ((with_reducible refine And.intro ?_ ?_); exact rfl) | ((with_reducible refine And.intro ?_ ?_); exact lenOk rfl) | dsimp only [En.s]))
      refine indexI (j := 1) (z := .bl true) rfl l4 ⟨rfl, rfl⟩ (by rfl) (by decide) (fun i z' hi hz => ?_) ?_
      · match i, hi, hz with
        | 0, _, hz => cases hz; decide
      refine ixRI (l_of e4) (d := .str "number") at1 ?_
      (repeat (first | with_reducible refine seqI ?_ | with_reducible refine setI ?_ | with_reducible refine asgI ?_ | with_reducible refine retI ?_ | with_reducible refine opI ?_ | with_reducible refine callI ?_ | with_reducible refine consI ?_ | with_reducible refine cI ?_ | with_reducible refine nilI ?_ | ((with_reducible apply varI); exact rfl) | with_reducible refine cbI ?_ | with_reducible refine ifI ?_ | with_reducible refine tstI ?_ | with_reducible refine notTI ?_ | with_reducible refine andTI ?_ | with_reducible refine orTI ?_ | with_reducible refine dropI ?_ | with_reducible refine nextI ?_ | with_reducible refine tupI ?_ | with_reducible refine lstI ?_ | with_reducible refine starI ?_ | with_reducible refine starTT ?_ | with_reducible refine andI ?_ | with_reducible refine orVI ?_ | with_reducible refine notI ?_ | with_reducible refine ifEI ?_ | with_reducible refine forI ?_ | with_reducible refine r1I ?_ | with_reducible refine ir2I ?_ | with_reducible refine iTupI ?_ | with_reducible refine truI ?_ | with_reducible refine chainI ?_ | with_reducible refine lcI ?_ | with_reducible refine slI ?_ | with_reducible refine noPI ?_ | with_reducible refine ptI ?_ | with_reducible refine unI ?_ | with_reducible refine brkI ?_ | with_reducible refine cntI ?_ | with_reducible refine retNI ?_ | with_reducible refine addII ?_ | with_reducible refine rI0 ?_ | with_reducible refine rIC ?_ ?_ | with_reducible refine mulII ?_ ?_ | with_reducible refine addTT ?_ ?_ | with_reducible refine addSS ?_ ?_ | with_reducible refine negII ?_ | with_reducible refine eqII ?_ | with_reducible refine eqSS ?_ | with_reducible refine eqBB ?_ | with_reducible refine neII ?_ | with_reducible refine neSS ?_ | with_reducible refine neBB ?_ | with_reducible refine isNN ?_ | with_reducible refine isNotNN ?_ | with_reducible refine isBB ?_ | with_reducible refine isNotBB ?_ | with_reducible refine lenTI ?_ | with_reducible refine lenFI ?_ | with_reducible refine intII ?_ | with_reducible refine intBI ?_ | with_reducible refine tupTI ?_ | with_reducible refine minII ?_ | with_reducible refine maxII ?_ | with_reducible refine slTI ?_ | with_reducible refine gcI ?_ | with_reducible refine gnI ?_ | with_reducible refine aNI ?_ | ((with_reducible refine ttI ?_ ?_); exact rfl) | ((with_reducible refine And.intro ?_ ?_); exact rfl) | ((with_reducible refine And.intro ?_ ?_); exact lenOk rfl) | dsimp only [En.s]))
      refine bl_f (by decide) ?_
      (repeat (first | with_reducible refine seqI ?_ | with_reducible refine setI ?_ | with_reducible refine asgI ?_ | with_reducible refine retI ?_ | with_reducible refine opI ?_ | with_reducible refine callI ?_ | with_reducible refine consI ?_ | with_reducible refine cI ?_ | with_reducible refine nilI ?_ | ((with_reducible apply varI); exact rfl) | with_reducible refine cbI ?_ | with_reducible refine ifI ?_ | with_reducible refine tstI ?_ | with_reducible refine notTI ?_ | with_reducible refine andTI ?_ | with_reducible refine orTI ?_ | with_reducible refine dropI ?_ | with_reducible refine nextI ?_ | with_reducible refine tupI ?_ | with_reducible refine lstI ?_ | with_reducible refine starI ?_ | with_reducible refine starTT ?_ | with_reducible refine andI ?_ | with_reducible refine orVI ?_ | with_reducible refine notI ?_ | with_reducible refine ifEI ?_ | with_reducible refine forI ?_ | with_reducible refine r1I ?_ | with_reducible refine ir2I ?_ | with_reducible refine iTupI ?_ | with_reducible refine truI ?_ | with_reducible refine chainI ?_ | with_reducible refine lcI ?_ | with_reducible refine slI ?_ | with_reducible refine noPI ?_ | with_reducible refine ptI ?_ | with_reducible refine unI ?_ | with_reducible refine brkI ?_ | with_reducible refine cntI ?_ | with_reducible refine retNI ?_ | with_reducible refine addII ?_ | with_reducible refine rI0 ?_ | with_reducible refine rIC ?_ ?_ | with_reducible refine mulII ?_ ?_ | with_reducible refine addTT ?_ ?_ | with_reducible refine addSS ?_ ?_ | with_reducible refine negII ?_ | with_reducible refine eqII ?_ | with_reducible refine eqSS ?_ | with_reducible refine eqBB ?_ | with_reducible refine neII ?_ | with_reducible refine neSS ?_ | with_reducible refine neBB ?_ | with_reducible refine isNN ?_ | with_reducible refine isNotNN ?_ | with_reducible refine isBB ?_ | with_reducible refine isNotBB ?_ | with_reducible refine lenTI ?_ | with_reducible refine lenFI ?_ | with_reducible refine intII ?_ | with_reducible refine intBI ?_ | with_reducible refine tupTI ?_ | with_reducible refine minII ?_ | with_reducible refine maxII ?_ | with_reducible refine slTI ?_ | with_reducible refine gcI ?_ | with_reducible refine gnI ?_ | with_reducible refine aNI ?_ | ((with_reducible refine ttI ?_ ?_); exact rfl) | ((with_reducible refine And.intro ?_ ?_); exact rfl) | ((with_reducible refine And.intro ?_ ?_); exact lenOk rfl) | dsimp only [En.s]))
      exact q _ _ m4 s5
    · exact absurd z (by decide)
  · rcases hout with ⟨_, rfl⟩ | ⟨z, _⟩
    · refine bl_t (by decide) ?_
      (repeat (first | with_reducible refine seqI ?_ | with_reducible refine setI ?_ | with_reducible refine asgI ?_ | with_reducible refine retI ?_ | with_reducible refine opI ?_ | with_reducible refine callI ?_ | with_reducible refine consI ?_ | with_reducible refine cI ?_ | with_reducible refine nilI ?_ | ((with_reducible apply varI); exact rfl) | with_reducible refine cbI ?_ | with_reducible refine ifI ?_ | with_reducible refine tstI ?_ | with_reducible refine notTI ?_ | with_reducible refine andTI ?_ | with_reducible refine orTI ?_ | with_reducible refine dropI ?_ | with_reducible refine nextI ?_ | with_reducible refine tupI ?_ | with_reducible refine lstI ?_ | with_reducible refine starI ?_ | with_reducible refine starTT ?_ | with_reducible refine andI ?_ | with_reducible refine orVI ?_ | with_reducible refine notI ?_ | with_reducible refine ifEI ?_ | with_reducible refine forI ?_ | with_reducible refine r1I ?_ | with_reducible refine ir2I ?_ | with_reducible refine iTupI ?_ | with_reducible refine truI ?_ | with_reducible refine chainI ?_ | with_reducible refine lcI ?_ | with_reducible refine slI ?_ | with_reducible refine noPI ?_ | with_reducible refine ptI ?_ | with_reducible refine unI ?_ | with_reducible refine brkI ?_ | with_reducible refine cntI ?_ | with_reducible refine retNI ?_ | with_reducible refine addII ?_ | with_reducible refine rI0 ?_ | with_reducible refine rIC ?_ ?_ | with_reducible refine mulII ?_ ?_ | with_reducible refine addTT ?_ ?_ | with_reducible refine addSS ?_ ?_ | with_reducible refine negII ?_ | with_reducible refine eqII ?_ | with_reducible refine eqSS ?_ | with_reducible refine eqBB ?_ | with_reducible refine neII ?_ | with_reducible refine neSS ?_ | with_reducible refine neBB ?_ | with_reducible refine isNN ?_ | with_reducible refine isNotNN ?_ | with_reducible refine isBB ?_ | with_reducible refine isNotBB ?_ | with_reducible refine lenTI ?_ | with_reducible refine lenFI ?_ | with_reducible refine intII ?_ | with_reducible refine intBI ?_ | with_reducible refine tupTI ?_ | with_reducible refine minII ?_ | with_reducible refine maxII ?_ | with_reducible refine slTI ?_ | with_reducible refine gcI ?_ | with_reducible refine gnI ?_ | with_reducible refine aNI ?_ | ((with_reducible refine ttI ?_ ?_); exact rfl) | ((with_reducible refine And.intro ?_ ?_); exact rfl) | ((with_reducible refine And.intro ?_ ?_); exact lenOk rfl) | dsimp only [En.s]))
      refine indexI (j := 0) (z := .bl true) rfl l4 ⟨rfl, rfl⟩ (by rfl) (by decide) (fun i z' hi hz => absurd hi (Nat.not_lt_zero i)) ?_
      refine ixRI (l_of e4) (d := .str "row") at0 ?_
      (repeat (first | with_reducible refine seqI ?_ | with_reducible refine setI ?_ | with_reducible refine asgI ?_ | with_reducible refine retI ?_ | with_reducible refine opI ?_ | with_reducible refine callI ?_ | with_reducible refine consI ?_ | with_reducible refine cI ?_ | with_reducible refine nilI ?_ | ((with_reducible apply varI); exact rfl) | with_reducible refine cbI ?_ | with_reducible refine ifI ?_ | with_reducible refine tstI ?_ | with_reducible refine notTI ?_ | with_reducible refine andTI ?_ | with_reducible refine orTI ?_ | with_reducible refine dropI ?_ | with_reducible refine nextI ?_ | with_reducible refine tupI ?_ | with_reducible refine lstI ?_ | with_reducible refine starI ?_ | with_reducible refine starTT ?_ | with_reducible refine andI ?_ | with_reducible refine orVI ?_ | with_reducible refine notI ?_ | with_reducible refine ifEI ?_ | with_reducible refine forI ?_ | with_reducible refine r1I ?_ | with_reducible refine ir2I ?_ | with_reducible refine iTupI ?_ | with_reducible refine truI ?_ | with_reducible refine chainI ?_ | with_reducible refine lcI ?_ | with_reducible refine slI ?_ | with_reducible refine noPI ?_ | with_reducible refine ptI ?_ | with_reducible refine unI ?_ | with_reducible refine brkI ?_ | with_reducible refine cntI ?_ | with_reducible refine retNI ?_ | with_reducible refine addII ?_ | with_reducible refine rI0 ?_ | with_reducible refine rIC ?_ ?_ | with_reducible refine mulII ?_ ?_ | with_reducible refine addTT ?_ ?_ | with_reducible refine addSS ?_ ?_ | with_reducible refine negII ?_ | with_reducible refine eqII ?_ | with_reducible refine eqSS ?_ | with_reducible refine eqBB ?_ | with_reducible refine neII ?_ | with_reducible refine neSS ?_ | with_reducible refine neBB ?_ | with_reducible refine isNN ?_ | with_reducible refine isNotNN ?_ | with_reducible refine isBB ?_ | with_reducible refine isNotBB ?_ | with_reducible refine lenTI ?_ | with_reducible refine lenFI ?_ | with_reducible refine intII ?_ | with_reducible refine intBI ?_ | with_reducible refine tupTI ?_ | with_reducible refine minII ?_ | with_reducible refine maxII ?_ | with_reducible refine slTI ?_ | with_reducible refine gcI ?_ | with_reducible refine gnI ?_ | with_reducible refine aNI ?_ | ((with_reducible refine ttI ?_ ?_); exact rfl) | ((with_reducible refine And.intro ?_ ?_); exact rfl) | ((with_reducible refine And.intro ?_ ?_); exact lenOk rfl) | dsimp only [En.s]))
      refine bl_f (by decide) ?_
      (repeat (first | with_reducible refine seqI ?_ | with_reducible refine setI ?_ | with_reducible refine asgI ?_ | with_reducible refine retI ?_ | with_reducible refine opI ?_ | with_reducible refine callI ?_ | with_reducible refine consI ?_ | with_reducible refine cI ?_ | with_reducible refine nilI ?_ | ((with_reducible apply varI); exact rfl) | with_reducible refine cbI ?_ | with_reducible refine ifI ?_ | with_reducible refine tstI ?_ | with_reducible refine notTI ?_ | with_reducible refine andTI ?_ | with_reducible refine orTI ?_ | with_reducible refine dropI ?_ | with_reducible refine nextI ?_ | with_reducible refine tupI ?_ | with_reducible refine lstI ?_ | with_reducible refine starI ?_ | with_reducible refine starTT ?_ | with_reducible refine andI ?_ | with_reducible refine orVI ?_ | with_reducible refine notI ?_ | with_reducible refine ifEI ?_ | with_reducible refine forI ?_ | with_reducible refine r1I ?_ | with_reducible refine ir2I ?_ | with_reducible refine iTupI ?_ | with_reducible refine truI ?_ | with_reducible refine chainI ?_ | with_reducible refine lcI ?_ | with_reducible refine slI ?_ | with_reducible refine noPI ?_ | with_reducible refine ptI ?_ | with_reducible refine unI ?_ | with_reducible refine brkI ?_ | with_reducible refine cntI ?_ | with_reducible refine retNI ?_ | with_reducible refine addII ?_ | with_reducible refine rI0 ?_ | with_reducible refine rIC ?_ ?_ | with_reducible refine mulII ?_ ?_ | with_reducible refine addTT ?_ ?_ | with_reducible refine addSS ?_ ?_ | with_reducible refine negII ?_ | with_reducible refine eqII ?_ | with_reducible refine eqSS ?_ | with_reducible refine eqBB ?_ | with_reducible refine neII ?_ | with_reducible refine neSS ?_ | with_reducible refine neBB ?_ | with_reducible refine isNN ?_ | with_reducible refine isNotNN ?_ | with_reducible refine isBB ?_ | with_reducible refine isNotBB ?_ | with_reducible refine lenTI ?_ | with_reducible refine lenFI ?_ | with_reducible refine intII ?_ | with_reducible refine intBI ?_ | with_reducible refine tupTI ?_ | with_reducible refine minII ?_ | with_reducible refine maxII ?_ | with_reducible refine slTI ?_ | with_reducible refine gcI ?_ | with_reducible refine gnI ?_ | with_reducible refine aNI ?_ | ((with_reducible refine ttI ?_ ?_); exact rfl) | ((with_reducible refine And.intro ?_ ?_); exact rfl) | ((with_reducible refine And.intro ?_ ?_); exact lenOk rfl) | dsimp only [En.s]))
      exact q _ _ m4 s5
    · exact absurd z (by decide)
  · rcases hout with ⟨z, _⟩ | ⟨_, dd, hdd, hm, hfl, rfl⟩
    · exact absurd rfl z
    · refine bl_t (by decide) ?_
      (repeat (first | with_reducible refine seqI ?_ | with_reducible refine setI ?_ | with_reducible refine asgI ?_ | with_reducible refine retI ?_ | with_reducible refine opI ?_ | with_reducible refine callI ?_ | with_reducible refine consI ?_ | with_reducible refine cI ?_ | with_reducible refine nilI ?_ | ((with_reducible apply varI); exact rfl) | with_reducible refine cbI ?_ | with_reducible refine ifI ?_ | with_reducible refine tstI ?_ | with_reducible refine notTI ?_ | with_reducible refine andTI ?_ | with_reducible refine orTI ?_ | with_reducible refine dropI ?_ | with_reducible refine nextI ?_ | with_reducible refine tupI ?_ | with_reducible refine lstI ?_ | with_reducible refine starI ?_ | with_reducible refine starTT ?_ | with_reducible refine andI ?_ | with_reducible refine orVI ?_ | with_reducible refine notI ?_ | with_reducible refine ifEI ?_ | with_reducible refine forI ?_ | with_reducible refine r1I ?_ | with_reducible refine ir2I ?_ | with_reducible refine iTupI ?_ | with_reducible refine truI ?_ | with_reducible refine chainI ?_ | with_reducible refine lcI ?_ | with_reducible refine slI ?_ | with_reducible refine noPI ?_ | with_reducible refine ptI ?_ | with_reducible refine unI ?_ | with_reducible refine brkI ?_ | with_reducible refine cntI ?_ | with_reducible refine retNI ?_ | with_reducible refine addII ?_ | with_reducible refine rI0 ?_ | with_reducible refine rIC ?_ ?_ | with_reducible refine mulII ?_ ?_ | with_reducible refine addTT ?_ ?_ | with_reducible refine addSS ?_ ?_ | with_reducible refine negII ?_ | with_reducible refine eqII ?_ | with_reducible refine eqSS ?_ | with_reducible refine eqBB ?_ | with_reducible refine neII ?_ | with_reducible refine neSS ?_ | with_reducible refine neBB ?_ | with_reducible refine isNN ?_ | with_reducible refine isNotNN ?_ | with_reducible refine isBB ?_ | with_reducible refine isNotBB ?_ | with_reducible refine lenTI ?_ | with_reducible refine lenFI ?_ | with_reducible refine intII ?_ | with_reducible refine intBI ?_ | with_reducible refine tupTI ?_ | with_reducible refine minII ?_ | with_reducible refine maxII ?_ | with_reducible refine slTI ?_ | with_reducible refine gcI ?_ | with_reducible refine gnI ?_ | with_reducible refine aNI ?_ | ((with_reducible refine ttI ?_ ?_); exact rfl) | ((with_reducible refine And.intro ?_ ?_); exact rfl) | ((with_reducible refine And.intro ?_ ?_); exact lenOk rfl) | dsimp only [En.s]))
      refine indexI (j := 3) (z := .bl true) rfl l4 ⟨rfl, rfl⟩ (by rfl) (by decide) (fun i z' hi hz => ?_) ?_
      · match i, hi, hz with
        | 0, _, hz => cases hz; decide
        | 1, _, hz => cases hz; decide
        | 2, _, hz => cases hz; decide
      refine ixRI (l_of e4) (d := .str "many") at3 ?_
      (repeat (first | with_reducible refine seqI ?_ | with_reducible refine setI ?_ | with_reducible refine asgI ?_ | with_reducible refine retI ?_ | with_reducible refine opI ?_ | with_reducible refine callI ?_ | with_reducible refine consI ?_ | with_reducible refine cI ?_ | with_reducible refine nilI ?_ | ((with_reducible apply varI); exact rfl) | with_reducible refine cbI ?_ | with_reducible refine ifI ?_ | with_reducible refine tstI ?_ | with_reducible refine notTI ?_ | with_reducible refine andTI ?_ | with_reducible refine orTI ?_ | with_reducible refine dropI ?_ | with_reducible refine nextI ?_ | with_reducible refine tupI ?_ | with_reducible refine lstI ?_ | with_reducible refine starI ?_ | with_reducible refine starTT ?_ | with_reducible refine andI ?_ | with_reducible refine orVI ?_ | with_reducible refine notI ?_ | with_reducible refine ifEI ?_ | with_reducible refine forI ?_ | with_reducible refine r1I ?_ | with_reducible refine ir2I ?_ | with_reducible refine iTupI ?_ | with_reducible refine truI ?_ | with_reducible refine chainI ?_ | with_reducible refine lcI ?_ | with_reducible refine slI ?_ | with_reducible refine noPI ?_ | with_reducible refine ptI ?_ | with_reducible refine unI ?_ | with_reducible refine brkI ?_ | with_reducible refine cntI ?_ | with_reducible refine retNI ?_ | with_reducible refine addII ?_ | with_reducible refine rI0 ?_ | with_reducible refine rIC ?_ ?_ | with_reducible refine mulII ?_ ?_ | with_reducible refine addTT ?_ ?_ | with_reducible refine addSS ?_ ?_ | with_reducible refine negII ?_ | with_reducible refine eqII ?_ | with_reducible refine eqSS ?_ | with_reducible refine eqBB ?_ | with_reducible refine neII ?_ | with_reducible refine neSS ?_ | with_reducible refine neBB ?_ | with_reducible refine isNN ?_ | with_reducible refine isNotNN ?_ | with_reducible refine isBB ?_ | with_reducible refine isNotBB ?_ | with_reducible refine lenTI ?_ | with_reducible refine lenFI ?_ | with_reducible refine intII ?_ | with_reducible refine intBI ?_ | with_reducible refine tupTI ?_ | with_reducible refine minII ?_ | with_reducible refine maxII ?_ | with_reducible refine slTI ?_ | with_reducible refine gcI ?_ | with_reducible refine gnI ?_ | with_reducible refine aNI ?_ | ((with_reducible refine ttI ?_ ?_); exact rfl) | ((with_reducible refine And.intro ?_ ?_); exact rfl) | ((with_reducible refine And.intro ?_ ?_); exact lenOk rfl) | dsimp only [En.s]))
      refine bl_t (by decide) ?_
      (repeat (first | with_reducible refine seqI ?_ | with_reducible refine setI ?_ | with_reducible refine asgI ?_ | with_reducible refine retI ?_ | with_reducible refine opI ?_ | with_reducible refine callI ?_ | with_reducible refine consI ?_ | with_reducible refine cI ?_ | with_reducible refine nilI ?_ | ((with_reducible apply varI); exact rfl) | with_reducible refine cbI ?_ | with_reducible refine ifI ?_ | with_reducible refine tstI ?_ | with_reducible refine notTI ?_ | with_reducible refine andTI ?_ | with_reducible refine orTI ?_ | with_reducible refine dropI ?_ | with_reducible refine nextI ?_ | with_reducible refine tupI ?_ | with_reducible refine lstI ?_ | with_reducible refine starI ?_ | with_reducible refine starTT ?_ | with_reducible refine andI ?_ | with_reducible refine orVI ?_ | with_reducible refine notI ?_ | with_reducible refine ifEI ?_ | with_reducible refine forI ?_ | with_reducible refine r1I ?_ | with_reducible refine ir2I ?_ | with_reducible refine iTupI ?_ | with_reducible refine truI ?_ | with_reducible refine chainI ?_ | with_reducible refine lcI ?_ | with_reducible refine slI ?_ | with_reducible refine noPI ?_ | with_reducible refine ptI ?_ | with_reducible refine unI ?_ | with_reducible refine brkI ?_ | with_reducible refine cntI ?_ | with_reducible refine retNI ?_ | with_reducible refine addII ?_ | with_reducible refine rI0 ?_ | with_reducible refine rIC ?_ ?_ | with_reducible refine mulII ?_ ?_ | with_reducible refine addTT ?_ ?_ | with_reducible refine addSS ?_ ?_ | with_reducible refine negII ?_ | with_reducible refine eqII ?_ | with_reducible refine eqSS ?_ | with_reducible refine eqBB ?_ | with_reducible refine neII ?_ | with_reducible refine neSS ?_ | with_reducible refine neBB ?_ | with_reducible refine isNN ?_ | with_reducible refine isNotNN ?_ | with_reducible refine isBB ?_ | with_reducible refine isNotBB ?_ | with_reducible refine lenTI ?_ | with_reducible refine lenFI ?_ | with_reducible refine intII ?_ | with_reducible refine intBI ?_ | with_reducible refine tupTI ?_ | with_reducible refine minII ?_ | with_reducible refine maxII ?_ | with_reducible refine slTI ?_ | with_reducible refine gcI ?_ | with_reducible refine gnI ?_ | with_reducible refine aNI ?_ | ((with_reducible refine ttI ?_ ?_); exact rfl) | ((with_reducible refine And.intro ?_ ?_); exact rfl) | ((with_reducible refine And.intro ?_ ?_); exact lenOk rfl) | dsimp only [En.s]))
      refine ⟨rfl, by rw [hx]; exact hfl, dd, _, .int 4096, hdd, s5 _ _ hm, by simp, ?_⟩
      (repeat (first | with_reducible refine seqI ?_ | with_reducible refine setI ?_ | with_reducible refine asgI ?_ | with_reducible refine retI ?_ | with_reducible refine opI ?_ | with_reducible refine callI ?_ | with_reducible refine consI ?_ | with_reducible refine cI ?_ | with_reducible refine nilI ?_ | ((with_reducible apply varI); exact rfl) | with_reducible refine cbI ?_ | with_reducible refine ifI ?_ | with_reducible refine tstI ?_ | with_reducible refine notTI ?_ | with_reducible refine andTI ?_ | with_reducible refine orTI ?_ | with_reducible refine dropI ?_ | with_reducible refine nextI ?_ | with_reducible refine tupI ?_ | with_reducible refine lstI ?_ | with_reducible refine starI ?_ | with_reducible refine starTT ?_ | with_reducible refine andI ?_ | with_reducible refine orVI ?_ | with_reducible refine notI ?_ | with_reducible refine ifEI ?_ | with_reducible refine forI ?_ | with_reducible refine r1I ?_ | with_reducible refine ir2I ?_ | with_reducible refine iTupI ?_ | with_reducible refine truI ?_ | with_reducible refine chainI ?_ | with_reducible refine lcI ?_ | with_reducible refine slI ?_ | with_reducible refine noPI ?_ | with_reducible refine ptI ?_ | with_reducible refine unI ?_ | with_reducible refine brkI ?_ | with_reducible refine cntI ?_ | with_reducible refine retNI ?_ | with_reducible refine addII ?_ | with_reducible refine rI0 ?_ | with_reducible refine rIC ?_ ?_ | with_reducible refine mulII ?_ ?_ | with_reducible refine addTT ?_ ?_ | with_reducible refine addSS ?_ ?_ | with_reducible refine negII ?_ | with_reducible refine eqII ?_ | with_reducible refine eqSS ?_ | with_reducible refine eqBB ?_ | with_reducible refine neII ?_ | with_reducible refine neSS ?_ | with_reducible refine neBB ?_ | with_reducible refine isNN ?_ | with_reducible refine isNotNN ?_ | with_reducible refine isBB ?_ | with_reducible refine isNotBB ?_ | with_reducible refine lenTI ?_ | with_reducible refine lenFI ?_ | with_reducible refine intII ?_ | with_reducible refine intBI ?_ | with_reducible refine tupTI ?_ | with_reducible refine minII ?_ | with_reducible refine maxII ?_ | with_reducible refine slTI ?_ | with_reducible refine gcI ?_ | with_reducible refine gnI ?_ | with_reducible refine aNI ?_ | ((with_reducible refine ttI ?_ ?_); exact rfl) | ((with_reducible refine And.intro ?_ ?_); exact rfl) | ((with_reducible refine And.intro ?_ ?_); exact lenOk rfl) | dsimp only [En.s]))
      exact q _ _ m4 s5
end K7

set_option linter.all false
set_option maxRecDepth 100000
set_option maxHeartbeats 2000000
namespace K7
open PySem PySem.Spec PyProof.Rows L2 Ab
section
variable {p : Pm} {m : M} {f : Addr} {L : LSyn} {ys : List Str} {ds : List D} {t : AE} {n : Str} {Q : PQ} {R : PX}
theorem refused (pk : Ok p) (hf : m f = some (.clo L ys ds)) (hT : T_lam p L ys t) (hn : n ∈ (["BadFlips", "BadNumber", "BadRow"] : List Str)) (ht : ∀ Q' R', R' ⟨p.cA n, []⟩ (hideC m) → t (ds.map some) (hideC m) Q' R')
    (q : ∀ m', Sub m m' → Q (.str (tell n)) m') : s_f_law_refused p [.ref f] m Q R := by
  refine ent_f_law_refused ?_
  unfold b_f_law_refused
  rw [ref1]
  generalize hX : bl_f_law_refused_0 = X
  (repeat (first | with_reducible refine seqI ?_ | with_reducible refine setI ?_ | with_reducible refine asgI ?_ | with_reducible refine retI ?_ | with_reducible refine opI ?_ | with_reducible refine callI ?_ | with_reducible refine consI ?_ | with_reducible refine cI ?_ | with_reducible refine nilI ?_ | ((with_reducible apply varI); exact rfl) | with_reducible refine cbI ?_ | with_reducible refine ifI ?_ | with_reducible refine tstI ?_ | with_reducible refine notTI ?_ | with_reducible refine andTI ?_ | with_reducible refine orTI ?_ | with_reducible refine dropI ?_ | with_reducible refine nextI ?_ | with_reducible refine tupI ?_ | with_reducible refine lstI ?_ | with_reducible refine starI ?_ | with_reducible refine starTT ?_ | with_reducible refine andI ?_ | with_reducible refine orVI ?_ | with_reducible refine notI ?_ | with_reducible refine ifEI ?_ | with_reducible refine forI ?_ | with_reducible refine r1I ?_ | with_reducible refine ir2I ?_ | with_reducible refine iTupI ?_ | with_reducible refine truI ?_ | with_reducible refine chainI ?_ | with_reducible refine lcI ?_ | with_reducible refine slI ?_ | with_reducible refine noPI ?_ | with_reducible refine ptI ?_ | with_reducible refine unI ?_ | with_reducible refine brkI ?_ | with_reducible refine cntI ?_ | with_reducible refine retNI ?_ | with_reducible refine addII ?_ | with_reducible refine rI0 ?_ | with_reducible refine rIC ?_ ?_ | with_reducible refine mulII ?_ ?_ | with_reducible refine addTT ?_ ?_ | with_reducible refine addSS ?_ ?_ | with_reducible refine negII ?_ | with_reducible refine eqII ?_ | with_reducible refine eqSS ?_ | with_reducible refine eqBB ?_ | with_reducible refine neII ?_ | with_reducible refine neSS ?_ | with_reducible refine neBB ?_ | with_reducible refine isNN ?_ | with_reducible refine isNotNN ?_ | with_reducible refine isBB ?_ | with_reducible refine isNotBB ?_ | with_reducible refine lenTI ?_ | with_reducible refine lenFI ?_ | with_reducible refine intII ?_ | with_reducible refine intBI ?_ | with_reducible refine tupTI ?_ | with_reducible refine minII ?_ | with_reducible refine maxII ?_ | with_reducible refine slTI ?_ | with_reducible refine gcI ?_ | with_reducible refine gnI ?_ | with_reducible refine aNI ?_ | ((with_reducible refine ttI ?_ ?_); exact rfl) | ((with_reducible refine And.intro ?_ ?_); exact rfl) | ((with_reducible refine And.intro ?_ ?_); exact lenOk rfl) | dsimp only [En.s]))
  unfold aTryX
  refine dropI ?_
  unfold aCallV
  show (match m f with | some (.clo L ys ds) => ∃ t, T_lam p L ys t ∧ t (ds.map some) (hideC m) _ _ | _ => False)
  rw [hf]
  refine ⟨t, hT, ht _ _ ?_⟩
  rw [show_hide]
  have hn4 : n ∈ (["BadFlips", "BadNumber", "BadRow", "TooMany"] : List Str) := by
    simp only [List.mem_cons, List.not_mem_nil, or_false] at hn ⊢
    rcases hn with z | z | z
    · exact .inl z
    · exact .inr (.inl z)
    · exact .inr (.inr (.inl z))
  have hne : n ≠ "TooMany" := fun z => by
    subst z
    revert hn
    decide
  show (match p.mt (p.cA n) with | some true => _ | some false => _ | none => False)
  rw [pk.mt n hn4]
  intro a
  refine ⟨fun _ => ?_, fun z => absurd rfl z⟩
  dsimp only [En.s]
  refine suite pk rfl hn4 (fun dd z => by cases z) (.inl ⟨hne, rfl⟩) fun y3 y4 m' s => ?_
  subst hX
  unfold bl_f_law_refused_0
  dsimp only [En.x]
  (repeat (first | with_reducible refine seqI ?_ | with_reducible refine setI ?_ | with_reducible refine asgI ?_ | with_reducible refine retI ?_ | with_reducible refine opI ?_ | with_reducible refine callI ?_ | with_reducible refine consI ?_ | with_reducible refine cI ?_ | with_reducible refine nilI ?_ | ((with_reducible apply varI); exact rfl) | with_reducible refine cbI ?_ | with_reducible refine ifI ?_ | with_reducible refine tstI ?_ | with_reducible refine notTI ?_ | with_reducible refine andTI ?_ | with_reducible refine orTI ?_ | with_reducible refine dropI ?_ | with_reducible refine nextI ?_ | with_reducible refine tupI ?_ | with_reducible refine lstI ?_ | with_reducible refine starI ?_ | with_reducible refine starTT ?_ | with_reducible refine andI ?_ | with_reducible refine orVI ?_ | with_reducible refine notI ?_ | with_reducible refine ifEI ?_ | with_reducible refine forI ?_ | with_reducible refine r1I ?_ | with_reducible refine ir2I ?_ | with_reducible refine iTupI ?_ | with_reducible refine truI ?_ | with_reducible refine chainI ?_ | with_reducible refine lcI ?_ | with_reducible refine slI ?_ | with_reducible refine noPI ?_ | with_reducible refine ptI ?_ | with_reducible refine unI ?_ | with_reducible refine brkI ?_ | with_reducible refine cntI ?_ | with_reducible refine retNI ?_ | with_reducible refine addII ?_ | with_reducible refine rI0 ?_ | with_reducible refine rIC ?_ ?_ | with_reducible refine mulII ?_ ?_ | with_reducible refine addTT ?_ ?_ | with_reducible refine addSS ?_ ?_ | with_reducible refine negII ?_ | with_reducible refine eqII ?_ | with_reducible refine eqSS ?_ | with_reducible refine eqBB ?_ | with_reducible refine neII ?_ | with_reducible refine neSS ?_ | with_reducible refine neBB ?_ | with_reducible refine isNN ?_ | with_reducible refine isNotNN ?_ | with_reducible refine isBB ?_ | with_reducible refine isNotBB ?_ | with_reducible refine lenTI ?_ | with_reducible refine lenFI ?_ | with_reducible refine intII ?_ | with_reducible refine intBI ?_ | with_reducible refine tupTI ?_ | with_reducible refine minII ?_ | with_reducible refine maxII ?_ | with_reducible refine slTI ?_ | with_reducible refine gcI ?_ | with_reducible refine gnI ?_ | with_reducible refine aNI ?_ | ((with_reducible refine ttI ?_ ?_); exact rfl) | ((with_reducible refine And.intro ?_ ?_); exact rfl) | ((with_reducible refine And.intro ?_ ?_); exact lenOk rfl) | dsimp only [En.s]))
  exact ⟨m', Sub.refl _, q m' s⟩
theorem refusedM (pk : Ok p) (hfl : p.fld (p.cA "TooMany") "most" = true) (hf : m f = some (.clo L ys ds)) (hT : T_lam p L ys t) (ht : ∀ Q' R', R' ⟨p.cA "TooMany", [("most", .int 4096)]⟩ (hideC m) → t (ds.map some) (hideC m) Q' R')
    (q : ∀ m', (∀ a o, (∀ g, o ≠ .xd g) → m a = some o → m' a = some o) → Q (.tup [.str ("many" : Str), .int 4096]) m') : s_f_law_refused p [.ref f] m Q R := by
  refine ent_f_law_refused ?_
  unfold b_f_law_refused
  rw [ref1]
  generalize hX : bl_f_law_refused_0 = X
  (repeat (first | with_reducible refine seqI ?_ | with_reducible refine setI ?_ | with_reducible refine asgI ?_ | with_reducible refine retI ?_ | with_reducible refine opI ?_ | with_reducible refine callI ?_ | with_reducible refine consI ?_ | with_reducible refine cI ?_ | with_reducible refine nilI ?_ | ((with_reducible apply varI); exact rfl) | with_reducible refine cbI ?_ | with_reducible refine ifI ?_ | with_reducible refine tstI ?_ | with_reducible refine notTI ?_ | with_reducible refine andTI ?_ | with_reducible refine orTI ?_ | with_reducible refine dropI ?_ | with_reducible refine nextI ?_ | with_reducible refine tupI ?_ | with_reducible refine lstI ?_ | with_reducible refine starI ?_ | with_reducible refine starTT ?_ | with_reducible refine andI ?_ | with_reducible refine orVI ?_ | with_reducible refine notI ?_ | with_reducible refine ifEI ?_ | with_reducible refine forI ?_ | with_reducible refine r1I ?_ | with_reducible refine ir2I ?_ | with_reducible refine iTupI ?_ | with_reducible refine truI ?_ | with_reducible refine chainI ?_ | with_reducible refine lcI ?_ | with_reducible refine slI ?_ | with_reducible refine noPI ?_ | with_reducible refine ptI ?_ | with_reducible refine unI ?_ | with_reducible refine brkI ?_ | with_reducible refine cntI ?_ | with_reducible refine retNI ?_ | with_reducible refine addII ?_ | with_reducible refine rI0 ?_ | with_reducible refine rIC ?_ ?_ | with_reducible refine mulII ?_ ?_ | with_reducible refine addTT ?_ ?_ | with_reducible refine addSS ?_ ?_ | with_reducible refine negII ?_ | with_reducible refine eqII ?_ | with_reducible refine eqSS ?_ | with_reducible refine eqBB ?_ | with_reducible refine neII ?_ | with_reducible refine neSS ?_ | with_reducible refine neBB ?_ | with_reducible refine isNN ?_ | with_reducible refine isNotNN ?_ | with_reducible refine isBB ?_ | with_reducible refine isNotBB ?_ | with_reducible refine lenTI ?_ | with_reducible refine lenFI ?_ | with_reducible refine intII ?_ | with_reducible refine intBI ?_ | with_reducible refine tupTI ?_ | with_reducible refine minII ?_ | with_reducible refine maxII ?_ | with_reducible refine slTI ?_ | with_reducible refine gcI ?_ | with_reducible refine gnI ?_ | with_reducible refine aNI ?_ | ((with_reducible refine ttI ?_ ?_); exact rfl) | ((with_reducible refine And.intro ?_ ?_); exact rfl) | ((with_reducible refine And.intro ?_ ?_); exact lenOk rfl) | dsimp only [En.s]))
  unfold aTryX
  refine dropI ?_
  unfold aCallV
  show (match m f with | some (.clo L ys ds) => ∃ t, T_lam p L ys t ∧ t (ds.map some) (hideC m) _ _ | _ => False)
  rw [hf]
  refine ⟨t, hT, ht _ _ ?_⟩
  rw [show_hide]
  show (match p.mt (p.cA "TooMany") with | some true => _ | some false => _ | none => False)
  rw [pk.mt "TooMany" (by simp)]
  intro a
  refine ⟨fun z => by simp at z, fun _ dd hdd => ?_⟩
  dsimp only [En.s]
  refine suite (n := "TooMany") pk rfl (by simp) (fun d' z => by cases z; exact ⟨_, mset_same⟩) (.inr ⟨rfl, dd, rfl, mset_same, hfl, rfl⟩) fun y3 y4 m' s => ?_
  subst hX
  unfold bl_f_law_refused_0
  dsimp only [En.x]
  (repeat (first | with_reducible refine seqI ?_ | with_reducible refine setI ?_ | with_reducible refine asgI ?_ | with_reducible refine retI ?_ | with_reducible refine opI ?_ | with_reducible refine callI ?_ | with_reducible refine consI ?_ | with_reducible refine cI ?_ | with_reducible refine nilI ?_ | ((with_reducible apply varI); exact rfl) | with_reducible refine cbI ?_ | with_reducible refine ifI ?_ | with_reducible refine tstI ?_ | with_reducible refine notTI ?_ | with_reducible refine andTI ?_ | with_reducible refine orTI ?_ | with_reducible refine dropI ?_ | with_reducible refine nextI ?_ | with_reducible refine tupI ?_ | with_reducible refine lstI ?_ | with_reducible refine starI ?_ | with_reducible refine starTT ?_ | with_reducible refine andI ?_ | with_reducible refine orVI ?_ | with_reducible refine notI ?_ | with_reducible refine ifEI ?_ | with_reducible refine forI ?_ | with_reducible refine r1I ?_ | with_reducible refine ir2I ?_ | with_reducible refine iTupI ?_ | with_reducible refine truI ?_ | with_reducible refine chainI ?_ | with_reducible refine lcI ?_ | with_reducible refine slI ?_ | with_reducible refine noPI ?_ | with_reducible refine ptI ?_ | with_reducible refine unI ?_ | with_reducible refine brkI ?_ | with_reducible refine cntI ?_ | with_reducible refine retNI ?_ | with_reducible refine addII ?_ | with_reducible refine rI0 ?_ | with_reducible refine rIC ?_ ?_ | with_reducible refine mulII ?_ ?_ | with_reducible refine addTT ?_ ?_ | with_reducible refine addSS ?_ ?_ | with_reducible refine negII ?_ | with_reducible refine eqII ?_ | with_reducible refine eqSS ?_ | with_reducible refine eqBB ?_ | with_reducible refine neII ?_ | with_reducible refine neSS ?_ | with_reducible refine neBB ?_ | with_reducible refine isNN ?_ | with_reducible refine isNotNN ?_ | with_reducible refine isBB ?_ | with_reducible refine isNotBB ?_ | with_reducible refine lenTI ?_ | with_reducible refine lenFI ?_ | with_reducible refine intII ?_ | with_reducible refine intBI ?_ | with_reducible refine tupTI ?_ | with_reducible refine minII ?_ | with_reducible refine maxII ?_ | with_reducible refine slTI ?_ | with_reducible refine gcI ?_ | with_reducible refine gnI ?_ | with_reducible refine aNI ?_ | ((with_reducible refine ttI ?_ ?_); exact rfl) | ((with_reducible refine And.intro ?_ ?_); exact rfl) | ((with_reducible refine And.intro ?_ ?_); exact lenOk rfl) | dsimp only [En.s]))
  refine ⟨m', Sub.refl _, q m' fun b o ho hb => s b o ?_⟩
  rw [mset_ne fun z => by
    subst z
    obtain ⟨g, e⟩ := hdd o hb
    exact ho g e]
  exact hb
theorem worked (pk : Ok p) (hf : m f = some (.clo L ys ds)) (hT : T_lam p L ys t) (ht : ∀ Q' R', (∀ d m', Sub (hideC m) m' → Q' d m') → t (ds.map some) (hideC m) Q' R')
    (q : ∀ m', Sub m m' → Q .non m') : s_f_law_refused p [.ref f] m Q R := by
  refine ent_f_law_refused ?_
  unfold b_f_law_refused
  rw [ref1]
  generalize hX : bl_f_law_refused_0 = X
  (repeat (first | with_reducible refine seqI ?_ | with_reducible refine setI ?_ | with_reducible refine asgI ?_ | with_reducible refine retI ?_ | with_reducible refine opI ?_ | with_reducible refine callI ?_ | with_reducible refine consI ?_ | with_reducible refine cI ?_ | with_reducible refine nilI ?_ | ((with_reducible apply varI); exact rfl) | with_reducible refine cbI ?_ | with_reducible refine ifI ?_ | with_reducible refine tstI ?_ | with_reducible refine notTI ?_ | with_reducible refine andTI ?_ | with_reducible refine orTI ?_ | with_reducible refine dropI ?_ | with_reducible refine nextI ?_ | with_reducible refine tupI ?_ | with_reducible refine lstI ?_ | with_reducible refine starI ?_ | with_reducible refine starTT ?_ | with_reducible refine andI ?_ | with_reducible refine orVI ?_ | with_reducible refine notI ?_ | with_reducible refine ifEI ?_ | with_reducible refine forI ?_ | with_reducible refine r1I ?_ | with_reducible refine ir2I ?_ | with_reducible refine iTupI ?_ | with_reducible refine truI ?_ | with_reducible refine chainI ?_ | with_reducible refine lcI ?_ | with_reducible refine slI ?_ | with_reducible refine noPI ?_ | with_reducible refine ptI ?_ | with_reducible refine unI ?_ | with_reducible refine brkI ?_ | with_reducible refine cntI ?_ | with_reducible refine retNI ?_ | with_reducible refine addII ?_ | with_reducible refine rI0 ?_ | with_reducible refine rIC ?_ ?_ | with_reducible refine mulII ?_ ?_ | with_reducible refine addTT ?_ ?_ | with_reducible refine addSS ?_ ?_ | with_reducible refine negII ?_ | with_reducible refine eqII ?_ | with_reducible refine eqSS ?_ | with_reducible refine eqBB ?_ | with_reducible refine neII ?_ | with_reducible refine neSS ?_ | with_reducible refine neBB ?_ | with_reducible refine isNN ?_ | with_reducible refine isNotNN ?_ | with_reducible refine isBB ?_ | with_reducible refine isNotBB ?_ | with_reducible refine lenTI ?_ | with_reducible refine lenFI ?_ | with_reducible refine intII ?_ | with_reducible refine intBI ?_ | with_reducible refine tupTI ?_ | with_reducible refine minII ?_ | with_reducible refine maxII ?_ | with_reducible refine slTI ?_ | with_reducible refine gcI ?_ | with_reducible refine gnI ?_ | with_reducible refine aNI ?_ | ((with_reducible refine ttI ?_ ?_); exact rfl) | ((with_reducible refine And.intro ?_ ?_); exact rfl) | ((with_reducible refine And.intro ?_ ?_); exact lenOk rfl) | dsimp only [En.s]))
  unfold aTryX
  refine dropI ?_
  unfold aCallV
  show (match m f with | some (.clo L ys ds) => ∃ t, T_lam p L ys t ∧ t (ds.map some) (hideC m) _ _ | _ => False)
  rw [hf]
  refine ⟨t, hT, ht _ _ fun d m1 s1 => ?_⟩
  have s2 : Sub m (showC m m1) := fun a o h => by
    unfold showC
    rw [h]
    cases o with
    | clo L ys ds => rfl
    | _ => exact s1 a _ (by unfold hideC; rw [h])
  subst hX
  unfold bl_f_law_refused_0
  dsimp only
  (repeat (first | with_reducible refine seqI ?_ | with_reducible refine setI ?_ | with_reducible refine asgI ?_ | with_reducible refine retI ?_ | with_reducible refine opI ?_ | with_reducible refine callI ?_ | with_reducible refine consI ?_ | with_reducible refine cI ?_ | with_reducible refine nilI ?_ | ((with_reducible apply varI); exact rfl) | with_reducible refine cbI ?_ | with_reducible refine ifI ?_ | with_reducible refine tstI ?_ | with_reducible refine notTI ?_ | with_reducible refine andTI ?_ | with_reducible refine orTI ?_ | with_reducible refine dropI ?_ | with_reducible refine nextI ?_ | with_reducible refine tupI ?_ | with_reducible refine lstI ?_ | with_reducible refine starI ?_ | with_reducible refine starTT ?_ | with_reducible refine andI ?_ | with_reducible refine orVI ?_ | with_reducible refine notI ?_ | with_reducible refine ifEI ?_ | with_reducible refine forI ?_ | with_reducible refine r1I ?_ | with_reducible refine ir2I ?_ | with_reducible refine iTupI ?_ | with_reducible refine truI ?_ | with_reducible refine chainI ?_ | with_reducible refine lcI ?_ | with_reducible refine slI ?_ | with_reducible refine noPI ?_ | with_reducible refine ptI ?_ | with_reducible refine unI ?_ | with_reducible refine brkI ?_ | with_reducible refine cntI ?_ | with_reducible refine retNI ?_ | with_reducible refine addII ?_ | with_reducible refine rI0 ?_ | with_reducible refine rIC ?_ ?_ | with_reducible refine mulII ?_ ?_ | with_reducible refine addTT ?_ ?_ | with_reducible refine addSS ?_ ?_ | with_reducible refine negII ?_ | with_reducible refine eqII ?_ | with_reducible refine eqSS ?_ | with_reducible refine eqBB ?_ | with_reducible refine neII ?_ | with_reducible refine neSS ?_ | with_reducible refine neBB ?_ | with_reducible refine isNN ?_ | with_reducible refine isNotNN ?_ | with_reducible refine isBB ?_ | with_reducible refine isNotBB ?_ | with_reducible refine lenTI ?_ | with_reducible refine lenFI ?_ | with_reducible refine intII ?_ | with_reducible refine intBI ?_ | with_reducible refine tupTI ?_ | with_reducible refine minII ?_ | with_reducible refine maxII ?_ | with_reducible refine slTI ?_ | with_reducible refine gcI ?_ | with_reducible refine gnI ?_ | with_reducible refine aNI ?_ | ((with_reducible refine ttI ?_ ?_); exact rfl) | ((with_reducible refine And.intro ?_ ?_); exact rfl) | ((with_reducible refine And.intro ?_ ?_); exact lenOk rfl) | dsimp only [En.s]))
  exact ⟨_, Sub.refl _, q _ s2⟩
end
end K7

set_option linter.all false
set_option maxRecDepth 100000
set_option maxHeartbeats 2000000
namespace K7
open PySem PySem.Spec PyProof.Rows L2 Ab
theorem isiV {n : Nat} {d : D} {t c : Ty} {e : En} {m : M} {Q : PQ} {R : PX} (g : e.g n = some d) (ht : tyD m d = some t) (q : Q (.bl (t.sub c)) m) : aIsi c (aVar n) e m Q R := by
  unfold aIsi
  refine varI g ?_
  simp only [ht]
  exact q
/-- what is known of a thing stays known -/
theorem ty_same {m m' : M} {a : Addr} (e : m' a = m a) : tyD m' (.ref a) = tyD m (.ref a) := by
  show (if (m'.l a).isSome then some Ty.list else (match m' a with | some (.dic _) => some .dict | _ => none)) = (if (m.l a).isSome then some Ty.list else (match m a with | some (.dic _) => some .dict | _ => none))
  rw [show m'.l a = m.l a from by unfold M.l; rw [e], e]
theorem ty_obj {m : M} {a : Addr} {t : Ty} (h : tyD m (.ref a) = some t) : (∃ ds, m a = some (.lst ds)) ∨ ∃ ps, m a = some (.dic ps) := by
  have h' : (if (m.l a).isSome then some Ty.list else (match m a with | some (.dic _) => some .dict | _ => none)) = some t := h
  cases q : m.l a with
  | some ds => exact .inl ⟨ds, M.l_of q⟩
  | none =>
    rw [q] at h'
    replace h' : (match m a with | some (.dic _) => some Ty.dict | _ => none) = some t := by simpa using h'
    cases q2 : m a with
    | none => rw [q2] at h'; cases h'
    | some ob =>
      rw [q2] at h'
      cases ob with
      | dic ps => exact .inr ⟨ps, rfl⟩
      | _ => cases h'
theorem ty_keep {m m' : M} {d : D} {t : Ty} (k : ∀ a o, d = .ref a → m a = some o → m' a = some o) (h : tyD m d = some t) : tyD m' d = some t := by
  cases d with
  | ref a =>
    rw [ty_same (m := m) ?_]
    · exact h
    · rcases ty_obj h with ⟨ds, e⟩ | ⟨ps, e⟩ <;> rw [e, k a _ rfl e]
  | _ => exact h
theorem ty_hide {m : M} {d : D} {t : Ty} (h : tyD m d = some t) : tyD (hideC m) d = some t := by
  cases d with
  | ref a =>
    rw [ty_same (m := m) ?_]
    · exact h
    · unfold hideC
      rcases ty_obj h with ⟨ds, e⟩ | ⟨ps, e⟩ <;> simp only [e]
  | _ => exact h
theorem heap_of {m : M} {a : Addr} {t : Ty} (h : tyD m (.ref a) = some t) : heapD m (.ref a) = true := by
  show ((m.l a).isSome || (match m a with | some (.dic _) => true | _ => false)) = true
  rcases ty_obj h with ⟨ds, e⟩ | ⟨ps, e⟩
  · rw [l_of e]; rfl
  · rw [e]; simp
/-! ### no whole number within -/
def NInt (m : M) (d : D) (lo hi : Int) : Prop := (∃ t, tyD m d = some t ∧ t.sub .int = false) ∨ (∃ b, d = .bl b) ∨ ∃ i, d = .int i ∧ (i < lo ∨ hi < i)
theorem intR {m : M} {d : D} {lo hi : Int} {Q : PQ} {R : PX} (h : NInt m d lo hi) (q : Q (.bl false) m) : s_is_integer [d, .int lo, .int hi] m Q R := by
  refine ent_is_integer ?_
  unfold b_is_integer
  refine retI (andI ?_)
  rcases h with ⟨t, ht, hs⟩ | ⟨b, rfl⟩ | ⟨i, rfl, hi⟩
  · refine isiV rfl ht ?_
    rw [hs]
    exact ⟨m, Sub.refl _, q⟩
  · refine isiV rfl (t := .bool) rfl ?_
    refine bl_t rfl (andI (notI (isiV rfl (t := .bool) rfl ?_)))
    exact ⟨m, Sub.refl _, q⟩
  · refine isiV rfl (t := .int) rfl ?_
    refine bl_t rfl (andI (notI (isiV rfl (t := .int) rfl ?_)))
    refine bl_t rfl (chainI ?_)
    (repeat (first | with_reducible refine seqI ?_ | with_reducible refine setI ?_ | with_reducible refine asgI ?_ | with_reducible refine retI ?_ | with_reducible refine opI ?_ | with_reducible refine callI ?_ | with_reducible refine consI ?_ | with_reducible refine cI ?_ | with_reducible refine nilI ?_ | ((with_reducible apply varI); exact rfl) | with_reducible refine cbI ?_ | with_reducible refine ifI ?_ | with_reducible refine tstI ?_ | with_reducible refine notTI ?_ | with_reducible refine andTI ?_ | with_reducible refine orTI ?_ | with_reducible refine dropI ?_ | with_reducible refine nextI ?_ | with_reducible refine tupI ?_ | with_reducible refine lstI ?_ | with_reducible refine starI ?_ | with_reducible refine starTT ?_ | with_reducible refine andI ?_ | with_reducible refine orVI ?_ | with_reducible refine notI ?_ | with_reducible refine ifEI ?_ | with_reducible refine forI ?_ | with_reducible refine r1I ?_ | with_reducible refine ir2I ?_ | with_reducible refine iTupI ?_ | with_reducible refine truI ?_ | with_reducible refine chainI ?_ | with_reducible refine lcI ?_ | with_reducible refine slI ?_ | with_reducible refine noPI ?_ | with_reducible refine ptI ?_ | with_reducible refine unI ?_ | with_reducible refine brkI ?_ | with_reducible refine cntI ?_ | with_reducible refine retNI ?_ | with_reducible refine addII ?_ | with_reducible refine rI0 ?_ | with_reducible refine rIC ?_ ?_ | with_reducible refine mulII ?_ ?_ | with_reducible refine addTT ?_ ?_ | with_reducible refine addSS ?_ ?_ | with_reducible refine negII ?_ | with_reducible refine eqII ?_ | with_reducible refine eqSS ?_ | with_reducible refine eqBB ?_ | with_reducible refine neII ?_ | with_reducible refine neSS ?_ | with_reducible refine neBB ?_ | with_reducible refine isNN ?_ | with_reducible refine isNotNN ?_ | with_reducible refine isBB ?_ | with_reducible refine isNotBB ?_ | with_reducible refine lenTI ?_ | with_reducible refine lenFI ?_ | with_reducible refine intII ?_ | with_reducible refine intBI ?_ | with_reducible refine tupTI ?_ | with_reducible refine minII ?_ | with_reducible refine maxII ?_ | with_reducible refine slTI ?_ | with_reducible refine gcI ?_ | with_reducible refine gnI ?_ | with_reducible refine aNI ?_ | ((with_reducible refine ttI ?_ ?_); exact rfl) | ((with_reducible refine And.intro ?_ ?_); exact rfl) | ((with_reducible refine And.intro ?_ ?_); exact lenOk rfl) | dsimp only [En.s]))
    refine imp_pos (fun c => ?_) (fun c => ⟨m, Sub.refl _, q⟩)
    (repeat (first | with_reducible refine seqI ?_ | with_reducible refine setI ?_ | with_reducible refine asgI ?_ | with_reducible refine retI ?_ | with_reducible refine opI ?_ | with_reducible refine callI ?_ | with_reducible refine consI ?_ | with_reducible refine cI ?_ | with_reducible refine nilI ?_ | ((with_reducible apply varI); exact rfl) | with_reducible refine cbI ?_ | with_reducible refine ifI ?_ | with_reducible refine tstI ?_ | with_reducible refine notTI ?_ | with_reducible refine andTI ?_ | with_reducible refine orTI ?_ | with_reducible refine dropI ?_ | with_reducible refine nextI ?_ | with_reducible refine tupI ?_ | with_reducible refine lstI ?_ | with_reducible refine starI ?_ | with_reducible refine starTT ?_ | with_reducible refine andI ?_ | with_reducible refine orVI ?_ | with_reducible refine notI ?_ | with_reducible refine ifEI ?_ | with_reducible refine forI ?_ | with_reducible refine r1I ?_ | with_reducible refine ir2I ?_ | with_reducible refine iTupI ?_ | with_reducible refine truI ?_ | with_reducible refine chainI ?_ | with_reducible refine lcI ?_ | with_reducible refine slI ?_ | with_reducible refine noPI ?_ | with_reducible refine ptI ?_ | with_reducible refine unI ?_ | with_reducible refine brkI ?_ | with_reducible refine cntI ?_ | with_reducible refine retNI ?_ | with_reducible refine addII ?_ | with_reducible refine rI0 ?_ | with_reducible refine rIC ?_ ?_ | with_reducible refine mulII ?_ ?_ | with_reducible refine addTT ?_ ?_ | with_reducible refine addSS ?_ ?_ | with_reducible refine negII ?_ | with_reducible refine eqII ?_ | with_reducible refine eqSS ?_ | with_reducible refine eqBB ?_ | with_reducible refine neII ?_ | with_reducible refine neSS ?_ | with_reducible refine neBB ?_ | with_reducible refine isNN ?_ | with_reducible refine isNotNN ?_ | with_reducible refine isBB ?_ | with_reducible refine isNotBB ?_ | with_reducible refine lenTI ?_ | with_reducible refine lenFI ?_ | with_reducible refine intII ?_ | with_reducible refine intBI ?_ | with_reducible refine tupTI ?_ | with_reducible refine minII ?_ | with_reducible refine maxII ?_ | with_reducible refine slTI ?_ | with_reducible refine gcI ?_ | with_reducible refine gnI ?_ | with_reducible refine aNI ?_ | ((with_reducible refine ttI ?_ ?_); exact rfl) | ((with_reducible refine And.intro ?_ ?_); exact rfl) | ((with_reducible refine And.intro ?_ ?_); exact lenOk rfl) | dsimp only [En.s]))
    have c' := of_decide_eq_true c
    rw [decide_eq_false (by omega)]
    exact ⟨m, Sub.refl _, q⟩
/-! ### no row of bytes -/
theorem tupR_ty {m : M} {d : D} {t : Ty} {lo hi : Int} {Q : PQ} {R : PX} (ht : tyD m d = some t) (hs : t.sub .tuple = false) (q : Q (.bl false) m) : s_is_tuple_of [d, .int lo, .int hi] m Q R := by
  refine ent_is_tuple_of ?_
  unfold b_is_tuple_of
  refine retI (andI (isiV rfl ht ?_))
  rw [hs]
  exact ⟨m, Sub.refl _, q⟩
theorem tupR_len {m : M} {ds : List D} {lo hi : Int} {Q : PQ} {R : PX} (h : (ds.length : Int) < lo ∨ hi < (ds.length : Int)) (q : Q (.bl false) m) : s_is_tuple_of [.tup ds, .int lo, .int hi] m Q R := by
  refine ent_is_tuple_of ?_
  unfold b_is_tuple_of
  refine retI (andI (isiV rfl (t := .tuple) rfl ?_))
  refine bl_t rfl (chainI ?_)
  (repeat (first | with_reducible refine seqI ?_ | with_reducible refine setI ?_ | with_reducible refine asgI ?_ | with_reducible refine retI ?_ | with_reducible refine opI ?_ | with_reducible refine callI ?_ | with_reducible refine consI ?_ | with_reducible refine cI ?_ | with_reducible refine nilI ?_ | ((with_reducible apply varI); exact rfl) | with_reducible refine cbI ?_ | with_reducible refine ifI ?_ | with_reducible refine tstI ?_ | with_reducible refine notTI ?_ | with_reducible refine andTI ?_ | with_reducible refine orTI ?_ | with_reducible refine dropI ?_ | with_reducible refine nextI ?_ | with_reducible refine tupI ?_ | with_reducible refine lstI ?_ | with_reducible refine starI ?_ | with_reducible refine starTT ?_ | with_reducible refine andI ?_ | with_reducible refine orVI ?_ | with_reducible refine notI ?_ | with_reducible refine ifEI ?_ | with_reducible refine forI ?_ | with_reducible refine r1I ?_ | with_reducible refine ir2I ?_ | with_reducible refine iTupI ?_ | with_reducible refine truI ?_ | with_reducible refine chainI ?_ | with_reducible refine lcI ?_ | with_reducible refine slI ?_ | with_reducible refine noPI ?_ | with_reducible refine ptI ?_ | with_reducible refine unI ?_ | with_reducible refine brkI ?_ | with_reducible refine cntI ?_ | with_reducible refine retNI ?_ | with_reducible refine addII ?_ | with_reducible refine rI0 ?_ | with_reducible refine rIC ?_ ?_ | with_reducible refine mulII ?_ ?_ | with_reducible refine addTT ?_ ?_ | with_reducible refine addSS ?_ ?_ | with_reducible refine negII ?_ | with_reducible refine eqII ?_ | with_reducible refine eqSS ?_ | with_reducible refine eqBB ?_ | with_reducible refine neII ?_ | with_reducible refine neSS ?_ | with_reducible refine neBB ?_ | with_reducible refine isNN ?_ | with_reducible refine isNotNN ?_ | with_reducible refine isBB ?_ | with_reducible refine isNotBB ?_ | with_reducible refine lenTI ?_ | with_reducible refine lenFI ?_ | with_reducible refine intII ?_ | with_reducible refine intBI ?_ | with_reducible refine tupTI ?_ | with_reducible refine minII ?_ | with_reducible refine maxII ?_ | with_reducible refine slTI ?_ | with_reducible refine gcI ?_ | with_reducible refine gnI ?_ | with_reducible refine aNI ?_ | ((with_reducible refine ttI ?_ ?_); exact rfl) | ((with_reducible refine And.intro ?_ ?_); exact rfl) | ((with_reducible refine And.intro ?_ ?_); exact lenOk rfl) | dsimp only [En.s]))
  refine imp_pos (fun c => ?_) (fun c => ⟨m, Sub.refl _, q⟩)
  (repeat (first | with_reducible refine seqI ?_ | with_reducible refine setI ?_ | with_reducible refine asgI ?_ | with_reducible refine retI ?_ | with_reducible refine opI ?_ | with_reducible refine callI ?_ | with_reducible refine consI ?_ | with_reducible refine cI ?_ | with_reducible refine nilI ?_ | ((with_reducible apply varI); exact rfl) | with_reducible refine cbI ?_ | with_reducible refine ifI ?_ | with_reducible refine tstI ?_ | with_reducible refine notTI ?_ | with_reducible refine andTI ?_ | with_reducible refine orTI ?_ | with_reducible refine dropI ?_ | with_reducible refine nextI ?_ | with_reducible refine tupI ?_ | with_reducible refine lstI ?_ | with_reducible refine starI ?_ | with_reducible refine starTT ?_ | with_reducible refine andI ?_ | with_reducible refine orVI ?_ | with_reducible refine notI ?_ | with_reducible refine ifEI ?_ | with_reducible refine forI ?_ | with_reducible refine r1I ?_ | with_reducible refine ir2I ?_ | with_reducible refine iTupI ?_ | with_reducible refine truI ?_ | with_reducible refine chainI ?_ | with_reducible refine lcI ?_ | with_reducible refine slI ?_ | with_reducible refine noPI ?_ | with_reducible refine ptI ?_ | with_reducible refine unI ?_ | with_reducible refine brkI ?_ | with_reducible refine cntI ?_ | with_reducible refine retNI ?_ | with_reducible refine addII ?_ | with_reducible refine rI0 ?_ | with_reducible refine rIC ?_ ?_ | with_reducible refine mulII ?_ ?_ | with_reducible refine addTT ?_ ?_ | with_reducible refine addSS ?_ ?_ | with_reducible refine negII ?_ | with_reducible refine eqII ?_ | with_reducible refine eqSS ?_ | with_reducible refine eqBB ?_ | with_reducible refine neII ?_ | with_reducible refine neSS ?_ | with_reducible refine neBB ?_ | with_reducible refine isNN ?_ | with_reducible refine isNotNN ?_ | with_reducible refine isBB ?_ | with_reducible refine isNotBB ?_ | with_reducible refine lenTI ?_ | with_reducible refine lenFI ?_ | with_reducible refine intII ?_ | with_reducible refine intBI ?_ | with_reducible refine tupTI ?_ | with_reducible refine minII ?_ | with_reducible refine maxII ?_ | with_reducible refine slTI ?_ | with_reducible refine gcI ?_ | with_reducible refine gnI ?_ | with_reducible refine aNI ?_ | ((with_reducible refine ttI ?_ ?_); exact rfl) | ((with_reducible refine And.intro ?_ ?_); exact rfl) | ((with_reducible refine And.intro ?_ ?_); exact lenOk rfl) | dsimp only [En.s]))
  have c' := of_decide_eq_true c
  rw [decide_eq_false (by omega)]
  exact ⟨m, Sub.refl _, q⟩
def NByte (d : D) : Prop := (∃ b, d = .bl b) ∨ (∃ i, d = .int i ∧ (i < 0 ∨ 255 < i)) ∨ ∃ t, (∀ m, tyD m d = some t) ∧ t.sub .int = false
theorem byteR {A : AEnds} {x0 x1 x2 : Option D} {m : M} {d : D} (h : NByte d) (q : A.rt (.bl false) m) : bl_are_bytes_0 A [x0, x1, x2, some d] m := by
  unfold bl_are_bytes_0
  refine ifI (orTI (notTI (tstI ?_)))
  rcases h with ⟨b, rfl⟩ | ⟨i, rfl, hi⟩ | ⟨t, ht, hs⟩
  · refine isiV rfl (t := .bool) rfl ?_
    refine bl_f rfl (orTI (tstI (isiV rfl (t := .bool) rfl ?_)))
    refine bl_t rfl (bl_t rfl ?_)
    (repeat (first | with_reducible refine seqI ?_ | with_reducible refine setI ?_ | with_reducible refine asgI ?_ | with_reducible refine retI ?_ | with_reducible refine opI ?_ | with_reducible refine callI ?_ | with_reducible refine consI ?_ | with_reducible refine cI ?_ | with_reducible refine nilI ?_ | ((with_reducible apply varI); exact rfl) | with_reducible refine cbI ?_ | with_reducible refine ifI ?_ | with_reducible refine tstI ?_ | with_reducible refine notTI ?_ | with_reducible refine andTI ?_ | with_reducible refine orTI ?_ | with_reducible refine dropI ?_ | with_reducible refine nextI ?_ | with_reducible refine tupI ?_ | with_reducible refine lstI ?_ | with_reducible refine starI ?_ | with_reducible refine starTT ?_ | with_reducible refine andI ?_ | with_reducible refine orVI ?_ | with_reducible refine notI ?_ | with_reducible refine ifEI ?_ | with_reducible refine forI ?_ | with_reducible refine r1I ?_ | with_reducible refine ir2I ?_ | with_reducible refine iTupI ?_ | with_reducible refine truI ?_ | with_reducible refine chainI ?_ | with_reducible refine lcI ?_ | with_reducible refine slI ?_ | with_reducible refine noPI ?_ | with_reducible refine ptI ?_ | with_reducible refine unI ?_ | with_reducible refine brkI ?_ | with_reducible refine cntI ?_ | with_reducible refine retNI ?_ | with_reducible refine addII ?_ | with_reducible refine rI0 ?_ | with_reducible refine rIC ?_ ?_ | with_reducible refine mulII ?_ ?_ | with_reducible refine addTT ?_ ?_ | with_reducible refine addSS ?_ ?_ | with_reducible refine negII ?_ | with_reducible refine eqII ?_ | with_reducible refine eqSS ?_ | with_reducible refine eqBB ?_ | with_reducible refine neII ?_ | with_reducible refine neSS ?_ | with_reducible refine neBB ?_ | with_reducible refine isNN ?_ | with_reducible refine isNotNN ?_ | with_reducible refine isBB ?_ | with_reducible refine isNotBB ?_ | with_reducible refine lenTI ?_ | with_reducible refine lenFI ?_ | with_reducible refine intII ?_ | with_reducible refine intBI ?_ | with_reducible refine tupTI ?_ | with_reducible refine minII ?_ | with_reducible refine maxII ?_ | with_reducible refine slTI ?_ | with_reducible refine gcI ?_ | with_reducible refine gnI ?_ | with_reducible refine aNI ?_ | ((with_reducible refine ttI ?_ ?_); exact rfl) | ((with_reducible refine And.intro ?_ ?_); exact rfl) | ((with_reducible refine And.intro ?_ ?_); exact lenOk rfl) | dsimp only [En.s]))
    exact q
  · refine isiV rfl (t := .int) rfl ?_
    refine bl_f rfl (orTI (tstI (isiV rfl (t := .int) rfl ?_)))
    refine bl_f rfl ?_
    (repeat (first | with_reducible refine seqI ?_ | with_reducible refine setI ?_ | with_reducible refine asgI ?_ | with_reducible refine retI ?_ | with_reducible refine opI ?_ | with_reducible refine callI ?_ | with_reducible refine consI ?_ | with_reducible refine cI ?_ | with_reducible refine nilI ?_ | ((with_reducible apply varI); exact rfl) | with_reducible refine cbI ?_ | with_reducible refine ifI ?_ | with_reducible refine tstI ?_ | with_reducible refine notTI ?_ | with_reducible refine andTI ?_ | with_reducible refine orTI ?_ | with_reducible refine dropI ?_ | with_reducible refine nextI ?_ | with_reducible refine tupI ?_ | with_reducible refine lstI ?_ | with_reducible refine starI ?_ | with_reducible refine starTT ?_ | with_reducible refine andI ?_ | with_reducible refine orVI ?_ | with_reducible refine notI ?_ | with_reducible refine ifEI ?_ | with_reducible refine forI ?_ | with_reducible refine r1I ?_ | with_reducible refine ir2I ?_ | with_reducible refine iTupI ?_ | with_reducible refine truI ?_ | with_reducible refine chainI ?_ | with_reducible refine lcI ?_ | with_reducible refine slI ?_ | with_reducible refine noPI ?_ | with_reducible refine ptI ?_ | with_reducible refine unI ?_ | with_reducible refine brkI ?_ | with_reducible refine cntI ?_ | with_reducible refine retNI ?_ | with_reducible refine addII ?_ | with_reducible refine rI0 ?_ | with_reducible refine rIC ?_ ?_ | with_reducible refine mulII ?_ ?_ | with_reducible refine addTT ?_ ?_ | with_reducible refine addSS ?_ ?_ | with_reducible refine negII ?_ | with_reducible refine eqII ?_ | with_reducible refine eqSS ?_ | with_reducible refine eqBB ?_ | with_reducible refine neII ?_ | with_reducible refine neSS ?_ | with_reducible refine neBB ?_ | with_reducible refine isNN ?_ | with_reducible refine isNotNN ?_ | with_reducible refine isBB ?_ | with_reducible refine isNotBB ?_ | with_reducible refine lenTI ?_ | with_reducible refine lenFI ?_ | with_reducible refine intII ?_ | with_reducible refine intBI ?_ | with_reducible refine tupTI ?_ | with_reducible refine minII ?_ | with_reducible refine maxII ?_ | with_reducible refine slTI ?_ | with_reducible refine gcI ?_ | with_reducible refine gnI ?_ | with_reducible refine aNI ?_ | ((with_reducible refine ttI ?_ ?_); exact rfl) | ((with_reducible refine And.intro ?_ ?_); exact rfl) | ((with_reducible refine And.intro ?_ ?_); exact lenOk rfl) | dsimp only [En.s]))
    refine imp_pos (fun c => ?_) (fun c => ?_)
    · refine bl_t rfl ?_
      (repeat (first | with_reducible refine seqI ?_ | with_reducible refine setI ?_ | with_reducible refine asgI ?_ | with_reducible refine retI ?_ | with_reducible refine opI ?_ | with_reducible refine callI ?_ | with_reducible refine consI ?_ | with_reducible refine cI ?_ | with_reducible refine nilI ?_ | ((with_reducible apply varI); exact rfl) | with_reducible refine cbI ?_ | with_reducible refine ifI ?_ | with_reducible refine tstI ?_ | with_reducible refine notTI ?_ | with_reducible refine andTI ?_ | with_reducible refine orTI ?_ | with_reducible refine dropI ?_ | with_reducible refine nextI ?_ | with_reducible refine tupI ?_ | with_reducible refine lstI ?_ | with_reducible refine starI ?_ | with_reducible refine starTT ?_ | with_reducible refine andI ?_ | with_reducible refine orVI ?_ | with_reducible refine notI ?_ | with_reducible refine ifEI ?_ | with_reducible refine forI ?_ | with_reducible refine r1I ?_ | with_reducible refine ir2I ?_ | with_reducible refine iTupI ?_ | with_reducible refine truI ?_ | with_reducible refine chainI ?_ | with_reducible refine lcI ?_ | with_reducible refine slI ?_ | with_reducible refine noPI ?_ | with_reducible refine ptI ?_ | with_reducible refine unI ?_ | with_reducible refine brkI ?_ | with_reducible refine cntI ?_ | with_reducible refine retNI ?_ | with_reducible refine addII ?_ | with_reducible refine rI0 ?_ | with_reducible refine rIC ?_ ?_ | with_reducible refine mulII ?_ ?_ | with_reducible refine addTT ?_ ?_ | with_reducible refine addSS ?_ ?_ | with_reducible refine negII ?_ | with_reducible refine eqII ?_ | with_reducible refine eqSS ?_ | with_reducible refine eqBB ?_ | with_reducible refine neII ?_ | with_reducible refine neSS ?_ | with_reducible refine neBB ?_ | with_reducible refine isNN ?_ | with_reducible refine isNotNN ?_ | with_reducible refine isBB ?_ | with_reducible refine isNotBB ?_ | with_reducible refine lenTI ?_ | with_reducible refine lenFI ?_ | with_reducible refine intII ?_ | with_reducible refine intBI ?_ | with_reducible refine tupTI ?_ | with_reducible refine minII ?_ | with_reducible refine maxII ?_ | with_reducible refine slTI ?_ | with_reducible refine gcI ?_ | with_reducible refine gnI ?_ | with_reducible refine aNI ?_ | ((with_reducible refine ttI ?_ ?_); exact rfl) | ((with_reducible refine And.intro ?_ ?_); exact rfl) | ((with_reducible refine And.intro ?_ ?_); exact lenOk rfl) | dsimp only [En.s]))
      exact q
    · (repeat (first | with_reducible refine seqI ?_ | with_reducible refine setI ?_ | with_reducible refine asgI ?_ | with_reducible refine retI ?_ | with_reducible refine opI ?_ | with_reducible refine callI ?_ | with_reducible refine consI ?_ | with_reducible refine cI ?_ | with_reducible refine nilI ?_ | ((with_reducible apply varI); exact rfl) | with_reducible refine cbI ?_ | with_reducible refine ifI ?_ | with_reducible refine tstI ?_ | with_reducible refine notTI ?_ | with_reducible refine andTI ?_ | with_reducible refine orTI ?_ | with_reducible refine dropI ?_ | with_reducible refine nextI ?_ | with_reducible refine tupI ?_ | with_reducible refine lstI ?_ | with_reducible refine starI ?_ | with_reducible refine starTT ?_ | with_reducible refine andI ?_ | with_reducible refine orVI ?_ | with_reducible refine notI ?_ | with_reducible refine ifEI ?_ | with_reducible refine forI ?_ | with_reducible refine r1I ?_ | with_reducible refine ir2I ?_ | with_reducible refine iTupI ?_ | with_reducible refine truI ?_ | with_reducible refine chainI ?_ | with_reducible refine lcI ?_ | with_reducible refine slI ?_ | with_reducible refine noPI ?_ | with_reducible refine ptI ?_ | with_reducible refine unI ?_ | with_reducible refine brkI ?_ | with_reducible refine cntI ?_ | with_reducible refine retNI ?_ | with_reducible refine addII ?_ | with_reducible refine rI0 ?_ | with_reducible refine rIC ?_ ?_ | with_reducible refine mulII ?_ ?_ | with_reducible refine addTT ?_ ?_ | with_reducible refine addSS ?_ ?_ | with_reducible refine negII ?_ | with_reducible refine eqII ?_ | with_reducible refine eqSS ?_ | with_reducible refine eqBB ?_ | with_reducible refine neII ?_ | with_reducible refine neSS ?_ | with_reducible refine neBB ?_ | with_reducible refine isNN ?_ | with_reducible refine isNotNN ?_ | with_reducible refine isBB ?_ | with_reducible refine isNotBB ?_ | with_reducible refine lenTI ?_ | with_reducible refine lenFI ?_ | with_reducible refine intII ?_ | with_reducible refine intBI ?_ | with_reducible refine tupTI ?_ | with_reducible refine minII ?_ | with_reducible refine maxII ?_ | with_reducible refine slTI ?_ | with_reducible refine gcI ?_ | with_reducible refine gnI ?_ | with_reducible refine aNI ?_ | ((with_reducible refine ttI ?_ ?_); exact rfl) | ((with_reducible refine And.intro ?_ ?_); exact rfl) | ((with_reducible refine And.intro ?_ ?_); exact lenOk rfl) | dsimp only [En.s]))
      have c' : ¬ i < 0 := fun z => c (decide_eq_true z)
      refine bl_t (decide_eq_true (by omega)) ?_
      (repeat (first | with_reducible refine seqI ?_ | with_reducible refine setI ?_ | with_reducible refine asgI ?_ | with_reducible refine retI ?_ | with_reducible refine opI ?_ | with_reducible refine callI ?_ | with_reducible refine consI ?_ | with_reducible refine cI ?_ | with_reducible refine nilI ?_ | ((with_reducible apply varI); exact rfl) | with_reducible refine cbI ?_ | with_reducible refine ifI ?_ | with_reducible refine tstI ?_ | with_reducible refine notTI ?_ | with_reducible refine andTI ?_ | with_reducible refine orTI ?_ | with_reducible refine dropI ?_ | with_reducible refine nextI ?_ | with_reducible refine tupI ?_ | with_reducible refine lstI ?_ | with_reducible refine starI ?_ | with_reducible refine starTT ?_ | with_reducible refine andI ?_ | with_reducible refine orVI ?_ | with_reducible refine notI ?_ | with_reducible refine ifEI ?_ | with_reducible refine forI ?_ | with_reducible refine r1I ?_ | with_reducible refine ir2I ?_ | with_reducible refine iTupI ?_ | with_reducible refine truI ?_ | with_reducible refine chainI ?_ | with_reducible refine lcI ?_ | with_reducible refine slI ?_ | with_reducible refine noPI ?_ | with_reducible refine ptI ?_ | with_reducible refine unI ?_ | with_reducible refine brkI ?_ | with_reducible refine cntI ?_ | with_reducible refine retNI ?_ | with_reducible refine addII ?_ | with_reducible refine rI0 ?_ | with_reducible refine rIC ?_ ?_ | with_reducible refine mulII ?_ ?_ | with_reducible refine addTT ?_ ?_ | with_reducible refine addSS ?_ ?_ | with_reducible refine negII ?_ | with_reducible refine eqII ?_ | with_reducible refine eqSS ?_ | with_reducible refine eqBB ?_ | with_reducible refine neII ?_ | with_reducible refine neSS ?_ | with_reducible refine neBB ?_ | with_reducible refine isNN ?_ | with_reducible refine isNotNN ?_ | with_reducible refine isBB ?_ | with_reducible refine isNotBB ?_ | with_reducible refine lenTI ?_ | with_reducible refine lenFI ?_ | with_reducible refine intII ?_ | with_reducible refine intBI ?_ | with_reducible refine tupTI ?_ | with_reducible refine minII ?_ | with_reducible refine maxII ?_ | with_reducible refine slTI ?_ | with_reducible refine gcI ?_ | with_reducible refine gnI ?_ | with_reducible refine aNI ?_ | ((with_reducible refine ttI ?_ ?_); exact rfl) | ((with_reducible refine And.intro ?_ ?_); exact rfl) | ((with_reducible refine And.intro ?_ ?_); exact lenOk rfl) | dsimp only [En.s]))
      exact q
  · refine isiV rfl (ht _) ?_
    rw [hs]
    refine bl_t rfl (bl_t rfl ?_)
    (repeat (first | with_reducible refine seqI ?_ | with_reducible refine setI ?_ | with_reducible refine asgI ?_ | with_reducible refine retI ?_ | with_reducible refine opI ?_ | with_reducible refine callI ?_ | with_reducible refine consI ?_ | with_reducible refine cI ?_ | with_reducible refine nilI ?_ | ((with_reducible apply varI); exact rfl) | with_reducible refine cbI ?_ | with_reducible refine ifI ?_ | with_reducible refine tstI ?_ | with_reducible refine notTI ?_ | with_reducible refine andTI ?_ | with_reducible refine orTI ?_ | with_reducible refine dropI ?_ | with_reducible refine nextI ?_ | with_reducible refine tupI ?_ | with_reducible refine lstI ?_ | with_reducible refine starI ?_ | with_reducible refine starTT ?_ | with_reducible refine andI ?_ | with_reducible refine orVI ?_ | with_reducible refine notI ?_ | with_reducible refine ifEI ?_ | with_reducible refine forI ?_ | with_reducible refine r1I ?_ | with_reducible refine ir2I ?_ | with_reducible refine iTupI ?_ | with_reducible refine truI ?_ | with_reducible refine chainI ?_ | with_reducible refine lcI ?_ | with_reducible refine slI ?_ | with_reducible refine noPI ?_ | with_reducible refine ptI ?_ | with_reducible refine unI ?_ | with_reducible refine brkI ?_ | with_reducible refine cntI ?_ | with_reducible refine retNI ?_ | with_reducible refine addII ?_ | with_reducible refine rI0 ?_ | with_reducible refine rIC ?_ ?_ | with_reducible refine mulII ?_ ?_ | with_reducible refine addTT ?_ ?_ | with_reducible refine addSS ?_ ?_ | with_reducible refine negII ?_ | with_reducible refine eqII ?_ | with_reducible refine eqSS ?_ | with_reducible refine eqBB ?_ | with_reducible refine neII ?_ | with_reducible refine neSS ?_ | with_reducible refine neBB ?_ | with_reducible refine isNN ?_ | with_reducible refine isNotNN ?_ | with_reducible refine isBB ?_ | with_reducible refine isNotBB ?_ | with_reducible refine lenTI ?_ | with_reducible refine lenFI ?_ | with_reducible refine intII ?_ | with_reducible refine intBI ?_ | with_reducible refine tupTI ?_ | with_reducible refine minII ?_ | with_reducible refine maxII ?_ | with_reducible refine slTI ?_ | with_reducible refine gcI ?_ | with_reducible refine gnI ?_ | with_reducible refine aNI ?_ | ((with_reducible refine ttI ?_ ?_); exact rfl) | ((with_reducible refine And.intro ?_ ?_); exact rfl) | ((with_reducible refine And.intro ?_ ?_); exact lenOk rfl) | dsimp only [En.s]))
    exact q
theorem ab_bad {A : AEnds} {x0 x1 x2 : Option D} {m : M} {gd : M → Prop} (hgd : ∀ m, gd m) {d : D} {post : List D} (hd : NByte d) (q : A.rt (.bl false) m) : ∀ (pre : List D) (x3 : Option D), Bytes pre → forL (aN 3) bl_are_bytes_0 gd (pre ++ d :: post) A [x0, x1, x2, x3] m
  | [], x3, hb => by
    refine ⟨hgd _, ?_⟩
    exact byteR hd q
  | c :: ds, x3, hb => by
    obtain ⟨n, rfl, hn⟩ := hb c (by simp)
    have ih := ab_bad hgd (A := A) (x0 := x0) (x1 := x1) (x2 := x2) (m := m) (post := post) hd q ds (some (.int (n : Int))) (fun d hd => hb d (by simp [hd]))
    show forL (aN 3) bl_are_bytes_0 gd (.int (n : Int) :: (ds ++ d :: post)) A _ m
    unfold forL
    refine ⟨hgd _, ?_⟩
    generalize forL (aN 3) bl_are_bytes_0 gd (ds ++ d :: post) A = X at ih ⊢
    unfold bl_are_bytes_0
    simp (config := {failIfUnchanged := false}) only [aSeq, aIfS, aTest, aTru, aOp, aUn, aCB, aVar, aC, aCons, aNil, aStar, aAsg, aN, aSubL, aRet, aRetN, aNext, aNever, aDrop, aApp, aTup, aLst, aPar, aAnd, aOr, aNot, aAndV, aOrV, aNotV, aIf, aChain, aCall, aIsi, aIsi2, aSl, aNoP, aPt, aTupRev, aAll, aFor, aITup, aILst, aIR1, aIR2, aTT, aGCons, aGNil, aLc, aYes, aBrk, aCnt, aWhile, En.g, En.s, rIxA, itemsD, rLenA, lenD, rIntA, rTupleA, rListA, rMinA, rMaxA, rAddA, rSubA, rMulA, rFdivA, rModA, rPowA, rShlA, rShrA, rAndA, rOrA, rXorA, rLtA, rLeA, rGtA, rGeA, rNegA, rInt0, rIntC, rIsA, rIsNotA, rEqA, rNeA, eqA, D.isNon, Ab.rSlA, wipeE, En.x, l_same, mset_same, mset_mset, Option.map_some, List.length_cons, List.length_nil, Nat.zero_add, Nat.reduceAdd, true_and, and_true, decide_eq_true_eq, ite_true, ite_false, Bool.not_true, Bool.not_false, Bool.false_eq_true, if_true, if_false, List.append_assoc, List.cons_append, List.nil_append, at0, at1, at2, at3, at4, at5, ix0, ix1, ix2, ix3, List.set_cons_zero, List.set_cons_succ,tyD, show Ty.sub .int .int = true from rfl, show Ty.sub .int .bool = false from rfl]
    have e1 : decide ((n : Int) < 0) = false := decide_eq_false (by omega)
    have e2 : decide ((255 : Int) < (n : Int)) = false := decide_eq_false (by omega)
    simpa [e1, e2, show ¬ ((n : Int) < 0) by omega, show ¬ ((255 : Int) < (n : Int)) by omega] using ih
def NRow (m : M) (d : D) (lo hi : Int) : Prop := (∃ t, tyD m d = some t ∧ t.sub .tuple = false) ∨ (∃ ds, d = .tup ds ∧ ((ds.length : Int) < lo ∨ hi < (ds.length : Int))) ∨ ∃ pre b post, d = .tup (pre ++ b :: post) ∧ lo ≤ ((pre ++ b :: post).length : Int) ∧ ((pre ++ b :: post).length : Int) ≤ hi ∧ Bytes pre ∧ NByte b
theorem rowR {m : M} {d : D} {lo hi : Int} {Q : PQ} {R : PX} (h : NRow m d lo hi) (q : Q (.bl false) m) : s_are_bytes [d, .int lo, .int hi] m Q R := by
  refine ent_are_bytes ?_
  unfold b_are_bytes
  refine seqI (ifI (notTI (tstI (callI (consI (varI rfl (consI (varI rfl (consI (varI rfl (nilI ⟨rfl, ?_⟩))))))))))) 
  rcases h with ⟨t, ht, hs⟩ | ⟨ds, rfl, hl⟩ | ⟨pre, b, post, rfl, h1, h2, hb, hn⟩
  · refine tupR_ty ht hs (bl_t rfl ?_)
    (repeat (first | with_reducible refine seqI ?_ | with_reducible refine setI ?_ | with_reducible refine asgI ?_ | with_reducible refine retI ?_ | with_reducible refine opI ?_ | with_reducible refine callI ?_ | with_reducible refine consI ?_ | with_reducible refine cI ?_ | with_reducible refine nilI ?_ | ((with_reducible apply varI); exact rfl) | with_reducible refine cbI ?_ | with_reducible refine ifI ?_ | with_reducible refine tstI ?_ | with_reducible refine notTI ?_ | with_reducible refine andTI ?_ | with_reducible refine orTI ?_ | with_reducible refine dropI ?_ | with_reducible refine nextI ?_ | with_reducible refine tupI ?_ | with_reducible refine lstI ?_ | with_reducible refine starI ?_ | with_reducible refine starTT ?_ | with_reducible refine andI ?_ | with_reducible refine orVI ?_ | with_reducible refine notI ?_ | with_reducible refine ifEI ?_ | with_reducible refine forI ?_ | with_reducible refine r1I ?_ | with_reducible refine ir2I ?_ | with_reducible refine iTupI ?_ | with_reducible refine truI ?_ | with_reducible refine chainI ?_ | with_reducible refine lcI ?_ | with_reducible refine slI ?_ | with_reducible refine noPI ?_ | with_reducible refine ptI ?_ | with_reducible refine unI ?_ | with_reducible refine brkI ?_ | with_reducible refine cntI ?_ | with_reducible refine retNI ?_ | with_reducible refine addII ?_ | with_reducible refine rI0 ?_ | with_reducible refine rIC ?_ ?_ | with_reducible refine mulII ?_ ?_ | with_reducible refine addTT ?_ ?_ | with_reducible refine addSS ?_ ?_ | with_reducible refine negII ?_ | with_reducible refine eqII ?_ | with_reducible refine eqSS ?_ | with_reducible refine eqBB ?_ | with_reducible refine neII ?_ | with_reducible refine neSS ?_ | with_reducible refine neBB ?_ | with_reducible refine isNN ?_ | with_reducible refine isNotNN ?_ | with_reducible refine isBB ?_ | with_reducible refine isNotBB ?_ | with_reducible refine lenTI ?_ | with_reducible refine lenFI ?_ | with_reducible refine intII ?_ | with_reducible refine intBI ?_ | with_reducible refine tupTI ?_ | with_reducible refine minII ?_ | with_reducible refine maxII ?_ | with_reducible refine slTI ?_ | with_reducible refine gcI ?_ | with_reducible refine gnI ?_ | with_reducible refine aNI ?_ | ((with_reducible refine ttI ?_ ?_); exact rfl) | ((with_reducible refine And.intro ?_ ?_); exact rfl) | ((with_reducible refine And.intro ?_ ?_); exact lenOk rfl) | dsimp only [En.s]))
    exact ⟨m, Sub.refl _, q⟩
  · refine tupR_len hl (bl_t rfl ?_)
    (repeat (first | with_reducible refine seqI ?_ | with_reducible refine setI ?_ | with_reducible refine asgI ?_ | with_reducible refine retI ?_ | with_reducible refine opI ?_ | with_reducible refine callI ?_ | with_reducible refine consI ?_ | with_reducible refine cI ?_ | with_reducible refine nilI ?_ | ((with_reducible apply varI); exact rfl) | with_reducible refine cbI ?_ | with_reducible refine ifI ?_ | with_reducible refine tstI ?_ | with_reducible refine notTI ?_ | with_reducible refine andTI ?_ | with_reducible refine orTI ?_ | with_reducible refine dropI ?_ | with_reducible refine nextI ?_ | with_reducible refine tupI ?_ | with_reducible refine lstI ?_ | with_reducible refine starI ?_ | with_reducible refine starTT ?_ | with_reducible refine andI ?_ | with_reducible refine orVI ?_ | with_reducible refine notI ?_ | with_reducible refine ifEI ?_ | with_reducible refine forI ?_ | with_reducible refine r1I ?_ | with_reducible refine ir2I ?_ | with_reducible refine iTupI ?_ | with_reducible refine truI ?_ | with_reducible refine chainI ?_ | with_reducible refine lcI ?_ | with_reducible refine slI ?_ | with_reducible refine noPI ?_ | with_reducible refine ptI ?_ | with_reducible refine unI ?_ | with_reducible refine brkI ?_ | with_reducible refine cntI ?_ | with_reducible refine retNI ?_ | with_reducible refine addII ?_ | with_reducible refine rI0 ?_ | with_reducible refine rIC ?_ ?_ | with_reducible refine mulII ?_ ?_ | with_reducible refine addTT ?_ ?_ | with_reducible refine addSS ?_ ?_ | with_reducible refine negII ?_ | with_reducible refine eqII ?_ | with_reducible refine eqSS ?_ | with_reducible refine eqBB ?_ | with_reducible refine neII ?_ | with_reducible refine neSS ?_ | with_reducible refine neBB ?_ | with_reducible refine isNN ?_ | with_reducible refine isNotNN ?_ | with_reducible refine isBB ?_ | with_reducible refine isNotBB ?_ | with_reducible refine lenTI ?_ | with_reducible refine lenFI ?_ | with_reducible refine intII ?_ | with_reducible refine intBI ?_ | with_reducible refine tupTI ?_ | with_reducible refine minII ?_ | with_reducible refine maxII ?_ | with_reducible refine slTI ?_ | with_reducible refine gcI ?_ | with_reducible refine gnI ?_ | with_reducible refine aNI ?_ | ((with_reducible refine ttI ?_ ?_); exact rfl) | ((with_reducible refine And.intro ?_ ?_); exact rfl) | ((with_reducible refine And.intro ?_ ?_); exact lenOk rfl) | dsimp only [En.s]))
    exact ⟨m, Sub.refl _, q⟩
  · refine tupOf h1 h2 (bl_f rfl ?_)
    (repeat (first | with_reducible refine seqI ?_ | with_reducible refine setI ?_ | with_reducible refine asgI ?_ | with_reducible refine retI ?_ | with_reducible refine opI ?_ | with_reducible refine callI ?_ | with_reducible refine consI ?_ | with_reducible refine cI ?_ | with_reducible refine nilI ?_ | ((with_reducible apply varI); exact rfl) | with_reducible refine cbI ?_ | with_reducible refine ifI ?_ | with_reducible refine tstI ?_ | with_reducible refine notTI ?_ | with_reducible refine andTI ?_ | with_reducible refine orTI ?_ | with_reducible refine dropI ?_ | with_reducible refine nextI ?_ | with_reducible refine tupI ?_ | with_reducible refine lstI ?_ | with_reducible refine starI ?_ | with_reducible refine starTT ?_ | with_reducible refine andI ?_ | with_reducible refine orVI ?_ | with_reducible refine notI ?_ | with_reducible refine ifEI ?_ | with_reducible refine forI ?_ | with_reducible refine r1I ?_ | with_reducible refine ir2I ?_ | with_reducible refine iTupI ?_ | with_reducible refine truI ?_ | with_reducible refine chainI ?_ | with_reducible refine lcI ?_ | with_reducible refine slI ?_ | with_reducible refine noPI ?_ | with_reducible refine ptI ?_ | with_reducible refine unI ?_ | with_reducible refine brkI ?_ | with_reducible refine cntI ?_ | with_reducible refine retNI ?_ | with_reducible refine addII ?_ | with_reducible refine rI0 ?_ | with_reducible refine rIC ?_ ?_ | with_reducible refine mulII ?_ ?_ | with_reducible refine addTT ?_ ?_ | with_reducible refine addSS ?_ ?_ | with_reducible refine negII ?_ | with_reducible refine eqII ?_ | with_reducible refine eqSS ?_ | with_reducible refine eqBB ?_ | with_reducible refine neII ?_ | with_reducible refine neSS ?_ | with_reducible refine neBB ?_ | with_reducible refine isNN ?_ | with_reducible refine isNotNN ?_ | with_reducible refine isBB ?_ | with_reducible refine isNotBB ?_ | with_reducible refine lenTI ?_ | with_reducible refine lenFI ?_ | with_reducible refine intII ?_ | with_reducible refine intBI ?_ | with_reducible refine tupTI ?_ | with_reducible refine minII ?_ | with_reducible refine maxII ?_ | with_reducible refine slTI ?_ | with_reducible refine gcI ?_ | with_reducible refine gnI ?_ | with_reducible refine aNI ?_ | ((with_reducible refine ttI ?_ ?_); exact rfl) | ((with_reducible refine And.intro ?_ ?_); exact rfl) | ((with_reducible refine And.intro ?_ ?_); exact lenOk rfl) | dsimp only [En.s]))
    refine ab_bad (fun _ => trivial) hn ?_ pre _ hb
    exact ⟨m, Sub.refl _, q⟩
theorem NRow.keep {m m' : M} {d : D} {lo hi : Int} (k : ∀ a o, d = .ref a → m a = some o → m' a = some o) (h : NRow m d lo hi) : NRow m' d lo hi := by
  rcases h with ⟨t, ht, hs⟩ | h | h
  · exact .inl ⟨t, ty_keep k ht, hs⟩
  · exact .inr (.inl h)
  · exact .inr (.inr h)
theorem NInt.keep {m m' : M} {d : D} {lo hi : Int} (k : ∀ a o, d = .ref a → m a = some o → m' a = some o) (h : NInt m d lo hi) : NInt m' d lo hi := by
  rcases h with ⟨t, ht, hs⟩ | h | h
  · exact .inl ⟨t, ty_keep k ht, hs⟩
  · exact .inr (.inl h)
  · exact .inr (.inr h)
theorem NRow.hide {m : M} {d : D} {lo hi : Int} (h : NRow m d lo hi) : NRow (hideC m) d lo hi := by
  rcases h with ⟨t, ht, hs⟩ | h | h
  · exact .inl ⟨t, ty_hide ht, hs⟩
  · exact .inr (.inl h)
  · exact .inr (.inr h)
theorem NInt.hide {m : M} {d : D} {lo hi : Int} (h : NInt m d lo hi) : NInt (hideC m) d lo hi := by
  rcases h with ⟨t, ht, hs⟩ | h | h
  · exact .inl ⟨t, ty_hide ht, hs⟩
  · exact .inr (.inl h)
  · exact .inr (.inr h)
theorem intR2 {m : M} {d : D} {lo hi : Int} {Q : PQ} {R : PX} (h : NInt m d lo hi) (q : Q (.bl false) m) : s_is_integer [d, .int lo, .int hi] m Q R := intR h q
/-! ### wrong flips of a row of three bytes -/
def NFl (m : M) (d : D) : Prop := (∃ t, tyD m d = some t ∧ t.sub .tuple = false) ∨ (∃ ds, d = .tup ds ∧ 64 < (ds.length : Int)) ∨ (∃ x, d = .tup [x] ∧ ∀ m, NInt m x 0 23) ∨ ∃ a b : Int, d = .tup [.int a, .int b] ∧ 0 ≤ a ∧ a ≤ 23 ∧ b ≤ a
theorem NFl.keep {m m' : M} {d : D} (k : ∀ a o, d = .ref a → m a = some o → m' a = some o) (h : NFl m d) : NFl m' d := by
  rcases h with ⟨t, ht, hs⟩ | h
  · exact .inl ⟨t, ty_keep k ht, hs⟩
  · exact .inr h
theorem NFl.hide {m : M} {d : D} (h : NFl m d) : NFl (hideC m) d := by
  rcases h with ⟨t, ht, hs⟩ | h
  · exact .inl ⟨t, ty_hide ht, hs⟩
  · exact .inr h
section
variable {p : Pm} {m : M} {Q : PQ} {R : PX}
theorem checkBad {d : D} (h : NRow m d 0 4096) (r : R ⟨p.cA "BadRow", []⟩ m) : s_check_row p [d] m Q R := by
  refine ent_check_row ?_
  unfold b_check_row
  refine ifI (notTI (tstI (callI (consI (varI rfl (consI (cI (consI (cI (nilI ⟨rfl, ?_⟩))))))))))
  exact rowR h (bl_t rfl ⟨m, Sub.refl _, r⟩)
theorem lam0 {d : D} (h : NRow m d 0 4096) (r : R ⟨p.cA "BadRow", []⟩ m) : lam_0 p [some d] m Q R := by
  unfold lam_0
  refine callI (consI (varI rfl (nilI ⟨rfl, ?_⟩)))
  refine ent_check_of ?_
  unfold b_check_of
  exact seqI (dropI (callI (consI (varI rfl (nilI ⟨rfl, checkBad h ⟨m, Sub.refl _, r⟩⟩)))))
theorem lam1 {d : D} (h : NRow m d 0 4096) (r : R ⟨p.cA "BadRow", []⟩ m) : lam_1 p [some d] m Q R := by
  unfold lam_1
  refine callI (consI (varI rfl (nilI ⟨rfl, ?_⟩)))
  refine ent_sealed ?_
  unfold b_sealed
  exact seqI (dropI (callI (consI (varI rfl (nilI ⟨rfl, checkBad h ⟨m, Sub.refl _, r⟩⟩)))))
theorem lam2 {d : D} (h : NRow m d 0 4096) (r : R ⟨p.cA "BadRow", []⟩ m) : lam_2 p [some d] m Q R := by
  unfold lam_2
  refine callI (consI (varI rfl (nilI ⟨rfl, ?_⟩)))
  refine ent_is_sealed ?_
  unfold b_is_sealed
  exact seqI (dropI (callI (consI (varI rfl (nilI ⟨rfl, checkBad h ⟨m, Sub.refl _, r⟩⟩)))))
theorem lam3 {d d1 : D} (h : NRow m d 0 4096) (r : R ⟨p.cA "BadRow", []⟩ m) : lam_3 p [some d, some d1] m Q R := by
  unfold lam_3
  refine callI (consI (varI rfl (consI (varI rfl (nilI ⟨rfl, ?_⟩)))))
  refine ent_flipped ?_
  unfold b_flipped
  exact seqI (dropI (callI (consI (varI rfl (nilI ⟨rfl, checkBad h ⟨m, Sub.refl _, r⟩⟩)))))
theorem lam4 {d d1 : D} (h : NInt m d 2 4096) (r : R ⟨p.cA "BadNumber", []⟩ m) : lam_4 p [some d, some d1] m Q R := by
  unfold lam_4
  refine callI (consI (varI rfl (consI (varI rfl (nilI ⟨rfl, ?_⟩)))))
  refine ent_is_unseen ?_
  unfold b_is_unseen
  refine seqI (ifI (notTI (tstI (callI (consI (varI rfl (consI (cI (consI (cI (nilI ⟨rfl, ?_⟩)))))))))))
  exact intR h (bl_t rfl ⟨m, Sub.refl _, r⟩)
theorem lam5 {d : D} (h : NInt m d 2 24) (r : R ⟨p.cA "BadNumber", []⟩ m) : lam_5 p [some d] m Q R := by
  unfold lam_5
  refine callI (consI (varI rfl (nilI ⟨rfl, ?_⟩)))
  refine ent_least_unseen ?_
  unfold b_least_unseen
  refine seqI (ifI (notTI (tstI (callI (consI (varI rfl (consI (cI (consI (cI (nilI ⟨rfl, ?_⟩)))))))))))
  exact intR h (bl_t rfl ⟨m, Sub.refl _, r⟩)
theorem flipsBad {d : D} (h : NFl m d) (r : R ⟨p.cA "BadFlips", []⟩ m) : s_check_flips p [d, .int 24] m Q R := by
  refine ent_check_flips ?_
  unfold b_check_flips
  refine seqI (ifI (notTI (tstI (callI (consI (varI rfl (consI (cI (consI (cI (nilI ⟨rfl, ?_⟩)))))))))))
  rcases h with ⟨t, ht, hs⟩ | ⟨ds, rfl, hl⟩ | ⟨x, rfl, hx⟩ | ⟨a, b, rfl, h1, h2, h3⟩
  · exact tupR_ty ht hs (bl_t rfl ⟨m, Sub.refl _, r⟩)
  · exact tupR_len (.inr hl) (bl_t rfl ⟨m, Sub.refl _, r⟩)
  · refine tupOf (by simp) (by simp) (bl_f rfl ?_)
    (repeat (first | with_reducible refine seqI ?_ | with_reducible refine setI ?_ | with_reducible refine asgI ?_ | with_reducible refine retI ?_ | with_reducible refine opI ?_ | with_reducible refine callI ?_ | with_reducible refine consI ?_ | with_reducible refine cI ?_ | with_reducible refine nilI ?_ | ((with_reducible apply varI); exact rfl) | with_reducible refine cbI ?_ | with_reducible refine ifI ?_ | with_reducible refine tstI ?_ | with_reducible refine notTI ?_ | with_reducible refine andTI ?_ | with_reducible refine orTI ?_ | with_reducible refine dropI ?_ | with_reducible refine nextI ?_ | with_reducible refine tupI ?_ | with_reducible refine lstI ?_ | with_reducible refine starI ?_ | with_reducible refine starTT ?_ | with_reducible refine andI ?_ | with_reducible refine orVI ?_ | with_reducible refine notI ?_ | with_reducible refine ifEI ?_ | with_reducible refine forI ?_ | with_reducible refine r1I ?_ | with_reducible refine ir2I ?_ | with_reducible refine iTupI ?_ | with_reducible refine truI ?_ | with_reducible refine chainI ?_ | with_reducible refine lcI ?_ | with_reducible refine slI ?_ | with_reducible refine noPI ?_ | with_reducible refine ptI ?_ | with_reducible refine unI ?_ | with_reducible refine brkI ?_ | with_reducible refine cntI ?_ | with_reducible refine retNI ?_ | with_reducible refine addII ?_ | with_reducible refine rI0 ?_ | with_reducible refine rIC ?_ ?_ | with_reducible refine mulII ?_ ?_ | with_reducible refine addTT ?_ ?_ | with_reducible refine addSS ?_ ?_ | with_reducible refine negII ?_ | with_reducible refine eqII ?_ | with_reducible refine eqSS ?_ | with_reducible refine eqBB ?_ | with_reducible refine neII ?_ | with_reducible refine neSS ?_ | with_reducible refine neBB ?_ | with_reducible refine isNN ?_ | with_reducible refine isNotNN ?_ | with_reducible refine isBB ?_ | with_reducible refine isNotBB ?_ | with_reducible refine lenTI ?_ | with_reducible refine lenFI ?_ | with_reducible refine intII ?_ | with_reducible refine intBI ?_ | with_reducible refine tupTI ?_ | with_reducible refine minII ?_ | with_reducible refine maxII ?_ | with_reducible refine slTI ?_ | with_reducible refine gcI ?_ | with_reducible refine gnI ?_ | with_reducible refine aNI ?_ | ((with_reducible refine ttI ?_ ?_); exact rfl) | ((with_reducible refine And.intro ?_ ?_); exact rfl) | ((with_reducible refine And.intro ?_ ?_); exact lenOk rfl) | dsimp only [En.s]))
    unfold bl_check_flips_3
    generalize hX : bl_check_flips_2 p = X
    (repeat (first | with_reducible refine seqI ?_ | with_reducible refine setI ?_ | with_reducible refine asgI ?_ | with_reducible refine retI ?_ | with_reducible refine opI ?_ | with_reducible refine callI ?_ | with_reducible refine consI ?_ | with_reducible refine cI ?_ | with_reducible refine nilI ?_ | ((with_reducible apply varI); exact rfl) | with_reducible refine cbI ?_ | with_reducible refine ifI ?_ | with_reducible refine tstI ?_ | with_reducible refine notTI ?_ | with_reducible refine andTI ?_ | with_reducible refine orTI ?_ | with_reducible refine dropI ?_ | with_reducible refine nextI ?_ | with_reducible refine tupI ?_ | with_reducible refine lstI ?_ | with_reducible refine starI ?_ | with_reducible refine starTT ?_ | with_reducible refine andI ?_ | with_reducible refine orVI ?_ | with_reducible refine notI ?_ | with_reducible refine ifEI ?_ | with_reducible refine forI ?_ | with_reducible refine r1I ?_ | with_reducible refine ir2I ?_ | with_reducible refine iTupI ?_ | with_reducible refine truI ?_ | with_reducible refine chainI ?_ | with_reducible refine lcI ?_ | with_reducible refine slI ?_ | with_reducible refine noPI ?_ | with_reducible refine ptI ?_ | with_reducible refine unI ?_ | with_reducible refine brkI ?_ | with_reducible refine cntI ?_ | with_reducible refine retNI ?_ | with_reducible refine addII ?_ | with_reducible refine rI0 ?_ | with_reducible refine rIC ?_ ?_ | with_reducible refine mulII ?_ ?_ | with_reducible refine addTT ?_ ?_ | with_reducible refine addSS ?_ ?_ | with_reducible refine negII ?_ | with_reducible refine eqII ?_ | with_reducible refine eqSS ?_ | with_reducible refine eqBB ?_ | with_reducible refine neII ?_ | with_reducible refine neSS ?_ | with_reducible refine neBB ?_ | with_reducible refine isNN ?_ | with_reducible refine isNotNN ?_ | with_reducible refine isBB ?_ | with_reducible refine isNotBB ?_ | with_reducible refine lenTI ?_ | with_reducible refine lenFI ?_ | with_reducible refine intII ?_ | with_reducible refine intBI ?_ | with_reducible refine tupTI ?_ | with_reducible refine minII ?_ | with_reducible refine maxII ?_ | with_reducible refine slTI ?_ | with_reducible refine gcI ?_ | with_reducible refine gnI ?_ | with_reducible refine aNI ?_ | ((with_reducible refine ttI ?_ ?_); exact rfl) | ((with_reducible refine And.intro ?_ ?_); exact rfl) | ((with_reducible refine And.intro ?_ ?_); exact lenOk rfl) | dsimp only [En.s]))
    subst hX
    unfold bl_check_flips_2
    refine forI (iTupI (varI rfl ?_))
    refine ⟨trivial, ?_⟩
    show bl_check_flips_1 p _ [some (.tup [x]), some (.int 24), some (.int 0), some x] m
    unfold bl_check_flips_1
    refine seqI (ifI (notTI (tstI (callI (consI (varI rfl (consI (varI rfl ?_)))))))) 
    (repeat (first | with_reducible refine seqI ?_ | with_reducible refine setI ?_ | with_reducible refine asgI ?_ | with_reducible refine retI ?_ | with_reducible refine opI ?_ | with_reducible refine callI ?_ | with_reducible refine consI ?_ | with_reducible refine cI ?_ | with_reducible refine nilI ?_ | ((with_reducible apply varI); exact rfl) | with_reducible refine cbI ?_ | with_reducible refine ifI ?_ | with_reducible refine tstI ?_ | with_reducible refine notTI ?_ | with_reducible refine andTI ?_ | with_reducible refine orTI ?_ | with_reducible refine dropI ?_ | with_reducible refine nextI ?_ | with_reducible refine tupI ?_ | with_reducible refine lstI ?_ | with_reducible refine starI ?_ | with_reducible refine starTT ?_ | with_reducible refine andI ?_ | with_reducible refine orVI ?_ | with_reducible refine notI ?_ | with_reducible refine ifEI ?_ | with_reducible refine forI ?_ | with_reducible refine r1I ?_ | with_reducible refine ir2I ?_ | with_reducible refine iTupI ?_ | with_reducible refine truI ?_ | with_reducible refine chainI ?_ | with_reducible refine lcI ?_ | with_reducible refine slI ?_ | with_reducible refine noPI ?_ | with_reducible refine ptI ?_ | with_reducible refine unI ?_ | with_reducible refine brkI ?_ | with_reducible refine cntI ?_ | with_reducible refine retNI ?_ | with_reducible refine addII ?_ | with_reducible refine rI0 ?_ | with_reducible refine rIC ?_ ?_ | with_reducible refine mulII ?_ ?_ | with_reducible refine addTT ?_ ?_ | with_reducible refine addSS ?_ ?_ | with_reducible refine negII ?_ | with_reducible refine eqII ?_ | with_reducible refine eqSS ?_ | with_reducible refine eqBB ?_ | with_reducible refine neII ?_ | with_reducible refine neSS ?_ | with_reducible refine neBB ?_ | with_reducible refine isNN ?_ | with_reducible refine isNotNN ?_ | with_reducible refine isBB ?_ | with_reducible refine isNotBB ?_ | with_reducible refine lenTI ?_ | with_reducible refine lenFI ?_ | with_reducible refine intII ?_ | with_reducible refine intBI ?_ | with_reducible refine tupTI ?_ | with_reducible refine minII ?_ | with_reducible refine maxII ?_ | with_reducible refine slTI ?_ | with_reducible refine gcI ?_ | with_reducible refine gnI ?_ | with_reducible refine aNI ?_ | ((with_reducible refine ttI ?_ ?_); exact rfl) | ((with_reducible refine And.intro ?_ ?_); exact rfl) | ((with_reducible refine And.intro ?_ ?_); exact lenOk rfl) | dsimp only [En.s]))
    exact intR (hx m) (bl_t rfl ⟨m, Sub.refl _, r⟩)
  · refine tupOf (by simp) (by simp) (bl_f rfl ?_)
    (repeat (first | with_reducible refine seqI ?_ | with_reducible refine setI ?_ | with_reducible refine asgI ?_ | with_reducible refine retI ?_ | with_reducible refine opI ?_ | with_reducible refine callI ?_ | with_reducible refine consI ?_ | with_reducible refine cI ?_ | with_reducible refine nilI ?_ | ((with_reducible apply varI); exact rfl) | with_reducible refine cbI ?_ | with_reducible refine ifI ?_ | with_reducible refine tstI ?_ | with_reducible refine notTI ?_ | with_reducible refine andTI ?_ | with_reducible refine orTI ?_ | with_reducible refine dropI ?_ | with_reducible refine nextI ?_ | with_reducible refine tupI ?_ | with_reducible refine lstI ?_ | with_reducible refine starI ?_ | with_reducible refine starTT ?_ | with_reducible refine andI ?_ | with_reducible refine orVI ?_ | with_reducible refine notI ?_ | with_reducible refine ifEI ?_ | with_reducible refine forI ?_ | with_reducible refine r1I ?_ | with_reducible refine ir2I ?_ | with_reducible refine iTupI ?_ | with_reducible refine truI ?_ | with_reducible refine chainI ?_ | with_reducible refine lcI ?_ | with_reducible refine slI ?_ | with_reducible refine noPI ?_ | with_reducible refine ptI ?_ | with_reducible refine unI ?_ | with_reducible refine brkI ?_ | with_reducible refine cntI ?_ | with_reducible refine retNI ?_ | with_reducible refine addII ?_ | with_reducible refine rI0 ?_ | with_reducible refine rIC ?_ ?_ | with_reducible refine mulII ?_ ?_ | with_reducible refine addTT ?_ ?_ | with_reducible refine addSS ?_ ?_ | with_reducible refine negII ?_ | with_reducible refine eqII ?_ | with_reducible refine eqSS ?_ | with_reducible refine eqBB ?_ | with_reducible refine neII ?_ | with_reducible refine neSS ?_ | with_reducible refine neBB ?_ | with_reducible refine isNN ?_ | with_reducible refine isNotNN ?_ | with_reducible refine isBB ?_ | with_reducible refine isNotBB ?_ | with_reducible refine lenTI ?_ | with_reducible refine lenFI ?_ | with_reducible refine intII ?_ | with_reducible refine intBI ?_ | with_reducible refine tupTI ?_ | with_reducible refine minII ?_ | with_reducible refine maxII ?_ | with_reducible refine slTI ?_ | with_reducible refine gcI ?_ | with_reducible refine gnI ?_ | with_reducible refine aNI ?_ | ((with_reducible refine ttI ?_ ?_); exact rfl) | ((with_reducible refine And.intro ?_ ?_); exact rfl) | ((with_reducible refine And.intro ?_ ?_); exact lenOk rfl) | dsimp only [En.s]))
    unfold bl_check_flips_3
    generalize hX : bl_check_flips_2 p = X
    (repeat (first | with_reducible refine seqI ?_ | with_reducible refine setI ?_ | with_reducible refine asgI ?_ | with_reducible refine retI ?_ | with_reducible refine opI ?_ | with_reducible refine callI ?_ | with_reducible refine consI ?_ | with_reducible refine cI ?_ | with_reducible refine nilI ?_ | ((with_reducible apply varI); exact rfl) | with_reducible refine cbI ?_ | with_reducible refine ifI ?_ | with_reducible refine tstI ?_ | with_reducible refine notTI ?_ | with_reducible refine andTI ?_ | with_reducible refine orTI ?_ | with_reducible refine dropI ?_ | with_reducible refine nextI ?_ | with_reducible refine tupI ?_ | with_reducible refine lstI ?_ | with_reducible refine starI ?_ | with_reducible refine starTT ?_ | with_reducible refine andI ?_ | with_reducible refine orVI ?_ | with_reducible refine notI ?_ | with_reducible refine ifEI ?_ | with_reducible refine forI ?_ | with_reducible refine r1I ?_ | with_reducible refine ir2I ?_ | with_reducible refine iTupI ?_ | with_reducible refine truI ?_ | with_reducible refine chainI ?_ | with_reducible refine lcI ?_ | with_reducible refine slI ?_ | with_reducible refine noPI ?_ | with_reducible refine ptI ?_ | with_reducible refine unI ?_ | with_reducible refine brkI ?_ | with_reducible refine cntI ?_ | with_reducible refine retNI ?_ | with_reducible refine addII ?_ | with_reducible refine rI0 ?_ | with_reducible refine rIC ?_ ?_ | with_reducible refine mulII ?_ ?_ | with_reducible refine addTT ?_ ?_ | with_reducible refine addSS ?_ ?_ | with_reducible refine negII ?_ | with_reducible refine eqII ?_ | with_reducible refine eqSS ?_ | with_reducible refine eqBB ?_ | with_reducible refine neII ?_ | with_reducible refine neSS ?_ | with_reducible refine neBB ?_ | with_reducible refine isNN ?_ | with_reducible refine isNotNN ?_ | with_reducible refine isBB ?_ | with_reducible refine isNotBB ?_ | with_reducible refine lenTI ?_ | with_reducible refine lenFI ?_ | with_reducible refine intII ?_ | with_reducible refine intBI ?_ | with_reducible refine tupTI ?_ | with_reducible refine minII ?_ | with_reducible refine maxII ?_ | with_reducible refine slTI ?_ | with_reducible refine gcI ?_ | with_reducible refine gnI ?_ | with_reducible refine aNI ?_ | ((with_reducible refine ttI ?_ ?_); exact rfl) | ((with_reducible refine And.intro ?_ ?_); exact rfl) | ((with_reducible refine And.intro ?_ ?_); exact lenOk rfl) | dsimp only [En.s]))
    subst hX
    unfold bl_check_flips_2
    refine forI (iTupI (varI rfl ?_))
    refine ⟨trivial, ?_⟩
    show bl_check_flips_1 p _ [some (.tup [.int a, .int b]), some (.int 24), some (.int 0), some (.int a)] m
    unfold bl_check_flips_1
    generalize hY : bl_check_flips_0 p = Y
    refine seqI (ifI (notTI (tstI (callI (consI (varI rfl (consI (varI rfl ?_)))))))) 
    (repeat (first | with_reducible refine seqI ?_ | with_reducible refine setI ?_ | with_reducible refine asgI ?_ | with_reducible refine retI ?_ | with_reducible refine opI ?_ | with_reducible refine callI ?_ | with_reducible refine consI ?_ | with_reducible refine cI ?_ | with_reducible refine nilI ?_ | ((with_reducible apply varI); exact rfl) | with_reducible refine cbI ?_ | with_reducible refine ifI ?_ | with_reducible refine tstI ?_ | with_reducible refine notTI ?_ | with_reducible refine andTI ?_ | with_reducible refine orTI ?_ | with_reducible refine dropI ?_ | with_reducible refine nextI ?_ | with_reducible refine tupI ?_ | with_reducible refine lstI ?_ | with_reducible refine starI ?_ | with_reducible refine starTT ?_ | with_reducible refine andI ?_ | with_reducible refine orVI ?_ | with_reducible refine notI ?_ | with_reducible refine ifEI ?_ | with_reducible refine forI ?_ | with_reducible refine r1I ?_ | with_reducible refine ir2I ?_ | with_reducible refine iTupI ?_ | with_reducible refine truI ?_ | with_reducible refine chainI ?_ | with_reducible refine lcI ?_ | with_reducible refine slI ?_ | with_reducible refine noPI ?_ | with_reducible refine ptI ?_ | with_reducible refine unI ?_ | with_reducible refine brkI ?_ | with_reducible refine cntI ?_ | with_reducible refine retNI ?_ | with_reducible refine addII ?_ | with_reducible refine rI0 ?_ | with_reducible refine rIC ?_ ?_ | with_reducible refine mulII ?_ ?_ | with_reducible refine addTT ?_ ?_ | with_reducible refine addSS ?_ ?_ | with_reducible refine negII ?_ | with_reducible refine eqII ?_ | with_reducible refine eqSS ?_ | with_reducible refine eqBB ?_ | with_reducible refine neII ?_ | with_reducible refine neSS ?_ | with_reducible refine neBB ?_ | with_reducible refine isNN ?_ | with_reducible refine isNotNN ?_ | with_reducible refine isBB ?_ | with_reducible refine isNotBB ?_ | with_reducible refine lenTI ?_ | with_reducible refine lenFI ?_ | with_reducible refine intII ?_ | with_reducible refine intBI ?_ | with_reducible refine tupTI ?_ | with_reducible refine minII ?_ | with_reducible refine maxII ?_ | with_reducible refine slTI ?_ | with_reducible refine gcI ?_ | with_reducible refine gnI ?_ | with_reducible refine aNI ?_ | ((with_reducible refine ttI ?_ ?_); exact rfl) | ((with_reducible refine And.intro ?_ ?_); exact rfl) | ((with_reducible refine And.intro ?_ ?_); exact lenOk rfl) | dsimp only [En.s]))
    refine isInt_t h1 (by omega) (bl_f rfl ?_)
    (repeat (first | with_reducible refine seqI ?_ | with_reducible refine setI ?_ | with_reducible refine asgI ?_ | with_reducible refine retI ?_ | with_reducible refine opI ?_ | with_reducible refine callI ?_ | with_reducible refine consI ?_ | with_reducible refine cI ?_ | with_reducible refine nilI ?_ | ((with_reducible apply varI); exact rfl) | with_reducible refine cbI ?_ | with_reducible refine ifI ?_ | with_reducible refine tstI ?_ | with_reducible refine notTI ?_ | with_reducible refine andTI ?_ | with_reducible refine orTI ?_ | with_reducible refine dropI ?_ | with_reducible refine nextI ?_ | with_reducible refine tupI ?_ | with_reducible refine lstI ?_ | with_reducible refine starI ?_ | with_reducible refine starTT ?_ | with_reducible refine andI ?_ | with_reducible refine orVI ?_ | with_reducible refine notI ?_ | with_reducible refine ifEI ?_ | with_reducible refine forI ?_ | with_reducible refine r1I ?_ | with_reducible refine ir2I ?_ | with_reducible refine iTupI ?_ | with_reducible refine truI ?_ | with_reducible refine chainI ?_ | with_reducible refine lcI ?_ | with_reducible refine slI ?_ | with_reducible refine noPI ?_ | with_reducible refine ptI ?_ | with_reducible refine unI ?_ | with_reducible refine brkI ?_ | with_reducible refine cntI ?_ | with_reducible refine retNI ?_ | with_reducible refine addII ?_ | with_reducible refine rI0 ?_ | with_reducible refine rIC ?_ ?_ | with_reducible refine mulII ?_ ?_ | with_reducible refine addTT ?_ ?_ | with_reducible refine addSS ?_ ?_ | with_reducible refine negII ?_ | with_reducible refine eqII ?_ | with_reducible refine eqSS ?_ | with_reducible refine eqBB ?_ | with_reducible refine neII ?_ | with_reducible refine neSS ?_ | with_reducible refine neBB ?_ | with_reducible refine isNN ?_ | with_reducible refine isNotNN ?_ | with_reducible refine isBB ?_ | with_reducible refine isNotBB ?_ | with_reducible refine lenTI ?_ | with_reducible refine lenFI ?_ | with_reducible refine intII ?_ | with_reducible refine intBI ?_ | with_reducible refine tupTI ?_ | with_reducible refine minII ?_ | with_reducible refine maxII ?_ | with_reducible refine slTI ?_ | with_reducible refine gcI ?_ | with_reducible refine gnI ?_ | with_reducible refine aNI ?_ | ((with_reducible refine ttI ?_ ?_); exact rfl) | ((with_reducible refine And.intro ?_ ?_); exact rfl) | ((with_reducible refine And.intro ?_ ?_); exact lenOk rfl) | dsimp only [En.s]))
    subst hY
    unfold bl_check_flips_0
    (repeat (first | with_reducible refine seqI ?_ | with_reducible refine setI ?_ | with_reducible refine asgI ?_ | with_reducible refine retI ?_ | with_reducible refine opI ?_ | with_reducible refine callI ?_ | with_reducible refine consI ?_ | with_reducible refine cI ?_ | with_reducible refine nilI ?_ | ((with_reducible apply varI); exact rfl) | with_reducible refine cbI ?_ | with_reducible refine ifI ?_ | with_reducible refine tstI ?_ | with_reducible refine notTI ?_ | with_reducible refine andTI ?_ | with_reducible refine orTI ?_ | with_reducible refine dropI ?_ | with_reducible refine nextI ?_ | with_reducible refine tupI ?_ | with_reducible refine lstI ?_ | with_reducible refine starI ?_ | with_reducible refine starTT ?_ | with_reducible refine andI ?_ | with_reducible refine orVI ?_ | with_reducible refine notI ?_ | with_reducible refine ifEI ?_ | with_reducible refine forI ?_ | with_reducible refine r1I ?_ | with_reducible refine ir2I ?_ | with_reducible refine iTupI ?_ | with_reducible refine truI ?_ | with_reducible refine chainI ?_ | with_reducible refine lcI ?_ | with_reducible refine slI ?_ | with_reducible refine noPI ?_ | with_reducible refine ptI ?_ | with_reducible refine unI ?_ | with_reducible refine brkI ?_ | with_reducible refine cntI ?_ | with_reducible refine retNI ?_ | with_reducible refine addII ?_ | with_reducible refine rI0 ?_ | with_reducible refine rIC ?_ ?_ | with_reducible refine mulII ?_ ?_ | with_reducible refine addTT ?_ ?_ | with_reducible refine addSS ?_ ?_ | with_reducible refine negII ?_ | with_reducible refine eqII ?_ | with_reducible refine eqSS ?_ | with_reducible refine eqBB ?_ | with_reducible refine neII ?_ | with_reducible refine neSS ?_ | with_reducible refine neBB ?_ | with_reducible refine isNN ?_ | with_reducible refine isNotNN ?_ | with_reducible refine isBB ?_ | with_reducible refine isNotBB ?_ | with_reducible refine lenTI ?_ | with_reducible refine lenFI ?_ | with_reducible refine intII ?_ | with_reducible refine intBI ?_ | with_reducible refine tupTI ?_ | with_reducible refine minII ?_ | with_reducible refine maxII ?_ | with_reducible refine slTI ?_ | with_reducible refine gcI ?_ | with_reducible refine gnI ?_ | with_reducible refine aNI ?_ | ((with_reducible refine ttI ?_ ?_); exact rfl) | ((with_reducible refine And.intro ?_ ?_); exact rfl) | ((with_reducible refine And.intro ?_ ?_); exact lenOk rfl) | dsimp only [En.s]))
    refine ⟨trivial, ?_⟩
    show bl_check_flips_1 p _ [some (.tup [.int a, .int b]), some (.int 24), some (.int (a + 1)), some (.int b)] m
    unfold bl_check_flips_1
    refine seqI (ifI (notTI (tstI (callI (consI (varI rfl (consI (varI rfl ?_)))))))) 
    (repeat (first | with_reducible refine seqI ?_ | with_reducible refine setI ?_ | with_reducible refine asgI ?_ | with_reducible refine retI ?_ | with_reducible refine opI ?_ | with_reducible refine callI ?_ | with_reducible refine consI ?_ | with_reducible refine cI ?_ | with_reducible refine nilI ?_ | ((with_reducible apply varI); exact rfl) | with_reducible refine cbI ?_ | with_reducible refine ifI ?_ | with_reducible refine tstI ?_ | with_reducible refine notTI ?_ | with_reducible refine andTI ?_ | with_reducible refine orTI ?_ | with_reducible refine dropI ?_ | with_reducible refine nextI ?_ | with_reducible refine tupI ?_ | with_reducible refine lstI ?_ | with_reducible refine starI ?_ | with_reducible refine starTT ?_ | with_reducible refine andI ?_ | with_reducible refine orVI ?_ | with_reducible refine notI ?_ | with_reducible refine ifEI ?_ | with_reducible refine forI ?_ | with_reducible refine r1I ?_ | with_reducible refine ir2I ?_ | with_reducible refine iTupI ?_ | with_reducible refine truI ?_ | with_reducible refine chainI ?_ | with_reducible refine lcI ?_ | with_reducible refine slI ?_ | with_reducible refine noPI ?_ | with_reducible refine ptI ?_ | with_reducible refine unI ?_ | with_reducible refine brkI ?_ | with_reducible refine cntI ?_ | with_reducible refine retNI ?_ | with_reducible refine addII ?_ | with_reducible refine rI0 ?_ | with_reducible refine rIC ?_ ?_ | with_reducible refine mulII ?_ ?_ | with_reducible refine addTT ?_ ?_ | with_reducible refine addSS ?_ ?_ | with_reducible refine negII ?_ | with_reducible refine eqII ?_ | with_reducible refine eqSS ?_ | with_reducible refine eqBB ?_ | with_reducible refine neII ?_ | with_reducible refine neSS ?_ | with_reducible refine neBB ?_ | with_reducible refine isNN ?_ | with_reducible refine isNotNN ?_ | with_reducible refine isBB ?_ | with_reducible refine isNotBB ?_ | with_reducible refine lenTI ?_ | with_reducible refine lenFI ?_ | with_reducible refine intII ?_ | with_reducible refine intBI ?_ | with_reducible refine tupTI ?_ | with_reducible refine minII ?_ | with_reducible refine maxII ?_ | with_reducible refine slTI ?_ | with_reducible refine gcI ?_ | with_reducible refine gnI ?_ | with_reducible refine aNI ?_ | ((with_reducible refine ttI ?_ ?_); exact rfl) | ((with_reducible refine And.intro ?_ ?_); exact rfl) | ((with_reducible refine And.intro ?_ ?_); exact lenOk rfl) | dsimp only [En.s]))
    exact intR (.inr (.inr ⟨b, rfl, .inl (by omega)⟩)) (bl_t rfl ⟨m, Sub.refl _, r⟩)
theorem lam3f {d : D} (h : NFl m d) (r : R ⟨p.cA "BadFlips", []⟩ m) : lam_3 p [some (.tup [.int 1, .int 2, .int 3]), some d] m Q R := by
  unfold lam_3
  refine callI (consI (varI rfl (consI (varI rfl (nilI ⟨rfl, ?_⟩)))))
  refine ent_flipped ?_
  unfold b_flipped
  refine seqI (dropI (callI (consI (varI rfl (nilI ⟨rfl, checkRow (by simp) (bytes_iD (l := [1, 2, 3]) (by decide)) ?_⟩)))))
  dsimp only
  refine seqI (dropI (callI (consI (varI rfl ?_))))
  (repeat (first | with_reducible refine seqI ?_ | with_reducible refine setI ?_ | with_reducible refine asgI ?_ | with_reducible refine retI ?_ | with_reducible refine opI ?_ | with_reducible refine callI ?_ | with_reducible refine consI ?_ | with_reducible refine cI ?_ | with_reducible refine nilI ?_ | ((with_reducible apply varI); exact rfl) | with_reducible refine cbI ?_ | with_reducible refine ifI ?_ | with_reducible refine tstI ?_ | with_reducible refine notTI ?_ | with_reducible refine andTI ?_ | with_reducible refine orTI ?_ | with_reducible refine dropI ?_ | with_reducible refine nextI ?_ | with_reducible refine tupI ?_ | with_reducible refine lstI ?_ | with_reducible refine starI ?_ | with_reducible refine starTT ?_ | with_reducible refine andI ?_ | with_reducible refine orVI ?_ | with_reducible refine notI ?_ | with_reducible refine ifEI ?_ | with_reducible refine forI ?_ | with_reducible refine r1I ?_ | with_reducible refine ir2I ?_ | with_reducible refine iTupI ?_ | with_reducible refine truI ?_ | with_reducible refine chainI ?_ | with_reducible refine lcI ?_ | with_reducible refine slI ?_ | with_reducible refine noPI ?_ | with_reducible refine ptI ?_ | with_reducible refine unI ?_ | with_reducible refine brkI ?_ | with_reducible refine cntI ?_ | with_reducible refine retNI ?_ | with_reducible refine addII ?_ | with_reducible refine rI0 ?_ | with_reducible refine rIC ?_ ?_ | with_reducible refine mulII ?_ ?_ | with_reducible refine addTT ?_ ?_ | with_reducible refine addSS ?_ ?_ | with_reducible refine negII ?_ | with_reducible refine eqII ?_ | with_reducible refine eqSS ?_ | with_reducible refine eqBB ?_ | with_reducible refine neII ?_ | with_reducible refine neSS ?_ | with_reducible refine neBB ?_ | with_reducible refine isNN ?_ | with_reducible refine isNotNN ?_ | with_reducible refine isBB ?_ | with_reducible refine isNotBB ?_ | with_reducible refine lenTI ?_ | with_reducible refine lenFI ?_ | with_reducible refine intII ?_ | with_reducible refine intBI ?_ | with_reducible refine tupTI ?_ | with_reducible refine minII ?_ | with_reducible refine maxII ?_ | with_reducible refine slTI ?_ | with_reducible refine gcI ?_ | with_reducible refine gnI ?_ | with_reducible refine aNI ?_ | ((with_reducible refine ttI ?_ ?_); exact rfl) | ((with_reducible refine And.intro ?_ ?_); exact rfl) | ((with_reducible refine And.intro ?_ ?_); exact lenOk rfl) | dsimp only [En.s]))
  · exact flipsBad h ⟨m, Sub.refl _, r⟩
  · exact cmul (by decide) (by decide)
theorem lam4f {d : D} (h : NFl m d) (r : R ⟨p.cA "BadFlips", []⟩ m) : lam_4 p [some (.int 3), some d] m Q R := by
  unfold lam_4
  refine callI (consI (varI rfl (consI (varI rfl (nilI ⟨rfl, ?_⟩)))))
  refine ent_is_unseen ?_
  unfold b_is_unseen
  refine seqI (ifI (notTI (tstI (callI (consI (varI rfl (consI (cI (consI (cI (nilI ⟨rfl, ?_⟩)))))))))))
  refine isInt_t (by decide) (by decide) (bl_f rfl ?_)
  (repeat (first | with_reducible refine seqI ?_ | with_reducible refine setI ?_ | with_reducible refine asgI ?_ | with_reducible refine retI ?_ | with_reducible refine opI ?_ | with_reducible refine callI ?_ | with_reducible refine consI ?_ | with_reducible refine cI ?_ | with_reducible refine nilI ?_ | ((with_reducible apply varI); exact rfl) | with_reducible refine cbI ?_ | with_reducible refine ifI ?_ | with_reducible refine tstI ?_ | with_reducible refine notTI ?_ | with_reducible refine andTI ?_ | with_reducible refine orTI ?_ | with_reducible refine dropI ?_ | with_reducible refine nextI ?_ | with_reducible refine tupI ?_ | with_reducible refine lstI ?_ | with_reducible refine starI ?_ | with_reducible refine starTT ?_ | with_reducible refine andI ?_ | with_reducible refine orVI ?_ | with_reducible refine notI ?_ | with_reducible refine ifEI ?_ | with_reducible refine forI ?_ | with_reducible refine r1I ?_ | with_reducible refine ir2I ?_ | with_reducible refine iTupI ?_ | with_reducible refine truI ?_ | with_reducible refine chainI ?_ | with_reducible refine lcI ?_ | with_reducible refine slI ?_ | with_reducible refine noPI ?_ | with_reducible refine ptI ?_ | with_reducible refine unI ?_ | with_reducible refine brkI ?_ | with_reducible refine cntI ?_ | with_reducible refine retNI ?_ | with_reducible refine addII ?_ | with_reducible refine rI0 ?_ | with_reducible refine rIC ?_ ?_ | with_reducible refine mulII ?_ ?_ | with_reducible refine addTT ?_ ?_ | with_reducible refine addSS ?_ ?_ | with_reducible refine negII ?_ | with_reducible refine eqII ?_ | with_reducible refine eqSS ?_ | with_reducible refine eqBB ?_ | with_reducible refine neII ?_ | with_reducible refine neSS ?_ | with_reducible refine neBB ?_ | with_reducible refine isNN ?_ | with_reducible refine isNotNN ?_ | with_reducible refine isBB ?_ | with_reducible refine isNotBB ?_ | with_reducible refine lenTI ?_ | with_reducible refine lenFI ?_ | with_reducible refine intII ?_ | with_reducible refine intBI ?_ | with_reducible refine tupTI ?_ | with_reducible refine minII ?_ | with_reducible refine maxII ?_ | with_reducible refine slTI ?_ | with_reducible refine gcI ?_ | with_reducible refine gnI ?_ | with_reducible refine aNI ?_ | ((with_reducible refine ttI ?_ ?_); exact rfl) | ((with_reducible refine And.intro ?_ ?_); exact rfl) | ((with_reducible refine And.intro ?_ ?_); exact lenOk rfl) | dsimp only [En.s]))
  · exact flipsBad h ⟨m, Sub.refl _, r⟩
  · exact cmul (by decide) (by decide)
theorem lam1m {b : List Nat} (hb : By b) (h1 : 4095 ≤ b.length) (h2 : b.length ≤ 4096) (r : R ⟨p.cA "TooMany", [("most", .int 4096)]⟩ m) : lam_1 p [some (.tup (iD b))] m Q R := by
  unfold lam_1
  refine callI (consI (varI rfl (nilI ⟨rfl, ?_⟩)))
  refine ent_sealed ?_
  unfold b_sealed
  refine seqI (dropI (callI (consI (varI rfl (nilI ⟨rfl, checkRow (by rw [iD_len]; omega) (bytes_iD hb) ?_⟩)))))
  dsimp only
  (repeat (first | with_reducible refine seqI ?_ | with_reducible refine setI ?_ | with_reducible refine asgI ?_ | with_reducible refine retI ?_ | with_reducible refine opI ?_ | with_reducible refine callI ?_ | with_reducible refine consI ?_ | with_reducible refine cI ?_ | with_reducible refine nilI ?_ | ((with_reducible apply varI); exact rfl) | with_reducible refine cbI ?_ | with_reducible refine ifI ?_ | with_reducible refine tstI ?_ | with_reducible refine notTI ?_ | with_reducible refine andTI ?_ | with_reducible refine orTI ?_ | with_reducible refine dropI ?_ | with_reducible refine nextI ?_ | with_reducible refine tupI ?_ | with_reducible refine lstI ?_ | with_reducible refine starI ?_ | with_reducible refine starTT ?_ | with_reducible refine andI ?_ | with_reducible refine orVI ?_ | with_reducible refine notI ?_ | with_reducible refine ifEI ?_ | with_reducible refine forI ?_ | with_reducible refine r1I ?_ | with_reducible refine ir2I ?_ | with_reducible refine iTupI ?_ | with_reducible refine truI ?_ | with_reducible refine chainI ?_ | with_reducible refine lcI ?_ | with_reducible refine slI ?_ | with_reducible refine noPI ?_ | with_reducible refine ptI ?_ | with_reducible refine unI ?_ | with_reducible refine brkI ?_ | with_reducible refine cntI ?_ | with_reducible refine retNI ?_ | with_reducible refine addII ?_ | with_reducible refine rI0 ?_ | with_reducible refine rIC ?_ ?_ | with_reducible refine mulII ?_ ?_ | with_reducible refine addTT ?_ ?_ | with_reducible refine addSS ?_ ?_ | with_reducible refine negII ?_ | with_reducible refine eqII ?_ | with_reducible refine eqSS ?_ | with_reducible refine eqBB ?_ | with_reducible refine neII ?_ | with_reducible refine neSS ?_ | with_reducible refine neBB ?_ | with_reducible refine isNN ?_ | with_reducible refine isNotNN ?_ | with_reducible refine isBB ?_ | with_reducible refine isNotBB ?_ | with_reducible refine lenTI ?_ | with_reducible refine lenFI ?_ | with_reducible refine intII ?_ | with_reducible refine intBI ?_ | with_reducible refine tupTI ?_ | with_reducible refine minII ?_ | with_reducible refine maxII ?_ | with_reducible refine slTI ?_ | with_reducible refine gcI ?_ | with_reducible refine gnI ?_ | with_reducible refine aNI ?_ | ((with_reducible refine ttI ?_ ?_); exact rfl) | ((with_reducible refine And.intro ?_ ?_); exact rfl) | ((with_reducible refine And.intro ?_ ?_); exact lenOk rfl) | dsimp only [En.s]))
  refine bl_t (decide_eq_true (by rw [iD_len]; omega)) ?_
  unfold aRaiseF
  (repeat (first | with_reducible refine seqI ?_ | with_reducible refine setI ?_ | with_reducible refine asgI ?_ | with_reducible refine retI ?_ | with_reducible refine opI ?_ | with_reducible refine callI ?_ | with_reducible refine consI ?_ | with_reducible refine cI ?_ | with_reducible refine nilI ?_ | ((with_reducible apply varI); exact rfl) | with_reducible refine cbI ?_ | with_reducible refine ifI ?_ | with_reducible refine tstI ?_ | with_reducible refine notTI ?_ | with_reducible refine andTI ?_ | with_reducible refine orTI ?_ | with_reducible refine dropI ?_ | with_reducible refine nextI ?_ | with_reducible refine tupI ?_ | with_reducible refine lstI ?_ | with_reducible refine starI ?_ | with_reducible refine starTT ?_ | with_reducible refine andI ?_ | with_reducible refine orVI ?_ | with_reducible refine notI ?_ | with_reducible refine ifEI ?_ | with_reducible refine forI ?_ | with_reducible refine r1I ?_ | with_reducible refine ir2I ?_ | with_reducible refine iTupI ?_ | with_reducible refine truI ?_ | with_reducible refine chainI ?_ | with_reducible refine lcI ?_ | with_reducible refine slI ?_ | with_reducible refine noPI ?_ | with_reducible refine ptI ?_ | with_reducible refine unI ?_ | with_reducible refine brkI ?_ | with_reducible refine cntI ?_ | with_reducible refine retNI ?_ | with_reducible refine addII ?_ | with_reducible refine rI0 ?_ | with_reducible refine rIC ?_ ?_ | with_reducible refine mulII ?_ ?_ | with_reducible refine addTT ?_ ?_ | with_reducible refine addSS ?_ ?_ | with_reducible refine negII ?_ | with_reducible refine eqII ?_ | with_reducible refine eqSS ?_ | with_reducible refine eqBB ?_ | with_reducible refine neII ?_ | with_reducible refine neSS ?_ | with_reducible refine neBB ?_ | with_reducible refine isNN ?_ | with_reducible refine isNotNN ?_ | with_reducible refine isBB ?_ | with_reducible refine isNotBB ?_ | with_reducible refine lenTI ?_ | with_reducible refine lenFI ?_ | with_reducible refine intII ?_ | with_reducible refine intBI ?_ | with_reducible refine tupTI ?_ | with_reducible refine minII ?_ | with_reducible refine maxII ?_ | with_reducible refine slTI ?_ | with_reducible refine gcI ?_ | with_reducible refine gnI ?_ | with_reducible refine aNI ?_ | ((with_reducible refine ttI ?_ ?_); exact rfl) | ((with_reducible refine And.intro ?_ ?_); exact rfl) | ((with_reducible refine And.intro ?_ ?_); exact lenOk rfl) | dsimp only [En.s]))
  exact ⟨m, Sub.refl _, r⟩
end
end K7

set_option linter.all false
set_option maxRecDepth 100000
set_option maxHeartbeats 2000000
namespace K7
open PySem PySem.Spec PyProof.Rows L2 Ab
theorem listI {d : D} {es : List D} {m : M} {Q : PQ} (h : itemsD m d = some es) (q : ∀ p, m p = none → Q (.ref p) (mset m p (.lst es))) : rListA [d] m Q := by
  unfold rListA; simp only [h]; exact q
section
variable {p : Pm} {m : M} {Q : PQ} {R : PX} {b : List Nat}
theorem checkOf (hb : By b) (hl : b.length ≤ 4096) (q : Q (.int (crc b : Nat)) m) : s_check_of p [.tup (iD b)] m Q R := by
  refine ent_check_of ?_
  unfold b_check_of
  refine seqI (dropI (callI (consI (varI rfl (nilI ⟨rfl, checkRow (by rw [iD_len]; omega) (bytes_iD hb) ?_⟩)))))
  dsimp only
  exact retI (callI (consI (varI rfl (nilI ⟨rfl, restOf hb ⟨m, Sub.refl _, q⟩⟩))))
theorem isRight (hb : By b) (q : Q (.bl (decide (2 ≤ b.length) && decide (crc b = 0))) m) : s_is_right [.tup (iD b)] m Q R := by
  refine ent_is_right ?_
  unfold b_is_right
  refine retI (andI (opI (cbI (consI (varI rfl (nilI ?_))))))
  simp only [rLenA, lenT]
  refine cI ?_
  rw [geI, iD_len]
  refine imp_pos (fun c => ?_) (fun c => ⟨m, Sub.refl _, ?_⟩)
  · have c' : 2 ≤ b.length := by have := of_decide_eq_true c; omega
    refine opI (callI (consI (varI rfl (nilI ⟨rfl, restOf hb (cI ?_)⟩))))
    rw [eqI]
    refine ⟨m, Sub.refl _, ?_⟩
    rw [decide_eq_true c', Bool.true_and] at q
    by_cases z : crc b = 0
    · rw [decide_eq_true (by omega)]; rw [decide_eq_true z] at q; exact q
    · rw [decide_eq_false (by omega)]; rw [decide_eq_false z] at q; exact q
  · have c' : ¬ 2 ≤ b.length := fun z => c (decide_eq_true (by omega))
    rw [decide_eq_false c'] at q
    exact q
theorem isSealed (hb : By b) (hl : b.length ≤ 4096) (q : Q (.bl (decide (2 ≤ b.length) && decide (crc b = 0))) m) : s_is_sealed p [.tup (iD b)] m Q R := by
  refine ent_is_sealed ?_
  unfold b_is_sealed
  refine seqI (dropI (callI (consI (varI rfl (nilI ⟨rfl, checkRow (by rw [iD_len]; omega) (bytes_iD hb) ?_⟩)))))
  dsimp only
  exact retI (callI (consI (varI rfl (nilI ⟨rfl, isRight hb ⟨m, Sub.refl _, q⟩⟩))))
theorem sealedOf (hb : By b) (hl : b.length ≤ 4094) (q : Q (.tup (iD (b ++ be 2 (crc b)))) m) : s_sealed p [.tup (iD b)] m Q R := by
  refine ent_sealed ?_
  unfold b_sealed
  refine seqI (dropI (callI (consI (varI rfl (nilI ⟨rfl, checkRow (by rw [iD_len]; omega) (bytes_iD hb) ?_⟩)))))
  dsimp only
  refine seqI (ifI (tstI (opI (cbI (consI (varI rfl (nilI ?_)))))))
  simp only [rLenA, lenT]
  refine opI (cI (cI ?_))
  rw [subI, gtI]
  refine imp_pos (fun c => absurd (of_decide_eq_true c) (by rw [iD_len]; omega)) (fun _ => nextI ?_)
  dsimp only
  refine retI (tupI (starI (varI rfl ?_)))
  rw [starT]
  refine starI (callI (consI (callI (consI (varI rfl (nilI ⟨rfl, restOf hb ?_⟩))))))
  refine consI (cI (nilI ⟨rfl, fixedCode (k := 2) (by decide) ?_⟩))
  rw [starT]
  refine nilI ?_
  have l2 := be_len 2 (crc b)
  rw [List.append_nil, ← iD_app]
  exact ⟨by rw [iD_len, List.length_append]; unfold big; omega, m, Sub.refl _, q⟩

theorem noFlips {k : Int} (q : Q .non m) : s_check_flips p [.tup [], .int k] m Q R := by
  refine ent_check_flips ?_
  unfold b_check_flips
  refine seqI (ifI (notTI (tstI (callI (consI (varI rfl (consI (cI (consI (cI (nilI ⟨rfl, ?_⟩)))))))))))
  refine tupOf (by simp) (by simp) (bl_f rfl ?_)
  (repeat (first | with_reducible refine seqI ?_ | with_reducible refine setI ?_ | with_reducible refine asgI ?_ | with_reducible refine retI ?_ | with_reducible refine opI ?_ | with_reducible refine callI ?_ | with_reducible refine consI ?_ | with_reducible refine cI ?_ | with_reducible refine nilI ?_ | ((with_reducible apply varI); exact rfl) | with_reducible refine cbI ?_ | with_reducible refine ifI ?_ | with_reducible refine tstI ?_ | with_reducible refine notTI ?_ | with_reducible refine andTI ?_ | with_reducible refine orTI ?_ | with_reducible refine dropI ?_ | with_reducible refine nextI ?_ | with_reducible refine tupI ?_ | with_reducible refine lstI ?_ | with_reducible refine starI ?_ | with_reducible refine starTT ?_ | with_reducible refine andI ?_ | with_reducible refine orVI ?_ | with_reducible refine notI ?_ | with_reducible refine ifEI ?_ | with_reducible refine forI ?_ | with_reducible refine r1I ?_ | with_reducible refine ir2I ?_ | with_reducible refine iTupI ?_ | with_reducible refine truI ?_ | with_reducible refine chainI ?_ | with_reducible refine lcI ?_ | with_reducible refine slI ?_ | with_reducible refine noPI ?_ | with_reducible refine ptI ?_ | with_reducible refine unI ?_ | with_reducible refine brkI ?_ | with_reducible refine cntI ?_ | with_reducible refine retNI ?_ | with_reducible refine addII ?_ | with_reducible refine rI0 ?_ | with_reducible refine rIC ?_ ?_ | with_reducible refine mulII ?_ ?_ | with_reducible refine addTT ?_ ?_ | with_reducible refine addSS ?_ ?_ | with_reducible refine negII ?_ | with_reducible refine eqII ?_ | with_reducible refine eqSS ?_ | with_reducible refine eqBB ?_ | with_reducible refine neII ?_ | with_reducible refine neSS ?_ | with_reducible refine neBB ?_ | with_reducible refine isNN ?_ | with_reducible refine isNotNN ?_ | with_reducible refine isBB ?_ | with_reducible refine isNotBB ?_ | with_reducible refine lenTI ?_ | with_reducible refine lenFI ?_ | with_reducible refine intII ?_ | with_reducible refine intBI ?_ | with_reducible refine tupTI ?_ | with_reducible refine minII ?_ | with_reducible refine maxII ?_ | with_reducible refine slTI ?_ | with_reducible refine gcI ?_ | with_reducible refine gnI ?_ | with_reducible refine aNI ?_ | ((with_reducible refine ttI ?_ ?_); exact rfl) | ((with_reducible refine And.intro ?_ ?_); exact rfl) | ((with_reducible refine And.intro ?_ ?_); exact lenOk rfl) | dsimp only [En.s]))
  unfold bl_check_flips_3
  generalize hX : bl_check_flips_2 p = X
  (repeat (first | with_reducible refine seqI ?_ | with_reducible refine setI ?_ | with_reducible refine asgI ?_ | with_reducible refine retI ?_ | with_reducible refine opI ?_ | with_reducible refine callI ?_ | with_reducible refine consI ?_ | with_reducible refine cI ?_ | with_reducible refine nilI ?_ | ((with_reducible apply varI); exact rfl) | with_reducible refine cbI ?_ | with_reducible refine ifI ?_ | with_reducible refine tstI ?_ | with_reducible refine notTI ?_ | with_reducible refine andTI ?_ | with_reducible refine orTI ?_ | with_reducible refine dropI ?_ | with_reducible refine nextI ?_ | with_reducible refine tupI ?_ | with_reducible refine lstI ?_ | with_reducible refine starI ?_ | with_reducible refine starTT ?_ | with_reducible refine andI ?_ | with_reducible refine orVI ?_ | with_reducible refine notI ?_ | with_reducible refine ifEI ?_ | with_reducible refine forI ?_ | with_reducible refine r1I ?_ | with_reducible refine ir2I ?_ | with_reducible refine iTupI ?_ | with_reducible refine truI ?_ | with_reducible refine chainI ?_ | with_reducible refine lcI ?_ | with_reducible refine slI ?_ | with_reducible refine noPI ?_ | with_reducible refine ptI ?_ | with_reducible refine unI ?_ | with_reducible refine brkI ?_ | with_reducible refine cntI ?_ | with_reducible refine retNI ?_ | with_reducible refine addII ?_ | with_reducible refine rI0 ?_ | with_reducible refine rIC ?_ ?_ | with_reducible refine mulII ?_ ?_ | with_reducible refine addTT ?_ ?_ | with_reducible refine addSS ?_ ?_ | with_reducible refine negII ?_ | with_reducible refine eqII ?_ | with_reducible refine eqSS ?_ | with_reducible refine eqBB ?_ | with_reducible refine neII ?_ | with_reducible refine neSS ?_ | with_reducible refine neBB ?_ | with_reducible refine isNN ?_ | with_reducible refine isNotNN ?_ | with_reducible refine isBB ?_ | with_reducible refine isNotBB ?_ | with_reducible refine lenTI ?_ | with_reducible refine lenFI ?_ | with_reducible refine intII ?_ | with_reducible refine intBI ?_ | with_reducible refine tupTI ?_ | with_reducible refine minII ?_ | with_reducible refine maxII ?_ | with_reducible refine slTI ?_ | with_reducible refine gcI ?_ | with_reducible refine gnI ?_ | with_reducible refine aNI ?_ | ((with_reducible refine ttI ?_ ?_); exact rfl) | ((with_reducible refine And.intro ?_ ?_); exact rfl) | ((with_reducible refine And.intro ?_ ?_); exact lenOk rfl) | dsimp only [En.s]))
  subst hX
  unfold bl_check_flips_2
  refine forI (iTupI (varI rfl ?_))
  exact ⟨trivial, m, Sub.refl _, q⟩
theorem keptRow (hl : b.length ≤ 4096) (q : ∀ m', Sub m m' → Q (.tup (iD b)) m') : s_with_flips [.tup (iD b), .tup []] m Q R := by
  refine ent_with_flips ?_
  unfold b_with_flips
  refine seqI (setI (cbI (consI (varI rfl (nilI ?_)))))
  refine listI (es := iD b) rfl fun a ha => ?_
  (repeat (first | with_reducible refine seqI ?_ | with_reducible refine setI ?_ | with_reducible refine asgI ?_ | with_reducible refine retI ?_ | with_reducible refine opI ?_ | with_reducible refine callI ?_ | with_reducible refine consI ?_ | with_reducible refine cI ?_ | with_reducible refine nilI ?_ | ((with_reducible apply varI); exact rfl) | with_reducible refine cbI ?_ | with_reducible refine ifI ?_ | with_reducible refine tstI ?_ | with_reducible refine notTI ?_ | with_reducible refine andTI ?_ | with_reducible refine orTI ?_ | with_reducible refine dropI ?_ | with_reducible refine nextI ?_ | with_reducible refine tupI ?_ | with_reducible refine lstI ?_ | with_reducible refine starI ?_ | with_reducible refine starTT ?_ | with_reducible refine andI ?_ | with_reducible refine orVI ?_ | with_reducible refine notI ?_ | with_reducible refine ifEI ?_ | with_reducible refine forI ?_ | with_reducible refine r1I ?_ | with_reducible refine ir2I ?_ | with_reducible refine iTupI ?_ | with_reducible refine truI ?_ | with_reducible refine chainI ?_ | with_reducible refine lcI ?_ | with_reducible refine slI ?_ | with_reducible refine noPI ?_ | with_reducible refine ptI ?_ | with_reducible refine unI ?_ | with_reducible refine brkI ?_ | with_reducible refine cntI ?_ | with_reducible refine retNI ?_ | with_reducible refine addII ?_ | with_reducible refine rI0 ?_ | with_reducible refine rIC ?_ ?_ | with_reducible refine mulII ?_ ?_ | with_reducible refine addTT ?_ ?_ | with_reducible refine addSS ?_ ?_ | with_reducible refine negII ?_ | with_reducible refine eqII ?_ | with_reducible refine eqSS ?_ | with_reducible refine eqBB ?_ | with_reducible refine neII ?_ | with_reducible refine neSS ?_ | with_reducible refine neBB ?_ | with_reducible refine isNN ?_ | with_reducible refine isNotNN ?_ | with_reducible refine isBB ?_ | with_reducible refine isNotBB ?_ | with_reducible refine lenTI ?_ | with_reducible refine lenFI ?_ | with_reducible refine intII ?_ | with_reducible refine intBI ?_ | with_reducible refine tupTI ?_ | with_reducible refine minII ?_ | with_reducible refine maxII ?_ | with_reducible refine slTI ?_ | with_reducible refine gcI ?_ | with_reducible refine gnI ?_ | with_reducible refine aNI ?_ | ((with_reducible refine ttI ?_ ?_); exact rfl) | ((with_reducible refine And.intro ?_ ?_); exact rfl) | ((with_reducible refine And.intro ?_ ?_); exact lenOk rfl) | dsimp only [En.s]))
  refine ⟨trivial, ?_⟩
  (repeat (first | with_reducible refine seqI ?_ | with_reducible refine setI ?_ | with_reducible refine asgI ?_ | with_reducible refine retI ?_ | with_reducible refine opI ?_ | with_reducible refine callI ?_ | with_reducible refine consI ?_ | with_reducible refine cI ?_ | with_reducible refine nilI ?_ | ((with_reducible apply varI); exact rfl) | with_reducible refine cbI ?_ | with_reducible refine ifI ?_ | with_reducible refine tstI ?_ | with_reducible refine notTI ?_ | with_reducible refine andTI ?_ | with_reducible refine orTI ?_ | with_reducible refine dropI ?_ | with_reducible refine nextI ?_ | with_reducible refine tupI ?_ | with_reducible refine lstI ?_ | with_reducible refine starI ?_ | with_reducible refine starTT ?_ | with_reducible refine andI ?_ | with_reducible refine orVI ?_ | with_reducible refine notI ?_ | with_reducible refine ifEI ?_ | with_reducible refine forI ?_ | with_reducible refine r1I ?_ | with_reducible refine ir2I ?_ | with_reducible refine iTupI ?_ | with_reducible refine truI ?_ | with_reducible refine chainI ?_ | with_reducible refine lcI ?_ | with_reducible refine slI ?_ | with_reducible refine noPI ?_ | with_reducible refine ptI ?_ | with_reducible refine unI ?_ | with_reducible refine brkI ?_ | with_reducible refine cntI ?_ | with_reducible refine retNI ?_ | with_reducible refine addII ?_ | with_reducible refine rI0 ?_ | with_reducible refine rIC ?_ ?_ | with_reducible refine mulII ?_ ?_ | with_reducible refine addTT ?_ ?_ | with_reducible refine addSS ?_ ?_ | with_reducible refine negII ?_ | with_reducible refine eqII ?_ | with_reducible refine eqSS ?_ | with_reducible refine eqBB ?_ | with_reducible refine neII ?_ | with_reducible refine neSS ?_ | with_reducible refine neBB ?_ | with_reducible refine isNN ?_ | with_reducible refine isNotNN ?_ | with_reducible refine isBB ?_ | with_reducible refine isNotBB ?_ | with_reducible refine lenTI ?_ | with_reducible refine lenFI ?_ | with_reducible refine intII ?_ | with_reducible refine intBI ?_ | with_reducible refine tupTI ?_ | with_reducible refine minII ?_ | with_reducible refine maxII ?_ | with_reducible refine slTI ?_ | with_reducible refine gcI ?_ | with_reducible refine gnI ?_ | with_reducible refine aNI ?_ | ((with_reducible refine ttI ?_ ?_); exact rfl) | ((with_reducible refine And.intro ?_ ?_); exact rfl) | ((with_reducible refine And.intro ?_ ?_); exact lenOk rfl) | dsimp only [En.s]))
  refine tupRI l_same ?_
  (repeat (first | with_reducible refine seqI ?_ | with_reducible refine setI ?_ | with_reducible refine asgI ?_ | with_reducible refine retI ?_ | with_reducible refine opI ?_ | with_reducible refine callI ?_ | with_reducible refine consI ?_ | with_reducible refine cI ?_ | with_reducible refine nilI ?_ | ((with_reducible apply varI); exact rfl) | with_reducible refine cbI ?_ | with_reducible refine ifI ?_ | with_reducible refine tstI ?_ | with_reducible refine notTI ?_ | with_reducible refine andTI ?_ | with_reducible refine orTI ?_ | with_reducible refine dropI ?_ | with_reducible refine nextI ?_ | with_reducible refine tupI ?_ | with_reducible refine lstI ?_ | with_reducible refine starI ?_ | with_reducible refine starTT ?_ | with_reducible refine andI ?_ | with_reducible refine orVI ?_ | with_reducible refine notI ?_ | with_reducible refine ifEI ?_ | with_reducible refine forI ?_ | with_reducible refine r1I ?_ | with_reducible refine ir2I ?_ | with_reducible refine iTupI ?_ | with_reducible refine truI ?_ | with_reducible refine chainI ?_ | with_reducible refine lcI ?_ | with_reducible refine slI ?_ | with_reducible refine noPI ?_ | with_reducible refine ptI ?_ | with_reducible refine unI ?_ | with_reducible refine brkI ?_ | with_reducible refine cntI ?_ | with_reducible refine retNI ?_ | with_reducible refine addII ?_ | with_reducible refine rI0 ?_ | with_reducible refine rIC ?_ ?_ | with_reducible refine mulII ?_ ?_ | with_reducible refine addTT ?_ ?_ | with_reducible refine addSS ?_ ?_ | with_reducible refine negII ?_ | with_reducible refine eqII ?_ | with_reducible refine eqSS ?_ | with_reducible refine eqBB ?_ | with_reducible refine neII ?_ | with_reducible refine neSS ?_ | with_reducible refine neBB ?_ | with_reducible refine isNN ?_ | with_reducible refine isNotNN ?_ | with_reducible refine isBB ?_ | with_reducible refine isNotBB ?_ | with_reducible refine lenTI ?_ | with_reducible refine lenFI ?_ | with_reducible refine intII ?_ | with_reducible refine intBI ?_ | with_reducible refine tupTI ?_ | with_reducible refine minII ?_ | with_reducible refine maxII ?_ | with_reducible refine slTI ?_ | with_reducible refine gcI ?_ | with_reducible refine gnI ?_ | with_reducible refine aNI ?_ | ((with_reducible refine ttI ?_ ?_); exact rfl) | ((with_reducible refine And.intro ?_ ?_); exact rfl) | ((with_reducible refine And.intro ?_ ?_); exact lenOk rfl) | dsimp only [En.s]))
  exact ⟨_, Sub.refl _, q _ (Sub.new ha)⟩
theorem ok0 (hb : By b) (hl : b.length ≤ 4094) (q : ∀ d m', Sub m m' → Q d m') : lam_0 p [some (.tup (iD b))] m Q R := by
  unfold lam_0
  exact callI (consI (varI rfl (nilI ⟨rfl, checkOf hb (by omega) (q _ m (Sub.refl _))⟩)))
theorem ok1 (hb : By b) (hl : b.length ≤ 4094) (q : ∀ d m', Sub m m' → Q d m') : lam_1 p [some (.tup (iD b))] m Q R := by
  unfold lam_1
  exact callI (consI (varI rfl (nilI ⟨rfl, sealedOf hb hl (q _ m (Sub.refl _))⟩)))
theorem ok2 (hb : By b) (hl : b.length ≤ 4094) (q : ∀ d m', Sub m m' → Q d m') : lam_2 p [some (.tup (iD b))] m Q R := by
  unfold lam_2
  exact callI (consI (varI rfl (nilI ⟨rfl, isSealed hb (by omega) (q _ m (Sub.refl _))⟩)))
theorem ok3 (hb : By b) (hl : b.length ≤ 4094) (q : ∀ d m', Sub m m' → Q d m') : lam_3 p [some (.tup (iD b)), some (.tup [])] m Q R := by
  unfold lam_3
  refine callI (consI (varI rfl (consI (varI rfl (nilI ⟨rfl, ?_⟩)))))
  refine ent_flipped ?_
  unfold b_flipped
  refine seqI (dropI (callI (consI (varI rfl (nilI ⟨rfl, checkRow (by rw [iD_len]; omega) (bytes_iD hb) ?_⟩)))))
  dsimp only
  refine seqI (dropI (callI (consI (varI rfl ?_))))
  (repeat (first | with_reducible refine seqI ?_ | with_reducible refine setI ?_ | with_reducible refine asgI ?_ | with_reducible refine retI ?_ | with_reducible refine opI ?_ | with_reducible refine callI ?_ | with_reducible refine consI ?_ | with_reducible refine cI ?_ | with_reducible refine nilI ?_ | ((with_reducible apply varI); exact rfl) | with_reducible refine cbI ?_ | with_reducible refine ifI ?_ | with_reducible refine tstI ?_ | with_reducible refine notTI ?_ | with_reducible refine andTI ?_ | with_reducible refine orTI ?_ | with_reducible refine dropI ?_ | with_reducible refine nextI ?_ | with_reducible refine tupI ?_ | with_reducible refine lstI ?_ | with_reducible refine starI ?_ | with_reducible refine starTT ?_ | with_reducible refine andI ?_ | with_reducible refine orVI ?_ | with_reducible refine notI ?_ | with_reducible refine ifEI ?_ | with_reducible refine forI ?_ | with_reducible refine r1I ?_ | with_reducible refine ir2I ?_ | with_reducible refine iTupI ?_ | with_reducible refine truI ?_ | with_reducible refine chainI ?_ | with_reducible refine lcI ?_ | with_reducible refine slI ?_ | with_reducible refine noPI ?_ | with_reducible refine ptI ?_ | with_reducible refine unI ?_ | with_reducible refine brkI ?_ | with_reducible refine cntI ?_ | with_reducible refine retNI ?_ | with_reducible refine addII ?_ | with_reducible refine rI0 ?_ | with_reducible refine rIC ?_ ?_ | with_reducible refine mulII ?_ ?_ | with_reducible refine addTT ?_ ?_ | with_reducible refine addSS ?_ ?_ | with_reducible refine negII ?_ | with_reducible refine eqII ?_ | with_reducible refine eqSS ?_ | with_reducible refine eqBB ?_ | with_reducible refine neII ?_ | with_reducible refine neSS ?_ | with_reducible refine neBB ?_ | with_reducible refine isNN ?_ | with_reducible refine isNotNN ?_ | with_reducible refine isBB ?_ | with_reducible refine isNotBB ?_ | with_reducible refine lenTI ?_ | with_reducible refine lenFI ?_ | with_reducible refine intII ?_ | with_reducible refine intBI ?_ | with_reducible refine tupTI ?_ | with_reducible refine minII ?_ | with_reducible refine maxII ?_ | with_reducible refine slTI ?_ | with_reducible refine gcI ?_ | with_reducible refine gnI ?_ | with_reducible refine aNI ?_ | ((with_reducible refine ttI ?_ ?_); exact rfl) | ((with_reducible refine And.intro ?_ ?_); exact rfl) | ((with_reducible refine And.intro ?_ ?_); exact lenOk rfl) | dsimp only [En.s]))
  · refine noFlips ?_
    (repeat (first | with_reducible refine seqI ?_ | with_reducible refine setI ?_ | with_reducible refine asgI ?_ | with_reducible refine retI ?_ | with_reducible refine opI ?_ | with_reducible refine callI ?_ | with_reducible refine consI ?_ | with_reducible refine cI ?_ | with_reducible refine nilI ?_ | ((with_reducible apply varI); exact rfl) | with_reducible refine cbI ?_ | with_reducible refine ifI ?_ | with_reducible refine tstI ?_ | with_reducible refine notTI ?_ | with_reducible refine andTI ?_ | with_reducible refine orTI ?_ | with_reducible refine dropI ?_ | with_reducible refine nextI ?_ | with_reducible refine tupI ?_ | with_reducible refine lstI ?_ | with_reducible refine starI ?_ | with_reducible refine starTT ?_ | with_reducible refine andI ?_ | with_reducible refine orVI ?_ | with_reducible refine notI ?_ | with_reducible refine ifEI ?_ | with_reducible refine forI ?_ | with_reducible refine r1I ?_ | with_reducible refine ir2I ?_ | with_reducible refine iTupI ?_ | with_reducible refine truI ?_ | with_reducible refine chainI ?_ | with_reducible refine lcI ?_ | with_reducible refine slI ?_ | with_reducible refine noPI ?_ | with_reducible refine ptI ?_ | with_reducible refine unI ?_ | with_reducible refine brkI ?_ | with_reducible refine cntI ?_ | with_reducible refine retNI ?_ | with_reducible refine addII ?_ | with_reducible refine rI0 ?_ | with_reducible refine rIC ?_ ?_ | with_reducible refine mulII ?_ ?_ | with_reducible refine addTT ?_ ?_ | with_reducible refine addSS ?_ ?_ | with_reducible refine negII ?_ | with_reducible refine eqII ?_ | with_reducible refine eqSS ?_ | with_reducible refine eqBB ?_ | with_reducible refine neII ?_ | with_reducible refine neSS ?_ | with_reducible refine neBB ?_ | with_reducible refine isNN ?_ | with_reducible refine isNotNN ?_ | with_reducible refine isBB ?_ | with_reducible refine isNotBB ?_ | with_reducible refine lenTI ?_ | with_reducible refine lenFI ?_ | with_reducible refine intII ?_ | with_reducible refine intBI ?_ | with_reducible refine tupTI ?_ | with_reducible refine minII ?_ | with_reducible refine maxII ?_ | with_reducible refine slTI ?_ | with_reducible refine gcI ?_ | with_reducible refine gnI ?_ | with_reducible refine aNI ?_ | ((with_reducible refine ttI ?_ ?_); exact rfl) | ((with_reducible refine And.intro ?_ ?_); exact rfl) | ((with_reducible refine And.intro ?_ ?_); exact lenOk rfl) | dsimp only [En.s]))
    exact keptRow (by omega) fun m' s => ⟨m', Sub.refl _, q _ m' s⟩
  · exact cmul (by decide) (by rw [iD_len]; omega)
end
end K7

set_option linter.all false
set_option maxRecDepth 100000
set_option maxHeartbeats 2000000
namespace K7
open PySem PySem.Spec PyProof.Rows L2 Ab
structure St (p : Pm) (ns : List Int) (r : Addr) (m : M) : Prop where
  row : RowAt ns m r
  tab : m p.P = some (.ltab lq)
section
variable {p : Pm} {ns : List Int} {r : Addr} {m m' : M}
theorem RowAt.sub (h : RowAt ns m r) (s : Ab.Sub m m') : RowAt ns m' r := by
  obtain ⟨i, s', k, a, b, c, d, e⟩ := h
  exact ⟨i, s', k, a, b, c, d, s _ _ e⟩
theorem St.ne (h : St p ns r m) : p.P ≠ r := fun z => by
  obtain ⟨i, s', k, a, b, c, d, e⟩ := h.row
  have := h.tab
  rw [z, e] at this; cases this
theorem St.sub (h : St p ns r m) (s : Ab.Sub m m') : St p ns r m' := ⟨h.row.sub s, s _ _ h.tab⟩
theorem St.ev (h : St p ns r m) (hr : RowAt ns m' r) (e : Ev r m m') : St p ns r m' := ⟨hr, e _ _ h.ne h.tab⟩
theorem St.new {a : Addr} {o : O} (h : St p ns r m) (ha : m a = none) : St p ns r (mset m a o) := h.sub (Ab.Sub.new ha)
theorem evS (s : Ab.Sub m m') : Ev r m m' := fun a o _ h => s a o h
end
theorem iLstN {te : AE} {e : En} {m : M} {P : List D → (M → Prop) → M → Prop} {R : PX} (h : te e m (fun d m1 => match d with
  | .fls ds => P ds (fun _ => True) m1
  | .ref a => (match m1 a with
    | some (.lst ds) => P ds (fun m2 => m2 a = some (.lst ds)) m1
    | _ => False)
  | _ => False) R) : aILst te e m P R := h
theorem iLstLit {aa : AA} {e : En} {m : M} {P : List D → (M → Prop) → M → Prop} {R : PX} (h : aa e m (fun ds m1 => ds.length ≤ big ∧ ∀ a, m1 a = none → P ds (fun m2 => m2 a = some (.lst ds)) (mset m1 a (.lst ds))) R) : aILst (aLst aa) e m P R := by
  unfold aILst aLst
  simp only [mset_same]
  exact h
theorem slRI {a : Addr} {ds : List D} {l u : Option Int} {m : M} {Q : PQ} (hl : m.l a = some ds) (h : ∀ p, m p = none → Q (.ref p) (mset m p (.lst (Ab.cutD ds l u)))) : Ab.rSlA (.ref a) l u m Q := by
  rw [slR, hl]; exact h
theorem eqRR {a b : Addr} {ds : List D} {ps : List PyData} {m : M} {Q : PQ} (ha : m.l a = some ds) (hb : m.l b = some ds) (hp : D.pys ds = some ps) (hs : SeqAt.shaped (.list ps) = true) (he : PyData.eqv (.list ps) (.list ps) = true) (q : Q (.bl true) m) : rEqA (.ref a) (.ref b) m Q := by
  have e : ∀ c, m.l c = some ds → D.pyM m (.ref c) = some (.list ps) := fun c h => by
    show (match m.l c with | some ds => (D.pys ds).map PyData.list | none => none) = _
    rw [h]
    simp only [hp, Option.map_some]
  show (match D.pyM m (.ref a), D.pyM m (.ref b) with
    | some p, some q => (SeqAt.shaped p = true ∧ SeqAt.shaped q = true) ∧ Q (.bl (PyData.eqv p q)) m
    | _, _ => False)
  rw [e a ha, e b hb]
  exact ⟨⟨hs, hs⟩, by rw [he]; exact q⟩
theorem neRR {a b : Addr} {ds : List D} {ps : List PyData} {m : M} {Q : PQ} (ha : m.l a = some ds) (hb : m.l b = some ds) (hp : D.pys ds = some ps) (hs : SeqAt.shaped (.list ps) = true) (he : PyData.eqv (.list ps) (.list ps) = true) (q : Q (.bl false) m) : rNeA (.ref a) (.ref b) m Q :=
  eqRR (Q := fun d m => match d with | .bl b => Q (.bl (!b)) m | _ => False) ha hb hp hs he q
/-- a comprehension whose every item gives the same text -/
theorem lc_same {e : En} {i : Nat} {te : AE} {a : Addr} {gd : M → Prop} {s : D} {Q : PQ} {m0 : M} (ha : m0 a = none) (hgd : ∀ m', Ab.Sub m0 m' → gd m') : ∀ (its : List D) (acc : List D) (m : M), (∀ x ∈ its, ∀ m1 Q', Ab.Sub m0 m1 → (∀ m2, Ab.Sub m1 m2 → Q' s m2) → te (e.s i x) m1 Q' (fun _ _ => False)) →
    m a = some (.lst acc) → Ab.Sub m0 m → acc.length + its.length ≤ 64 → (∀ m', Ab.Sub m0 m' → m' a = some (.lst (acc ++ List.replicate its.length s)) → Q (.ref a) m') → lcL (aN i) aYes te e a gd its Q m
  | [], acc, m, hte, hm, hs, hl, q => ⟨hgd _ hs, q m hs (by simpa using hm)⟩
  | x :: its, acc, m, hte, hm, hs, hl, q => by
    refine ⟨hgd _ hs, ?_⟩
    refine hte x (by simp) m _ hs fun m2 s2 => ?_
    show (match m2 a with | some (.lst acc) => acc.length < big ∧ _ | _ => False)
    rw [s2 _ _ hm]
    simp at hl
    refine ⟨Nat.lt_of_le_of_lt (show acc.length ≤ 64 by omega) (by unfold big; decide), ?_⟩
    refine lc_same ha hgd its (acc ++ [s]) _ (fun y hy => hte y (by simp [hy])) mset_same (fun b o h => ?_) (by simp; omega) fun m' h1 h2 => q m' h1 (by rw [h2, List.length_cons, List.replicate_succ]; simp)
    rw [mset_ne fun z => by rw [z, ha] at h; cases h]
    exact s2 _ _ (hs _ _ h)
section
variable {p : Pm} {ns : List Int} {r : Addr} {m : M} {A : AEnds} {x0 x2 x3 x4 x5 : Option D}
theorem t0 : T_lam p (p.L 0) ["one"] (lam_0 p) := .inl ⟨rfl, rfl, rfl⟩
theorem t1 : T_lam p (p.L 1) ["one"] (lam_1 p) := .inr (.inl ⟨rfl, rfl, rfl⟩)
theorem t2 : T_lam p (p.L 2) ["one"] (lam_2 p) := .inr (.inr (.inl ⟨rfl, rfl, rfl⟩))
theorem t3 : T_lam p (p.L 3) ["one", "other"] (lam_3 p) := .inr (.inr (.inr (.inl ⟨rfl, rfl, rfl⟩)))
theorem t4 : T_lam p (p.L 4) ["one", "other"] (lam_4 p) := .inr (.inr (.inr (.inr (.inl ⟨rfl, rfl, rfl⟩))))
theorem t5 : T_lam p (p.L 5) ["one"] (lam_5 p) := .inr (.inr (.inr (.inr (.inr (⟨rfl, rfl, rfl⟩)))))
theorem St.subx (h : St p ns r m) {m' : M} (s : ∀ a o, (∀ g, o ≠ .xd g) → m a = some o → m' a = some o) : St p ns r m' := by
  refine ⟨?_, s _ _ (fun g z => by cases z) h.tab⟩
  obtain ⟨i, s', k, a, b, c, d, e⟩ := h.row
  exact ⟨i, s', k, a, b, c, d, s _ _ (fun g z => by cases z) e⟩
theorem at5 {a b c d e f : D} {l : List D} : atI (a :: b :: c :: d :: e :: f :: l) 5 = some f := by rw [atI_nat (by decide) (by simp only [List.length_cons]; omega)]; rfl
theorem neTT {ds : List D} {ps : List PyData} {m : M} {Q : PQ} (hp : D.pys ds = some ps) (hs : SeqAt.shaped (.tuple ps) = true) (he : PyData.eqv (.tuple ps) (.tuple ps) = true) (q : Q (.bl false) m) : rNeA (.tup ds) (.tup ds) m Q := by
  have e : D.pyM m (.tup ds) = some (.tuple ps) := by
    show (D.pys ds).map PyData.tuple = _
    rw [hp]; rfl
  show (match D.pyM m (.tup ds), D.pyM m (.tup ds) with
    | some p, some q => (SeqAt.shaped p = true ∧ SeqAt.shaped q = true) ∧ Q (.bl (!PyData.eqv p q)) m
    | _, _ => False)
  rw [e]
  exact ⟨⟨hs, hs⟩, by rw [he]; exact q⟩
theorem pickF {a : Addr} {ds : List D} {Q : PQ} {R : PX} (h : RowAt ns m r) (hp : m a = none) (h0 : 0 < ds.length) (hb : ds.length < 2 ^ 62) (q : ∀ d m', d ∈ ds → RowAt ns m' r → Ev r m m' → Q d m') : s_f_law_pick [.ref r, .ref a] (mset m a (.lst ds)) Q R :=
  pick (h.new hp) mset_same (h.ne hp) h0 hb fun d m' hd hr ev => q d m' hd hr ((Ev.new hp).trans ev)
theorem flat1 {x : D} : ∀ n : Nat, (List.replicate n [x]).flatten = List.replicate n x
  | 0 => rfl
  | n + 1 => by rw [List.replicate_succ, List.flatten_cons, flat1 n]; rfl
theorem mulRI {a : Addr} {x : D} {k : Int} {n : Nat} {m : M} {Q : PQ} (hl : m.l a = some [x]) (hk : k = (n : Int)) (h3 : n ≤ 1000) (q : ∀ p, m p = none → Q (.ref p) (mset m p (.lst (List.replicate n x)))) : rMulA (.ref a) (.int k) m Q := by
  subst hk
  rw [mulR, hl]
  refine ⟨⟨by omega, by omega, ?_⟩, fun p hp => ?_⟩
  · rw [Int.toNat_natCast]; simp; exact Nat.le_trans h3 (by unfold big; decide)
  · rw [Int.toNat_natCast, flat1]
    exact q p hp
theorem dnewI {e : En} {m : M} {Q : PQ} {R : PX} (h : ∀ p, m p = none → Q (.ref p) (mset m p (.dic []))) : aDNew e m Q R := h
abbrev zs (n : Nat) : List Nat := List.replicate n 0
theorem zs_by (n : Nat) : By (zs n) := fun x h => by
  have := (List.mem_replicate.mp h).2
  omega
theorem zs_len (n : Nat) : (zs n).length = n := List.length_replicate ..
theorem law0 (pk : Ok p) (h : St p ns r m) (q : ∀ m', A.rt (.bl true) m') : bl_law_0 p A [x0, some (.ref r), x2, x3, x4, x5] m := by
  unfold bl_law_0
  (repeat (first | with_reducible refine seqI ?_ | with_reducible refine setI ?_ | with_reducible refine asgI ?_ | with_reducible refine retI ?_ | with_reducible refine opI ?_ | with_reducible refine callI ?_ | with_reducible refine consI ?_ | with_reducible refine cI ?_ | with_reducible refine nilI ?_ | ((with_reducible apply varI); exact rfl) | with_reducible refine cbI ?_ | with_reducible refine ifI ?_ | with_reducible refine tstI ?_ | with_reducible refine notTI ?_ | with_reducible refine andTI ?_ | with_reducible refine orTI ?_ | with_reducible refine dropI ?_ | with_reducible refine nextI ?_ | with_reducible refine tupI ?_ | with_reducible refine lstI ?_ | with_reducible refine starI ?_ | with_reducible refine starTT ?_ | with_reducible refine andI ?_ | with_reducible refine orVI ?_ | with_reducible refine notI ?_ | with_reducible refine ifEI ?_ | with_reducible refine forI ?_ | with_reducible refine r1I ?_ | with_reducible refine ir2I ?_ | with_reducible refine iTupI ?_ | with_reducible refine truI ?_ | with_reducible refine chainI ?_ | with_reducible refine lcI ?_ | with_reducible refine slI ?_ | with_reducible refine noPI ?_ | with_reducible refine ptI ?_ | with_reducible refine unI ?_ | with_reducible refine brkI ?_ | with_reducible refine cntI ?_ | with_reducible refine retNI ?_ | with_reducible refine addII ?_ | with_reducible refine rI0 ?_ | with_reducible refine rIC ?_ ?_ | with_reducible refine mulII ?_ ?_ | with_reducible refine addTT ?_ ?_ | with_reducible refine addSS ?_ ?_ | with_reducible refine negII ?_ | with_reducible refine eqII ?_ | with_reducible refine eqSS ?_ | with_reducible refine eqBB ?_ | with_reducible refine neII ?_ | with_reducible refine neSS ?_ | with_reducible refine neBB ?_ | with_reducible refine isNN ?_ | with_reducible refine isNotNN ?_ | with_reducible refine isBB ?_ | with_reducible refine isNotBB ?_ | with_reducible refine lenTI ?_ | with_reducible refine lenFI ?_ | with_reducible refine intII ?_ | with_reducible refine intBI ?_ | with_reducible refine tupTI ?_ | with_reducible refine minII ?_ | with_reducible refine maxII ?_ | with_reducible refine slTI ?_ | with_reducible refine gcI ?_ | with_reducible refine gnI ?_ | with_reducible refine aNI ?_ | ((with_reducible refine ttI ?_ ?_); exact rfl) | ((with_reducible refine And.intro ?_ ?_); exact rfl) | ((with_reducible refine And.intro ?_ ?_); exact lenOk rfl) | dsimp only [En.s]))
  refine iLstN ?_
  (repeat (first | with_reducible refine seqI ?_ | with_reducible refine setI ?_ | with_reducible refine asgI ?_ | with_reducible refine retI ?_ | with_reducible refine opI ?_ | with_reducible refine callI ?_ | with_reducible refine consI ?_ | with_reducible refine cI ?_ | with_reducible refine nilI ?_ | ((with_reducible apply varI); exact rfl) | with_reducible refine cbI ?_ | with_reducible refine ifI ?_ | with_reducible refine tstI ?_ | with_reducible refine notTI ?_ | with_reducible refine andTI ?_ | with_reducible refine orTI ?_ | with_reducible refine dropI ?_ | with_reducible refine nextI ?_ | with_reducible refine tupI ?_ | with_reducible refine lstI ?_ | with_reducible refine starI ?_ | with_reducible refine starTT ?_ | with_reducible refine andI ?_ | with_reducible refine orVI ?_ | with_reducible refine notI ?_ | with_reducible refine ifEI ?_ | with_reducible refine forI ?_ | with_reducible refine r1I ?_ | with_reducible refine ir2I ?_ | with_reducible refine iTupI ?_ | with_reducible refine truI ?_ | with_reducible refine chainI ?_ | with_reducible refine lcI ?_ | with_reducible refine slI ?_ | with_reducible refine noPI ?_ | with_reducible refine ptI ?_ | with_reducible refine unI ?_ | with_reducible refine brkI ?_ | with_reducible refine cntI ?_ | with_reducible refine retNI ?_ | with_reducible refine addII ?_ | with_reducible refine rI0 ?_ | with_reducible refine rIC ?_ ?_ | with_reducible refine mulII ?_ ?_ | with_reducible refine addTT ?_ ?_ | with_reducible refine addSS ?_ ?_ | with_reducible refine negII ?_ | with_reducible refine eqII ?_ | with_reducible refine eqSS ?_ | with_reducible refine eqBB ?_ | with_reducible refine neII ?_ | with_reducible refine neSS ?_ | with_reducible refine neBB ?_ | with_reducible refine isNN ?_ | with_reducible refine isNotNN ?_ | with_reducible refine isBB ?_ | with_reducible refine isNotBB ?_ | with_reducible refine lenTI ?_ | with_reducible refine lenFI ?_ | with_reducible refine intII ?_ | with_reducible refine intBI ?_ | with_reducible refine tupTI ?_ | with_reducible refine minII ?_ | with_reducible refine maxII ?_ | with_reducible refine slTI ?_ | with_reducible refine gcI ?_ | with_reducible refine gnI ?_ | with_reducible refine aNI ?_ | ((with_reducible refine ttI ?_ ?_); exact rfl) | ((with_reducible refine And.intro ?_ ?_); exact rfl) | ((with_reducible refine And.intro ?_ ?_); exact lenOk rfl) | dsimp only [En.s]))
  refine mulXT (n := 4094) rfl (by decide) (by decide) ?_
  rw [rep0]
  (repeat (first | with_reducible refine seqI ?_ | with_reducible refine setI ?_ | with_reducible refine asgI ?_ | with_reducible refine retI ?_ | with_reducible refine opI ?_ | with_reducible refine callI ?_ | with_reducible refine consI ?_ | with_reducible refine cI ?_ | with_reducible refine nilI ?_ | ((with_reducible apply varI); exact rfl) | with_reducible refine cbI ?_ | with_reducible refine ifI ?_ | with_reducible refine tstI ?_ | with_reducible refine notTI ?_ | with_reducible refine andTI ?_ | with_reducible refine orTI ?_ | with_reducible refine dropI ?_ | with_reducible refine nextI ?_ | with_reducible refine tupI ?_ | with_reducible refine lstI ?_ | with_reducible refine starI ?_ | with_reducible refine starTT ?_ | with_reducible refine andI ?_ | with_reducible refine orVI ?_ | with_reducible refine notI ?_ | with_reducible refine ifEI ?_ | with_reducible refine forI ?_ | with_reducible refine r1I ?_ | with_reducible refine ir2I ?_ | with_reducible refine iTupI ?_ | with_reducible refine truI ?_ | with_reducible refine chainI ?_ | with_reducible refine lcI ?_ | with_reducible refine slI ?_ | with_reducible refine noPI ?_ | with_reducible refine ptI ?_ | with_reducible refine unI ?_ | with_reducible refine brkI ?_ | with_reducible refine cntI ?_ | with_reducible refine retNI ?_ | with_reducible refine addII ?_ | with_reducible refine rI0 ?_ | with_reducible refine rIC ?_ ?_ | with_reducible refine mulII ?_ ?_ | with_reducible refine addTT ?_ ?_ | with_reducible refine addSS ?_ ?_ | with_reducible refine negII ?_ | with_reducible refine eqII ?_ | with_reducible refine eqSS ?_ | with_reducible refine eqBB ?_ | with_reducible refine neII ?_ | with_reducible refine neSS ?_ | with_reducible refine neBB ?_ | with_reducible refine isNN ?_ | with_reducible refine isNotNN ?_ | with_reducible refine isBB ?_ | with_reducible refine isNotBB ?_ | with_reducible refine lenTI ?_ | with_reducible refine lenFI ?_ | with_reducible refine intII ?_ | with_reducible refine intBI ?_ | with_reducible refine tupTI ?_ | with_reducible refine minII ?_ | with_reducible refine maxII ?_ | with_reducible refine slTI ?_ | with_reducible refine gcI ?_ | with_reducible refine gnI ?_ | with_reducible refine aNI ?_ | ((with_reducible refine ttI ?_ ?_); exact rfl) | ((with_reducible refine And.intro ?_ ?_); exact rfl) | ((with_reducible refine And.intro ?_ ?_); exact lenOk rfl) | dsimp only [En.s]))
  refine works pk h.tab fun l f0 f1 f2 f3 f4 f5 m1 hl s1 W => ?_
  (repeat (first | with_reducible refine seqI ?_ | with_reducible refine setI ?_ | with_reducible refine asgI ?_ | with_reducible refine retI ?_ | with_reducible refine opI ?_ | with_reducible refine callI ?_ | with_reducible refine consI ?_ | with_reducible refine cI ?_ | with_reducible refine nilI ?_ | ((with_reducible apply varI); exact rfl) | with_reducible refine cbI ?_ | with_reducible refine ifI ?_ | with_reducible refine tstI ?_ | with_reducible refine notTI ?_ | with_reducible refine andTI ?_ | with_reducible refine orTI ?_ | with_reducible refine dropI ?_ | with_reducible refine nextI ?_ | with_reducible refine tupI ?_ | with_reducible refine lstI ?_ | with_reducible refine starI ?_ | with_reducible refine starTT ?_ | with_reducible refine andI ?_ | with_reducible refine orVI ?_ | with_reducible refine notI ?_ | with_reducible refine ifEI ?_ | with_reducible refine forI ?_ | with_reducible refine r1I ?_ | with_reducible refine ir2I ?_ | with_reducible refine iTupI ?_ | with_reducible refine truI ?_ | with_reducible refine chainI ?_ | with_reducible refine lcI ?_ | with_reducible refine slI ?_ | with_reducible refine noPI ?_ | with_reducible refine ptI ?_ | with_reducible refine unI ?_ | with_reducible refine brkI ?_ | with_reducible refine cntI ?_ | with_reducible refine retNI ?_ | with_reducible refine addII ?_ | with_reducible refine rI0 ?_ | with_reducible refine rIC ?_ ?_ | with_reducible refine mulII ?_ ?_ | with_reducible refine addTT ?_ ?_ | with_reducible refine addSS ?_ ?_ | with_reducible refine negII ?_ | with_reducible refine eqII ?_ | with_reducible refine eqSS ?_ | with_reducible refine eqBB ?_ | with_reducible refine neII ?_ | with_reducible refine neSS ?_ | with_reducible refine neBB ?_ | with_reducible refine isNN ?_ | with_reducible refine isNotNN ?_ | with_reducible refine isBB ?_ | with_reducible refine isNotBB ?_ | with_reducible refine lenTI ?_ | with_reducible refine lenFI ?_ | with_reducible refine intII ?_ | with_reducible refine intBI ?_ | with_reducible refine tupTI ?_ | with_reducible refine minII ?_ | with_reducible refine maxII ?_ | with_reducible refine slTI ?_ | with_reducible refine gcI ?_ | with_reducible refine gnI ?_ | with_reducible refine aNI ?_ | ((with_reducible refine ttI ?_ ?_); exact rfl) | ((with_reducible refine And.intro ?_ ?_); exact rfl) | ((with_reducible refine And.intro ?_ ?_); exact lenOk rfl) | dsimp only [En.s]))
  refine slRI (l_of W.lst) fun a ha => ?_
  rw [show Ab.cutD [D.ref f0, .ref f1, .ref f2, .ref f3, .ref f4, .ref f5] none (some 4) = [.ref f0, .ref f1, .ref f2, .ref f3] from rfl]
  have ea : (mset m1 a (.lst [D.ref f0, .ref f1, .ref f2, .ref f3])) a = some (.lst [D.ref f0, .ref f1, .ref f2, .ref f3]) := mset_same
  have sa := Ab.Sub.new (o := .lst [D.ref f0, .ref f1, .ref f2, .ref f3]) ha
  generalize mset m1 a (.lst [D.ref f0, .ref f1, .ref f2, .ref f3]) = m2 at ea sa ⊢
  show (match m2 a with | some (.lst ds) => _ | _ => False)
  rw [ea]
  intro b hb
  refine lc_same (m0 := m2) (s := .non) hb (fun m' s => s _ _ ea) _ [] _ (fun x hx m3 Q' s3 q' => ?_) mset_same (Ab.Sub.new hb) (by simp) fun m' s3 hm' => ?_
  · (repeat (first | with_reducible refine seqI ?_ | with_reducible refine setI ?_ | with_reducible refine asgI ?_ | with_reducible refine retI ?_ | with_reducible refine opI ?_ | with_reducible refine callI ?_ | with_reducible refine consI ?_ | with_reducible refine cI ?_ | with_reducible refine nilI ?_ | ((with_reducible apply varI); exact rfl) | with_reducible refine cbI ?_ | with_reducible refine ifI ?_ | with_reducible refine tstI ?_ | with_reducible refine notTI ?_ | with_reducible refine andTI ?_ | with_reducible refine orTI ?_ | with_reducible refine dropI ?_ | with_reducible refine nextI ?_ | with_reducible refine tupI ?_ | with_reducible refine lstI ?_ | with_reducible refine starI ?_ | with_reducible refine starTT ?_ | with_reducible refine andI ?_ | with_reducible refine orVI ?_ | with_reducible refine notI ?_ | with_reducible refine ifEI ?_ | with_reducible refine forI ?_ | with_reducible refine r1I ?_ | with_reducible refine ir2I ?_ | with_reducible refine iTupI ?_ | with_reducible refine truI ?_ | with_reducible refine chainI ?_ | with_reducible refine lcI ?_ | with_reducible refine slI ?_ | with_reducible refine noPI ?_ | with_reducible refine ptI ?_ | with_reducible refine unI ?_ | with_reducible refine brkI ?_ | with_reducible refine cntI ?_ | with_reducible refine retNI ?_ | with_reducible refine addII ?_ | with_reducible refine rI0 ?_ | with_reducible refine rIC ?_ ?_ | with_reducible refine mulII ?_ ?_ | with_reducible refine addTT ?_ ?_ | with_reducible refine addSS ?_ ?_ | with_reducible refine negII ?_ | with_reducible refine eqII ?_ | with_reducible refine eqSS ?_ | with_reducible refine eqBB ?_ | with_reducible refine neII ?_ | with_reducible refine neSS ?_ | with_reducible refine neBB ?_ | with_reducible refine isNN ?_ | with_reducible refine isNotNN ?_ | with_reducible refine isBB ?_ | with_reducible refine isNotBB ?_ | with_reducible refine lenTI ?_ | with_reducible refine lenFI ?_ | with_reducible refine intII ?_ | with_reducible refine intBI ?_ | with_reducible refine tupTI ?_ | with_reducible refine minII ?_ | with_reducible refine maxII ?_ | with_reducible refine slTI ?_ | with_reducible refine gcI ?_ | with_reducible refine gnI ?_ | with_reducible refine aNI ?_ | ((with_reducible refine ttI ?_ ?_); exact rfl) | ((with_reducible refine And.intro ?_ ?_); exact rfl) | ((with_reducible refine And.intro ?_ ?_); exact lenOk rfl) | dsimp only [En.s]))
    have go : ∀ {f : Addr} {L : LSyn} {ys : List Str} {ds : List D} {t : AE}, m1 f = some (.clo L ys ds) → T_lam p L ys t → (∀ Q' R', (∀ d m', Ab.Sub (hideC m3) m' → Q' d m') → t (ds.map some) (hideC m3) Q' R') → s_f_law_refused p [.ref f] m3 Q' fun _ _ => False := fun hf hT ht => worked pk (s3 _ _ (sa _ _ hf)) hT ht fun m4 s4 => q' m4 s4
    simp only [List.mem_cons, List.not_mem_nil, or_false] at hx
    rcases hx with e | e | e | e <;> subst e
    · exact go W.w0 t0 fun Q R hR => ok0 (zs_by 4094) (by rw [zs_len]; decide) hR
    · exact go W.w1 t1 fun Q R hR => ok1 (zs_by 4094) (by rw [zs_len]; decide) hR
    · exact go W.w2 t2 fun Q R hR => ok2 (zs_by 4094) (by rw [zs_len]; decide) hR
    · exact go W.w3 t3 fun Q R hR => ok3 (zs_by 4094) (by rw [zs_len]; decide) hR
  · (repeat (first | with_reducible refine seqI ?_ | with_reducible refine setI ?_ | with_reducible refine asgI ?_ | with_reducible refine retI ?_ | with_reducible refine opI ?_ | with_reducible refine callI ?_ | with_reducible refine consI ?_ | with_reducible refine cI ?_ | with_reducible refine nilI ?_ | ((with_reducible apply varI); exact rfl) | with_reducible refine cbI ?_ | with_reducible refine ifI ?_ | with_reducible refine tstI ?_ | with_reducible refine notTI ?_ | with_reducible refine andTI ?_ | with_reducible refine orTI ?_ | with_reducible refine dropI ?_ | with_reducible refine nextI ?_ | with_reducible refine tupI ?_ | with_reducible refine lstI ?_ | with_reducible refine starI ?_ | with_reducible refine starTT ?_ | with_reducible refine andI ?_ | with_reducible refine orVI ?_ | with_reducible refine notI ?_ | with_reducible refine ifEI ?_ | with_reducible refine forI ?_ | with_reducible refine r1I ?_ | with_reducible refine ir2I ?_ | with_reducible refine iTupI ?_ | with_reducible refine truI ?_ | with_reducible refine chainI ?_ | with_reducible refine lcI ?_ | with_reducible refine slI ?_ | with_reducible refine noPI ?_ | with_reducible refine ptI ?_ | with_reducible refine unI ?_ | with_reducible refine brkI ?_ | with_reducible refine cntI ?_ | with_reducible refine retNI ?_ | with_reducible refine addII ?_ | with_reducible refine rI0 ?_ | with_reducible refine rIC ?_ ?_ | with_reducible refine mulII ?_ ?_ | with_reducible refine addTT ?_ ?_ | with_reducible refine addSS ?_ ?_ | with_reducible refine negII ?_ | with_reducible refine eqII ?_ | with_reducible refine eqSS ?_ | with_reducible refine eqBB ?_ | with_reducible refine neII ?_ | with_reducible refine neSS ?_ | with_reducible refine neBB ?_ | with_reducible refine isNN ?_ | with_reducible refine isNotNN ?_ | with_reducible refine isBB ?_ | with_reducible refine isNotBB ?_ | with_reducible refine lenTI ?_ | with_reducible refine lenFI ?_ | with_reducible refine intII ?_ | with_reducible refine intBI ?_ | with_reducible refine tupTI ?_ | with_reducible refine minII ?_ | with_reducible refine maxII ?_ | with_reducible refine slTI ?_ | with_reducible refine gcI ?_ | with_reducible refine gnI ?_ | with_reducible refine aNI ?_ | ((with_reducible refine ttI ?_ ?_); exact rfl) | ((with_reducible refine And.intro ?_ ?_); exact rfl) | ((with_reducible refine And.intro ?_ ?_); exact lenOk rfl) | dsimp only [En.s]))
    intro c hc
    have nb : b ≠ c := fun z => by rw [← z, hm'] at hc; cases hc
    have s4 := Ab.Sub.new (o := .lst [D.non]) hc
    have ec : (mset m' c (.lst [D.non])) c = some (.lst [D.non]) := mset_same
    generalize mset m' c (.lst [D.non]) = m4 at s4 ec ⊢
    (repeat (first | with_reducible refine seqI ?_ | with_reducible refine setI ?_ | with_reducible refine asgI ?_ | with_reducible refine retI ?_ | with_reducible refine opI ?_ | with_reducible refine callI ?_ | with_reducible refine consI ?_ | with_reducible refine cI ?_ | with_reducible refine nilI ?_ | ((with_reducible apply varI); exact rfl) | with_reducible refine cbI ?_ | with_reducible refine ifI ?_ | with_reducible refine tstI ?_ | with_reducible refine notTI ?_ | with_reducible refine andTI ?_ | with_reducible refine orTI ?_ | with_reducible refine dropI ?_ | with_reducible refine nextI ?_ | with_reducible refine tupI ?_ | with_reducible refine lstI ?_ | with_reducible refine starI ?_ | with_reducible refine starTT ?_ | with_reducible refine andI ?_ | with_reducible refine orVI ?_ | with_reducible refine notI ?_ | with_reducible refine ifEI ?_ | with_reducible refine forI ?_ | with_reducible refine r1I ?_ | with_reducible refine ir2I ?_ | with_reducible refine iTupI ?_ | with_reducible refine truI ?_ | with_reducible refine chainI ?_ | with_reducible refine lcI ?_ | with_reducible refine slI ?_ | with_reducible refine noPI ?_ | with_reducible refine ptI ?_ | with_reducible refine unI ?_ | with_reducible refine brkI ?_ | with_reducible refine cntI ?_ | with_reducible refine retNI ?_ | with_reducible refine addII ?_ | with_reducible refine rI0 ?_ | with_reducible refine rIC ?_ ?_ | with_reducible refine mulII ?_ ?_ | with_reducible refine addTT ?_ ?_ | with_reducible refine addSS ?_ ?_ | with_reducible refine negII ?_ | with_reducible refine eqII ?_ | with_reducible refine eqSS ?_ | with_reducible refine eqBB ?_ | with_reducible refine neII ?_ | with_reducible refine neSS ?_ | with_reducible refine neBB ?_ | with_reducible refine isNN ?_ | with_reducible refine isNotNN ?_ | with_reducible refine isBB ?_ | with_reducible refine isNotBB ?_ | with_reducible refine lenTI ?_ | with_reducible refine lenFI ?_ | with_reducible refine intII ?_ | with_reducible refine intBI ?_ | with_reducible refine tupTI ?_ | with_reducible refine minII ?_ | with_reducible refine maxII ?_ | with_reducible refine slTI ?_ | with_reducible refine gcI ?_ | with_reducible refine gnI ?_ | with_reducible refine aNI ?_ | ((with_reducible refine ttI ?_ ?_); exact rfl) | ((with_reducible refine And.intro ?_ ?_); exact rfl) | ((with_reducible refine And.intro ?_ ?_); exact lenOk rfl) | dsimp only [En.s]))
    refine mulRI (n := 4) (l_of ec) rfl (by decide) fun f hf => ?_
    have nf : b ≠ f := fun z => by rw [← z, s4 _ _ hm'] at hf; cases hf
    refine eqRR (ds := [.non, .non, .non, .non]) (ps := [.none, .none, .none, .none]) (by rw [l_ne nf]; exact l_of (s4 _ _ hm')) l_same rfl (by decide +kernel) (by decide +kernel) ?_
    exact q _
theorem law1 (pk : Ok p) (hfl : p.fld (p.cA "TooMany") "most" = true) (h : St p ns r m) (q : ∀ m', A.rt (.bl true) m') : bl_law_1 p A [x0, some (.ref r), x2, x3, x4, x5] m := by
  unfold bl_law_1
  generalize hX : bl_law_0 = X
  (repeat (first | with_reducible refine seqI ?_ | with_reducible refine setI ?_ | with_reducible refine asgI ?_ | with_reducible refine retI ?_ | with_reducible refine opI ?_ | with_reducible refine callI ?_ | with_reducible refine consI ?_ | with_reducible refine cI ?_ | with_reducible refine nilI ?_ | ((with_reducible apply varI); exact rfl) | with_reducible refine cbI ?_ | with_reducible refine ifI ?_ | with_reducible refine tstI ?_ | with_reducible refine notTI ?_ | with_reducible refine andTI ?_ | with_reducible refine orTI ?_ | with_reducible refine dropI ?_ | with_reducible refine nextI ?_ | with_reducible refine tupI ?_ | with_reducible refine lstI ?_ | with_reducible refine starI ?_ | with_reducible refine starTT ?_ | with_reducible refine andI ?_ | with_reducible refine orVI ?_ | with_reducible refine notI ?_ | with_reducible refine ifEI ?_ | with_reducible refine forI ?_ | with_reducible refine r1I ?_ | with_reducible refine ir2I ?_ | with_reducible refine iTupI ?_ | with_reducible refine truI ?_ | with_reducible refine chainI ?_ | with_reducible refine lcI ?_ | with_reducible refine slI ?_ | with_reducible refine noPI ?_ | with_reducible refine ptI ?_ | with_reducible refine unI ?_ | with_reducible refine brkI ?_ | with_reducible refine cntI ?_ | with_reducible refine retNI ?_ | with_reducible refine addII ?_ | with_reducible refine rI0 ?_ | with_reducible refine rIC ?_ ?_ | with_reducible refine mulII ?_ ?_ | with_reducible refine addTT ?_ ?_ | with_reducible refine addSS ?_ ?_ | with_reducible refine negII ?_ | with_reducible refine eqII ?_ | with_reducible refine eqSS ?_ | with_reducible refine eqBB ?_ | with_reducible refine neII ?_ | with_reducible refine neSS ?_ | with_reducible refine neBB ?_ | with_reducible refine isNN ?_ | with_reducible refine isNotNN ?_ | with_reducible refine isBB ?_ | with_reducible refine isNotBB ?_ | with_reducible refine lenTI ?_ | with_reducible refine lenFI ?_ | with_reducible refine intII ?_ | with_reducible refine intBI ?_ | with_reducible refine tupTI ?_ | with_reducible refine minII ?_ | with_reducible refine maxII ?_ | with_reducible refine slTI ?_ | with_reducible refine gcI ?_ | with_reducible refine gnI ?_ | with_reducible refine aNI ?_ | ((with_reducible refine ttI ?_ ?_); exact rfl) | ((with_reducible refine And.intro ?_ ?_); exact rfl) | ((with_reducible refine And.intro ?_ ?_); exact lenOk rfl) | dsimp only [En.s]))
  refine taken h.row (by decide) (by decide) fun k m0 a0 b0 hr0 e0 => ?_
  obtain ⟨k, rfl⟩ := Int.eq_ofNat_of_zero_le a0
  have h0 := h.ev hr0 e0
  (repeat (first | with_reducible refine seqI ?_ | with_reducible refine setI ?_ | with_reducible refine asgI ?_ | with_reducible refine retI ?_ | with_reducible refine opI ?_ | with_reducible refine callI ?_ | with_reducible refine consI ?_ | with_reducible refine cI ?_ | with_reducible refine nilI ?_ | ((with_reducible apply varI); exact rfl) | with_reducible refine cbI ?_ | with_reducible refine ifI ?_ | with_reducible refine tstI ?_ | with_reducible refine notTI ?_ | with_reducible refine andTI ?_ | with_reducible refine orTI ?_ | with_reducible refine dropI ?_ | with_reducible refine nextI ?_ | with_reducible refine tupI ?_ | with_reducible refine lstI ?_ | with_reducible refine starI ?_ | with_reducible refine starTT ?_ | with_reducible refine andI ?_ | with_reducible refine orVI ?_ | with_reducible refine notI ?_ | with_reducible refine ifEI ?_ | with_reducible refine forI ?_ | with_reducible refine r1I ?_ | with_reducible refine ir2I ?_ | with_reducible refine iTupI ?_ | with_reducible refine truI ?_ | with_reducible refine chainI ?_ | with_reducible refine lcI ?_ | with_reducible refine slI ?_ | with_reducible refine noPI ?_ | with_reducible refine ptI ?_ | with_reducible refine unI ?_ | with_reducible refine brkI ?_ | with_reducible refine cntI ?_ | with_reducible refine retNI ?_ | with_reducible refine addII ?_ | with_reducible refine rI0 ?_ | with_reducible refine rIC ?_ ?_ | with_reducible refine mulII ?_ ?_ | with_reducible refine addTT ?_ ?_ | with_reducible refine addSS ?_ ?_ | with_reducible refine negII ?_ | with_reducible refine eqII ?_ | with_reducible refine eqSS ?_ | with_reducible refine eqBB ?_ | with_reducible refine neII ?_ | with_reducible refine neSS ?_ | with_reducible refine neBB ?_ | with_reducible refine isNN ?_ | with_reducible refine isNotNN ?_ | with_reducible refine isBB ?_ | with_reducible refine isNotBB ?_ | with_reducible refine lenTI ?_ | with_reducible refine lenFI ?_ | with_reducible refine intII ?_ | with_reducible refine intBI ?_ | with_reducible refine tupTI ?_ | with_reducible refine minII ?_ | with_reducible refine maxII ?_ | with_reducible refine slTI ?_ | with_reducible refine gcI ?_ | with_reducible refine gnI ?_ | with_reducible refine aNI ?_ | ((with_reducible refine ttI ?_ ?_); exact rfl) | ((with_reducible refine And.intro ?_ ?_); exact rfl) | ((with_reducible refine And.intro ?_ ?_); exact lenOk rfl) | dsimp only [En.s]))
  refine mulXT (n := 4095 + k) (by omega) (by omega) (by omega) ?_
  rw [rep0]
  (repeat (first | with_reducible refine seqI ?_ | with_reducible refine setI ?_ | with_reducible refine asgI ?_ | with_reducible refine retI ?_ | with_reducible refine opI ?_ | with_reducible refine callI ?_ | with_reducible refine consI ?_ | with_reducible refine cI ?_ | with_reducible refine nilI ?_ | ((with_reducible apply varI); exact rfl) | with_reducible refine cbI ?_ | with_reducible refine ifI ?_ | with_reducible refine tstI ?_ | with_reducible refine notTI ?_ | with_reducible refine andTI ?_ | with_reducible refine orTI ?_ | with_reducible refine dropI ?_ | with_reducible refine nextI ?_ | with_reducible refine tupI ?_ | with_reducible refine lstI ?_ | with_reducible refine starI ?_ | with_reducible refine starTT ?_ | with_reducible refine andI ?_ | with_reducible refine orVI ?_ | with_reducible refine notI ?_ | with_reducible refine ifEI ?_ | with_reducible refine forI ?_ | with_reducible refine r1I ?_ | with_reducible refine ir2I ?_ | with_reducible refine iTupI ?_ | with_reducible refine truI ?_ | with_reducible refine chainI ?_ | with_reducible refine lcI ?_ | with_reducible refine slI ?_ | with_reducible refine noPI ?_ | with_reducible refine ptI ?_ | with_reducible refine unI ?_ | with_reducible refine brkI ?_ | with_reducible refine cntI ?_ | with_reducible refine retNI ?_ | with_reducible refine addII ?_ | with_reducible refine rI0 ?_ | with_reducible refine rIC ?_ ?_ | with_reducible refine mulII ?_ ?_ | with_reducible refine addTT ?_ ?_ | with_reducible refine addSS ?_ ?_ | with_reducible refine negII ?_ | with_reducible refine eqII ?_ | with_reducible refine eqSS ?_ | with_reducible refine eqBB ?_ | with_reducible refine neII ?_ | with_reducible refine neSS ?_ | with_reducible refine neBB ?_ | with_reducible refine isNN ?_ | with_reducible refine isNotNN ?_ | with_reducible refine isBB ?_ | with_reducible refine isNotBB ?_ | with_reducible refine lenTI ?_ | with_reducible refine lenFI ?_ | with_reducible refine intII ?_ | with_reducible refine intBI ?_ | with_reducible refine tupTI ?_ | with_reducible refine minII ?_ | with_reducible refine maxII ?_ | with_reducible refine slTI ?_ | with_reducible refine gcI ?_ | with_reducible refine gnI ?_ | with_reducible refine aNI ?_ | ((with_reducible refine ttI ?_ ?_); exact rfl) | ((with_reducible refine And.intro ?_ ?_); exact rfl) | ((with_reducible refine And.intro ?_ ?_); exact lenOk rfl) | dsimp only [En.s]))
  refine works pk h0.tab fun l f0 f1 f2 f3 f4 f5 m1 hl s1 W => ?_
  (repeat (first | with_reducible refine seqI ?_ | with_reducible refine setI ?_ | with_reducible refine asgI ?_ | with_reducible refine retI ?_ | with_reducible refine opI ?_ | with_reducible refine callI ?_ | with_reducible refine consI ?_ | with_reducible refine cI ?_ | with_reducible refine nilI ?_ | ((with_reducible apply varI); exact rfl) | with_reducible refine cbI ?_ | with_reducible refine ifI ?_ | with_reducible refine tstI ?_ | with_reducible refine notTI ?_ | with_reducible refine andTI ?_ | with_reducible refine orTI ?_ | with_reducible refine dropI ?_ | with_reducible refine nextI ?_ | with_reducible refine tupI ?_ | with_reducible refine lstI ?_ | with_reducible refine starI ?_ | with_reducible refine starTT ?_ | with_reducible refine andI ?_ | with_reducible refine orVI ?_ | with_reducible refine notI ?_ | with_reducible refine ifEI ?_ | with_reducible refine forI ?_ | with_reducible refine r1I ?_ | with_reducible refine ir2I ?_ | with_reducible refine iTupI ?_ | with_reducible refine truI ?_ | with_reducible refine chainI ?_ | with_reducible refine lcI ?_ | with_reducible refine slI ?_ | with_reducible refine noPI ?_ | with_reducible refine ptI ?_ | with_reducible refine unI ?_ | with_reducible refine brkI ?_ | with_reducible refine cntI ?_ | with_reducible refine retNI ?_ | with_reducible refine addII ?_ | with_reducible refine rI0 ?_ | with_reducible refine rIC ?_ ?_ | with_reducible refine mulII ?_ ?_ | with_reducible refine addTT ?_ ?_ | with_reducible refine addSS ?_ ?_ | with_reducible refine negII ?_ | with_reducible refine eqII ?_ | with_reducible refine eqSS ?_ | with_reducible refine eqBB ?_ | with_reducible refine neII ?_ | with_reducible refine neSS ?_ | with_reducible refine neBB ?_ | with_reducible refine isNN ?_ | with_reducible refine isNotNN ?_ | with_reducible refine isBB ?_ | with_reducible refine isNotBB ?_ | with_reducible refine lenTI ?_ | with_reducible refine lenFI ?_ | with_reducible refine intII ?_ | with_reducible refine intBI ?_ | with_reducible refine tupTI ?_ | with_reducible refine minII ?_ | with_reducible refine maxII ?_ | with_reducible refine slTI ?_ | with_reducible refine gcI ?_ | with_reducible refine gnI ?_ | with_reducible refine aNI ?_ | ((with_reducible refine ttI ?_ ?_); exact rfl) | ((with_reducible refine And.intro ?_ ?_); exact rfl) | ((with_reducible refine And.intro ?_ ?_); exact lenOk rfl) | dsimp only [En.s]))
  refine ixRI (l_of W.lst) (d := .ref f1) at1 ?_
  (repeat (first | with_reducible refine seqI ?_ | with_reducible refine setI ?_ | with_reducible refine asgI ?_ | with_reducible refine retI ?_ | with_reducible refine opI ?_ | with_reducible refine callI ?_ | with_reducible refine consI ?_ | with_reducible refine cI ?_ | with_reducible refine nilI ?_ | ((with_reducible apply varI); exact rfl) | with_reducible refine cbI ?_ | with_reducible refine ifI ?_ | with_reducible refine tstI ?_ | with_reducible refine notTI ?_ | with_reducible refine andTI ?_ | with_reducible refine orTI ?_ | with_reducible refine dropI ?_ | with_reducible refine nextI ?_ | with_reducible refine tupI ?_ | with_reducible refine lstI ?_ | with_reducible refine starI ?_ | with_reducible refine starTT ?_ | with_reducible refine andI ?_ | with_reducible refine orVI ?_ | with_reducible refine notI ?_ | with_reducible refine ifEI ?_ | with_reducible refine forI ?_ | with_reducible refine r1I ?_ | with_reducible refine ir2I ?_ | with_reducible refine iTupI ?_ | with_reducible refine truI ?_ | with_reducible refine chainI ?_ | with_reducible refine lcI ?_ | with_reducible refine slI ?_ | with_reducible refine noPI ?_ | with_reducible refine ptI ?_ | with_reducible refine unI ?_ | with_reducible refine brkI ?_ | with_reducible refine cntI ?_ | with_reducible refine retNI ?_ | with_reducible refine addII ?_ | with_reducible refine rI0 ?_ | with_reducible refine rIC ?_ ?_ | with_reducible refine mulII ?_ ?_ | with_reducible refine addTT ?_ ?_ | with_reducible refine addSS ?_ ?_ | with_reducible refine negII ?_ | with_reducible refine eqII ?_ | with_reducible refine eqSS ?_ | with_reducible refine eqBB ?_ | with_reducible refine neII ?_ | with_reducible refine neSS ?_ | with_reducible refine neBB ?_ | with_reducible refine isNN ?_ | with_reducible refine isNotNN ?_ | with_reducible refine isBB ?_ | with_reducible refine isNotBB ?_ | with_reducible refine lenTI ?_ | with_reducible refine lenFI ?_ | with_reducible refine intII ?_ | with_reducible refine intBI ?_ | with_reducible refine tupTI ?_ | with_reducible refine minII ?_ | with_reducible refine maxII ?_ | with_reducible refine slTI ?_ | with_reducible refine gcI ?_ | with_reducible refine gnI ?_ | with_reducible refine aNI ?_ | ((with_reducible refine ttI ?_ ?_); exact rfl) | ((with_reducible refine And.intro ?_ ?_); exact rfl) | ((with_reducible refine And.intro ?_ ?_); exact lenOk rfl) | dsimp only [En.s]))
  refine refusedM pk hfl W.w1 t1 (fun Q2 R2 hR => lam1m (zs_by (4095 + k)) (by rw [zs_len]; omega) (by rw [zs_len]; omega) hR) fun m3 s3 => ?_
  (repeat (first | with_reducible refine seqI ?_ | with_reducible refine setI ?_ | with_reducible refine asgI ?_ | with_reducible refine retI ?_ | with_reducible refine opI ?_ | with_reducible refine callI ?_ | with_reducible refine consI ?_ | with_reducible refine cI ?_ | with_reducible refine nilI ?_ | ((with_reducible apply varI); exact rfl) | with_reducible refine cbI ?_ | with_reducible refine ifI ?_ | with_reducible refine tstI ?_ | with_reducible refine notTI ?_ | with_reducible refine andTI ?_ | with_reducible refine orTI ?_ | with_reducible refine dropI ?_ | with_reducible refine nextI ?_ | with_reducible refine tupI ?_ | with_reducible refine lstI ?_ | with_reducible refine starI ?_ | with_reducible refine starTT ?_ | with_reducible refine andI ?_ | with_reducible refine orVI ?_ | with_reducible refine notI ?_ | with_reducible refine ifEI ?_ | with_reducible refine forI ?_ | with_reducible refine r1I ?_ | with_reducible refine ir2I ?_ | with_reducible refine iTupI ?_ | with_reducible refine truI ?_ | with_reducible refine chainI ?_ | with_reducible refine lcI ?_ | with_reducible refine slI ?_ | with_reducible refine noPI ?_ | with_reducible refine ptI ?_ | with_reducible refine unI ?_ | with_reducible refine brkI ?_ | with_reducible refine cntI ?_ | with_reducible refine retNI ?_ | with_reducible refine addII ?_ | with_reducible refine rI0 ?_ | with_reducible refine rIC ?_ ?_ | with_reducible refine mulII ?_ ?_ | with_reducible refine addTT ?_ ?_ | with_reducible refine addSS ?_ ?_ | with_reducible refine negII ?_ | with_reducible refine eqII ?_ | with_reducible refine eqSS ?_ | with_reducible refine eqBB ?_ | with_reducible refine neII ?_ | with_reducible refine neSS ?_ | with_reducible refine neBB ?_ | with_reducible refine isNN ?_ | with_reducible refine isNotNN ?_ | with_reducible refine isBB ?_ | with_reducible refine isNotBB ?_ | with_reducible refine lenTI ?_ | with_reducible refine lenFI ?_ | with_reducible refine intII ?_ | with_reducible refine intBI ?_ | with_reducible refine tupTI ?_ | with_reducible refine minII ?_ | with_reducible refine maxII ?_ | with_reducible refine slTI ?_ | with_reducible refine gcI ?_ | with_reducible refine gnI ?_ | with_reducible refine aNI ?_ | ((with_reducible refine ttI ?_ ?_); exact rfl) | ((with_reducible refine And.intro ?_ ?_); exact rfl) | ((with_reducible refine And.intro ?_ ?_); exact lenOk rfl) | dsimp only [En.s]))
  refine neTT (ps := [.str "many", .int 4096]) rfl (by decide +kernel) (by decide +kernel) ?_
  (repeat (first | with_reducible refine seqI ?_ | with_reducible refine setI ?_ | with_reducible refine asgI ?_ | with_reducible refine retI ?_ | with_reducible refine opI ?_ | with_reducible refine callI ?_ | with_reducible refine consI ?_ | with_reducible refine cI ?_ | with_reducible refine nilI ?_ | ((with_reducible apply varI); exact rfl) | with_reducible refine cbI ?_ | with_reducible refine ifI ?_ | with_reducible refine tstI ?_ | with_reducible refine notTI ?_ | with_reducible refine andTI ?_ | with_reducible refine orTI ?_ | with_reducible refine dropI ?_ | with_reducible refine nextI ?_ | with_reducible refine tupI ?_ | with_reducible refine lstI ?_ | with_reducible refine starI ?_ | with_reducible refine starTT ?_ | with_reducible refine andI ?_ | with_reducible refine orVI ?_ | with_reducible refine notI ?_ | with_reducible refine ifEI ?_ | with_reducible refine forI ?_ | with_reducible refine r1I ?_ | with_reducible refine ir2I ?_ | with_reducible refine iTupI ?_ | with_reducible refine truI ?_ | with_reducible refine chainI ?_ | with_reducible refine lcI ?_ | with_reducible refine slI ?_ | with_reducible refine noPI ?_ | with_reducible refine ptI ?_ | with_reducible refine unI ?_ | with_reducible refine brkI ?_ | with_reducible refine cntI ?_ | with_reducible refine retNI ?_ | with_reducible refine addII ?_ | with_reducible refine rI0 ?_ | with_reducible refine rIC ?_ ?_ | with_reducible refine mulII ?_ ?_ | with_reducible refine addTT ?_ ?_ | with_reducible refine addSS ?_ ?_ | with_reducible refine negII ?_ | with_reducible refine eqII ?_ | with_reducible refine eqSS ?_ | with_reducible refine eqBB ?_ | with_reducible refine neII ?_ | with_reducible refine neSS ?_ | with_reducible refine neBB ?_ | with_reducible refine isNN ?_ | with_reducible refine isNotNN ?_ | with_reducible refine isBB ?_ | with_reducible refine isNotBB ?_ | with_reducible refine lenTI ?_ | with_reducible refine lenFI ?_ | with_reducible refine intII ?_ | with_reducible refine intBI ?_ | with_reducible refine tupTI ?_ | with_reducible refine minII ?_ | with_reducible refine maxII ?_ | with_reducible refine slTI ?_ | with_reducible refine gcI ?_ | with_reducible refine gnI ?_ | with_reducible refine aNI ?_ | ((with_reducible refine ttI ?_ ?_); exact rfl) | ((with_reducible refine And.intro ?_ ?_); exact rfl) | ((with_reducible refine And.intro ?_ ?_); exact lenOk rfl) | dsimp only [En.s]))
  refine bl_f rfl ?_
  (repeat (first | with_reducible refine seqI ?_ | with_reducible refine setI ?_ | with_reducible refine asgI ?_ | with_reducible refine retI ?_ | with_reducible refine opI ?_ | with_reducible refine callI ?_ | with_reducible refine consI ?_ | with_reducible refine cI ?_ | with_reducible refine nilI ?_ | ((with_reducible apply varI); exact rfl) | with_reducible refine cbI ?_ | with_reducible refine ifI ?_ | with_reducible refine tstI ?_ | with_reducible refine notTI ?_ | with_reducible refine andTI ?_ | with_reducible refine orTI ?_ | with_reducible refine dropI ?_ | with_reducible refine nextI ?_ | with_reducible refine tupI ?_ | with_reducible refine lstI ?_ | with_reducible refine starI ?_ | with_reducible refine starTT ?_ | with_reducible refine andI ?_ | with_reducible refine orVI ?_ | with_reducible refine notI ?_ | with_reducible refine ifEI ?_ | with_reducible refine forI ?_ | with_reducible refine r1I ?_ | with_reducible refine ir2I ?_ | with_reducible refine iTupI ?_ | with_reducible refine truI ?_ | with_reducible refine chainI ?_ | with_reducible refine lcI ?_ | with_reducible refine slI ?_ | with_reducible refine noPI ?_ | with_reducible refine ptI ?_ | with_reducible refine unI ?_ | with_reducible refine brkI ?_ | with_reducible refine cntI ?_ | with_reducible refine retNI ?_ | with_reducible refine addII ?_ | with_reducible refine rI0 ?_ | with_reducible refine rIC ?_ ?_ | with_reducible refine mulII ?_ ?_ | with_reducible refine addTT ?_ ?_ | with_reducible refine addSS ?_ ?_ | with_reducible refine negII ?_ | with_reducible refine eqII ?_ | with_reducible refine eqSS ?_ | with_reducible refine eqBB ?_ | with_reducible refine neII ?_ | with_reducible refine neSS ?_ | with_reducible refine neBB ?_ | with_reducible refine isNN ?_ | with_reducible refine isNotNN ?_ | with_reducible refine isBB ?_ | with_reducible refine isNotBB ?_ | with_reducible refine lenTI ?_ | with_reducible refine lenFI ?_ | with_reducible refine intII ?_ | with_reducible refine intBI ?_ | with_reducible refine tupTI ?_ | with_reducible refine minII ?_ | with_reducible refine maxII ?_ | with_reducible refine slTI ?_ | with_reducible refine gcI ?_ | with_reducible refine gnI ?_ | with_reducible refine aNI ?_ | ((with_reducible refine ttI ?_ ?_); exact rfl) | ((with_reducible refine And.intro ?_ ?_); exact rfl) | ((with_reducible refine And.intro ?_ ?_); exact lenOk rfl) | dsimp only [En.s]))
  subst hX
  exact law0 pk ((h0.sub s1).subx s3) q
theorem law2 {d : D} (pk : Ok p) (hfl : p.fld (p.cA "TooMany") "most" = true) (h : St p ns r m) (hd : NFl m d) (q : ∀ m', A.rt (.bl true) m') : bl_law_2 p A [x0, some (.ref r), x2, x3, x4, some d] m := by
  unfold bl_law_2
  generalize hX : bl_law_1 = X
  (repeat (first | with_reducible refine seqI ?_ | with_reducible refine setI ?_ | with_reducible refine asgI ?_ | with_reducible refine retI ?_ | with_reducible refine opI ?_ | with_reducible refine callI ?_ | with_reducible refine consI ?_ | with_reducible refine cI ?_ | with_reducible refine nilI ?_ | ((with_reducible apply varI); exact rfl) | with_reducible refine cbI ?_ | with_reducible refine ifI ?_ | with_reducible refine tstI ?_ | with_reducible refine notTI ?_ | with_reducible refine andTI ?_ | with_reducible refine orTI ?_ | with_reducible refine dropI ?_ | with_reducible refine nextI ?_ | with_reducible refine tupI ?_ | with_reducible refine lstI ?_ | with_reducible refine starI ?_ | with_reducible refine starTT ?_ | with_reducible refine andI ?_ | with_reducible refine orVI ?_ | with_reducible refine notI ?_ | with_reducible refine ifEI ?_ | with_reducible refine forI ?_ | with_reducible refine r1I ?_ | with_reducible refine ir2I ?_ | with_reducible refine iTupI ?_ | with_reducible refine truI ?_ | with_reducible refine chainI ?_ | with_reducible refine lcI ?_ | with_reducible refine slI ?_ | with_reducible refine noPI ?_ | with_reducible refine ptI ?_ | with_reducible refine unI ?_ | with_reducible refine brkI ?_ | with_reducible refine cntI ?_ | with_reducible refine retNI ?_ | with_reducible refine addII ?_ | with_reducible refine rI0 ?_ | with_reducible refine rIC ?_ ?_ | with_reducible refine mulII ?_ ?_ | with_reducible refine addTT ?_ ?_ | with_reducible refine addSS ?_ ?_ | with_reducible refine negII ?_ | with_reducible refine eqII ?_ | with_reducible refine eqSS ?_ | with_reducible refine eqBB ?_ | with_reducible refine neII ?_ | with_reducible refine neSS ?_ | with_reducible refine neBB ?_ | with_reducible refine isNN ?_ | with_reducible refine isNotNN ?_ | with_reducible refine isBB ?_ | with_reducible refine isNotBB ?_ | with_reducible refine lenTI ?_ | with_reducible refine lenFI ?_ | with_reducible refine intII ?_ | with_reducible refine intBI ?_ | with_reducible refine tupTI ?_ | with_reducible refine minII ?_ | with_reducible refine maxII ?_ | with_reducible refine slTI ?_ | with_reducible refine gcI ?_ | with_reducible refine gnI ?_ | with_reducible refine aNI ?_ | ((with_reducible refine ttI ?_ ?_); exact rfl) | ((with_reducible refine And.intro ?_ ?_); exact rfl) | ((with_reducible refine And.intro ?_ ?_); exact lenOk rfl) | dsimp only [En.s]))
  refine works pk h.tab fun l f0 f1 f2 f3 f4 f5 m1 hl s1 W => ?_
  (repeat (first | with_reducible refine seqI ?_ | with_reducible refine setI ?_ | with_reducible refine asgI ?_ | with_reducible refine retI ?_ | with_reducible refine opI ?_ | with_reducible refine callI ?_ | with_reducible refine consI ?_ | with_reducible refine cI ?_ | with_reducible refine nilI ?_ | ((with_reducible apply varI); exact rfl) | with_reducible refine cbI ?_ | with_reducible refine ifI ?_ | with_reducible refine tstI ?_ | with_reducible refine notTI ?_ | with_reducible refine andTI ?_ | with_reducible refine orTI ?_ | with_reducible refine dropI ?_ | with_reducible refine nextI ?_ | with_reducible refine tupI ?_ | with_reducible refine lstI ?_ | with_reducible refine starI ?_ | with_reducible refine starTT ?_ | with_reducible refine andI ?_ | with_reducible refine orVI ?_ | with_reducible refine notI ?_ | with_reducible refine ifEI ?_ | with_reducible refine forI ?_ | with_reducible refine r1I ?_ | with_reducible refine ir2I ?_ | with_reducible refine iTupI ?_ | with_reducible refine truI ?_ | with_reducible refine chainI ?_ | with_reducible refine lcI ?_ | with_reducible refine slI ?_ | with_reducible refine noPI ?_ | with_reducible refine ptI ?_ | with_reducible refine unI ?_ | with_reducible refine brkI ?_ | with_reducible refine cntI ?_ | with_reducible refine retNI ?_ | with_reducible refine addII ?_ | with_reducible refine rI0 ?_ | with_reducible refine rIC ?_ ?_ | with_reducible refine mulII ?_ ?_ | with_reducible refine addTT ?_ ?_ | with_reducible refine addSS ?_ ?_ | with_reducible refine negII ?_ | with_reducible refine eqII ?_ | with_reducible refine eqSS ?_ | with_reducible refine eqBB ?_ | with_reducible refine neII ?_ | with_reducible refine neSS ?_ | with_reducible refine neBB ?_ | with_reducible refine isNN ?_ | with_reducible refine isNotNN ?_ | with_reducible refine isBB ?_ | with_reducible refine isNotBB ?_ | with_reducible refine lenTI ?_ | with_reducible refine lenFI ?_ | with_reducible refine intII ?_ | with_reducible refine intBI ?_ | with_reducible refine tupTI ?_ | with_reducible refine minII ?_ | with_reducible refine maxII ?_ | with_reducible refine slTI ?_ | with_reducible refine gcI ?_ | with_reducible refine gnI ?_ | with_reducible refine aNI ?_ | ((with_reducible refine ttI ?_ ?_); exact rfl) | ((with_reducible refine And.intro ?_ ?_); exact rfl) | ((with_reducible refine And.intro ?_ ?_); exact lenOk rfl) | dsimp only [En.s]))
  refine ixRI (l_of W.lst) (d := .ref f3) at3 ?_
  (repeat (first | with_reducible refine seqI ?_ | with_reducible refine setI ?_ | with_reducible refine asgI ?_ | with_reducible refine retI ?_ | with_reducible refine opI ?_ | with_reducible refine callI ?_ | with_reducible refine consI ?_ | with_reducible refine cI ?_ | with_reducible refine nilI ?_ | ((with_reducible apply varI); exact rfl) | with_reducible refine cbI ?_ | with_reducible refine ifI ?_ | with_reducible refine tstI ?_ | with_reducible refine notTI ?_ | with_reducible refine andTI ?_ | with_reducible refine orTI ?_ | with_reducible refine dropI ?_ | with_reducible refine nextI ?_ | with_reducible refine tupI ?_ | with_reducible refine lstI ?_ | with_reducible refine starI ?_ | with_reducible refine starTT ?_ | with_reducible refine andI ?_ | with_reducible refine orVI ?_ | with_reducible refine notI ?_ | with_reducible refine ifEI ?_ | with_reducible refine forI ?_ | with_reducible refine r1I ?_ | with_reducible refine ir2I ?_ | with_reducible refine iTupI ?_ | with_reducible refine truI ?_ | with_reducible refine chainI ?_ | with_reducible refine lcI ?_ | with_reducible refine slI ?_ | with_reducible refine noPI ?_ | with_reducible refine ptI ?_ | with_reducible refine unI ?_ | with_reducible refine brkI ?_ | with_reducible refine cntI ?_ | with_reducible refine retNI ?_ | with_reducible refine addII ?_ | with_reducible refine rI0 ?_ | with_reducible refine rIC ?_ ?_ | with_reducible refine mulII ?_ ?_ | with_reducible refine addTT ?_ ?_ | with_reducible refine addSS ?_ ?_ | with_reducible refine negII ?_ | with_reducible refine eqII ?_ | with_reducible refine eqSS ?_ | with_reducible refine eqBB ?_ | with_reducible refine neII ?_ | with_reducible refine neSS ?_ | with_reducible refine neBB ?_ | with_reducible refine isNN ?_ | with_reducible refine isNotNN ?_ | with_reducible refine isBB ?_ | with_reducible refine isNotBB ?_ | with_reducible refine lenTI ?_ | with_reducible refine lenFI ?_ | with_reducible refine intII ?_ | with_reducible refine intBI ?_ | with_reducible refine tupTI ?_ | with_reducible refine minII ?_ | with_reducible refine maxII ?_ | with_reducible refine slTI ?_ | with_reducible refine gcI ?_ | with_reducible refine gnI ?_ | with_reducible refine aNI ?_ | ((with_reducible refine ttI ?_ ?_); exact rfl) | ((with_reducible refine And.intro ?_ ?_); exact rfl) | ((with_reducible refine And.intro ?_ ?_); exact lenOk rfl) | dsimp only [En.s]))
  refine refused pk W.w3 t3 (n := "BadFlips") (by simp) (fun Q2 R2 hR => lam3f (hd.keep fun a o _ h => s1 _ _ h).hide hR) fun m2 s2 => ?_
  (repeat (first | with_reducible refine seqI ?_ | with_reducible refine setI ?_ | with_reducible refine asgI ?_ | with_reducible refine retI ?_ | with_reducible refine opI ?_ | with_reducible refine callI ?_ | with_reducible refine consI ?_ | with_reducible refine cI ?_ | with_reducible refine nilI ?_ | ((with_reducible apply varI); exact rfl) | with_reducible refine cbI ?_ | with_reducible refine ifI ?_ | with_reducible refine tstI ?_ | with_reducible refine notTI ?_ | with_reducible refine andTI ?_ | with_reducible refine orTI ?_ | with_reducible refine dropI ?_ | with_reducible refine nextI ?_ | with_reducible refine tupI ?_ | with_reducible refine lstI ?_ | with_reducible refine starI ?_ | with_reducible refine starTT ?_ | with_reducible refine andI ?_ | with_reducible refine orVI ?_ | with_reducible refine notI ?_ | with_reducible refine ifEI ?_ | with_reducible refine forI ?_ | with_reducible refine r1I ?_ | with_reducible refine ir2I ?_ | with_reducible refine iTupI ?_ | with_reducible refine truI ?_ | with_reducible refine chainI ?_ | with_reducible refine lcI ?_ | with_reducible refine slI ?_ | with_reducible refine noPI ?_ | with_reducible refine ptI ?_ | with_reducible refine unI ?_ | with_reducible refine brkI ?_ | with_reducible refine cntI ?_ | with_reducible refine retNI ?_ | with_reducible refine addII ?_ | with_reducible refine rI0 ?_ | with_reducible refine rIC ?_ ?_ | with_reducible refine mulII ?_ ?_ | with_reducible refine addTT ?_ ?_ | with_reducible refine addSS ?_ ?_ | with_reducible refine negII ?_ | with_reducible refine eqII ?_ | with_reducible refine eqSS ?_ | with_reducible refine eqBB ?_ | with_reducible refine neII ?_ | with_reducible refine neSS ?_ | with_reducible refine neBB ?_ | with_reducible refine isNN ?_ | with_reducible refine isNotNN ?_ | with_reducible refine isBB ?_ | with_reducible refine isNotBB ?_ | with_reducible refine lenTI ?_ | with_reducible refine lenFI ?_ | with_reducible refine intII ?_ | with_reducible refine intBI ?_ | with_reducible refine tupTI ?_ | with_reducible refine minII ?_ | with_reducible refine maxII ?_ | with_reducible refine slTI ?_ | with_reducible refine gcI ?_ | with_reducible refine gnI ?_ | with_reducible refine aNI ?_ | ((with_reducible refine ttI ?_ ?_); exact rfl) | ((with_reducible refine And.intro ?_ ?_); exact rfl) | ((with_reducible refine And.intro ?_ ?_); exact lenOk rfl) | dsimp only [En.s]))
  refine bl_f (by decide) ?_
  have h2 := (h.sub s1).sub s2
  (repeat (first | with_reducible refine seqI ?_ | with_reducible refine setI ?_ | with_reducible refine asgI ?_ | with_reducible refine retI ?_ | with_reducible refine opI ?_ | with_reducible refine callI ?_ | with_reducible refine consI ?_ | with_reducible refine cI ?_ | with_reducible refine nilI ?_ | ((with_reducible apply varI); exact rfl) | with_reducible refine cbI ?_ | with_reducible refine ifI ?_ | with_reducible refine tstI ?_ | with_reducible refine notTI ?_ | with_reducible refine andTI ?_ | with_reducible refine orTI ?_ | with_reducible refine dropI ?_ | with_reducible refine nextI ?_ | with_reducible refine tupI ?_ | with_reducible refine lstI ?_ | with_reducible refine starI ?_ | with_reducible refine starTT ?_ | with_reducible refine andI ?_ | with_reducible refine orVI ?_ | with_reducible refine notI ?_ | with_reducible refine ifEI ?_ | with_reducible refine forI ?_ | with_reducible refine r1I ?_ | with_reducible refine ir2I ?_ | with_reducible refine iTupI ?_ | with_reducible refine truI ?_ | with_reducible refine chainI ?_ | with_reducible refine lcI ?_ | with_reducible refine slI ?_ | with_reducible refine noPI ?_ | with_reducible refine ptI ?_ | with_reducible refine unI ?_ | with_reducible refine brkI ?_ | with_reducible refine cntI ?_ | with_reducible refine retNI ?_ | with_reducible refine addII ?_ | with_reducible refine rI0 ?_ | with_reducible refine rIC ?_ ?_ | with_reducible refine mulII ?_ ?_ | with_reducible refine addTT ?_ ?_ | with_reducible refine addSS ?_ ?_ | with_reducible refine negII ?_ | with_reducible refine eqII ?_ | with_reducible refine eqSS ?_ | with_reducible refine eqBB ?_ | with_reducible refine neII ?_ | with_reducible refine neSS ?_ | with_reducible refine neBB ?_ | with_reducible refine isNN ?_ | with_reducible refine isNotNN ?_ | with_reducible refine isBB ?_ | with_reducible refine isNotBB ?_ | with_reducible refine lenTI ?_ | with_reducible refine lenFI ?_ | with_reducible refine intII ?_ | with_reducible refine intBI ?_ | with_reducible refine tupTI ?_ | with_reducible refine minII ?_ | with_reducible refine maxII ?_ | with_reducible refine slTI ?_ | with_reducible refine gcI ?_ | with_reducible refine gnI ?_ | with_reducible refine aNI ?_ | ((with_reducible refine ttI ?_ ?_); exact rfl) | ((with_reducible refine And.intro ?_ ?_); exact rfl) | ((with_reducible refine And.intro ?_ ?_); exact lenOk rfl) | dsimp only [En.s]))
  refine works pk h2.tab fun l g0 g1 g2 g3 g4 g5 m3 hl s3 W => ?_
  (repeat (first | with_reducible refine seqI ?_ | with_reducible refine setI ?_ | with_reducible refine asgI ?_ | with_reducible refine retI ?_ | with_reducible refine opI ?_ | with_reducible refine callI ?_ | with_reducible refine consI ?_ | with_reducible refine cI ?_ | with_reducible refine nilI ?_ | ((with_reducible apply varI); exact rfl) | with_reducible refine cbI ?_ | with_reducible refine ifI ?_ | with_reducible refine tstI ?_ | with_reducible refine notTI ?_ | with_reducible refine andTI ?_ | with_reducible refine orTI ?_ | with_reducible refine dropI ?_ | with_reducible refine nextI ?_ | with_reducible refine tupI ?_ | with_reducible refine lstI ?_ | with_reducible refine starI ?_ | with_reducible refine starTT ?_ | with_reducible refine andI ?_ | with_reducible refine orVI ?_ | with_reducible refine notI ?_ | with_reducible refine ifEI ?_ | with_reducible refine forI ?_ | with_reducible refine r1I ?_ | with_reducible refine ir2I ?_ | with_reducible refine iTupI ?_ | with_reducible refine truI ?_ | with_reducible refine chainI ?_ | with_reducible refine lcI ?_ | with_reducible refine slI ?_ | with_reducible refine noPI ?_ | with_reducible refine ptI ?_ | with_reducible refine unI ?_ | with_reducible refine brkI ?_ | with_reducible refine cntI ?_ | with_reducible refine retNI ?_ | with_reducible refine addII ?_ | with_reducible refine rI0 ?_ | with_reducible refine rIC ?_ ?_ | with_reducible refine mulII ?_ ?_ | with_reducible refine addTT ?_ ?_ | with_reducible refine addSS ?_ ?_ | with_reducible refine negII ?_ | with_reducible refine eqII ?_ | with_reducible refine eqSS ?_ | with_reducible refine eqBB ?_ | with_reducible refine neII ?_ | with_reducible refine neSS ?_ | with_reducible refine neBB ?_ | with_reducible refine isNN ?_ | with_reducible refine isNotNN ?_ | with_reducible refine isBB ?_ | with_reducible refine isNotBB ?_ | with_reducible refine lenTI ?_ | with_reducible refine lenFI ?_ | with_reducible refine intII ?_ | with_reducible refine intBI ?_ | with_reducible refine tupTI ?_ | with_reducible refine minII ?_ | with_reducible refine maxII ?_ | with_reducible refine slTI ?_ | with_reducible refine gcI ?_ | with_reducible refine gnI ?_ | with_reducible refine aNI ?_ | ((with_reducible refine ttI ?_ ?_); exact rfl) | ((with_reducible refine And.intro ?_ ?_); exact rfl) | ((with_reducible refine And.intro ?_ ?_); exact lenOk rfl) | dsimp only [En.s]))
  refine ixRI (l_of W.lst) (d := .ref g4) at4 ?_
  (repeat (first | with_reducible refine seqI ?_ | with_reducible refine setI ?_ | with_reducible refine asgI ?_ | with_reducible refine retI ?_ | with_reducible refine opI ?_ | with_reducible refine callI ?_ | with_reducible refine consI ?_ | with_reducible refine cI ?_ | with_reducible refine nilI ?_ | ((with_reducible apply varI); exact rfl) | with_reducible refine cbI ?_ | with_reducible refine ifI ?_ | with_reducible refine tstI ?_ | with_reducible refine notTI ?_ | with_reducible refine andTI ?_ | with_reducible refine orTI ?_ | with_reducible refine dropI ?_ | with_reducible refine nextI ?_ | with_reducible refine tupI ?_ | with_reducible refine lstI ?_ | with_reducible refine starI ?_ | with_reducible refine starTT ?_ | with_reducible refine andI ?_ | with_reducible refine orVI ?_ | with_reducible refine notI ?_ | with_reducible refine ifEI ?_ | with_reducible refine forI ?_ | with_reducible refine r1I ?_ | with_reducible refine ir2I ?_ | with_reducible refine iTupI ?_ | with_reducible refine truI ?_ | with_reducible refine chainI ?_ | with_reducible refine lcI ?_ | with_reducible refine slI ?_ | with_reducible refine noPI ?_ | with_reducible refine ptI ?_ | with_reducible refine unI ?_ | with_reducible refine brkI ?_ | with_reducible refine cntI ?_ | with_reducible refine retNI ?_ | with_reducible refine addII ?_ | with_reducible refine rI0 ?_ | with_reducible refine rIC ?_ ?_ | with_reducible refine mulII ?_ ?_ | with_reducible refine addTT ?_ ?_ | with_reducible refine addSS ?_ ?_ | with_reducible refine negII ?_ | with_reducible refine eqII ?_ | with_reducible refine eqSS ?_ | with_reducible refine eqBB ?_ | with_reducible refine neII ?_ | with_reducible refine neSS ?_ | with_reducible refine neBB ?_ | with_reducible refine isNN ?_ | with_reducible refine isNotNN ?_ | with_reducible refine isBB ?_ | with_reducible refine isNotBB ?_ | with_reducible refine lenTI ?_ | with_reducible refine lenFI ?_ | with_reducible refine intII ?_ | with_reducible refine intBI ?_ | with_reducible refine tupTI ?_ | with_reducible refine minII ?_ | with_reducible refine maxII ?_ | with_reducible refine slTI ?_ | with_reducible refine gcI ?_ | with_reducible refine gnI ?_ | with_reducible refine aNI ?_ | ((with_reducible refine ttI ?_ ?_); exact rfl) | ((with_reducible refine And.intro ?_ ?_); exact rfl) | ((with_reducible refine And.intro ?_ ?_); exact lenOk rfl) | dsimp only [En.s]))
  refine refused pk W.w4 t4 (n := "BadFlips") (by simp) (fun Q2 R2 hR => lam4f (hd.keep fun a o _ h => s3 _ _ (s2 _ _ (s1 _ _ h))).hide hR) fun m4 s4 => ?_
  (repeat (first | with_reducible refine seqI ?_ | with_reducible refine setI ?_ | with_reducible refine asgI ?_ | with_reducible refine retI ?_ | with_reducible refine opI ?_ | with_reducible refine callI ?_ | with_reducible refine consI ?_ | with_reducible refine cI ?_ | with_reducible refine nilI ?_ | ((with_reducible apply varI); exact rfl) | with_reducible refine cbI ?_ | with_reducible refine ifI ?_ | with_reducible refine tstI ?_ | with_reducible refine notTI ?_ | with_reducible refine andTI ?_ | with_reducible refine orTI ?_ | with_reducible refine dropI ?_ | with_reducible refine nextI ?_ | with_reducible refine tupI ?_ | with_reducible refine lstI ?_ | with_reducible refine starI ?_ | with_reducible refine starTT ?_ | with_reducible refine andI ?_ | with_reducible refine orVI ?_ | with_reducible refine notI ?_ | with_reducible refine ifEI ?_ | with_reducible refine forI ?_ | with_reducible refine r1I ?_ | with_reducible refine ir2I ?_ | with_reducible refine iTupI ?_ | with_reducible refine truI ?_ | with_reducible refine chainI ?_ | with_reducible refine lcI ?_ | with_reducible refine slI ?_ | with_reducible refine noPI ?_ | with_reducible refine ptI ?_ | with_reducible refine unI ?_ | with_reducible refine brkI ?_ | with_reducible refine cntI ?_ | with_reducible refine retNI ?_ | with_reducible refine addII ?_ | with_reducible refine rI0 ?_ | with_reducible refine rIC ?_ ?_ | with_reducible refine mulII ?_ ?_ | with_reducible refine addTT ?_ ?_ | with_reducible refine addSS ?_ ?_ | with_reducible refine negII ?_ | with_reducible refine eqII ?_ | with_reducible refine eqSS ?_ | with_reducible refine eqBB ?_ | with_reducible refine neII ?_ | with_reducible refine neSS ?_ | with_reducible refine neBB ?_ | with_reducible refine isNN ?_ | with_reducible refine isNotNN ?_ | with_reducible refine isBB ?_ | with_reducible refine isNotBB ?_ | with_reducible refine lenTI ?_ | with_reducible refine lenFI ?_ | with_reducible refine intII ?_ | with_reducible refine intBI ?_ | with_reducible refine tupTI ?_ | with_reducible refine minII ?_ | with_reducible refine maxII ?_ | with_reducible refine slTI ?_ | with_reducible refine gcI ?_ | with_reducible refine gnI ?_ | with_reducible refine aNI ?_ | ((with_reducible refine ttI ?_ ?_); exact rfl) | ((with_reducible refine And.intro ?_ ?_); exact rfl) | ((with_reducible refine And.intro ?_ ?_); exact lenOk rfl) | dsimp only [En.s]))
  refine bl_f (by decide) ?_
  (repeat (first | with_reducible refine seqI ?_ | with_reducible refine setI ?_ | with_reducible refine asgI ?_ | with_reducible refine retI ?_ | with_reducible refine opI ?_ | with_reducible refine callI ?_ | with_reducible refine consI ?_ | with_reducible refine cI ?_ | with_reducible refine nilI ?_ | ((with_reducible apply varI); exact rfl) | with_reducible refine cbI ?_ | with_reducible refine ifI ?_ | with_reducible refine tstI ?_ | with_reducible refine notTI ?_ | with_reducible refine andTI ?_ | with_reducible refine orTI ?_ | with_reducible refine dropI ?_ | with_reducible refine nextI ?_ | with_reducible refine tupI ?_ | with_reducible refine lstI ?_ | with_reducible refine starI ?_ | with_reducible refine starTT ?_ | with_reducible refine andI ?_ | with_reducible refine orVI ?_ | with_reducible refine notI ?_ | with_reducible refine ifEI ?_ | with_reducible refine forI ?_ | with_reducible refine r1I ?_ | with_reducible refine ir2I ?_ | with_reducible refine iTupI ?_ | with_reducible refine truI ?_ | with_reducible refine chainI ?_ | with_reducible refine lcI ?_ | with_reducible refine slI ?_ | with_reducible refine noPI ?_ | with_reducible refine ptI ?_ | with_reducible refine unI ?_ | with_reducible refine brkI ?_ | with_reducible refine cntI ?_ | with_reducible refine retNI ?_ | with_reducible refine addII ?_ | with_reducible refine rI0 ?_ | with_reducible refine rIC ?_ ?_ | with_reducible refine mulII ?_ ?_ | with_reducible refine addTT ?_ ?_ | with_reducible refine addSS ?_ ?_ | with_reducible refine negII ?_ | with_reducible refine eqII ?_ | with_reducible refine eqSS ?_ | with_reducible refine eqBB ?_ | with_reducible refine neII ?_ | with_reducible refine neSS ?_ | with_reducible refine neBB ?_ | with_reducible refine isNN ?_ | with_reducible refine isNotNN ?_ | with_reducible refine isBB ?_ | with_reducible refine isNotBB ?_ | with_reducible refine lenTI ?_ | with_reducible refine lenFI ?_ | with_reducible refine intII ?_ | with_reducible refine intBI ?_ | with_reducible refine tupTI ?_ | with_reducible refine minII ?_ | with_reducible refine maxII ?_ | with_reducible refine slTI ?_ | with_reducible refine gcI ?_ | with_reducible refine gnI ?_ | with_reducible refine aNI ?_ | ((with_reducible refine ttI ?_ ?_); exact rfl) | ((with_reducible refine And.intro ?_ ?_); exact rfl) | ((with_reducible refine And.intro ?_ ?_); exact lenOk rfl) | dsimp only [En.s]))
  subst hX
  exact law1 pk hfl ((h2.sub s3).sub s4) q
theorem law4 (pk : Ok p) (hfl : p.fld (p.cA "TooMany") "most" = true) (h : St p ns r m) (q : ∀ m', A.rt (.bl true) m') : bl_law_4 p A [x0, some (.ref r), x2, x3, x4, x5] m := by
  unfold bl_law_4
  generalize hX : bl_law_3 = X
  (repeat (first | with_reducible refine seqI ?_ | with_reducible refine setI ?_ | with_reducible refine asgI ?_ | with_reducible refine retI ?_ | with_reducible refine opI ?_ | with_reducible refine callI ?_ | with_reducible refine consI ?_ | with_reducible refine cI ?_ | with_reducible refine nilI ?_ | ((with_reducible apply varI); exact rfl) | with_reducible refine cbI ?_ | with_reducible refine ifI ?_ | with_reducible refine tstI ?_ | with_reducible refine notTI ?_ | with_reducible refine andTI ?_ | with_reducible refine orTI ?_ | with_reducible refine dropI ?_ | with_reducible refine nextI ?_ | with_reducible refine tupI ?_ | with_reducible refine lstI ?_ | with_reducible refine starI ?_ | with_reducible refine starTT ?_ | with_reducible refine andI ?_ | with_reducible refine orVI ?_ | with_reducible refine notI ?_ | with_reducible refine ifEI ?_ | with_reducible refine forI ?_ | with_reducible refine r1I ?_ | with_reducible refine ir2I ?_ | with_reducible refine iTupI ?_ | with_reducible refine truI ?_ | with_reducible refine chainI ?_ | with_reducible refine lcI ?_ | with_reducible refine slI ?_ | with_reducible refine noPI ?_ | with_reducible refine ptI ?_ | with_reducible refine unI ?_ | with_reducible refine brkI ?_ | with_reducible refine cntI ?_ | with_reducible refine retNI ?_ | with_reducible refine addII ?_ | with_reducible refine rI0 ?_ | with_reducible refine rIC ?_ ?_ | with_reducible refine mulII ?_ ?_ | with_reducible refine addTT ?_ ?_ | with_reducible refine addSS ?_ ?_ | with_reducible refine negII ?_ | with_reducible refine eqII ?_ | with_reducible refine eqSS ?_ | with_reducible refine eqBB ?_ | with_reducible refine neII ?_ | with_reducible refine neSS ?_ | with_reducible refine neBB ?_ | with_reducible refine isNN ?_ | with_reducible refine isNotNN ?_ | with_reducible refine isBB ?_ | with_reducible refine isNotBB ?_ | with_reducible refine lenTI ?_ | with_reducible refine lenFI ?_ | with_reducible refine intII ?_ | with_reducible refine intBI ?_ | with_reducible refine tupTI ?_ | with_reducible refine minII ?_ | with_reducible refine maxII ?_ | with_reducible refine slTI ?_ | with_reducible refine gcI ?_ | with_reducible refine gnI ?_ | with_reducible refine aNI ?_ | ((with_reducible refine ttI ?_ ?_); exact rfl) | ((with_reducible refine And.intro ?_ ?_); exact rfl) | ((with_reducible refine And.intro ?_ ?_); exact lenOk rfl) | dsimp only [En.s]))
  intro a1 h1
  have n1 := h.row.ne h1
  have s1 := Ab.Sub.new (o := .lst [.int 1]) h1
  have e1 : (mset m a1 (.lst [.int 1])) a1 = some (.lst [.int 1]) := mset_same
  generalize mset m a1 (.lst [.int 1]) = m1 at s1 e1 ⊢
  (repeat (first | with_reducible refine seqI ?_ | with_reducible refine setI ?_ | with_reducible refine asgI ?_ | with_reducible refine retI ?_ | with_reducible refine opI ?_ | with_reducible refine callI ?_ | with_reducible refine consI ?_ | with_reducible refine cI ?_ | with_reducible refine nilI ?_ | ((with_reducible apply varI); exact rfl) | with_reducible refine cbI ?_ | with_reducible refine ifI ?_ | with_reducible refine tstI ?_ | with_reducible refine notTI ?_ | with_reducible refine andTI ?_ | with_reducible refine orTI ?_ | with_reducible refine dropI ?_ | with_reducible refine nextI ?_ | with_reducible refine tupI ?_ | with_reducible refine lstI ?_ | with_reducible refine starI ?_ | with_reducible refine starTT ?_ | with_reducible refine andI ?_ | with_reducible refine orVI ?_ | with_reducible refine notI ?_ | with_reducible refine ifEI ?_ | with_reducible refine forI ?_ | with_reducible refine r1I ?_ | with_reducible refine ir2I ?_ | with_reducible refine iTupI ?_ | with_reducible refine truI ?_ | with_reducible refine chainI ?_ | with_reducible refine lcI ?_ | with_reducible refine slI ?_ | with_reducible refine noPI ?_ | with_reducible refine ptI ?_ | with_reducible refine unI ?_ | with_reducible refine brkI ?_ | with_reducible refine cntI ?_ | with_reducible refine retNI ?_ | with_reducible refine addII ?_ | with_reducible refine rI0 ?_ | with_reducible refine rIC ?_ ?_ | with_reducible refine mulII ?_ ?_ | with_reducible refine addTT ?_ ?_ | with_reducible refine addSS ?_ ?_ | with_reducible refine negII ?_ | with_reducible refine eqII ?_ | with_reducible refine eqSS ?_ | with_reducible refine eqBB ?_ | with_reducible refine neII ?_ | with_reducible refine neSS ?_ | with_reducible refine neBB ?_ | with_reducible refine isNN ?_ | with_reducible refine isNotNN ?_ | with_reducible refine isBB ?_ | with_reducible refine isNotBB ?_ | with_reducible refine lenTI ?_ | with_reducible refine lenFI ?_ | with_reducible refine intII ?_ | with_reducible refine intBI ?_ | with_reducible refine tupTI ?_ | with_reducible refine minII ?_ | with_reducible refine maxII ?_ | with_reducible refine slTI ?_ | with_reducible refine gcI ?_ | with_reducible refine gnI ?_ | with_reducible refine aNI ?_ | ((with_reducible refine ttI ?_ ?_); exact rfl) | ((with_reducible refine And.intro ?_ ?_); exact rfl) | ((with_reducible refine And.intro ?_ ?_); exact lenOk rfl) | dsimp only [En.s]))
  unfold aTupRg
  (repeat (first | with_reducible refine seqI ?_ | with_reducible refine setI ?_ | with_reducible refine asgI ?_ | with_reducible refine retI ?_ | with_reducible refine opI ?_ | with_reducible refine callI ?_ | with_reducible refine consI ?_ | with_reducible refine cI ?_ | with_reducible refine nilI ?_ | ((with_reducible apply varI); exact rfl) | with_reducible refine cbI ?_ | with_reducible refine ifI ?_ | with_reducible refine tstI ?_ | with_reducible refine notTI ?_ | with_reducible refine andTI ?_ | with_reducible refine orTI ?_ | with_reducible refine dropI ?_ | with_reducible refine nextI ?_ | with_reducible refine tupI ?_ | with_reducible refine lstI ?_ | with_reducible refine starI ?_ | with_reducible refine starTT ?_ | with_reducible refine andI ?_ | with_reducible refine orVI ?_ | with_reducible refine notI ?_ | with_reducible refine ifEI ?_ | with_reducible refine forI ?_ | with_reducible refine r1I ?_ | with_reducible refine ir2I ?_ | with_reducible refine iTupI ?_ | with_reducible refine truI ?_ | with_reducible refine chainI ?_ | with_reducible refine lcI ?_ | with_reducible refine slI ?_ | with_reducible refine noPI ?_ | with_reducible refine ptI ?_ | with_reducible refine unI ?_ | with_reducible refine brkI ?_ | with_reducible refine cntI ?_ | with_reducible refine retNI ?_ | with_reducible refine addII ?_ | with_reducible refine rI0 ?_ | with_reducible refine rIC ?_ ?_ | with_reducible refine mulII ?_ ?_ | with_reducible refine addTT ?_ ?_ | with_reducible refine addSS ?_ ?_ | with_reducible refine negII ?_ | with_reducible refine eqII ?_ | with_reducible refine eqSS ?_ | with_reducible refine eqBB ?_ | with_reducible refine neII ?_ | with_reducible refine neSS ?_ | with_reducible refine neBB ?_ | with_reducible refine isNN ?_ | with_reducible refine isNotNN ?_ | with_reducible refine isBB ?_ | with_reducible refine isNotBB ?_ | with_reducible refine lenTI ?_ | with_reducible refine lenFI ?_ | with_reducible refine intII ?_ | with_reducible refine intBI ?_ | with_reducible refine tupTI ?_ | with_reducible refine minII ?_ | with_reducible refine maxII ?_ | with_reducible refine slTI ?_ | with_reducible refine gcI ?_ | with_reducible refine gnI ?_ | with_reducible refine aNI ?_ | ((with_reducible refine ttI ?_ ?_); exact rfl) | ((with_reducible refine And.intro ?_ ?_); exact rfl) | ((with_reducible refine And.intro ?_ ?_); exact lenOk rfl) | dsimp only [En.s]))
  refine ⟨by decide, ?_⟩
  (repeat (first | with_reducible refine seqI ?_ | with_reducible refine setI ?_ | with_reducible refine asgI ?_ | with_reducible refine retI ?_ | with_reducible refine opI ?_ | with_reducible refine callI ?_ | with_reducible refine consI ?_ | with_reducible refine cI ?_ | with_reducible refine nilI ?_ | ((with_reducible apply varI); exact rfl) | with_reducible refine cbI ?_ | with_reducible refine ifI ?_ | with_reducible refine tstI ?_ | with_reducible refine notTI ?_ | with_reducible refine andTI ?_ | with_reducible refine orTI ?_ | with_reducible refine dropI ?_ | with_reducible refine nextI ?_ | with_reducible refine tupI ?_ | with_reducible refine lstI ?_ | with_reducible refine starI ?_ | with_reducible refine starTT ?_ | with_reducible refine andI ?_ | with_reducible refine orVI ?_ | with_reducible refine notI ?_ | with_reducible refine ifEI ?_ | with_reducible refine forI ?_ | with_reducible refine r1I ?_ | with_reducible refine ir2I ?_ | with_reducible refine iTupI ?_ | with_reducible refine truI ?_ | with_reducible refine chainI ?_ | with_reducible refine lcI ?_ | with_reducible refine slI ?_ | with_reducible refine noPI ?_ | with_reducible refine ptI ?_ | with_reducible refine unI ?_ | with_reducible refine brkI ?_ | with_reducible refine cntI ?_ | with_reducible refine retNI ?_ | with_reducible refine addII ?_ | with_reducible refine rI0 ?_ | with_reducible refine rIC ?_ ?_ | with_reducible refine mulII ?_ ?_ | with_reducible refine addTT ?_ ?_ | with_reducible refine addSS ?_ ?_ | with_reducible refine negII ?_ | with_reducible refine eqII ?_ | with_reducible refine eqSS ?_ | with_reducible refine eqBB ?_ | with_reducible refine neII ?_ | with_reducible refine neSS ?_ | with_reducible refine neBB ?_ | with_reducible refine isNN ?_ | with_reducible refine isNotNN ?_ | with_reducible refine isBB ?_ | with_reducible refine isNotBB ?_ | with_reducible refine lenTI ?_ | with_reducible refine lenFI ?_ | with_reducible refine intII ?_ | with_reducible refine intBI ?_ | with_reducible refine tupTI ?_ | with_reducible refine minII ?_ | with_reducible refine maxII ?_ | with_reducible refine slTI ?_ | with_reducible refine gcI ?_ | with_reducible refine gnI ?_ | with_reducible refine aNI ?_ | ((with_reducible refine ttI ?_ ?_); exact rfl) | ((with_reducible refine And.intro ?_ ?_); exact rfl) | ((with_reducible refine And.intro ?_ ?_); exact lenOk rfl) | dsimp only [En.s]))
  refine dnewI fun a2 h2 => ?_
  have n2 := (h.row.sub s1).ne h2
  have s2 := Ab.Sub.new (o := .dic []) h2
  have e2 : (mset m1 a2 (.dic [])) a2 = some (.dic []) := mset_same
  generalize mset m1 a2 (.dic []) = m2 at s2 e2 ⊢
  (repeat (first | with_reducible refine seqI ?_ | with_reducible refine setI ?_ | with_reducible refine asgI ?_ | with_reducible refine retI ?_ | with_reducible refine opI ?_ | with_reducible refine callI ?_ | with_reducible refine consI ?_ | with_reducible refine cI ?_ | with_reducible refine nilI ?_ | ((with_reducible apply varI); exact rfl) | with_reducible refine cbI ?_ | with_reducible refine ifI ?_ | with_reducible refine tstI ?_ | with_reducible refine notTI ?_ | with_reducible refine andTI ?_ | with_reducible refine orTI ?_ | with_reducible refine dropI ?_ | with_reducible refine nextI ?_ | with_reducible refine tupI ?_ | with_reducible refine lstI ?_ | with_reducible refine starI ?_ | with_reducible refine starTT ?_ | with_reducible refine andI ?_ | with_reducible refine orVI ?_ | with_reducible refine notI ?_ | with_reducible refine ifEI ?_ | with_reducible refine forI ?_ | with_reducible refine r1I ?_ | with_reducible refine ir2I ?_ | with_reducible refine iTupI ?_ | with_reducible refine truI ?_ | with_reducible refine chainI ?_ | with_reducible refine lcI ?_ | with_reducible refine slI ?_ | with_reducible refine noPI ?_ | with_reducible refine ptI ?_ | with_reducible refine unI ?_ | with_reducible refine brkI ?_ | with_reducible refine cntI ?_ | with_reducible refine retNI ?_ | with_reducible refine addII ?_ | with_reducible refine rI0 ?_ | with_reducible refine rIC ?_ ?_ | with_reducible refine mulII ?_ ?_ | with_reducible refine addTT ?_ ?_ | with_reducible refine addSS ?_ ?_ | with_reducible refine negII ?_ | with_reducible refine eqII ?_ | with_reducible refine eqSS ?_ | with_reducible refine eqBB ?_ | with_reducible refine neII ?_ | with_reducible refine neSS ?_ | with_reducible refine neBB ?_ | with_reducible refine isNN ?_ | with_reducible refine isNotNN ?_ | with_reducible refine isBB ?_ | with_reducible refine isNotBB ?_ | with_reducible refine lenTI ?_ | with_reducible refine lenFI ?_ | with_reducible refine intII ?_ | with_reducible refine intBI ?_ | with_reducible refine tupTI ?_ | with_reducible refine minII ?_ | with_reducible refine maxII ?_ | with_reducible refine slTI ?_ | with_reducible refine gcI ?_ | with_reducible refine gnI ?_ | with_reducible refine aNI ?_ | ((with_reducible refine ttI ?_ ?_); exact rfl) | ((with_reducible refine And.intro ?_ ?_); exact rfl) | ((with_reducible refine And.intro ?_ ?_); exact lenOk rfl) | dsimp only [En.s]))
  intro a3 h3
  (repeat (first | with_reducible refine seqI ?_ | with_reducible refine setI ?_ | with_reducible refine asgI ?_ | with_reducible refine retI ?_ | with_reducible refine opI ?_ | with_reducible refine callI ?_ | with_reducible refine consI ?_ | with_reducible refine cI ?_ | with_reducible refine nilI ?_ | ((with_reducible apply varI); exact rfl) | with_reducible refine cbI ?_ | with_reducible refine ifI ?_ | with_reducible refine tstI ?_ | with_reducible refine notTI ?_ | with_reducible refine andTI ?_ | with_reducible refine orTI ?_ | with_reducible refine dropI ?_ | with_reducible refine nextI ?_ | with_reducible refine tupI ?_ | with_reducible refine lstI ?_ | with_reducible refine starI ?_ | with_reducible refine starTT ?_ | with_reducible refine andI ?_ | with_reducible refine orVI ?_ | with_reducible refine notI ?_ | with_reducible refine ifEI ?_ | with_reducible refine forI ?_ | with_reducible refine r1I ?_ | with_reducible refine ir2I ?_ | with_reducible refine iTupI ?_ | with_reducible refine truI ?_ | with_reducible refine chainI ?_ | with_reducible refine lcI ?_ | with_reducible refine slI ?_ | with_reducible refine noPI ?_ | with_reducible refine ptI ?_ | with_reducible refine unI ?_ | with_reducible refine brkI ?_ | with_reducible refine cntI ?_ | with_reducible refine retNI ?_ | with_reducible refine addII ?_ | with_reducible refine rI0 ?_ | with_reducible refine rIC ?_ ?_ | with_reducible refine mulII ?_ ?_ | with_reducible refine addTT ?_ ?_ | with_reducible refine addSS ?_ ?_ | with_reducible refine negII ?_ | with_reducible refine eqII ?_ | with_reducible refine eqSS ?_ | with_reducible refine eqBB ?_ | with_reducible refine neII ?_ | with_reducible refine neSS ?_ | with_reducible refine neBB ?_ | with_reducible refine isNN ?_ | with_reducible refine isNotNN ?_ | with_reducible refine isBB ?_ | with_reducible refine isNotBB ?_ | with_reducible refine lenTI ?_ | with_reducible refine lenFI ?_ | with_reducible refine intII ?_ | with_reducible refine intBI ?_ | with_reducible refine tupTI ?_ | with_reducible refine minII ?_ | with_reducible refine maxII ?_ | with_reducible refine slTI ?_ | with_reducible refine gcI ?_ | with_reducible refine gnI ?_ | with_reducible refine aNI ?_ | ((with_reducible refine ttI ?_ ?_); exact rfl) | ((with_reducible refine And.intro ?_ ?_); exact rfl) | ((with_reducible refine And.intro ?_ ?_); exact lenOk rfl) | dsimp only [En.s]))
  subst hX
  unfold bl_law_3
  generalize hX : bl_law_2 = X
  have hS := (h.sub s1).sub s2
  (repeat (first | with_reducible refine seqI ?_ | with_reducible refine setI ?_ | with_reducible refine asgI ?_ | with_reducible refine retI ?_ | with_reducible refine opI ?_ | with_reducible refine callI ?_ | with_reducible refine consI ?_ | with_reducible refine cI ?_ | with_reducible refine nilI ?_ | ((with_reducible apply varI); exact rfl) | with_reducible refine cbI ?_ | with_reducible refine ifI ?_ | with_reducible refine tstI ?_ | with_reducible refine notTI ?_ | with_reducible refine andTI ?_ | with_reducible refine orTI ?_ | with_reducible refine dropI ?_ | with_reducible refine nextI ?_ | with_reducible refine tupI ?_ | with_reducible refine lstI ?_ | with_reducible refine starI ?_ | with_reducible refine starTT ?_ | with_reducible refine andI ?_ | with_reducible refine orVI ?_ | with_reducible refine notI ?_ | with_reducible refine ifEI ?_ | with_reducible refine forI ?_ | with_reducible refine r1I ?_ | with_reducible refine ir2I ?_ | with_reducible refine iTupI ?_ | with_reducible refine truI ?_ | with_reducible refine chainI ?_ | with_reducible refine lcI ?_ | with_reducible refine slI ?_ | with_reducible refine noPI ?_ | with_reducible refine ptI ?_ | with_reducible refine unI ?_ | with_reducible refine brkI ?_ | with_reducible refine cntI ?_ | with_reducible refine retNI ?_ | with_reducible refine addII ?_ | with_reducible refine rI0 ?_ | with_reducible refine rIC ?_ ?_ | with_reducible refine mulII ?_ ?_ | with_reducible refine addTT ?_ ?_ | with_reducible refine addSS ?_ ?_ | with_reducible refine negII ?_ | with_reducible refine eqII ?_ | with_reducible refine eqSS ?_ | with_reducible refine eqBB ?_ | with_reducible refine neII ?_ | with_reducible refine neSS ?_ | with_reducible refine neBB ?_ | with_reducible refine isNN ?_ | with_reducible refine isNotNN ?_ | with_reducible refine isBB ?_ | with_reducible refine isNotBB ?_ | with_reducible refine lenTI ?_ | with_reducible refine lenFI ?_ | with_reducible refine intII ?_ | with_reducible refine intBI ?_ | with_reducible refine tupTI ?_ | with_reducible refine minII ?_ | with_reducible refine maxII ?_ | with_reducible refine slTI ?_ | with_reducible refine gcI ?_ | with_reducible refine gnI ?_ | with_reducible refine aNI ?_ | ((with_reducible refine ttI ?_ ?_); exact rfl) | ((with_reducible refine And.intro ?_ ?_); exact rfl) | ((with_reducible refine And.intro ?_ ?_); exact lenOk rfl) | dsimp only [En.s]))
  refine pickF hS.row h3 (by simp) (by simp) fun d m3 hd hr3 e3 => ?_
  (repeat (first | with_reducible refine seqI ?_ | with_reducible refine setI ?_ | with_reducible refine asgI ?_ | with_reducible refine retI ?_ | with_reducible refine opI ?_ | with_reducible refine callI ?_ | with_reducible refine consI ?_ | with_reducible refine cI ?_ | with_reducible refine nilI ?_ | ((with_reducible apply varI); exact rfl) | with_reducible refine cbI ?_ | with_reducible refine ifI ?_ | with_reducible refine tstI ?_ | with_reducible refine notTI ?_ | with_reducible refine andTI ?_ | with_reducible refine orTI ?_ | with_reducible refine dropI ?_ | with_reducible refine nextI ?_ | with_reducible refine tupI ?_ | with_reducible refine lstI ?_ | with_reducible refine starI ?_ | with_reducible refine starTT ?_ | with_reducible refine andI ?_ | with_reducible refine orVI ?_ | with_reducible refine notI ?_ | with_reducible refine ifEI ?_ | with_reducible refine forI ?_ | with_reducible refine r1I ?_ | with_reducible refine ir2I ?_ | with_reducible refine iTupI ?_ | with_reducible refine truI ?_ | with_reducible refine chainI ?_ | with_reducible refine lcI ?_ | with_reducible refine slI ?_ | with_reducible refine noPI ?_ | with_reducible refine ptI ?_ | with_reducible refine unI ?_ | with_reducible refine brkI ?_ | with_reducible refine cntI ?_ | with_reducible refine retNI ?_ | with_reducible refine addII ?_ | with_reducible refine rI0 ?_ | with_reducible refine rIC ?_ ?_ | with_reducible refine mulII ?_ ?_ | with_reducible refine addTT ?_ ?_ | with_reducible refine addSS ?_ ?_ | with_reducible refine negII ?_ | with_reducible refine eqII ?_ | with_reducible refine eqSS ?_ | with_reducible refine eqBB ?_ | with_reducible refine neII ?_ | with_reducible refine neSS ?_ | with_reducible refine neBB ?_ | with_reducible refine isNN ?_ | with_reducible refine isNotNN ?_ | with_reducible refine isBB ?_ | with_reducible refine isNotBB ?_ | with_reducible refine lenTI ?_ | with_reducible refine lenFI ?_ | with_reducible refine intII ?_ | with_reducible refine intBI ?_ | with_reducible refine tupTI ?_ | with_reducible refine minII ?_ | with_reducible refine maxII ?_ | with_reducible refine slTI ?_ | with_reducible refine gcI ?_ | with_reducible refine gnI ?_ | with_reducible refine aNI ?_ | ((with_reducible refine ttI ?_ ?_); exact rfl) | ((with_reducible refine And.intro ?_ ?_); exact rfl) | ((with_reducible refine And.intro ?_ ?_); exact lenOk rfl) | dsimp only [En.s]))
  subst hX
  refine law2 pk hfl (hS.ev hr3 e3) ?_ q
  simp only [List.mem_cons, List.not_mem_nil, or_false] at hd
  rcases hd with e | e | e | e | e | e | e | e | e | e | e | e <;> subst e
  · exact .inl ⟨.non, rfl, rfl⟩
  · refine .inl ⟨.list, ?_, rfl⟩
    show (if (m3.l a1).isSome then some Ab.Ty.list else _) = _
    rw [l_of (e3 _ _ n1 (s2 _ _ e1))]; rfl
  · exact .inr (.inr (.inr ⟨1, 1, rfl, by omega, by omega, by omega⟩))
  · exact .inr (.inr (.inr ⟨2, 1, rfl, by omega, by omega, by omega⟩))
  · exact .inr (.inr (.inl ⟨_, rfl, fun m => .inr (.inl ⟨_, rfl⟩)⟩))
  · exact .inr (.inr (.inl ⟨_, rfl, fun m => .inr (.inr ⟨_, rfl, .inl (by omega)⟩)⟩))
  · exact .inr (.inr (.inl ⟨_, rfl, fun m => .inr (.inr ⟨_, rfl, .inr (by omega)⟩)⟩))
  · exact .inr (.inr (.inl ⟨_, rfl, fun m => .inl ⟨.str, rfl, rfl⟩⟩))
  · exact .inl ⟨.int, rfl, rfl⟩
  · exact .inr (.inl ⟨_, rfl, by unfold rngD; rw [List.length_map, List.length_range]; decide⟩)
  · exact .inr (.inr (.inl ⟨_, rfl, fun m => .inl ⟨.non, rfl, rfl⟩⟩))
  · refine .inl ⟨.dict, ?_, rfl⟩
    have e := e3 _ _ n2 e2
    show (if (m3.l a2).isSome then some Ab.Ty.list else (match m3 a2 with | some (.dic _) => some .dict | _ => none)) = _
    rw [show m3.l a2 = none from by unfold M.l; rw [e], e]
    rfl
theorem law5 (pk : Ok p) (hfl : p.fld (p.cA "TooMany") "most" = true) (h : St p ns r m) (q : ∀ m', A.rt (.bl true) m') : bl_law_5 p A [x0, some (.ref r), x2, x3, x4, x5] m := by
  unfold bl_law_5
  generalize hX : bl_law_4 = X
  (repeat (first | with_reducible refine seqI ?_ | with_reducible refine setI ?_ | with_reducible refine asgI ?_ | with_reducible refine retI ?_ | with_reducible refine opI ?_ | with_reducible refine callI ?_ | with_reducible refine consI ?_ | with_reducible refine cI ?_ | with_reducible refine nilI ?_ | ((with_reducible apply varI); exact rfl) | with_reducible refine cbI ?_ | with_reducible refine ifI ?_ | with_reducible refine tstI ?_ | with_reducible refine notTI ?_ | with_reducible refine andTI ?_ | with_reducible refine orTI ?_ | with_reducible refine dropI ?_ | with_reducible refine nextI ?_ | with_reducible refine tupI ?_ | with_reducible refine lstI ?_ | with_reducible refine starI ?_ | with_reducible refine starTT ?_ | with_reducible refine andI ?_ | with_reducible refine orVI ?_ | with_reducible refine notI ?_ | with_reducible refine ifEI ?_ | with_reducible refine forI ?_ | with_reducible refine r1I ?_ | with_reducible refine ir2I ?_ | with_reducible refine iTupI ?_ | with_reducible refine truI ?_ | with_reducible refine chainI ?_ | with_reducible refine lcI ?_ | with_reducible refine slI ?_ | with_reducible refine noPI ?_ | with_reducible refine ptI ?_ | with_reducible refine unI ?_ | with_reducible refine brkI ?_ | with_reducible refine cntI ?_ | with_reducible refine retNI ?_ | with_reducible refine addII ?_ | with_reducible refine rI0 ?_ | with_reducible refine rIC ?_ ?_ | with_reducible refine mulII ?_ ?_ | with_reducible refine addTT ?_ ?_ | with_reducible refine addSS ?_ ?_ | with_reducible refine negII ?_ | with_reducible refine eqII ?_ | with_reducible refine eqSS ?_ | with_reducible refine eqBB ?_ | with_reducible refine neII ?_ | with_reducible refine neSS ?_ | with_reducible refine neBB ?_ | with_reducible refine isNN ?_ | with_reducible refine isNotNN ?_ | with_reducible refine isBB ?_ | with_reducible refine isNotBB ?_ | with_reducible refine lenTI ?_ | with_reducible refine lenFI ?_ | with_reducible refine intII ?_ | with_reducible refine intBI ?_ | with_reducible refine tupTI ?_ | with_reducible refine minII ?_ | with_reducible refine maxII ?_ | with_reducible refine slTI ?_ | with_reducible refine gcI ?_ | with_reducible refine gnI ?_ | with_reducible refine aNI ?_ | ((with_reducible refine ttI ?_ ?_); exact rfl) | ((with_reducible refine And.intro ?_ ?_); exact rfl) | ((with_reducible refine And.intro ?_ ?_); exact lenOk rfl) | dsimp only [En.s]))
  refine works pk h.tab fun l f0 f1 f2 f3 f4 f5 m1 hl s1 W => ?_
  (repeat (first | with_reducible refine seqI ?_ | with_reducible refine setI ?_ | with_reducible refine asgI ?_ | with_reducible refine retI ?_ | with_reducible refine opI ?_ | with_reducible refine callI ?_ | with_reducible refine consI ?_ | with_reducible refine cI ?_ | with_reducible refine nilI ?_ | ((with_reducible apply varI); exact rfl) | with_reducible refine cbI ?_ | with_reducible refine ifI ?_ | with_reducible refine tstI ?_ | with_reducible refine notTI ?_ | with_reducible refine andTI ?_ | with_reducible refine orTI ?_ | with_reducible refine dropI ?_ | with_reducible refine nextI ?_ | with_reducible refine tupI ?_ | with_reducible refine lstI ?_ | with_reducible refine starI ?_ | with_reducible refine starTT ?_ | with_reducible refine andI ?_ | with_reducible refine orVI ?_ | with_reducible refine notI ?_ | with_reducible refine ifEI ?_ | with_reducible refine forI ?_ | with_reducible refine r1I ?_ | with_reducible refine ir2I ?_ | with_reducible refine iTupI ?_ | with_reducible refine truI ?_ | with_reducible refine chainI ?_ | with_reducible refine lcI ?_ | with_reducible refine slI ?_ | with_reducible refine noPI ?_ | with_reducible refine ptI ?_ | with_reducible refine unI ?_ | with_reducible refine brkI ?_ | with_reducible refine cntI ?_ | with_reducible refine retNI ?_ | with_reducible refine addII ?_ | with_reducible refine rI0 ?_ | with_reducible refine rIC ?_ ?_ | with_reducible refine mulII ?_ ?_ | with_reducible refine addTT ?_ ?_ | with_reducible refine addSS ?_ ?_ | with_reducible refine negII ?_ | with_reducible refine eqII ?_ | with_reducible refine eqSS ?_ | with_reducible refine eqBB ?_ | with_reducible refine neII ?_ | with_reducible refine neSS ?_ | with_reducible refine neBB ?_ | with_reducible refine isNN ?_ | with_reducible refine isNotNN ?_ | with_reducible refine isBB ?_ | with_reducible refine isNotBB ?_ | with_reducible refine lenTI ?_ | with_reducible refine lenFI ?_ | with_reducible refine intII ?_ | with_reducible refine intBI ?_ | with_reducible refine tupTI ?_ | with_reducible refine minII ?_ | with_reducible refine maxII ?_ | with_reducible refine slTI ?_ | with_reducible refine gcI ?_ | with_reducible refine gnI ?_ | with_reducible refine aNI ?_ | ((with_reducible refine ttI ?_ ?_); exact rfl) | ((with_reducible refine And.intro ?_ ?_); exact rfl) | ((with_reducible refine And.intro ?_ ?_); exact lenOk rfl) | dsimp only [En.s]))
  refine ixRI (l_of W.lst) (d := .ref f5) at5 ?_
  (repeat (first | with_reducible refine seqI ?_ | with_reducible refine setI ?_ | with_reducible refine asgI ?_ | with_reducible refine retI ?_ | with_reducible refine opI ?_ | with_reducible refine callI ?_ | with_reducible refine consI ?_ | with_reducible refine cI ?_ | with_reducible refine nilI ?_ | ((with_reducible apply varI); exact rfl) | with_reducible refine cbI ?_ | with_reducible refine ifI ?_ | with_reducible refine tstI ?_ | with_reducible refine notTI ?_ | with_reducible refine andTI ?_ | with_reducible refine orTI ?_ | with_reducible refine dropI ?_ | with_reducible refine nextI ?_ | with_reducible refine tupI ?_ | with_reducible refine lstI ?_ | with_reducible refine starI ?_ | with_reducible refine starTT ?_ | with_reducible refine andI ?_ | with_reducible refine orVI ?_ | with_reducible refine notI ?_ | with_reducible refine ifEI ?_ | with_reducible refine forI ?_ | with_reducible refine r1I ?_ | with_reducible refine ir2I ?_ | with_reducible refine iTupI ?_ | with_reducible refine truI ?_ | with_reducible refine chainI ?_ | with_reducible refine lcI ?_ | with_reducible refine slI ?_ | with_reducible refine noPI ?_ | with_reducible refine ptI ?_ | with_reducible refine unI ?_ | with_reducible refine brkI ?_ | with_reducible refine cntI ?_ | with_reducible refine retNI ?_ | with_reducible refine addII ?_ | with_reducible refine rI0 ?_ | with_reducible refine rIC ?_ ?_ | with_reducible refine mulII ?_ ?_ | with_reducible refine addTT ?_ ?_ | with_reducible refine addSS ?_ ?_ | with_reducible refine negII ?_ | with_reducible refine eqII ?_ | with_reducible refine eqSS ?_ | with_reducible refine eqBB ?_ | with_reducible refine neII ?_ | with_reducible refine neSS ?_ | with_reducible refine neBB ?_ | with_reducible refine isNN ?_ | with_reducible refine isNotNN ?_ | with_reducible refine isBB ?_ | with_reducible refine isNotBB ?_ | with_reducible refine lenTI ?_ | with_reducible refine lenFI ?_ | with_reducible refine intII ?_ | with_reducible refine intBI ?_ | with_reducible refine tupTI ?_ | with_reducible refine minII ?_ | with_reducible refine maxII ?_ | with_reducible refine slTI ?_ | with_reducible refine gcI ?_ | with_reducible refine gnI ?_ | with_reducible refine aNI ?_ | ((with_reducible refine ttI ?_ ?_); exact rfl) | ((with_reducible refine And.intro ?_ ?_); exact rfl) | ((with_reducible refine And.intro ?_ ?_); exact lenOk rfl) | dsimp only [En.s]))
  refine refused pk W.w5 t5 (n := "BadNumber") (by simp) (fun Q2 R2 hR => lam5 (.inr (.inr ⟨25, rfl, .inr (by omega)⟩)) hR) fun m2 s2 => ?_
  (repeat (first | with_reducible refine seqI ?_ | with_reducible refine setI ?_ | with_reducible refine asgI ?_ | with_reducible refine retI ?_ | with_reducible refine opI ?_ | with_reducible refine callI ?_ | with_reducible refine consI ?_ | with_reducible refine cI ?_ | with_reducible refine nilI ?_ | ((with_reducible apply varI); exact rfl) | with_reducible refine cbI ?_ | with_reducible refine ifI ?_ | with_reducible refine tstI ?_ | with_reducible refine notTI ?_ | with_reducible refine andTI ?_ | with_reducible refine orTI ?_ | with_reducible refine dropI ?_ | with_reducible refine nextI ?_ | with_reducible refine tupI ?_ | with_reducible refine lstI ?_ | with_reducible refine starI ?_ | with_reducible refine starTT ?_ | with_reducible refine andI ?_ | with_reducible refine orVI ?_ | with_reducible refine notI ?_ | with_reducible refine ifEI ?_ | with_reducible refine forI ?_ | with_reducible refine r1I ?_ | with_reducible refine ir2I ?_ | with_reducible refine iTupI ?_ | with_reducible refine truI ?_ | with_reducible refine chainI ?_ | with_reducible refine lcI ?_ | with_reducible refine slI ?_ | with_reducible refine noPI ?_ | with_reducible refine ptI ?_ | with_reducible refine unI ?_ | with_reducible refine brkI ?_ | with_reducible refine cntI ?_ | with_reducible refine retNI ?_ | with_reducible refine addII ?_ | with_reducible refine rI0 ?_ | with_reducible refine rIC ?_ ?_ | with_reducible refine mulII ?_ ?_ | with_reducible refine addTT ?_ ?_ | with_reducible refine addSS ?_ ?_ | with_reducible refine negII ?_ | with_reducible refine eqII ?_ | with_reducible refine eqSS ?_ | with_reducible refine eqBB ?_ | with_reducible refine neII ?_ | with_reducible refine neSS ?_ | with_reducible refine neBB ?_ | with_reducible refine isNN ?_ | with_reducible refine isNotNN ?_ | with_reducible refine isBB ?_ | with_reducible refine isNotBB ?_ | with_reducible refine lenTI ?_ | with_reducible refine lenFI ?_ | with_reducible refine intII ?_ | with_reducible refine intBI ?_ | with_reducible refine tupTI ?_ | with_reducible refine minII ?_ | with_reducible refine maxII ?_ | with_reducible refine slTI ?_ | with_reducible refine gcI ?_ | with_reducible refine gnI ?_ | with_reducible refine aNI ?_ | ((with_reducible refine ttI ?_ ?_); exact rfl) | ((with_reducible refine And.intro ?_ ?_); exact rfl) | ((with_reducible refine And.intro ?_ ?_); exact lenOk rfl) | dsimp only [En.s]))
  refine bl_f (by decide) ?_
  (repeat (first | with_reducible refine seqI ?_ | with_reducible refine setI ?_ | with_reducible refine asgI ?_ | with_reducible refine retI ?_ | with_reducible refine opI ?_ | with_reducible refine callI ?_ | with_reducible refine consI ?_ | with_reducible refine cI ?_ | with_reducible refine nilI ?_ | ((with_reducible apply varI); exact rfl) | with_reducible refine cbI ?_ | with_reducible refine ifI ?_ | with_reducible refine tstI ?_ | with_reducible refine notTI ?_ | with_reducible refine andTI ?_ | with_reducible refine orTI ?_ | with_reducible refine dropI ?_ | with_reducible refine nextI ?_ | with_reducible refine tupI ?_ | with_reducible refine lstI ?_ | with_reducible refine starI ?_ | with_reducible refine starTT ?_ | with_reducible refine andI ?_ | with_reducible refine orVI ?_ | with_reducible refine notI ?_ | with_reducible refine ifEI ?_ | with_reducible refine forI ?_ | with_reducible refine r1I ?_ | with_reducible refine ir2I ?_ | with_reducible refine iTupI ?_ | with_reducible refine truI ?_ | with_reducible refine chainI ?_ | with_reducible refine lcI ?_ | with_reducible refine slI ?_ | with_reducible refine noPI ?_ | with_reducible refine ptI ?_ | with_reducible refine unI ?_ | with_reducible refine brkI ?_ | with_reducible refine cntI ?_ | with_reducible refine retNI ?_ | with_reducible refine addII ?_ | with_reducible refine rI0 ?_ | with_reducible refine rIC ?_ ?_ | with_reducible refine mulII ?_ ?_ | with_reducible refine addTT ?_ ?_ | with_reducible refine addSS ?_ ?_ | with_reducible refine negII ?_ | with_reducible refine eqII ?_ | with_reducible refine eqSS ?_ | with_reducible refine eqBB ?_ | with_reducible refine neII ?_ | with_reducible refine neSS ?_ | with_reducible refine neBB ?_ | with_reducible refine isNN ?_ | with_reducible refine isNotNN ?_ | with_reducible refine isBB ?_ | with_reducible refine isNotBB ?_ | with_reducible refine lenTI ?_ | with_reducible refine lenFI ?_ | with_reducible refine intII ?_ | with_reducible refine intBI ?_ | with_reducible refine tupTI ?_ | with_reducible refine minII ?_ | with_reducible refine maxII ?_ | with_reducible refine slTI ?_ | with_reducible refine gcI ?_ | with_reducible refine gnI ?_ | with_reducible refine aNI ?_ | ((with_reducible refine ttI ?_ ?_); exact rfl) | ((with_reducible refine And.intro ?_ ?_); exact rfl) | ((with_reducible refine And.intro ?_ ?_); exact lenOk rfl) | dsimp only [En.s]))
  subst hX
  exact law4 pk hfl ((h.sub s1).sub s2) q
theorem law6 {d : D} (pk : Ok p) (hfl : p.fld (p.cA "TooMany") "most" = true) (h : St p ns r m) (hd : NInt m d 2 4096) (hd2 : NInt m d 2 24) (q : ∀ m', A.rt (.bl true) m') : bl_law_6 p A [x0, some (.ref r), x2, x3, some d, x5] m := by
  unfold bl_law_6
  generalize hX : bl_law_5 = X
  (repeat (first | with_reducible refine seqI ?_ | with_reducible refine setI ?_ | with_reducible refine asgI ?_ | with_reducible refine retI ?_ | with_reducible refine opI ?_ | with_reducible refine callI ?_ | with_reducible refine consI ?_ | with_reducible refine cI ?_ | with_reducible refine nilI ?_ | ((with_reducible apply varI); exact rfl) | with_reducible refine cbI ?_ | with_reducible refine ifI ?_ | with_reducible refine tstI ?_ | with_reducible refine notTI ?_ | with_reducible refine andTI ?_ | with_reducible refine orTI ?_ | with_reducible refine dropI ?_ | with_reducible refine nextI ?_ | with_reducible refine tupI ?_ | with_reducible refine lstI ?_ | with_reducible refine starI ?_ | with_reducible refine starTT ?_ | with_reducible refine andI ?_ | with_reducible refine orVI ?_ | with_reducible refine notI ?_ | with_reducible refine ifEI ?_ | with_reducible refine forI ?_ | with_reducible refine r1I ?_ | with_reducible refine ir2I ?_ | with_reducible refine iTupI ?_ | with_reducible refine truI ?_ | with_reducible refine chainI ?_ | with_reducible refine lcI ?_ | with_reducible refine slI ?_ | with_reducible refine noPI ?_ | with_reducible refine ptI ?_ | with_reducible refine unI ?_ | with_reducible refine brkI ?_ | with_reducible refine cntI ?_ | with_reducible refine retNI ?_ | with_reducible refine addII ?_ | with_reducible refine rI0 ?_ | with_reducible refine rIC ?_ ?_ | with_reducible refine mulII ?_ ?_ | with_reducible refine addTT ?_ ?_ | with_reducible refine addSS ?_ ?_ | with_reducible refine negII ?_ | with_reducible refine eqII ?_ | with_reducible refine eqSS ?_ | with_reducible refine eqBB ?_ | with_reducible refine neII ?_ | with_reducible refine neSS ?_ | with_reducible refine neBB ?_ | with_reducible refine isNN ?_ | with_reducible refine isNotNN ?_ | with_reducible refine isBB ?_ | with_reducible refine isNotBB ?_ | with_reducible refine lenTI ?_ | with_reducible refine lenFI ?_ | with_reducible refine intII ?_ | with_reducible refine intBI ?_ | with_reducible refine tupTI ?_ | with_reducible refine minII ?_ | with_reducible refine maxII ?_ | with_reducible refine slTI ?_ | with_reducible refine gcI ?_ | with_reducible refine gnI ?_ | with_reducible refine aNI ?_ | ((with_reducible refine ttI ?_ ?_); exact rfl) | ((with_reducible refine And.intro ?_ ?_); exact rfl) | ((with_reducible refine And.intro ?_ ?_); exact lenOk rfl) | dsimp only [En.s]))
  refine iLstN ?_
  (repeat (first | with_reducible refine seqI ?_ | with_reducible refine setI ?_ | with_reducible refine asgI ?_ | with_reducible refine retI ?_ | with_reducible refine opI ?_ | with_reducible refine callI ?_ | with_reducible refine consI ?_ | with_reducible refine cI ?_ | with_reducible refine nilI ?_ | ((with_reducible apply varI); exact rfl) | with_reducible refine cbI ?_ | with_reducible refine ifI ?_ | with_reducible refine tstI ?_ | with_reducible refine notTI ?_ | with_reducible refine andTI ?_ | with_reducible refine orTI ?_ | with_reducible refine dropI ?_ | with_reducible refine nextI ?_ | with_reducible refine tupI ?_ | with_reducible refine lstI ?_ | with_reducible refine starI ?_ | with_reducible refine starTT ?_ | with_reducible refine andI ?_ | with_reducible refine orVI ?_ | with_reducible refine notI ?_ | with_reducible refine ifEI ?_ | with_reducible refine forI ?_ | with_reducible refine r1I ?_ | with_reducible refine ir2I ?_ | with_reducible refine iTupI ?_ | with_reducible refine truI ?_ | with_reducible refine chainI ?_ | with_reducible refine lcI ?_ | with_reducible refine slI ?_ | with_reducible refine noPI ?_ | with_reducible refine ptI ?_ | with_reducible refine unI ?_ | with_reducible refine brkI ?_ | with_reducible refine cntI ?_ | with_reducible refine retNI ?_ | with_reducible refine addII ?_ | with_reducible refine rI0 ?_ | with_reducible refine rIC ?_ ?_ | with_reducible refine mulII ?_ ?_ | with_reducible refine addTT ?_ ?_ | with_reducible refine addSS ?_ ?_ | with_reducible refine negII ?_ | with_reducible refine eqII ?_ | with_reducible refine eqSS ?_ | with_reducible refine eqBB ?_ | with_reducible refine neII ?_ | with_reducible refine neSS ?_ | with_reducible refine neBB ?_ | with_reducible refine isNN ?_ | with_reducible refine isNotNN ?_ | with_reducible refine isBB ?_ | with_reducible refine isNotBB ?_ | with_reducible refine lenTI ?_ | with_reducible refine lenFI ?_ | with_reducible refine intII ?_ | with_reducible refine intBI ?_ | with_reducible refine tupTI ?_ | with_reducible refine minII ?_ | with_reducible refine maxII ?_ | with_reducible refine slTI ?_ | with_reducible refine gcI ?_ | with_reducible refine gnI ?_ | with_reducible refine aNI ?_ | ((with_reducible refine ttI ?_ ?_); exact rfl) | ((with_reducible refine And.intro ?_ ?_); exact rfl) | ((with_reducible refine And.intro ?_ ?_); exact lenOk rfl) | dsimp only [En.s]))
  refine works pk h.tab fun l f0 f1 f2 f3 f4 f5 m1 hl s1 W => ?_
  (repeat (first | with_reducible refine seqI ?_ | with_reducible refine setI ?_ | with_reducible refine asgI ?_ | with_reducible refine retI ?_ | with_reducible refine opI ?_ | with_reducible refine callI ?_ | with_reducible refine consI ?_ | with_reducible refine cI ?_ | with_reducible refine nilI ?_ | ((with_reducible apply varI); exact rfl) | with_reducible refine cbI ?_ | with_reducible refine ifI ?_ | with_reducible refine tstI ?_ | with_reducible refine notTI ?_ | with_reducible refine andTI ?_ | with_reducible refine orTI ?_ | with_reducible refine dropI ?_ | with_reducible refine nextI ?_ | with_reducible refine tupI ?_ | with_reducible refine lstI ?_ | with_reducible refine starI ?_ | with_reducible refine starTT ?_ | with_reducible refine andI ?_ | with_reducible refine orVI ?_ | with_reducible refine notI ?_ | with_reducible refine ifEI ?_ | with_reducible refine forI ?_ | with_reducible refine r1I ?_ | with_reducible refine ir2I ?_ | with_reducible refine iTupI ?_ | with_reducible refine truI ?_ | with_reducible refine chainI ?_ | with_reducible refine lcI ?_ | with_reducible refine slI ?_ | with_reducible refine noPI ?_ | with_reducible refine ptI ?_ | with_reducible refine unI ?_ | with_reducible refine brkI ?_ | with_reducible refine cntI ?_ | with_reducible refine retNI ?_ | with_reducible refine addII ?_ | with_reducible refine rI0 ?_ | with_reducible refine rIC ?_ ?_ | with_reducible refine mulII ?_ ?_ | with_reducible refine addTT ?_ ?_ | with_reducible refine addSS ?_ ?_ | with_reducible refine negII ?_ | with_reducible refine eqII ?_ | with_reducible refine eqSS ?_ | with_reducible refine eqBB ?_ | with_reducible refine neII ?_ | with_reducible refine neSS ?_ | with_reducible refine neBB ?_ | with_reducible refine isNN ?_ | with_reducible refine isNotNN ?_ | with_reducible refine isBB ?_ | with_reducible refine isNotBB ?_ | with_reducible refine lenTI ?_ | with_reducible refine lenFI ?_ | with_reducible refine intII ?_ | with_reducible refine intBI ?_ | with_reducible refine tupTI ?_ | with_reducible refine minII ?_ | with_reducible refine maxII ?_ | with_reducible refine slTI ?_ | with_reducible refine gcI ?_ | with_reducible refine gnI ?_ | with_reducible refine aNI ?_ | ((with_reducible refine ttI ?_ ?_); exact rfl) | ((with_reducible refine And.intro ?_ ?_); exact rfl) | ((with_reducible refine And.intro ?_ ?_); exact lenOk rfl) | dsimp only [En.s]))
  refine slRI (l_of W.lst) fun a ha => ?_
  rw [show Ab.cutD [D.ref f0, .ref f1, .ref f2, .ref f3, .ref f4, .ref f5] (some 4) none = [.ref f4, .ref f5] from rfl]
  have ea : (mset m1 a (.lst [D.ref f4, .ref f5])) a = some (.lst [D.ref f4, .ref f5]) := mset_same
  have sa := Ab.Sub.new (o := .lst [D.ref f4, .ref f5]) ha
  generalize mset m1 a (.lst [D.ref f4, .ref f5]) = m2 at ea sa ⊢
  show (match m2 a with | some (.lst ds) => _ | _ => False)
  rw [ea]
  intro b hb
  have k1 : ∀ m3, Ab.Sub m2 m3 → NInt (hideC m3) d 2 4096 := fun m3 s => NInt.hide (hd.keep fun c o _ h => s _ _ (sa _ _ (s1 _ _ h)))
  have k2 : ∀ m3, Ab.Sub m2 m3 → NInt (hideC m3) d 2 24 := fun m3 s => NInt.hide (hd2.keep fun c o _ h => s _ _ (sa _ _ (s1 _ _ h)))
  refine lc_same (m0 := m2) (s := .str "number") hb (fun m' s => s _ _ ea) _ [] _ (fun x hx m3 Q' s3 q' => ?_) mset_same (Ab.Sub.new hb) (by simp) fun m' s3 hm' => ?_
  · (repeat (first | with_reducible refine seqI ?_ | with_reducible refine setI ?_ | with_reducible refine asgI ?_ | with_reducible refine retI ?_ | with_reducible refine opI ?_ | with_reducible refine callI ?_ | with_reducible refine consI ?_ | with_reducible refine cI ?_ | with_reducible refine nilI ?_ | ((with_reducible apply varI); exact rfl) | with_reducible refine cbI ?_ | with_reducible refine ifI ?_ | with_reducible refine tstI ?_ | with_reducible refine notTI ?_ | with_reducible refine andTI ?_ | with_reducible refine orTI ?_ | with_reducible refine dropI ?_ | with_reducible refine nextI ?_ | with_reducible refine tupI ?_ | with_reducible refine lstI ?_ | with_reducible refine starI ?_ | with_reducible refine starTT ?_ | with_reducible refine andI ?_ | with_reducible refine orVI ?_ | with_reducible refine notI ?_ | with_reducible refine ifEI ?_ | with_reducible refine forI ?_ | with_reducible refine r1I ?_ | with_reducible refine ir2I ?_ | with_reducible refine iTupI ?_ | with_reducible refine truI ?_ | with_reducible refine chainI ?_ | with_reducible refine lcI ?_ | with_reducible refine slI ?_ | with_reducible refine noPI ?_ | with_reducible refine ptI ?_ | with_reducible refine unI ?_ | with_reducible refine brkI ?_ | with_reducible refine cntI ?_ | with_reducible refine retNI ?_ | with_reducible refine addII ?_ | with_reducible refine rI0 ?_ | with_reducible refine rIC ?_ ?_ | with_reducible refine mulII ?_ ?_ | with_reducible refine addTT ?_ ?_ | with_reducible refine addSS ?_ ?_ | with_reducible refine negII ?_ | with_reducible refine eqII ?_ | with_reducible refine eqSS ?_ | with_reducible refine eqBB ?_ | with_reducible refine neII ?_ | with_reducible refine neSS ?_ | with_reducible refine neBB ?_ | with_reducible refine isNN ?_ | with_reducible refine isNotNN ?_ | with_reducible refine isBB ?_ | with_reducible refine isNotBB ?_ | with_reducible refine lenTI ?_ | with_reducible refine lenFI ?_ | with_reducible refine intII ?_ | with_reducible refine intBI ?_ | with_reducible refine tupTI ?_ | with_reducible refine minII ?_ | with_reducible refine maxII ?_ | with_reducible refine slTI ?_ | with_reducible refine gcI ?_ | with_reducible refine gnI ?_ | with_reducible refine aNI ?_ | ((with_reducible refine ttI ?_ ?_); exact rfl) | ((with_reducible refine And.intro ?_ ?_); exact rfl) | ((with_reducible refine And.intro ?_ ?_); exact lenOk rfl) | dsimp only [En.s]))
    have go : ∀ {f : Addr} {L : LSyn} {ys : List Str} {ds : List D} {t : AE}, m1 f = some (.clo L ys ds) → T_lam p L ys t → (∀ Q' R', R' ⟨p.cA "BadNumber", []⟩ (hideC m3) → t (ds.map some) (hideC m3) Q' R') → s_f_law_refused p [.ref f] m3 Q' fun _ _ => False := fun hf hT ht => refused pk (s3 _ _ (sa _ _ hf)) hT (n := "BadNumber") (by simp) ht fun m4 s4 => q' m4 s4
    simp only [List.mem_cons, List.not_mem_nil, or_false] at hx
    rcases hx with e | e <;> subst e
    · exact go W.w4 t4 fun Q R hR => lam4 (k1 m3 s3) hR
    · exact go W.w5 t5 fun Q R hR => lam5 (k2 m3 s3) hR
  · (repeat (first | with_reducible refine seqI ?_ | with_reducible refine setI ?_ | with_reducible refine asgI ?_ | with_reducible refine retI ?_ | with_reducible refine opI ?_ | with_reducible refine callI ?_ | with_reducible refine consI ?_ | with_reducible refine cI ?_ | with_reducible refine nilI ?_ | ((with_reducible apply varI); exact rfl) | with_reducible refine cbI ?_ | with_reducible refine ifI ?_ | with_reducible refine tstI ?_ | with_reducible refine notTI ?_ | with_reducible refine andTI ?_ | with_reducible refine orTI ?_ | with_reducible refine dropI ?_ | with_reducible refine nextI ?_ | with_reducible refine tupI ?_ | with_reducible refine lstI ?_ | with_reducible refine starI ?_ | with_reducible refine starTT ?_ | with_reducible refine andI ?_ | with_reducible refine orVI ?_ | with_reducible refine notI ?_ | with_reducible refine ifEI ?_ | with_reducible refine forI ?_ | with_reducible refine r1I ?_ | with_reducible refine ir2I ?_ | with_reducible refine iTupI ?_ | with_reducible refine truI ?_ | with_reducible refine chainI ?_ | with_reducible refine lcI ?_ | with_reducible refine slI ?_ | with_reducible refine noPI ?_ | with_reducible refine ptI ?_ | with_reducible refine unI ?_ | with_reducible refine brkI ?_ | with_reducible refine cntI ?_ | with_reducible refine retNI ?_ | with_reducible refine addII ?_ | with_reducible refine rI0 ?_ | with_reducible refine rIC ?_ ?_ | with_reducible refine mulII ?_ ?_ | with_reducible refine addTT ?_ ?_ | with_reducible refine addSS ?_ ?_ | with_reducible refine negII ?_ | with_reducible refine eqII ?_ | with_reducible refine eqSS ?_ | with_reducible refine eqBB ?_ | with_reducible refine neII ?_ | with_reducible refine neSS ?_ | with_reducible refine neBB ?_ | with_reducible refine isNN ?_ | with_reducible refine isNotNN ?_ | with_reducible refine isBB ?_ | with_reducible refine isNotBB ?_ | with_reducible refine lenTI ?_ | with_reducible refine lenFI ?_ | with_reducible refine intII ?_ | with_reducible refine intBI ?_ | with_reducible refine tupTI ?_ | with_reducible refine minII ?_ | with_reducible refine maxII ?_ | with_reducible refine slTI ?_ | with_reducible refine gcI ?_ | with_reducible refine gnI ?_ | with_reducible refine aNI ?_ | ((with_reducible refine ttI ?_ ?_); exact rfl) | ((with_reducible refine And.intro ?_ ?_); exact rfl) | ((with_reducible refine And.intro ?_ ?_); exact lenOk rfl) | dsimp only [En.s]))
    intro c hc
    have nb : b ≠ c := fun z => by rw [← z, hm'] at hc; cases hc
    have s4 := Ab.Sub.new (o := .lst [D.str ("number" : Str)]) hc
    have ec : (mset m' c (.lst [D.str ("number" : Str)])) c = some (.lst [D.str ("number" : Str)]) := mset_same
    generalize mset m' c (.lst [D.str ("number" : Str)]) = m4 at s4 ec ⊢
    (repeat (first | with_reducible refine seqI ?_ | with_reducible refine setI ?_ | with_reducible refine asgI ?_ | with_reducible refine retI ?_ | with_reducible refine opI ?_ | with_reducible refine callI ?_ | with_reducible refine consI ?_ | with_reducible refine cI ?_ | with_reducible refine nilI ?_ | ((with_reducible apply varI); exact rfl) | with_reducible refine cbI ?_ | with_reducible refine ifI ?_ | with_reducible refine tstI ?_ | with_reducible refine notTI ?_ | with_reducible refine andTI ?_ | with_reducible refine orTI ?_ | with_reducible refine dropI ?_ | with_reducible refine nextI ?_ | with_reducible refine tupI ?_ | with_reducible refine lstI ?_ | with_reducible refine starI ?_ | with_reducible refine starTT ?_ | with_reducible refine andI ?_ | with_reducible refine orVI ?_ | with_reducible refine notI ?_ | with_reducible refine ifEI ?_ | with_reducible refine forI ?_ | with_reducible refine r1I ?_ | with_reducible refine ir2I ?_ | with_reducible refine iTupI ?_ | with_reducible refine truI ?_ | with_reducible refine chainI ?_ | with_reducible refine lcI ?_ | with_reducible refine slI ?_ | with_reducible refine noPI ?_ | with_reducible refine ptI ?_ | with_reducible refine unI ?_ | with_reducible refine brkI ?_ | with_reducible refine cntI ?_ | with_reducible refine retNI ?_ | with_reducible refine addII ?_ | with_reducible refine rI0 ?_ | with_reducible refine rIC ?_ ?_ | with_reducible refine mulII ?_ ?_ | with_reducible refine addTT ?_ ?_ | with_reducible refine addSS ?_ ?_ | with_reducible refine negII ?_ | with_reducible refine eqII ?_ | with_reducible refine eqSS ?_ | with_reducible refine eqBB ?_ | with_reducible refine neII ?_ | with_reducible refine neSS ?_ | with_reducible refine neBB ?_ | with_reducible refine isNN ?_ | with_reducible refine isNotNN ?_ | with_reducible refine isBB ?_ | with_reducible refine isNotBB ?_ | with_reducible refine lenTI ?_ | with_reducible refine lenFI ?_ | with_reducible refine intII ?_ | with_reducible refine intBI ?_ | with_reducible refine tupTI ?_ | with_reducible refine minII ?_ | with_reducible refine maxII ?_ | with_reducible refine slTI ?_ | with_reducible refine gcI ?_ | with_reducible refine gnI ?_ | with_reducible refine aNI ?_ | ((with_reducible refine ttI ?_ ?_); exact rfl) | ((with_reducible refine And.intro ?_ ?_); exact rfl) | ((with_reducible refine And.intro ?_ ?_); exact lenOk rfl) | dsimp only [En.s]))
    refine mulRI (n := 2) (l_of ec) rfl (by decide) fun f hf => ?_
    have nf : b ≠ f := fun z => by rw [← z, s4 _ _ hm'] at hf; cases hf
    refine neRR (ds := [.str "number", .str "number"]) (ps := [.str "number", .str "number"]) (by rw [l_ne nf]; exact l_of (s4 _ _ hm')) l_same rfl (by decide +kernel) (by decide +kernel) ?_
    (repeat (first | with_reducible refine seqI ?_ | with_reducible refine setI ?_ | with_reducible refine asgI ?_ | with_reducible refine retI ?_ | with_reducible refine opI ?_ | with_reducible refine callI ?_ | with_reducible refine consI ?_ | with_reducible refine cI ?_ | with_reducible refine nilI ?_ | ((with_reducible apply varI); exact rfl) | with_reducible refine cbI ?_ | with_reducible refine ifI ?_ | with_reducible refine tstI ?_ | with_reducible refine notTI ?_ | with_reducible refine andTI ?_ | with_reducible refine orTI ?_ | with_reducible refine dropI ?_ | with_reducible refine nextI ?_ | with_reducible refine tupI ?_ | with_reducible refine lstI ?_ | with_reducible refine starI ?_ | with_reducible refine starTT ?_ | with_reducible refine andI ?_ | with_reducible refine orVI ?_ | with_reducible refine notI ?_ | with_reducible refine ifEI ?_ | with_reducible refine forI ?_ | with_reducible refine r1I ?_ | with_reducible refine ir2I ?_ | with_reducible refine iTupI ?_ | with_reducible refine truI ?_ | with_reducible refine chainI ?_ | with_reducible refine lcI ?_ | with_reducible refine slI ?_ | with_reducible refine noPI ?_ | with_reducible refine ptI ?_ | with_reducible refine unI ?_ | with_reducible refine brkI ?_ | with_reducible refine cntI ?_ | with_reducible refine retNI ?_ | with_reducible refine addII ?_ | with_reducible refine rI0 ?_ | with_reducible refine rIC ?_ ?_ | with_reducible refine mulII ?_ ?_ | with_reducible refine addTT ?_ ?_ | with_reducible refine addSS ?_ ?_ | with_reducible refine negII ?_ | with_reducible refine eqII ?_ | with_reducible refine eqSS ?_ | with_reducible refine eqBB ?_ | with_reducible refine neII ?_ | with_reducible refine neSS ?_ | with_reducible refine neBB ?_ | with_reducible refine isNN ?_ | with_reducible refine isNotNN ?_ | with_reducible refine isBB ?_ | with_reducible refine isNotBB ?_ | with_reducible refine lenTI ?_ | with_reducible refine lenFI ?_ | with_reducible refine intII ?_ | with_reducible refine intBI ?_ | with_reducible refine tupTI ?_ | with_reducible refine minII ?_ | with_reducible refine maxII ?_ | with_reducible refine slTI ?_ | with_reducible refine gcI ?_ | with_reducible refine gnI ?_ | with_reducible refine aNI ?_ | ((with_reducible refine ttI ?_ ?_); exact rfl) | ((with_reducible refine And.intro ?_ ?_); exact rfl) | ((with_reducible refine And.intro ?_ ?_); exact lenOk rfl) | dsimp only [En.s]))
    refine bl_f rfl ?_
    (repeat (first | with_reducible refine seqI ?_ | with_reducible refine setI ?_ | with_reducible refine asgI ?_ | with_reducible refine retI ?_ | with_reducible refine opI ?_ | with_reducible refine callI ?_ | with_reducible refine consI ?_ | with_reducible refine cI ?_ | with_reducible refine nilI ?_ | ((with_reducible apply varI); exact rfl) | with_reducible refine cbI ?_ | with_reducible refine ifI ?_ | with_reducible refine tstI ?_ | with_reducible refine notTI ?_ | with_reducible refine andTI ?_ | with_reducible refine orTI ?_ | with_reducible refine dropI ?_ | with_reducible refine nextI ?_ | with_reducible refine tupI ?_ | with_reducible refine lstI ?_ | with_reducible refine starI ?_ | with_reducible refine starTT ?_ | with_reducible refine andI ?_ | with_reducible refine orVI ?_ | with_reducible refine notI ?_ | with_reducible refine ifEI ?_ | with_reducible refine forI ?_ | with_reducible refine r1I ?_ | with_reducible refine ir2I ?_ | with_reducible refine iTupI ?_ | with_reducible refine truI ?_ | with_reducible refine chainI ?_ | with_reducible refine lcI ?_ | with_reducible refine slI ?_ | with_reducible refine noPI ?_ | with_reducible refine ptI ?_ | with_reducible refine unI ?_ | with_reducible refine brkI ?_ | with_reducible refine cntI ?_ | with_reducible refine retNI ?_ | with_reducible refine addII ?_ | with_reducible refine rI0 ?_ | with_reducible refine rIC ?_ ?_ | with_reducible refine mulII ?_ ?_ | with_reducible refine addTT ?_ ?_ | with_reducible refine addSS ?_ ?_ | with_reducible refine negII ?_ | with_reducible refine eqII ?_ | with_reducible refine eqSS ?_ | with_reducible refine eqBB ?_ | with_reducible refine neII ?_ | with_reducible refine neSS ?_ | with_reducible refine neBB ?_ | with_reducible refine isNN ?_ | with_reducible refine isNotNN ?_ | with_reducible refine isBB ?_ | with_reducible refine isNotBB ?_ | with_reducible refine lenTI ?_ | with_reducible refine lenFI ?_ | with_reducible refine intII ?_ | with_reducible refine intBI ?_ | with_reducible refine tupTI ?_ | with_reducible refine minII ?_ | with_reducible refine maxII ?_ | with_reducible refine slTI ?_ | with_reducible refine gcI ?_ | with_reducible refine gnI ?_ | with_reducible refine aNI ?_ | ((with_reducible refine ttI ?_ ?_); exact rfl) | ((with_reducible refine And.intro ?_ ?_); exact rfl) | ((with_reducible refine And.intro ?_ ?_); exact lenOk rfl) | dsimp only [En.s]))
    subst hX
    exact law5 pk hfl (h.sub (s1.trans (sa.trans (s3.trans (s4.trans (Ab.Sub.new hf)))))) q
theorem law7 (pk : Ok p) (hfl : p.fld (p.cA "TooMany") "most" = true) (h : St p ns r m) (q : ∀ m', A.rt (.bl true) m') : bl_law_7 p A [x0, some (.ref r), x2, x3, x4, x5] m := by
  unfold bl_law_7
  generalize hX : bl_law_6 = X
  (repeat (first | with_reducible refine seqI ?_ | with_reducible refine setI ?_ | with_reducible refine asgI ?_ | with_reducible refine retI ?_ | with_reducible refine opI ?_ | with_reducible refine callI ?_ | with_reducible refine consI ?_ | with_reducible refine cI ?_ | with_reducible refine nilI ?_ | ((with_reducible apply varI); exact rfl) | with_reducible refine cbI ?_ | with_reducible refine ifI ?_ | with_reducible refine tstI ?_ | with_reducible refine notTI ?_ | with_reducible refine andTI ?_ | with_reducible refine orTI ?_ | with_reducible refine dropI ?_ | with_reducible refine nextI ?_ | with_reducible refine tupI ?_ | with_reducible refine lstI ?_ | with_reducible refine starI ?_ | with_reducible refine starTT ?_ | with_reducible refine andI ?_ | with_reducible refine orVI ?_ | with_reducible refine notI ?_ | with_reducible refine ifEI ?_ | with_reducible refine forI ?_ | with_reducible refine r1I ?_ | with_reducible refine ir2I ?_ | with_reducible refine iTupI ?_ | with_reducible refine truI ?_ | with_reducible refine chainI ?_ | with_reducible refine lcI ?_ | with_reducible refine slI ?_ | with_reducible refine noPI ?_ | with_reducible refine ptI ?_ | with_reducible refine unI ?_ | with_reducible refine brkI ?_ | with_reducible refine cntI ?_ | with_reducible refine retNI ?_ | with_reducible refine addII ?_ | with_reducible refine rI0 ?_ | with_reducible refine rIC ?_ ?_ | with_reducible refine mulII ?_ ?_ | with_reducible refine addTT ?_ ?_ | with_reducible refine addSS ?_ ?_ | with_reducible refine negII ?_ | with_reducible refine eqII ?_ | with_reducible refine eqSS ?_ | with_reducible refine eqBB ?_ | with_reducible refine neII ?_ | with_reducible refine neSS ?_ | with_reducible refine neBB ?_ | with_reducible refine isNN ?_ | with_reducible refine isNotNN ?_ | with_reducible refine isBB ?_ | with_reducible refine isNotBB ?_ | with_reducible refine lenTI ?_ | with_reducible refine lenFI ?_ | with_reducible refine intII ?_ | with_reducible refine intBI ?_ | with_reducible refine tupTI ?_ | with_reducible refine minII ?_ | with_reducible refine maxII ?_ | with_reducible refine slTI ?_ | with_reducible refine gcI ?_ | with_reducible refine gnI ?_ | with_reducible refine aNI ?_ | ((with_reducible refine ttI ?_ ?_); exact rfl) | ((with_reducible refine And.intro ?_ ?_); exact rfl) | ((with_reducible refine And.intro ?_ ?_); exact lenOk rfl) | dsimp only [En.s]))
  intro a1 h1
  have n1 := h.row.ne h1
  have s1 := Ab.Sub.new (o := .lst []) h1
  have e1 : (mset m a1 (.lst [])) a1 = some (.lst []) := mset_same
  generalize mset m a1 (.lst []) = m1 at s1 e1 ⊢
  (repeat (first | with_reducible refine seqI ?_ | with_reducible refine setI ?_ | with_reducible refine asgI ?_ | with_reducible refine retI ?_ | with_reducible refine opI ?_ | with_reducible refine callI ?_ | with_reducible refine consI ?_ | with_reducible refine cI ?_ | with_reducible refine nilI ?_ | ((with_reducible apply varI); exact rfl) | with_reducible refine cbI ?_ | with_reducible refine ifI ?_ | with_reducible refine tstI ?_ | with_reducible refine notTI ?_ | with_reducible refine andTI ?_ | with_reducible refine orTI ?_ | with_reducible refine dropI ?_ | with_reducible refine nextI ?_ | with_reducible refine tupI ?_ | with_reducible refine lstI ?_ | with_reducible refine starI ?_ | with_reducible refine starTT ?_ | with_reducible refine andI ?_ | with_reducible refine orVI ?_ | with_reducible refine notI ?_ | with_reducible refine ifEI ?_ | with_reducible refine forI ?_ | with_reducible refine r1I ?_ | with_reducible refine ir2I ?_ | with_reducible refine iTupI ?_ | with_reducible refine truI ?_ | with_reducible refine chainI ?_ | with_reducible refine lcI ?_ | with_reducible refine slI ?_ | with_reducible refine noPI ?_ | with_reducible refine ptI ?_ | with_reducible refine unI ?_ | with_reducible refine brkI ?_ | with_reducible refine cntI ?_ | with_reducible refine retNI ?_ | with_reducible refine addII ?_ | with_reducible refine rI0 ?_ | with_reducible refine rIC ?_ ?_ | with_reducible refine mulII ?_ ?_ | with_reducible refine addTT ?_ ?_ | with_reducible refine addSS ?_ ?_ | with_reducible refine negII ?_ | with_reducible refine eqII ?_ | with_reducible refine eqSS ?_ | with_reducible refine eqBB ?_ | with_reducible refine neII ?_ | with_reducible refine neSS ?_ | with_reducible refine neBB ?_ | with_reducible refine isNN ?_ | with_reducible refine isNotNN ?_ | with_reducible refine isBB ?_ | with_reducible refine isNotBB ?_ | with_reducible refine lenTI ?_ | with_reducible refine lenFI ?_ | with_reducible refine intII ?_ | with_reducible refine intBI ?_ | with_reducible refine tupTI ?_ | with_reducible refine minII ?_ | with_reducible refine maxII ?_ | with_reducible refine slTI ?_ | with_reducible refine gcI ?_ | with_reducible refine gnI ?_ | with_reducible refine aNI ?_ | ((with_reducible refine ttI ?_ ?_); exact rfl) | ((with_reducible refine And.intro ?_ ?_); exact rfl) | ((with_reducible refine And.intro ?_ ?_); exact lenOk rfl) | dsimp only [En.s]))
  intro a2 h2
  (repeat (first | with_reducible refine seqI ?_ | with_reducible refine setI ?_ | with_reducible refine asgI ?_ | with_reducible refine retI ?_ | with_reducible refine opI ?_ | with_reducible refine callI ?_ | with_reducible refine consI ?_ | with_reducible refine cI ?_ | with_reducible refine nilI ?_ | ((with_reducible apply varI); exact rfl) | with_reducible refine cbI ?_ | with_reducible refine ifI ?_ | with_reducible refine tstI ?_ | with_reducible refine notTI ?_ | with_reducible refine andTI ?_ | with_reducible refine orTI ?_ | with_reducible refine dropI ?_ | with_reducible refine nextI ?_ | with_reducible refine tupI ?_ | with_reducible refine lstI ?_ | with_reducible refine starI ?_ | with_reducible refine starTT ?_ | with_reducible refine andI ?_ | with_reducible refine orVI ?_ | with_reducible refine notI ?_ | with_reducible refine ifEI ?_ | with_reducible refine forI ?_ | with_reducible refine r1I ?_ | with_reducible refine ir2I ?_ | with_reducible refine iTupI ?_ | with_reducible refine truI ?_ | with_reducible refine chainI ?_ | with_reducible refine lcI ?_ | with_reducible refine slI ?_ | with_reducible refine noPI ?_ | with_reducible refine ptI ?_ | with_reducible refine unI ?_ | with_reducible refine brkI ?_ | with_reducible refine cntI ?_ | with_reducible refine retNI ?_ | with_reducible refine addII ?_ | with_reducible refine rI0 ?_ | with_reducible refine rIC ?_ ?_ | with_reducible refine mulII ?_ ?_ | with_reducible refine addTT ?_ ?_ | with_reducible refine addSS ?_ ?_ | with_reducible refine negII ?_ | with_reducible refine eqII ?_ | with_reducible refine eqSS ?_ | with_reducible refine eqBB ?_ | with_reducible refine neII ?_ | with_reducible refine neSS ?_ | with_reducible refine neBB ?_ | with_reducible refine isNN ?_ | with_reducible refine isNotNN ?_ | with_reducible refine isBB ?_ | with_reducible refine isNotBB ?_ | with_reducible refine lenTI ?_ | with_reducible refine lenFI ?_ | with_reducible refine intII ?_ | with_reducible refine intBI ?_ | with_reducible refine tupTI ?_ | with_reducible refine minII ?_ | with_reducible refine maxII ?_ | with_reducible refine slTI ?_ | with_reducible refine gcI ?_ | with_reducible refine gnI ?_ | with_reducible refine aNI ?_ | ((with_reducible refine ttI ?_ ?_); exact rfl) | ((with_reducible refine And.intro ?_ ?_); exact rfl) | ((with_reducible refine And.intro ?_ ?_); exact lenOk rfl) | dsimp only [En.s]))
  have hS := h.sub s1
  refine pickF hS.row h2 (by simp) (by simp) fun d m3 hd hr3 e3 => ?_
  (repeat (first | with_reducible refine seqI ?_ | with_reducible refine setI ?_ | with_reducible refine asgI ?_ | with_reducible refine retI ?_ | with_reducible refine opI ?_ | with_reducible refine callI ?_ | with_reducible refine consI ?_ | with_reducible refine cI ?_ | with_reducible refine nilI ?_ | ((with_reducible apply varI); exact rfl) | with_reducible refine cbI ?_ | with_reducible refine ifI ?_ | with_reducible refine tstI ?_ | with_reducible refine notTI ?_ | with_reducible refine andTI ?_ | with_reducible refine orTI ?_ | with_reducible refine dropI ?_ | with_reducible refine nextI ?_ | with_reducible refine tupI ?_ | with_reducible refine lstI ?_ | with_reducible refine starI ?_ | with_reducible refine starTT ?_ | with_reducible refine andI ?_ | with_reducible refine orVI ?_ | with_reducible refine notI ?_ | with_reducible refine ifEI ?_ | with_reducible refine forI ?_ | with_reducible refine r1I ?_ | with_reducible refine ir2I ?_ | with_reducible refine iTupI ?_ | with_reducible refine truI ?_ | with_reducible refine chainI ?_ | with_reducible refine lcI ?_ | with_reducible refine slI ?_ | with_reducible refine noPI ?_ | with_reducible refine ptI ?_ | with_reducible refine unI ?_ | with_reducible refine brkI ?_ | with_reducible refine cntI ?_ | with_reducible refine retNI ?_ | with_reducible refine addII ?_ | with_reducible refine rI0 ?_ | with_reducible refine rIC ?_ ?_ | with_reducible refine mulII ?_ ?_ | with_reducible refine addTT ?_ ?_ | with_reducible refine addSS ?_ ?_ | with_reducible refine negII ?_ | with_reducible refine eqII ?_ | with_reducible refine eqSS ?_ | with_reducible refine eqBB ?_ | with_reducible refine neII ?_ | with_reducible refine neSS ?_ | with_reducible refine neBB ?_ | with_reducible refine isNN ?_ | with_reducible refine isNotNN ?_ | with_reducible refine isBB ?_ | with_reducible refine isNotBB ?_ | with_reducible refine lenTI ?_ | with_reducible refine lenFI ?_ | with_reducible refine intII ?_ | with_reducible refine intBI ?_ | with_reducible refine tupTI ?_ | with_reducible refine minII ?_ | with_reducible refine maxII ?_ | with_reducible refine slTI ?_ | with_reducible refine gcI ?_ | with_reducible refine gnI ?_ | with_reducible refine aNI ?_ | ((with_reducible refine ttI ?_ ?_); exact rfl) | ((with_reducible refine And.intro ?_ ?_); exact rfl) | ((with_reducible refine And.intro ?_ ?_); exact lenOk rfl) | dsimp only [En.s]))
  subst hX
  have key : ∀ hi : Int, hi ≤ 4096 → NInt m3 d 2 hi := fun hi hh => by
    simp only [List.mem_cons, List.not_mem_nil, or_false] at hd
    rcases hd with e | e | e | e | e | e | e | e | e <;> subst e
    · exact .inl ⟨.non, rfl, rfl⟩
    · exact .inr (.inl ⟨_, rfl⟩)
    · exact .inr (.inr ⟨_, rfl, .inl (by omega)⟩)
    · exact .inr (.inr ⟨_, rfl, .inl (by omega)⟩)
    · exact .inr (.inr ⟨_, rfl, .inr (by omega)⟩)
    · exact .inl ⟨.str, rfl, rfl⟩
    · exact .inl ⟨.tuple, rfl, rfl⟩
    · exact .inr (.inr ⟨_, rfl, .inl (by omega)⟩)
    · refine .inl ⟨.list, ?_, rfl⟩
      show (if (m3.l a1).isSome then some Ab.Ty.list else _) = _
      rw [l_of (e3 _ _ n1 e1)]; rfl
  exact law6 pk hfl (hS.ev hr3 e3) (key _ (by decide)) (key _ (by decide)) q
theorem law8 {d : D} (pk : Ok p) (hfl : p.fld (p.cA "TooMany") "most" = true) (h : St p ns r m) (hd : NRow m d 0 4096) (q : ∀ m', A.rt (.bl true) m') : bl_law_8 p A [x0, some (.ref r), some d, x3, x4, x5] m := by
  unfold bl_law_8
  generalize hX : bl_law_7 = X
  (repeat (first | with_reducible refine seqI ?_ | with_reducible refine setI ?_ | with_reducible refine asgI ?_ | with_reducible refine retI ?_ | with_reducible refine opI ?_ | with_reducible refine callI ?_ | with_reducible refine consI ?_ | with_reducible refine cI ?_ | with_reducible refine nilI ?_ | ((with_reducible apply varI); exact rfl) | with_reducible refine cbI ?_ | with_reducible refine ifI ?_ | with_reducible refine tstI ?_ | with_reducible refine notTI ?_ | with_reducible refine andTI ?_ | with_reducible refine orTI ?_ | with_reducible refine dropI ?_ | with_reducible refine nextI ?_ | with_reducible refine tupI ?_ | with_reducible refine lstI ?_ | with_reducible refine starI ?_ | with_reducible refine starTT ?_ | with_reducible refine andI ?_ | with_reducible refine orVI ?_ | with_reducible refine notI ?_ | with_reducible refine ifEI ?_ | with_reducible refine forI ?_ | with_reducible refine r1I ?_ | with_reducible refine ir2I ?_ | with_reducible refine iTupI ?_ | with_reducible refine truI ?_ | with_reducible refine chainI ?_ | with_reducible refine lcI ?_ | with_reducible refine slI ?_ | with_reducible refine noPI ?_ | with_reducible refine ptI ?_ | with_reducible refine unI ?_ | with_reducible refine brkI ?_ | with_reducible refine cntI ?_ | with_reducible refine retNI ?_ | with_reducible refine addII ?_ | with_reducible refine rI0 ?_ | with_reducible refine rIC ?_ ?_ | with_reducible refine mulII ?_ ?_ | with_reducible refine addTT ?_ ?_ | with_reducible refine addSS ?_ ?_ | with_reducible refine negII ?_ | with_reducible refine eqII ?_ | with_reducible refine eqSS ?_ | with_reducible refine eqBB ?_ | with_reducible refine neII ?_ | with_reducible refine neSS ?_ | with_reducible refine neBB ?_ | with_reducible refine isNN ?_ | with_reducible refine isNotNN ?_ | with_reducible refine isBB ?_ | with_reducible refine isNotBB ?_ | with_reducible refine lenTI ?_ | with_reducible refine lenFI ?_ | with_reducible refine intII ?_ | with_reducible refine intBI ?_ | with_reducible refine tupTI ?_ | with_reducible refine minII ?_ | with_reducible refine maxII ?_ | with_reducible refine slTI ?_ | with_reducible refine gcI ?_ | with_reducible refine gnI ?_ | with_reducible refine aNI ?_ | ((with_reducible refine ttI ?_ ?_); exact rfl) | ((with_reducible refine And.intro ?_ ?_); exact rfl) | ((with_reducible refine And.intro ?_ ?_); exact lenOk rfl) | dsimp only [En.s]))
  refine iLstN ?_
  (repeat (first | with_reducible refine seqI ?_ | with_reducible refine setI ?_ | with_reducible refine asgI ?_ | with_reducible refine retI ?_ | with_reducible refine opI ?_ | with_reducible refine callI ?_ | with_reducible refine consI ?_ | with_reducible refine cI ?_ | with_reducible refine nilI ?_ | ((with_reducible apply varI); exact rfl) | with_reducible refine cbI ?_ | with_reducible refine ifI ?_ | with_reducible refine tstI ?_ | with_reducible refine notTI ?_ | with_reducible refine andTI ?_ | with_reducible refine orTI ?_ | with_reducible refine dropI ?_ | with_reducible refine nextI ?_ | with_reducible refine tupI ?_ | with_reducible refine lstI ?_ | with_reducible refine starI ?_ | with_reducible refine starTT ?_ | with_reducible refine andI ?_ | with_reducible refine orVI ?_ | with_reducible refine notI ?_ | with_reducible refine ifEI ?_ | with_reducible refine forI ?_ | with_reducible refine r1I ?_ | with_reducible refine ir2I ?_ | with_reducible refine iTupI ?_ | with_reducible refine truI ?_ | with_reducible refine chainI ?_ | with_reducible refine lcI ?_ | with_reducible refine slI ?_ | with_reducible refine noPI ?_ | with_reducible refine ptI ?_ | with_reducible refine unI ?_ | with_reducible refine brkI ?_ | with_reducible refine cntI ?_ | with_reducible refine retNI ?_ | with_reducible refine addII ?_ | with_reducible refine rI0 ?_ | with_reducible refine rIC ?_ ?_ | with_reducible refine mulII ?_ ?_ | with_reducible refine addTT ?_ ?_ | with_reducible refine addSS ?_ ?_ | with_reducible refine negII ?_ | with_reducible refine eqII ?_ | with_reducible refine eqSS ?_ | with_reducible refine eqBB ?_ | with_reducible refine neII ?_ | with_reducible refine neSS ?_ | with_reducible refine neBB ?_ | with_reducible refine isNN ?_ | with_reducible refine isNotNN ?_ | with_reducible refine isBB ?_ | with_reducible refine isNotBB ?_ | with_reducible refine lenTI ?_ | with_reducible refine lenFI ?_ | with_reducible refine intII ?_ | with_reducible refine intBI ?_ | with_reducible refine tupTI ?_ | with_reducible refine minII ?_ | with_reducible refine maxII ?_ | with_reducible refine slTI ?_ | with_reducible refine gcI ?_ | with_reducible refine gnI ?_ | with_reducible refine aNI ?_ | ((with_reducible refine ttI ?_ ?_); exact rfl) | ((with_reducible refine And.intro ?_ ?_); exact rfl) | ((with_reducible refine And.intro ?_ ?_); exact lenOk rfl) | dsimp only [En.s]))
  refine works pk h.tab fun l f0 f1 f2 f3 f4 f5 m1 hl s1 W => ?_
  (repeat (first | with_reducible refine seqI ?_ | with_reducible refine setI ?_ | with_reducible refine asgI ?_ | with_reducible refine retI ?_ | with_reducible refine opI ?_ | with_reducible refine callI ?_ | with_reducible refine consI ?_ | with_reducible refine cI ?_ | with_reducible refine nilI ?_ | ((with_reducible apply varI); exact rfl) | with_reducible refine cbI ?_ | with_reducible refine ifI ?_ | with_reducible refine tstI ?_ | with_reducible refine notTI ?_ | with_reducible refine andTI ?_ | with_reducible refine orTI ?_ | with_reducible refine dropI ?_ | with_reducible refine nextI ?_ | with_reducible refine tupI ?_ | with_reducible refine lstI ?_ | with_reducible refine starI ?_ | with_reducible refine starTT ?_ | with_reducible refine andI ?_ | with_reducible refine orVI ?_ | with_reducible refine notI ?_ | with_reducible refine ifEI ?_ | with_reducible refine forI ?_ | with_reducible refine r1I ?_ | with_reducible refine ir2I ?_ | with_reducible refine iTupI ?_ | with_reducible refine truI ?_ | with_reducible refine chainI ?_ | with_reducible refine lcI ?_ | with_reducible refine slI ?_ | with_reducible refine noPI ?_ | with_reducible refine ptI ?_ | with_reducible refine unI ?_ | with_reducible refine brkI ?_ | with_reducible refine cntI ?_ | with_reducible refine retNI ?_ | with_reducible refine addII ?_ | with_reducible refine rI0 ?_ | with_reducible refine rIC ?_ ?_ | with_reducible refine mulII ?_ ?_ | with_reducible refine addTT ?_ ?_ | with_reducible refine addSS ?_ ?_ | with_reducible refine negII ?_ | with_reducible refine eqII ?_ | with_reducible refine eqSS ?_ | with_reducible refine eqBB ?_ | with_reducible refine neII ?_ | with_reducible refine neSS ?_ | with_reducible refine neBB ?_ | with_reducible refine isNN ?_ | with_reducible refine isNotNN ?_ | with_reducible refine isBB ?_ | with_reducible refine isNotBB ?_ | with_reducible refine lenTI ?_ | with_reducible refine lenFI ?_ | with_reducible refine intII ?_ | with_reducible refine intBI ?_ | with_reducible refine tupTI ?_ | with_reducible refine minII ?_ | with_reducible refine maxII ?_ | with_reducible refine slTI ?_ | with_reducible refine gcI ?_ | with_reducible refine gnI ?_ | with_reducible refine aNI ?_ | ((with_reducible refine ttI ?_ ?_); exact rfl) | ((with_reducible refine And.intro ?_ ?_); exact rfl) | ((with_reducible refine And.intro ?_ ?_); exact lenOk rfl) | dsimp only [En.s]))
  refine slRI (l_of W.lst) fun a ha => ?_
  rw [show Ab.cutD [D.ref f0, .ref f1, .ref f2, .ref f3, .ref f4, .ref f5] none (some 4) = [.ref f0, .ref f1, .ref f2, .ref f3] from rfl]
  have ea : (mset m1 a (.lst [D.ref f0, .ref f1, .ref f2, .ref f3])) a = some (.lst [D.ref f0, .ref f1, .ref f2, .ref f3]) := mset_same
  have sa := Ab.Sub.new (o := .lst [D.ref f0, .ref f1, .ref f2, .ref f3]) ha
  generalize mset m1 a (.lst [D.ref f0, .ref f1, .ref f2, .ref f3]) = m2 at ea sa ⊢
  show (match m2 a with | some (.lst ds) => _ | _ => False)
  rw [ea]
  intro b hb
  have hd2 : ∀ m3, Ab.Sub m2 m3 → NRow (hideC m3) d 0 4096 := fun m3 s => NRow.hide (hd.keep fun c o _ h => s _ _ (sa _ _ (s1 _ _ h)))
  refine lc_same (m0 := m2) (s := .str "row") hb (fun m' s => s _ _ ea) _ [] _ (fun x hx m3 Q' s3 q' => ?_) mset_same (Ab.Sub.new hb) (by simp) fun m' s3 hm' => ?_
  · (repeat (first | with_reducible refine seqI ?_ | with_reducible refine setI ?_ | with_reducible refine asgI ?_ | with_reducible refine retI ?_ | with_reducible refine opI ?_ | with_reducible refine callI ?_ | with_reducible refine consI ?_ | with_reducible refine cI ?_ | with_reducible refine nilI ?_ | ((with_reducible apply varI); exact rfl) | with_reducible refine cbI ?_ | with_reducible refine ifI ?_ | with_reducible refine tstI ?_ | with_reducible refine notTI ?_ | with_reducible refine andTI ?_ | with_reducible refine orTI ?_ | with_reducible refine dropI ?_ | with_reducible refine nextI ?_ | with_reducible refine tupI ?_ | with_reducible refine lstI ?_ | with_reducible refine starI ?_ | with_reducible refine starTT ?_ | with_reducible refine andI ?_ | with_reducible refine orVI ?_ | with_reducible refine notI ?_ | with_reducible refine ifEI ?_ | with_reducible refine forI ?_ | with_reducible refine r1I ?_ | with_reducible refine ir2I ?_ | with_reducible refine iTupI ?_ | with_reducible refine truI ?_ | with_reducible refine chainI ?_ | with_reducible refine lcI ?_ | with_reducible refine slI ?_ | with_reducible refine noPI ?_ | with_reducible refine ptI ?_ | with_reducible refine unI ?_ | with_reducible refine brkI ?_ | with_reducible refine cntI ?_ | with_reducible refine retNI ?_ | with_reducible refine addII ?_ | with_reducible refine rI0 ?_ | with_reducible refine rIC ?_ ?_ | with_reducible refine mulII ?_ ?_ | with_reducible refine addTT ?_ ?_ | with_reducible refine addSS ?_ ?_ | with_reducible refine negII ?_ | with_reducible refine eqII ?_ | with_reducible refine eqSS ?_ | with_reducible refine eqBB ?_ | with_reducible refine neII ?_ | with_reducible refine neSS ?_ | with_reducible refine neBB ?_ | with_reducible refine isNN ?_ | with_reducible refine isNotNN ?_ | with_reducible refine isBB ?_ | with_reducible refine isNotBB ?_ | with_reducible refine lenTI ?_ | with_reducible refine lenFI ?_ | with_reducible refine intII ?_ | with_reducible refine intBI ?_ | with_reducible refine tupTI ?_ | with_reducible refine minII ?_ | with_reducible refine maxII ?_ | with_reducible refine slTI ?_ | with_reducible refine gcI ?_ | with_reducible refine gnI ?_ | with_reducible refine aNI ?_ | ((with_reducible refine ttI ?_ ?_); exact rfl) | ((with_reducible refine And.intro ?_ ?_); exact rfl) | ((with_reducible refine And.intro ?_ ?_); exact lenOk rfl) | dsimp only [En.s]))
    have go : ∀ {f : Addr} {L : LSyn} {ys : List Str} {ds : List D} {t : AE}, m1 f = some (.clo L ys ds) → T_lam p L ys t → (∀ Q' R', R' ⟨p.cA "BadRow", []⟩ (hideC m3) → t (ds.map some) (hideC m3) Q' R') → s_f_law_refused p [.ref f] m3 Q' fun _ _ => False := fun hf hT ht => refused pk (s3 _ _ (sa _ _ hf)) hT (n := "BadRow") (by simp) ht fun m4 s4 => q' m4 s4
    simp only [List.mem_cons, List.not_mem_nil, or_false] at hx
    rcases hx with e | e | e | e <;> subst e
    · exact go W.w0 t0 fun Q R hR => lam0 (hd2 m3 s3) hR
    · exact go W.w1 t1 fun Q R hR => lam1 (hd2 m3 s3) hR
    · exact go W.w2 t2 fun Q R hR => lam2 (hd2 m3 s3) hR
    · exact go W.w3 t3 fun Q R hR => lam3 (hd2 m3 s3) hR
  · (repeat (first | with_reducible refine seqI ?_ | with_reducible refine setI ?_ | with_reducible refine asgI ?_ | with_reducible refine retI ?_ | with_reducible refine opI ?_ | with_reducible refine callI ?_ | with_reducible refine consI ?_ | with_reducible refine cI ?_ | with_reducible refine nilI ?_ | ((with_reducible apply varI); exact rfl) | with_reducible refine cbI ?_ | with_reducible refine ifI ?_ | with_reducible refine tstI ?_ | with_reducible refine notTI ?_ | with_reducible refine andTI ?_ | with_reducible refine orTI ?_ | with_reducible refine dropI ?_ | with_reducible refine nextI ?_ | with_reducible refine tupI ?_ | with_reducible refine lstI ?_ | with_reducible refine starI ?_ | with_reducible refine starTT ?_ | with_reducible refine andI ?_ | with_reducible refine orVI ?_ | with_reducible refine notI ?_ | with_reducible refine ifEI ?_ | with_reducible refine forI ?_ | with_reducible refine r1I ?_ | with_reducible refine ir2I ?_ | with_reducible refine iTupI ?_ | with_reducible refine truI ?_ | with_reducible refine chainI ?_ | with_reducible refine lcI ?_ | with_reducible refine slI ?_ | with_reducible refine noPI ?_ | with_reducible refine ptI ?_ | with_reducible refine unI ?_ | with_reducible refine brkI ?_ | with_reducible refine cntI ?_ | with_reducible refine retNI ?_ | with_reducible refine addII ?_ | with_reducible refine rI0 ?_ | with_reducible refine rIC ?_ ?_ | with_reducible refine mulII ?_ ?_ | with_reducible refine addTT ?_ ?_ | with_reducible refine addSS ?_ ?_ | with_reducible refine negII ?_ | with_reducible refine eqII ?_ | with_reducible refine eqSS ?_ | with_reducible refine eqBB ?_ | with_reducible refine neII ?_ | with_reducible refine neSS ?_ | with_reducible refine neBB ?_ | with_reducible refine isNN ?_ | with_reducible refine isNotNN ?_ | with_reducible refine isBB ?_ | with_reducible refine isNotBB ?_ | with_reducible refine lenTI ?_ | with_reducible refine lenFI ?_ | with_reducible refine intII ?_ | with_reducible refine intBI ?_ | with_reducible refine tupTI ?_ | with_reducible refine minII ?_ | with_reducible refine maxII ?_ | with_reducible refine slTI ?_ | with_reducible refine gcI ?_ | with_reducible refine gnI ?_ | with_reducible refine aNI ?_ | ((with_reducible refine ttI ?_ ?_); exact rfl) | ((with_reducible refine And.intro ?_ ?_); exact rfl) | ((with_reducible refine And.intro ?_ ?_); exact lenOk rfl) | dsimp only [En.s]))
    intro c hc
    have nb : b ≠ c := fun z => by rw [← z, hm'] at hc; cases hc
    have s4 := Ab.Sub.new (o := .lst [D.str ("row" : Str)]) hc
    have ec : (mset m' c (.lst [D.str ("row" : Str)])) c = some (.lst [D.str ("row" : Str)]) := mset_same
    generalize mset m' c (.lst [D.str ("row" : Str)]) = m4 at s4 ec ⊢
    (repeat (first | with_reducible refine seqI ?_ | with_reducible refine setI ?_ | with_reducible refine asgI ?_ | with_reducible refine retI ?_ | with_reducible refine opI ?_ | with_reducible refine callI ?_ | with_reducible refine consI ?_ | with_reducible refine cI ?_ | with_reducible refine nilI ?_ | ((with_reducible apply varI); exact rfl) | with_reducible refine cbI ?_ | with_reducible refine ifI ?_ | with_reducible refine tstI ?_ | with_reducible refine notTI ?_ | with_reducible refine andTI ?_ | with_reducible refine orTI ?_ | with_reducible refine dropI ?_ | with_reducible refine nextI ?_ | with_reducible refine tupI ?_ | with_reducible refine lstI ?_ | with_reducible refine starI ?_ | with_reducible refine starTT ?_ | with_reducible refine andI ?_ | with_reducible refine orVI ?_ | with_reducible refine notI ?_ | with_reducible refine ifEI ?_ | with_reducible refine forI ?_ | with_reducible refine r1I ?_ | with_reducible refine ir2I ?_ | with_reducible refine iTupI ?_ | with_reducible refine truI ?_ | with_reducible refine chainI ?_ | with_reducible refine lcI ?_ | with_reducible refine slI ?_ | with_reducible refine noPI ?_ | with_reducible refine ptI ?_ | with_reducible refine unI ?_ | with_reducible refine brkI ?_ | with_reducible refine cntI ?_ | with_reducible refine retNI ?_ | with_reducible refine addII ?_ | with_reducible refine rI0 ?_ | with_reducible refine rIC ?_ ?_ | with_reducible refine mulII ?_ ?_ | with_reducible refine addTT ?_ ?_ | with_reducible refine addSS ?_ ?_ | with_reducible refine negII ?_ | with_reducible refine eqII ?_ | with_reducible refine eqSS ?_ | with_reducible refine eqBB ?_ | with_reducible refine neII ?_ | with_reducible refine neSS ?_ | with_reducible refine neBB ?_ | with_reducible refine isNN ?_ | with_reducible refine isNotNN ?_ | with_reducible refine isBB ?_ | with_reducible refine isNotBB ?_ | with_reducible refine lenTI ?_ | with_reducible refine lenFI ?_ | with_reducible refine intII ?_ | with_reducible refine intBI ?_ | with_reducible refine tupTI ?_ | with_reducible refine minII ?_ | with_reducible refine maxII ?_ | with_reducible refine slTI ?_ | with_reducible refine gcI ?_ | with_reducible refine gnI ?_ | with_reducible refine aNI ?_ | ((with_reducible refine ttI ?_ ?_); exact rfl) | ((with_reducible refine And.intro ?_ ?_); exact rfl) | ((with_reducible refine And.intro ?_ ?_); exact lenOk rfl) | dsimp only [En.s]))
    refine mulRI (n := 4) (l_of ec) rfl (by decide) fun f hf => ?_
    have nf : b ≠ f := fun z => by rw [← z, s4 _ _ hm'] at hf; cases hf
    refine neRR (ds := [.str "row", .str "row", .str "row", .str "row"]) (ps := [.str "row", .str "row", .str "row", .str "row"]) (by rw [l_ne nf]; exact l_of (s4 _ _ hm')) l_same rfl (by decide +kernel) (by decide +kernel) ?_
    (repeat (first | with_reducible refine seqI ?_ | with_reducible refine setI ?_ | with_reducible refine asgI ?_ | with_reducible refine retI ?_ | with_reducible refine opI ?_ | with_reducible refine callI ?_ | with_reducible refine consI ?_ | with_reducible refine cI ?_ | with_reducible refine nilI ?_ | ((with_reducible apply varI); exact rfl) | with_reducible refine cbI ?_ | with_reducible refine ifI ?_ | with_reducible refine tstI ?_ | with_reducible refine notTI ?_ | with_reducible refine andTI ?_ | with_reducible refine orTI ?_ | with_reducible refine dropI ?_ | with_reducible refine nextI ?_ | with_reducible refine tupI ?_ | with_reducible refine lstI ?_ | with_reducible refine starI ?_ | with_reducible refine starTT ?_ | with_reducible refine andI ?_ | with_reducible refine orVI ?_ | with_reducible refine notI ?_ | with_reducible refine ifEI ?_ | with_reducible refine forI ?_ | with_reducible refine r1I ?_ | with_reducible refine ir2I ?_ | with_reducible refine iTupI ?_ | with_reducible refine truI ?_ | with_reducible refine chainI ?_ | with_reducible refine lcI ?_ | with_reducible refine slI ?_ | with_reducible refine noPI ?_ | with_reducible refine ptI ?_ | with_reducible refine unI ?_ | with_reducible refine brkI ?_ | with_reducible refine cntI ?_ | with_reducible refine retNI ?_ | with_reducible refine addII ?_ | with_reducible refine rI0 ?_ | with_reducible refine rIC ?_ ?_ | with_reducible refine mulII ?_ ?_ | with_reducible refine addTT ?_ ?_ | with_reducible refine addSS ?_ ?_ | with_reducible refine negII ?_ | with_reducible refine eqII ?_ | with_reducible refine eqSS ?_ | with_reducible refine eqBB ?_ | with_reducible refine neII ?_ | with_reducible refine neSS ?_ | with_reducible refine neBB ?_ | with_reducible refine isNN ?_ | with_reducible refine isNotNN ?_ | with_reducible refine isBB ?_ | with_reducible refine isNotBB ?_ | with_reducible refine lenTI ?_ | with_reducible refine lenFI ?_ | with_reducible refine intII ?_ | with_reducible refine intBI ?_ | with_reducible refine tupTI ?_ | with_reducible refine minII ?_ | with_reducible refine maxII ?_ | with_reducible refine slTI ?_ | with_reducible refine gcI ?_ | with_reducible refine gnI ?_ | with_reducible refine aNI ?_ | ((with_reducible refine ttI ?_ ?_); exact rfl) | ((with_reducible refine And.intro ?_ ?_); exact rfl) | ((with_reducible refine And.intro ?_ ?_); exact lenOk rfl) | dsimp only [En.s]))
    refine bl_f rfl ?_
    (repeat (first | with_reducible refine seqI ?_ | with_reducible refine setI ?_ | with_reducible refine asgI ?_ | with_reducible refine retI ?_ | with_reducible refine opI ?_ | with_reducible refine callI ?_ | with_reducible refine consI ?_ | with_reducible refine cI ?_ | with_reducible refine nilI ?_ | ((with_reducible apply varI); exact rfl) | with_reducible refine cbI ?_ | with_reducible refine ifI ?_ | with_reducible refine tstI ?_ | with_reducible refine notTI ?_ | with_reducible refine andTI ?_ | with_reducible refine orTI ?_ | with_reducible refine dropI ?_ | with_reducible refine nextI ?_ | with_reducible refine tupI ?_ | with_reducible refine lstI ?_ | with_reducible refine starI ?_ | with_reducible refine starTT ?_ | with_reducible refine andI ?_ | with_reducible refine orVI ?_ | with_reducible refine notI ?_ | with_reducible refine ifEI ?_ | with_reducible refine forI ?_ | with_reducible refine r1I ?_ | with_reducible refine ir2I ?_ | with_reducible refine iTupI ?_ | with_reducible refine truI ?_ | with_reducible refine chainI ?_ | with_reducible refine lcI ?_ | with_reducible refine slI ?_ | with_reducible refine noPI ?_ | with_reducible refine ptI ?_ | with_reducible refine unI ?_ | with_reducible refine brkI ?_ | with_reducible refine cntI ?_ | with_reducible refine retNI ?_ | with_reducible refine addII ?_ | with_reducible refine rI0 ?_ | with_reducible refine rIC ?_ ?_ | with_reducible refine mulII ?_ ?_ | with_reducible refine addTT ?_ ?_ | with_reducible refine addSS ?_ ?_ | with_reducible refine negII ?_ | with_reducible refine eqII ?_ | with_reducible refine eqSS ?_ | with_reducible refine eqBB ?_ | with_reducible refine neII ?_ | with_reducible refine neSS ?_ | with_reducible refine neBB ?_ | with_reducible refine isNN ?_ | with_reducible refine isNotNN ?_ | with_reducible refine isBB ?_ | with_reducible refine isNotBB ?_ | with_reducible refine lenTI ?_ | with_reducible refine lenFI ?_ | with_reducible refine intII ?_ | with_reducible refine intBI ?_ | with_reducible refine tupTI ?_ | with_reducible refine minII ?_ | with_reducible refine maxII ?_ | with_reducible refine slTI ?_ | with_reducible refine gcI ?_ | with_reducible refine gnI ?_ | with_reducible refine aNI ?_ | ((with_reducible refine ttI ?_ ?_); exact rfl) | ((with_reducible refine And.intro ?_ ?_); exact rfl) | ((with_reducible refine And.intro ?_ ?_); exact lenOk rfl) | dsimp only [En.s]))
    subst hX
    exact law7 pk hfl (h.sub (s1.trans (sa.trans (s3.trans (s4.trans (Ab.Sub.new hf)))))) q
theorem one_bad {m : M} {x : D} (h : NByte x) : NRow m (.tup [x]) 0 4096 := .inr (.inr ⟨[], x, [], rfl, by simp, by simp, fun d h => by simp at h, h⟩)
theorem law_true {p : Pm} {m : M} {ns : List Int} (pk : Ok p) (hfl : p.fld (p.cA "TooMany") "most" = true) (hm : m p.P = some (.ltab lq)) (h1 : ns.length ≤ 63) (h2 : ∀ z ∈ ns, Builtin.Int.intBits z ≤ 1048576) : s_law p [.fls (ns.map D.int)] m (fun d _ => d = .bl true) fun _ _ => False := by
  refine ent_law ?_
  unfold b_law
  generalize hX : bl_law_9 = X
  (repeat (first | with_reducible refine seqI ?_ | with_reducible refine setI ?_ | with_reducible refine asgI ?_ | with_reducible refine retI ?_ | with_reducible refine opI ?_ | with_reducible refine callI ?_ | with_reducible refine consI ?_ | with_reducible refine cI ?_ | with_reducible refine nilI ?_ | ((with_reducible apply varI); exact rfl) | with_reducible refine cbI ?_ | with_reducible refine ifI ?_ | with_reducible refine tstI ?_ | with_reducible refine notTI ?_ | with_reducible refine andTI ?_ | with_reducible refine orTI ?_ | with_reducible refine dropI ?_ | with_reducible refine nextI ?_ | with_reducible refine tupI ?_ | with_reducible refine lstI ?_ | with_reducible refine starI ?_ | with_reducible refine starTT ?_ | with_reducible refine andI ?_ | with_reducible refine orVI ?_ | with_reducible refine notI ?_ | with_reducible refine ifEI ?_ | with_reducible refine forI ?_ | with_reducible refine r1I ?_ | with_reducible refine ir2I ?_ | with_reducible refine iTupI ?_ | with_reducible refine truI ?_ | with_reducible refine chainI ?_ | with_reducible refine lcI ?_ | with_reducible refine slI ?_ | with_reducible refine noPI ?_ | with_reducible refine ptI ?_ | with_reducible refine unI ?_ | with_reducible refine brkI ?_ | with_reducible refine cntI ?_ | with_reducible refine retNI ?_ | with_reducible refine addII ?_ | with_reducible refine rI0 ?_ | with_reducible refine rIC ?_ ?_ | with_reducible refine mulII ?_ ?_ | with_reducible refine addTT ?_ ?_ | with_reducible refine addSS ?_ ?_ | with_reducible refine negII ?_ | with_reducible refine eqII ?_ | with_reducible refine eqSS ?_ | with_reducible refine eqBB ?_ | with_reducible refine neII ?_ | with_reducible refine neSS ?_ | with_reducible refine neBB ?_ | with_reducible refine isNN ?_ | with_reducible refine isNotNN ?_ | with_reducible refine isBB ?_ | with_reducible refine isNotBB ?_ | with_reducible refine lenTI ?_ | with_reducible refine lenFI ?_ | with_reducible refine intII ?_ | with_reducible refine intBI ?_ | with_reducible refine tupTI ?_ | with_reducible refine minII ?_ | with_reducible refine maxII ?_ | with_reducible refine slTI ?_ | with_reducible refine gcI ?_ | with_reducible refine gnI ?_ | with_reducible refine aNI ?_ | ((with_reducible refine ttI ?_ ?_); exact rfl) | ((with_reducible refine And.intro ?_ ?_); exact rfl) | ((with_reducible refine And.intro ?_ ?_); exact lenOk rfl) | dsimp only [En.s]))
  intro r hr
  have hR : RowAt ns (mset m r (.lst [.fls (ns.map .int), .int 0, .int 9007, .int 0])) r := rowAt_set (by decide) (by decide) (by decide) (by decide)
  have h0 : St p ns r (mset m r (.lst [.fls (ns.map .int), .int 0, .int 9007, .int 0])) := ⟨hR, Ab.Sub.new hr _ _ hm⟩
  generalize mset m r (.lst [.fls (ns.map .int), .int 0, .int 9007, .int 0]) = m1 at h0 ⊢
  (repeat (first | with_reducible refine seqI ?_ | with_reducible refine setI ?_ | with_reducible refine asgI ?_ | with_reducible refine retI ?_ | with_reducible refine opI ?_ | with_reducible refine callI ?_ | with_reducible refine consI ?_ | with_reducible refine cI ?_ | with_reducible refine nilI ?_ | ((with_reducible apply varI); exact rfl) | with_reducible refine cbI ?_ | with_reducible refine ifI ?_ | with_reducible refine tstI ?_ | with_reducible refine notTI ?_ | with_reducible refine andTI ?_ | with_reducible refine orTI ?_ | with_reducible refine dropI ?_ | with_reducible refine nextI ?_ | with_reducible refine tupI ?_ | with_reducible refine lstI ?_ | with_reducible refine starI ?_ | with_reducible refine starTT ?_ | with_reducible refine andI ?_ | with_reducible refine orVI ?_ | with_reducible refine notI ?_ | with_reducible refine ifEI ?_ | with_reducible refine forI ?_ | with_reducible refine r1I ?_ | with_reducible refine ir2I ?_ | with_reducible refine iTupI ?_ | with_reducible refine truI ?_ | with_reducible refine chainI ?_ | with_reducible refine lcI ?_ | with_reducible refine slI ?_ | with_reducible refine noPI ?_ | with_reducible refine ptI ?_ | with_reducible refine unI ?_ | with_reducible refine brkI ?_ | with_reducible refine cntI ?_ | with_reducible refine retNI ?_ | with_reducible refine addII ?_ | with_reducible refine rI0 ?_ | with_reducible refine rIC ?_ ?_ | with_reducible refine mulII ?_ ?_ | with_reducible refine addTT ?_ ?_ | with_reducible refine addSS ?_ ?_ | with_reducible refine negII ?_ | with_reducible refine eqII ?_ | with_reducible refine eqSS ?_ | with_reducible refine eqBB ?_ | with_reducible refine neII ?_ | with_reducible refine neSS ?_ | with_reducible refine neBB ?_ | with_reducible refine isNN ?_ | with_reducible refine isNotNN ?_ | with_reducible refine isBB ?_ | with_reducible refine isNotBB ?_ | with_reducible refine lenTI ?_ | with_reducible refine lenFI ?_ | with_reducible refine intII ?_ | with_reducible refine intBI ?_ | with_reducible refine tupTI ?_ | with_reducible refine minII ?_ | with_reducible refine maxII ?_ | with_reducible refine slTI ?_ | with_reducible refine gcI ?_ | with_reducible refine gnI ?_ | with_reducible refine aNI ?_ | ((with_reducible refine ttI ?_ ?_); exact rfl) | ((with_reducible refine And.intro ?_ ?_); exact rfl) | ((with_reducible refine And.intro ?_ ?_); exact lenOk rfl) | dsimp only [En.s]))
  subst hX
  unfold bl_law_9
  generalize hX : bl_law_8 = X
  (repeat (first | with_reducible refine seqI ?_ | with_reducible refine setI ?_ | with_reducible refine asgI ?_ | with_reducible refine retI ?_ | with_reducible refine opI ?_ | with_reducible refine callI ?_ | with_reducible refine consI ?_ | with_reducible refine cI ?_ | with_reducible refine nilI ?_ | ((with_reducible apply varI); exact rfl) | with_reducible refine cbI ?_ | with_reducible refine ifI ?_ | with_reducible refine tstI ?_ | with_reducible refine notTI ?_ | with_reducible refine andTI ?_ | with_reducible refine orTI ?_ | with_reducible refine dropI ?_ | with_reducible refine nextI ?_ | with_reducible refine tupI ?_ | with_reducible refine lstI ?_ | with_reducible refine starI ?_ | with_reducible refine starTT ?_ | with_reducible refine andI ?_ | with_reducible refine orVI ?_ | with_reducible refine notI ?_ | with_reducible refine ifEI ?_ | with_reducible refine forI ?_ | with_reducible refine r1I ?_ | with_reducible refine ir2I ?_ | with_reducible refine iTupI ?_ | with_reducible refine truI ?_ | with_reducible refine chainI ?_ | with_reducible refine lcI ?_ | with_reducible refine slI ?_ | with_reducible refine noPI ?_ | with_reducible refine ptI ?_ | with_reducible refine unI ?_ | with_reducible refine brkI ?_ | with_reducible refine cntI ?_ | with_reducible refine retNI ?_ | with_reducible refine addII ?_ | with_reducible refine rI0 ?_ | with_reducible refine rIC ?_ ?_ | with_reducible refine mulII ?_ ?_ | with_reducible refine addTT ?_ ?_ | with_reducible refine addSS ?_ ?_ | with_reducible refine negII ?_ | with_reducible refine eqII ?_ | with_reducible refine eqSS ?_ | with_reducible refine eqBB ?_ | with_reducible refine neII ?_ | with_reducible refine neSS ?_ | with_reducible refine neBB ?_ | with_reducible refine isNN ?_ | with_reducible refine isNotNN ?_ | with_reducible refine isBB ?_ | with_reducible refine isNotBB ?_ | with_reducible refine lenTI ?_ | with_reducible refine lenFI ?_ | with_reducible refine intII ?_ | with_reducible refine intBI ?_ | with_reducible refine tupTI ?_ | with_reducible refine minII ?_ | with_reducible refine maxII ?_ | with_reducible refine slTI ?_ | with_reducible refine gcI ?_ | with_reducible refine gnI ?_ | with_reducible refine aNI ?_ | ((with_reducible refine ttI ?_ ?_); exact rfl) | ((with_reducible refine And.intro ?_ ?_); exact rfl) | ((with_reducible refine And.intro ?_ ?_); exact lenOk rfl) | dsimp only [En.s]))
  intro a1 ha1
  have n1 := h0.row.ne ha1
  have s1 := Ab.Sub.new (o := .lst [D.int 1]) ha1
  have e1 : (mset m1 a1 (.lst [D.int 1])) a1 = some (.lst [D.int 1]) := mset_same
  generalize mset m1 a1 (.lst [D.int 1]) = m2 at s1 e1 ⊢
  (repeat (first | with_reducible refine seqI ?_ | with_reducible refine setI ?_ | with_reducible refine asgI ?_ | with_reducible refine retI ?_ | with_reducible refine opI ?_ | with_reducible refine callI ?_ | with_reducible refine consI ?_ | with_reducible refine cI ?_ | with_reducible refine nilI ?_ | ((with_reducible apply varI); exact rfl) | with_reducible refine cbI ?_ | with_reducible refine ifI ?_ | with_reducible refine tstI ?_ | with_reducible refine notTI ?_ | with_reducible refine andTI ?_ | with_reducible refine orTI ?_ | with_reducible refine dropI ?_ | with_reducible refine nextI ?_ | with_reducible refine tupI ?_ | with_reducible refine lstI ?_ | with_reducible refine starI ?_ | with_reducible refine starTT ?_ | with_reducible refine andI ?_ | with_reducible refine orVI ?_ | with_reducible refine notI ?_ | with_reducible refine ifEI ?_ | with_reducible refine forI ?_ | with_reducible refine r1I ?_ | with_reducible refine ir2I ?_ | with_reducible refine iTupI ?_ | with_reducible refine truI ?_ | with_reducible refine chainI ?_ | with_reducible refine lcI ?_ | with_reducible refine slI ?_ | with_reducible refine noPI ?_ | with_reducible refine ptI ?_ | with_reducible refine unI ?_ | with_reducible refine brkI ?_ | with_reducible refine cntI ?_ | with_reducible refine retNI ?_ | with_reducible refine addII ?_ | with_reducible refine rI0 ?_ | with_reducible refine rIC ?_ ?_ | with_reducible refine mulII ?_ ?_ | with_reducible refine addTT ?_ ?_ | with_reducible refine addSS ?_ ?_ | with_reducible refine negII ?_ | with_reducible refine eqII ?_ | with_reducible refine eqSS ?_ | with_reducible refine eqBB ?_ | with_reducible refine neII ?_ | with_reducible refine neSS ?_ | with_reducible refine neBB ?_ | with_reducible refine isNN ?_ | with_reducible refine isNotNN ?_ | with_reducible refine isBB ?_ | with_reducible refine isNotBB ?_ | with_reducible refine lenTI ?_ | with_reducible refine lenFI ?_ | with_reducible refine intII ?_ | with_reducible refine intBI ?_ | with_reducible refine tupTI ?_ | with_reducible refine minII ?_ | with_reducible refine maxII ?_ | with_reducible refine slTI ?_ | with_reducible refine gcI ?_ | with_reducible refine gnI ?_ | with_reducible refine aNI ?_ | ((with_reducible refine ttI ?_ ?_); exact rfl) | ((with_reducible refine And.intro ?_ ?_); exact rfl) | ((with_reducible refine And.intro ?_ ?_); exact lenOk rfl) | dsimp only [En.s]))
  refine mulXT (n := 4097) rfl (by decide) (by decide) ?_
  rw [rep0]
  (repeat (first | with_reducible refine seqI ?_ | with_reducible refine setI ?_ | with_reducible refine asgI ?_ | with_reducible refine retI ?_ | with_reducible refine opI ?_ | with_reducible refine callI ?_ | with_reducible refine consI ?_ | with_reducible refine cI ?_ | with_reducible refine nilI ?_ | ((with_reducible apply varI); exact rfl) | with_reducible refine cbI ?_ | with_reducible refine ifI ?_ | with_reducible refine tstI ?_ | with_reducible refine notTI ?_ | with_reducible refine andTI ?_ | with_reducible refine orTI ?_ | with_reducible refine dropI ?_ | with_reducible refine nextI ?_ | with_reducible refine tupI ?_ | with_reducible refine lstI ?_ | with_reducible refine starI ?_ | with_reducible refine starTT ?_ | with_reducible refine andI ?_ | with_reducible refine orVI ?_ | with_reducible refine notI ?_ | with_reducible refine ifEI ?_ | with_reducible refine forI ?_ | with_reducible refine r1I ?_ | with_reducible refine ir2I ?_ | with_reducible refine iTupI ?_ | with_reducible refine truI ?_ | with_reducible refine chainI ?_ | with_reducible refine lcI ?_ | with_reducible refine slI ?_ | with_reducible refine noPI ?_ | with_reducible refine ptI ?_ | with_reducible refine unI ?_ | with_reducible refine brkI ?_ | with_reducible refine cntI ?_ | with_reducible refine retNI ?_ | with_reducible refine addII ?_ | with_reducible refine rI0 ?_ | with_reducible refine rIC ?_ ?_ | with_reducible refine mulII ?_ ?_ | with_reducible refine addTT ?_ ?_ | with_reducible refine addSS ?_ ?_ | with_reducible refine negII ?_ | with_reducible refine eqII ?_ | with_reducible refine eqSS ?_ | with_reducible refine eqBB ?_ | with_reducible refine neII ?_ | with_reducible refine neSS ?_ | with_reducible refine neBB ?_ | with_reducible refine isNN ?_ | with_reducible refine isNotNN ?_ | with_reducible refine isBB ?_ | with_reducible refine isNotBB ?_ | with_reducible refine lenTI ?_ | with_reducible refine lenFI ?_ | with_reducible refine intII ?_ | with_reducible refine intBI ?_ | with_reducible refine tupTI ?_ | with_reducible refine minII ?_ | with_reducible refine maxII ?_ | with_reducible refine slTI ?_ | with_reducible refine gcI ?_ | with_reducible refine gnI ?_ | with_reducible refine aNI ?_ | ((with_reducible refine ttI ?_ ?_); exact rfl) | ((with_reducible refine And.intro ?_ ?_); exact rfl) | ((with_reducible refine And.intro ?_ ?_); exact lenOk rfl) | dsimp only [En.s]))
  refine dnewI fun a3 ha3 => ?_
  have n3 := (h0.row.sub s1).ne ha3
  have s3 := Ab.Sub.new (o := .dic []) ha3
  have e3 : (mset m2 a3 (.dic [])) a3 = some (.dic []) := mset_same
  generalize mset m2 a3 (.dic []) = m4 at s3 e3 ⊢
  (repeat (first | with_reducible refine seqI ?_ | with_reducible refine setI ?_ | with_reducible refine asgI ?_ | with_reducible refine retI ?_ | with_reducible refine opI ?_ | with_reducible refine callI ?_ | with_reducible refine consI ?_ | with_reducible refine cI ?_ | with_reducible refine nilI ?_ | ((with_reducible apply varI); exact rfl) | with_reducible refine cbI ?_ | with_reducible refine ifI ?_ | with_reducible refine tstI ?_ | with_reducible refine notTI ?_ | with_reducible refine andTI ?_ | with_reducible refine orTI ?_ | with_reducible refine dropI ?_ | with_reducible refine nextI ?_ | with_reducible refine tupI ?_ | with_reducible refine lstI ?_ | with_reducible refine starI ?_ | with_reducible refine starTT ?_ | with_reducible refine andI ?_ | with_reducible refine orVI ?_ | with_reducible refine notI ?_ | with_reducible refine ifEI ?_ | with_reducible refine forI ?_ | with_reducible refine r1I ?_ | with_reducible refine ir2I ?_ | with_reducible refine iTupI ?_ | with_reducible refine truI ?_ | with_reducible refine chainI ?_ | with_reducible refine lcI ?_ | with_reducible refine slI ?_ | with_reducible refine noPI ?_ | with_reducible refine ptI ?_ | with_reducible refine unI ?_ | with_reducible refine brkI ?_ | with_reducible refine cntI ?_ | with_reducible refine retNI ?_ | with_reducible refine addII ?_ | with_reducible refine rI0 ?_ | with_reducible refine rIC ?_ ?_ | with_reducible refine mulII ?_ ?_ | with_reducible refine addTT ?_ ?_ | with_reducible refine addSS ?_ ?_ | with_reducible refine negII ?_ | with_reducible refine eqII ?_ | with_reducible refine eqSS ?_ | with_reducible refine eqBB ?_ | with_reducible refine neII ?_ | with_reducible refine neSS ?_ | with_reducible refine neBB ?_ | with_reducible refine isNN ?_ | with_reducible refine isNotNN ?_ | with_reducible refine isBB ?_ | with_reducible refine isNotBB ?_ | with_reducible refine lenTI ?_ | with_reducible refine lenFI ?_ | with_reducible refine intII ?_ | with_reducible refine intBI ?_ | with_reducible refine tupTI ?_ | with_reducible refine minII ?_ | with_reducible refine maxII ?_ | with_reducible refine slTI ?_ | with_reducible refine gcI ?_ | with_reducible refine gnI ?_ | with_reducible refine aNI ?_ | ((with_reducible refine ttI ?_ ?_); exact rfl) | ((with_reducible refine And.intro ?_ ?_); exact rfl) | ((with_reducible refine And.intro ?_ ?_); exact lenOk rfl) | dsimp only [En.s]))
  intro a4 ha4
  (repeat (first | with_reducible refine seqI ?_ | with_reducible refine setI ?_ | with_reducible refine asgI ?_ | with_reducible refine retI ?_ | with_reducible refine opI ?_ | with_reducible refine callI ?_ | with_reducible refine consI ?_ | with_reducible refine cI ?_ | with_reducible refine nilI ?_ | ((with_reducible apply varI); exact rfl) | with_reducible refine cbI ?_ | with_reducible refine ifI ?_ | with_reducible refine tstI ?_ | with_reducible refine notTI ?_ | with_reducible refine andTI ?_ | with_reducible refine orTI ?_ | with_reducible refine dropI ?_ | with_reducible refine nextI ?_ | with_reducible refine tupI ?_ | with_reducible refine lstI ?_ | with_reducible refine starI ?_ | with_reducible refine starTT ?_ | with_reducible refine andI ?_ | with_reducible refine orVI ?_ | with_reducible refine notI ?_ | with_reducible refine ifEI ?_ | with_reducible refine forI ?_ | with_reducible refine r1I ?_ | with_reducible refine ir2I ?_ | with_reducible refine iTupI ?_ | with_reducible refine truI ?_ | with_reducible refine chainI ?_ | with_reducible refine lcI ?_ | with_reducible refine slI ?_ | with_reducible refine noPI ?_ | with_reducible refine ptI ?_ | with_reducible refine unI ?_ | with_reducible refine brkI ?_ | with_reducible refine cntI ?_ | with_reducible refine retNI ?_ | with_reducible refine addII ?_ | with_reducible refine rI0 ?_ | with_reducible refine rIC ?_ ?_ | with_reducible refine mulII ?_ ?_ | with_reducible refine addTT ?_ ?_ | with_reducible refine addSS ?_ ?_ | with_reducible refine negII ?_ | with_reducible refine eqII ?_ | with_reducible refine eqSS ?_ | with_reducible refine eqBB ?_ | with_reducible refine neII ?_ | with_reducible refine neSS ?_ | with_reducible refine neBB ?_ | with_reducible refine isNN ?_ | with_reducible refine isNotNN ?_ | with_reducible refine isBB ?_ | with_reducible refine isNotBB ?_ | with_reducible refine lenTI ?_ | with_reducible refine lenFI ?_ | with_reducible refine intII ?_ | with_reducible refine intBI ?_ | with_reducible refine tupTI ?_ | with_reducible refine minII ?_ | with_reducible refine maxII ?_ | with_reducible refine slTI ?_ | with_reducible refine gcI ?_ | with_reducible refine gnI ?_ | with_reducible refine aNI ?_ | ((with_reducible refine ttI ?_ ?_); exact rfl) | ((with_reducible refine And.intro ?_ ?_); exact rfl) | ((with_reducible refine And.intro ?_ ?_); exact lenOk rfl) | dsimp only [En.s]))
  have hS := h0.sub (s1.trans s3)
  refine pickF hS.row ha4 (by simp) (by simp) fun d m5 hd hr5 e5 => ?_
  (repeat (first | with_reducible refine seqI ?_ | with_reducible refine setI ?_ | with_reducible refine asgI ?_ | with_reducible refine retI ?_ | with_reducible refine opI ?_ | with_reducible refine callI ?_ | with_reducible refine consI ?_ | with_reducible refine cI ?_ | with_reducible refine nilI ?_ | ((with_reducible apply varI); exact rfl) | with_reducible refine cbI ?_ | with_reducible refine ifI ?_ | with_reducible refine tstI ?_ | with_reducible refine notTI ?_ | with_reducible refine andTI ?_ | with_reducible refine orTI ?_ | with_reducible refine dropI ?_ | with_reducible refine nextI ?_ | with_reducible refine tupI ?_ | with_reducible refine lstI ?_ | with_reducible refine starI ?_ | with_reducible refine starTT ?_ | with_reducible refine andI ?_ | with_reducible refine orVI ?_ | with_reducible refine notI ?_ | with_reducible refine ifEI ?_ | with_reducible refine forI ?_ | with_reducible refine r1I ?_ | with_reducible refine ir2I ?_ | with_reducible refine iTupI ?_ | with_reducible refine truI ?_ | with_reducible refine chainI ?_ | with_reducible refine lcI ?_ | with_reducible refine slI ?_ | with_reducible refine noPI ?_ | with_reducible refine ptI ?_ | with_reducible refine unI ?_ | with_reducible refine brkI ?_ | with_reducible refine cntI ?_ | with_reducible refine retNI ?_ | with_reducible refine addII ?_ | with_reducible refine rI0 ?_ | with_reducible refine rIC ?_ ?_ | with_reducible refine mulII ?_ ?_ | with_reducible refine addTT ?_ ?_ | with_reducible refine addSS ?_ ?_ | with_reducible refine negII ?_ | with_reducible refine eqII ?_ | with_reducible refine eqSS ?_ | with_reducible refine eqBB ?_ | with_reducible refine neII ?_ | with_reducible refine neSS ?_ | with_reducible refine neBB ?_ | with_reducible refine isNN ?_ | with_reducible refine isNotNN ?_ | with_reducible refine isBB ?_ | with_reducible refine isNotBB ?_ | with_reducible refine lenTI ?_ | with_reducible refine lenFI ?_ | with_reducible refine intII ?_ | with_reducible refine intBI ?_ | with_reducible refine tupTI ?_ | with_reducible refine minII ?_ | with_reducible refine maxII ?_ | with_reducible refine slTI ?_ | with_reducible refine gcI ?_ | with_reducible refine gnI ?_ | with_reducible refine aNI ?_ | ((with_reducible refine ttI ?_ ?_); exact rfl) | ((with_reducible refine And.intro ?_ ?_); exact rfl) | ((with_reducible refine And.intro ?_ ?_); exact lenOk rfl) | dsimp only [En.s]))
  subst hX
  refine law8 pk hfl (hS.ev hr5 e5) ?_ fun m' => ⟨m', Ab.Sub.refl _, rfl⟩
  simp only [List.mem_cons, List.not_mem_nil, or_false] at hd
  rcases hd with e | e | e | e | e | e | e | e | e | e | e <;> subst e
  · exact .inl ⟨.non, rfl, rfl⟩
  · refine .inl ⟨.list, ?_, rfl⟩
    show (if (m5.l a1).isSome then some Ab.Ty.list else _) = _
    rw [l_of (e5 _ _ n1 (s3 _ _ e1))]; rfl
  · exact one_bad (.inr (.inl ⟨_, rfl, .inr (by omega)⟩))
  · exact one_bad (.inr (.inl ⟨_, rfl, .inl (by omega)⟩))
  · exact one_bad (.inl ⟨_, rfl⟩)
  · exact one_bad (.inr (.inr ⟨.str, fun _ => rfl, rfl⟩))
  · exact .inr (.inl ⟨_, rfl, .inr (by rw [iD_len, zs_len]; decide)⟩)
  · exact .inl ⟨.int, rfl, rfl⟩
  · exact .inl ⟨.str, rfl, rfl⟩
  · refine .inl ⟨.dict, ?_, rfl⟩
    have e := e5 _ _ n3 e3
    show (if (m5.l a3).isSome then some Ab.Ty.list else (match m5 a3 with | some (.dic _) => some .dict | _ => none)) = _
    rw [show m5.l a3 = none from by unfold M.l; rw [e], e]
    rfl
  · exact one_bad (.inr (.inr ⟨.tuple, fun _ => rfl, rfl⟩))
end
end K7

set_option Elab.async false
set_option linter.all false
set_option maxRecDepth 100000
set_option maxHeartbeats 4000000
namespace K7
open PySem PySem.Spec PyProof.Rows L2 Ab
def d_TooMany_init : He.DefD := ⟨("TooMany", some "__init__"), "__init__", "TooMany.__init__", defArgs st_TooMany_init, defBody st_TooMany_init, defScope st_TooMany_init, [], []⟩
def d_f_law_taken : He.DefD := ⟨("_law_taken", none), "_law_taken", "_law_taken", defArgs st_f_law_taken, defBody st_f_law_taken, defScope st_f_law_taken, [], []⟩
def d_f_law_pick : He.DefD := ⟨("_law_pick", none), "_law_pick", "_law_pick", defArgs st_f_law_pick, defBody st_f_law_pick, defScope st_f_law_pick, [], []⟩
def d_is_tuple_of : He.DefD := ⟨("is_tuple_of", none), "is_tuple_of", "is_tuple_of", defArgs st_is_tuple_of, defBody st_is_tuple_of, defScope st_is_tuple_of, [], []⟩
def d_are_bytes : He.DefD := ⟨("are_bytes", none), "are_bytes", "are_bytes", defArgs st_are_bytes, defBody st_are_bytes, defScope st_are_bytes, [], []⟩
def d_check_row : He.DefD := ⟨("check_row", none), "check_row", "check_row", defArgs st_check_row, defBody st_check_row, defScope st_check_row, [], []⟩
def d_rest_of : He.DefD := ⟨("rest_of", none), "rest_of", "rest_of", defArgs st_rest_of, defBody st_rest_of, defScope st_rest_of, [], []⟩
def d_check_of : He.DefD := ⟨("check_of", none), "check_of", "check_of", defArgs st_check_of, defBody st_check_of, defScope st_check_of, [], []⟩
def d_fixed_code : He.DefD := ⟨("fixed_code", none), "fixed_code", "fixed_code", defArgs st_fixed_code, defBody st_fixed_code, defScope st_fixed_code, [], []⟩
def d_sealed : He.DefD := ⟨("sealed", none), "sealed", "sealed", defArgs st_sealed, defBody st_sealed, defScope st_sealed, [], []⟩
def d_is_right : He.DefD := ⟨("is_right", none), "is_right", "is_right", defArgs st_is_right, defBody st_is_right, defScope st_is_right, [], []⟩
def d_is_sealed : He.DefD := ⟨("is_sealed", none), "is_sealed", "is_sealed", defArgs st_is_sealed, defBody st_is_sealed, defScope st_is_sealed, [], []⟩
def d_is_integer : He.DefD := ⟨("is_integer", none), "is_integer", "is_integer", defArgs st_is_integer, defBody st_is_integer, defScope st_is_integer, [], []⟩
def d_check_flips : He.DefD := ⟨("check_flips", none), "check_flips", "check_flips", defArgs st_check_flips, defBody st_check_flips, defScope st_check_flips, [], []⟩
def d_with_flips : He.DefD := ⟨("with_flips", none), "with_flips", "with_flips", defArgs st_with_flips, defBody st_with_flips, defScope st_with_flips, [], []⟩
def d_flipped : He.DefD := ⟨("flipped", none), "flipped", "flipped", defArgs st_flipped, defBody st_flipped, defScope st_flipped, [], []⟩
def d_is_unseen : He.DefD := ⟨("is_unseen", none), "is_unseen", "is_unseen", defArgs st_is_unseen, defBody st_is_unseen, defScope st_is_unseen, [], []⟩
def d_least_unseen : He.DefD := ⟨("least_unseen", none), "least_unseen", "least_unseen", defArgs st_least_unseen, defBody st_least_unseen, defScope st_least_unseen, [], []⟩
def d_f_law_works : He.DefD := ⟨("_law_works", none), "_law_works", "_law_works", defArgs st_f_law_works, defBody st_f_law_works, defScope st_f_law_works, [], []⟩
def d_f_law_refused : He.DefD := ⟨("_law_refused", none), "_law_refused", "_law_refused", defArgs st_f_law_refused, defBody st_f_law_refused, defScope st_f_law_refused, [], []⟩
def d_law : He.DefD := ⟨("law", none), "law", "law", defArgs st_law, defBody st_law, defScope st_law, [], []⟩
def fn : List He.DefD := [d_f_law_taken, d_f_law_pick, d_is_tuple_of, d_are_bytes, d_check_row, d_rest_of, d_check_of, d_fixed_code, d_sealed, d_is_right, d_is_sealed, d_is_integer, d_check_flips, d_with_flips, d_flipped, d_is_unseen, d_least_unseen, d_f_law_works, d_f_law_refused, d_law, d_TooMany_init]
def fa : List He.Fa := [.glo "_law_taken", .glo "_law_pick", .glo "is_tuple_of", .glo "are_bytes", .glo "check_row", .glo "rest_of", .glo "check_of", .glo "fixed_code", .glo "sealed", .glo "is_right", .glo "is_sealed", .glo "is_integer", .glo "check_flips", .glo "with_flips", .glo "flipped", .glo "is_unseen", .glo "least_unseen", .glo "_law_works", .glo "_law_refused", .glo "law", .free "len", .free "int", .free "bool", .free "str", .free "tuple", .free "list", .free "isinstance", .free "range", .free "all", .free "any", .free "min", .free "max", .free "reversed", .free "sorted", .free "enumerate", .free "zip", .free "dict", .free "sum", .free "abs", .int "CHECK_BYTES" 2, .int "LONGEST_ROW" 4096, .int "LONGEST_SEARCHED" 24, .int "MOST_FLIPS" 64, .glo "BadFlips", .exc "BadFlips", .glo "BadNumber", .exc "BadNumber", .glo "BadRow", .exc "BadRow", .glo "CutError", .exc "CutError"]
def errs : List Str := ["BadFlips", "BadNumber", "BadRow", "TooMany"]
def ex (K : PySem.W.Frag) : Bool := (efB K "TooMany" "most" && errsB K errs "CutError")
def tf : List He.Defn := [("_law_works", none)]
def pm (K : PySem.W.Frag) : Pm := ⟨He.ga K, mtK K "CutError", isTK K, lamOf, He.tabOf K (He.codeOf K ("_law_works", none)), defScope st_f_law_works, 0, fldK K⟩
abbrev R : PySem.W.OpenRow := PySem.W.OpenLaw.row PySem.Challenge.rw_cutledger_k07_checks_refused
abbrev hk : PySem.W.Hook := He.hookX 4 fa fn [] tf ex
def ob (s : PySem.W.SharedT) : He.AlX := He.obsX 4 fa fn [] tf ex (HandSHeadRun.getT s)
theorem ob_eq (s : PySem.W.SharedT) : ob s = hk.obs s.abs := He.obsX_eq (HandSHeadRun.getT_eq s)
def loose : List Str := (["CutError", "BadRow", "BadNumber", "BadFlips", "TooMany", "is_integer", "is_tuple_of", "are_bytes", "LONGEST_ROW", "check_row", "fixed_code", "CHECK_BYTES", "MOST_FLIPS", "LONGEST_SEARCHED", "DIVISOR_REST", "check_of", "rest_of", "sealed", "is_sealed", "is_right"] : List Str) ++ (["check_flips", "flipped", "with_flips", "is_unseen", "least_unseen", "rests_of_bits", "least_flips", "_law_taken", "_law_pick", "_law_refused", "_law_works"] : List Str)
theorem run (w : World) : HandSHeadRun.RunEq R (PySem.W.view R.prog [36]) hk ob 4000 loose w := by
  intro os
  kernel_rfl
abbrev caps : List (List Str × List Nat) := [(["one"], [0]), (["one"], [0]), (["one"], [0]), (["one", "other"], [0, 1]), (["one", "other"], [0, 1]), (["one"], [0])]
abbrev lqE : Str := (("_law_works" ++ ".<locals>.") ++ "<lambda>")
theorem pm_ok {K : PySem.W.Frag} (h : errsB K errs "CutError" = true) : PmOk (pm K) errs ["one", "other", "works"] caps lqE := by
  obtain ⟨h1, h2⟩ := errs_of h
  refine ⟨h1, h2, fun j c e => ?_, fun j hj => ?_⟩
  · match j, e with
    | 0, e => cases e; exact cap_0
    | 1, e => cases e; exact cap_1
    | 2, e => cases e; exact cap_2
    | 3, e => cases e; exact cap_3
    | 4, e => cases e; exact cap_4
    | 5, e => cases e; exact cap_5
    | j + 6, e => simp [caps] at e
  · match j, hj with
    | 0, _ => rfl
    | 1, _ => rfl
    | 2, _ => rfl
    | 3, _ => rfl
    | 4, _ => rfl
    | 5, _ => rfl
    | j + 6, hj => exact absurd (show j + 6 < 6 from hj) (by omega)
theorem law_at {P : Program} {w : World} {K : PySem.W.Frag} {h : Heap} {mg : Str → Option Value} {f : Addr} (X : K.In h) (G : h.Ns mainGlobals mg) (hfa : mg ("law" : Str) = some (.ref f)) (c0 : He.SaysX fa fn [] tf ex w h K) :
    ∃ (fd : FuncData) (cs : List (Addr × Addr)) (sp : Sp), (∀ p ∈ cs, h.get? p.2 = some { cls := .none, data := .fields #[] }) ∧ (∀ p ∈ cs, K.lookup p.2 = none) ∧ (∀ p ∈ cs, PySem.W.CodeHd h p.1 p.2) ∧ (∀ (s : Shared) (u : Value), BindsTo s fd ⟨[u], []⟩ [(("script" : Str), u)]) ∧
    (∀ (H : Hp) (a : Addr) (ns : List Int), ns.length ≤ 63 → (∀ z ∈ ns, Builtin.Int.intBits z ≤ 1048576) → (∀ p ∈ cs, H p.2 = some (.tbl #[])) → SqL K H a (ns.map V.int) → sp [.ref a] H (fun v _ => v = .bl true) fun _ _ _ => False) ∧
    ∀ base : Heap, K.In base → base.Ns mainGlobals mg → (∀ p ∈ cs, LamX.TabB base mg p.1 p.2) → FnOk P w K mg base (L2.CX P w) 7 f fd ["script"] sp := by
  have c := c0.t
  obtain ⟨fd_f_law_taken, F_f_law_taken⟩ := c.d.def_ 0 (d := d_f_law_taken) rfl
  have m_f_law_taken := He.glo_ok X G (c.d.fact 0 (f := .glo "_law_taken") rfl)
  obtain ⟨fd_f_law_pick, F_f_law_pick⟩ := c.d.def_ 1 (d := d_f_law_pick) rfl
  have m_f_law_pick := He.glo_ok X G (c.d.fact 1 (f := .glo "_law_pick") rfl)
  obtain ⟨fd_is_tuple_of, F_is_tuple_of⟩ := c.d.def_ 2 (d := d_is_tuple_of) rfl
  have m_is_tuple_of := He.glo_ok X G (c.d.fact 2 (f := .glo "is_tuple_of") rfl)
  obtain ⟨fd_are_bytes, F_are_bytes⟩ := c.d.def_ 3 (d := d_are_bytes) rfl
  have m_are_bytes := He.glo_ok X G (c.d.fact 3 (f := .glo "are_bytes") rfl)
  obtain ⟨fd_check_row, F_check_row⟩ := c.d.def_ 4 (d := d_check_row) rfl
  have m_check_row := He.glo_ok X G (c.d.fact 4 (f := .glo "check_row") rfl)
  obtain ⟨fd_rest_of, F_rest_of⟩ := c.d.def_ 5 (d := d_rest_of) rfl
  have m_rest_of := He.glo_ok X G (c.d.fact 5 (f := .glo "rest_of") rfl)
  obtain ⟨fd_check_of, F_check_of⟩ := c.d.def_ 6 (d := d_check_of) rfl
  have m_check_of := He.glo_ok X G (c.d.fact 6 (f := .glo "check_of") rfl)
  obtain ⟨fd_fixed_code, F_fixed_code⟩ := c.d.def_ 7 (d := d_fixed_code) rfl
  have m_fixed_code := He.glo_ok X G (c.d.fact 7 (f := .glo "fixed_code") rfl)
  obtain ⟨fd_sealed, F_sealed⟩ := c.d.def_ 8 (d := d_sealed) rfl
  have m_sealed := He.glo_ok X G (c.d.fact 8 (f := .glo "sealed") rfl)
  obtain ⟨fd_is_right, F_is_right⟩ := c.d.def_ 9 (d := d_is_right) rfl
  have m_is_right := He.glo_ok X G (c.d.fact 9 (f := .glo "is_right") rfl)
  obtain ⟨fd_is_sealed, F_is_sealed⟩ := c.d.def_ 10 (d := d_is_sealed) rfl
  have m_is_sealed := He.glo_ok X G (c.d.fact 10 (f := .glo "is_sealed") rfl)
  obtain ⟨fd_is_integer, F_is_integer⟩ := c.d.def_ 11 (d := d_is_integer) rfl
  have m_is_integer := He.glo_ok X G (c.d.fact 11 (f := .glo "is_integer") rfl)
  obtain ⟨fd_check_flips, F_check_flips⟩ := c.d.def_ 12 (d := d_check_flips) rfl
  have m_check_flips := He.glo_ok X G (c.d.fact 12 (f := .glo "check_flips") rfl)
  obtain ⟨fd_with_flips, F_with_flips⟩ := c.d.def_ 13 (d := d_with_flips) rfl
  have m_with_flips := He.glo_ok X G (c.d.fact 13 (f := .glo "with_flips") rfl)
  obtain ⟨fd_flipped, F_flipped⟩ := c.d.def_ 14 (d := d_flipped) rfl
  have m_flipped := He.glo_ok X G (c.d.fact 14 (f := .glo "flipped") rfl)
  obtain ⟨fd_is_unseen, F_is_unseen⟩ := c.d.def_ 15 (d := d_is_unseen) rfl
  have m_is_unseen := He.glo_ok X G (c.d.fact 15 (f := .glo "is_unseen") rfl)
  obtain ⟨fd_least_unseen, F_least_unseen⟩ := c.d.def_ 16 (d := d_least_unseen) rfl
  have m_least_unseen := He.glo_ok X G (c.d.fact 16 (f := .glo "least_unseen") rfl)
  obtain ⟨fd_f_law_works, F_f_law_works⟩ := c.d.def_ 17 (d := d_f_law_works) rfl
  have m_f_law_works := He.glo_ok X G (c.d.fact 17 (f := .glo "_law_works") rfl)
  obtain ⟨fd_f_law_refused, F_f_law_refused⟩ := c.d.def_ 18 (d := d_f_law_refused) rfl
  have m_f_law_refused := He.glo_ok X G (c.d.fact 18 (f := .glo "_law_refused") rfl)
  obtain ⟨fd_law, F_law⟩ := c.d.def_ 19 (d := d_law) rfl
  have m_law := He.glo_ok X G (c.d.fact 19 (f := .glo "law") rfl)
  have B : Bi mg := ⟨He.free_ok X G (c.d.fact 20 (f := .free "len") rfl), He.free_ok X G (c.d.fact 21 (f := .free "int") rfl), He.free_ok X G (c.d.fact 22 (f := .free "bool") rfl), He.free_ok X G (c.d.fact 23 (f := .free "str") rfl), He.free_ok X G (c.d.fact 24 (f := .free "tuple") rfl), He.free_ok X G (c.d.fact 25 (f := .free "list") rfl), He.free_ok X G (c.d.fact 26 (f := .free "isinstance") rfl), He.free_ok X G (c.d.fact 27 (f := .free "range") rfl), He.free_ok X G (c.d.fact 28 (f := .free "all") rfl), He.free_ok X G (c.d.fact 29 (f := .free "any") rfl), He.free_ok X G (c.d.fact 30 (f := .free "min") rfl), He.free_ok X G (c.d.fact 31 (f := .free "max") rfl), He.free_ok X G (c.d.fact 32 (f := .free "reversed") rfl), He.free_ok X G (c.d.fact 33 (f := .free "sorted") rfl), He.free_ok X G (c.d.fact 34 (f := .free "enumerate") rfl), He.free_ok X G (c.d.fact 35 (f := .free "zip") rfl), He.free_ok X G (c.d.fact 36 (f := .free "dict") rfl), He.free_ok X G (c.d.fact 37 (f := .free "sum") rfl), He.free_ok X G (c.d.fact 38 (f := .free "abs") rfl)⟩
  have c_CHECK_BYTES : CI mg "CHECK_BYTES" 2 := He.int_ok X G (c.d.fact 39 (f := .int "CHECK_BYTES" 2) rfl)
  have c_LONGEST_ROW : CI mg "LONGEST_ROW" 4096 := He.int_ok X G (c.d.fact 40 (f := .int "LONGEST_ROW" 4096) rfl)
  have c_LONGEST_SEARCHED : CI mg "LONGEST_SEARCHED" 24 := He.int_ok X G (c.d.fact 41 (f := .int "LONGEST_SEARCHED" 24) rfl)
  have c_MOST_FLIPS : CI mg "MOST_FLIPS" 64 := He.int_ok X G (c.d.fact 42 (f := .int "MOST_FLIPS" 64) rfl)
  have err_BadFlips : ErrK K mg "BadFlips" ((pm K).cA "BadFlips") := err_of X G (c.d.fact 43 (f := .glo "BadFlips") rfl) (c.d.fact 44 (f := .exc "BadFlips") rfl)
  have err_BadNumber : ErrK K mg "BadNumber" ((pm K).cA "BadNumber") := err_of X G (c.d.fact 45 (f := .glo "BadNumber") rfl) (c.d.fact 46 (f := .exc "BadNumber") rfl)
  have err_BadRow : ErrK K mg "BadRow" ((pm K).cA "BadRow") := err_of X G (c.d.fact 47 (f := .glo "BadRow") rfl) (c.d.fact 48 (f := .exc "BadRow") rfl)
  have err_CutError : ErrK K mg "CutError" ((pm K).cA "CutError") := err_of X G (c.d.fact 49 (f := .glo "CutError") rfl) (c.d.fact 50 (f := .exc "CutError") rfl)
  have eb_TooMany : efB K "TooMany" "most" = true := (Bool.and_eq_true_iff.mp c0.more).1
  obtain ⟨fdi_TooMany, Fi_TooMany⟩ := c.d.def_ 20 (d := d_TooMany_init) rfl
  have fl_TooMany : (pm K).fld ((pm K).cA "TooMany") "most" = true := ef_fld eb_TooMany
  have hfl : ∀ C g, (pm K).fld C g = true → XfC K C ∧ PySem.W.findIn K (.ref C) g = some none := fldK_ok
  have pk := pm_ok (Bool.and_eq_true_iff.mp c0.more).2
  have hmt : ∀ a b, (pm K).mt a = some b → PySem.W.exmOne K (.ref a) (.ref ((pm K).cA "CutError")) = some b := fun a b e => e
  have his : ∀ a1 a2 b, (pm K).isT a1 a2 = some b → PySem.W.kitOne K (.ref a1) (.ref a2) = some b ∧ ExcC K a1 := isTK_ok
  have e := hfa.symm.trans m_law
  cases e
  refine ⟨fd_law, tf.map (He.cT K), spF K (lSp K 1 (s_law (pm K))), fun p hp => ?_, fun p hp => ?_, fun p hp => ?_, fun s u => ?_, fun H a ns h1 h2 hTt hS => law_sp2 (ts := (tf.map (He.cT K)).map (·.2)) (tl := [((pm K).P, lqE)]) (fun m hL hm => law_true pk fl_TooMany (hL _ (List.mem_singleton.mpr rfl)) h1 h2) (fun p hp => ?_) (fun p hp => ?_) (fun p hp => ?_) hS, fun base hK hG hTB => fn_freeze ?_⟩
  · obtain ⟨q, hq, rfl⟩ := List.mem_map.mp hp
    exact c0.empty q hq
  · obtain ⟨q, hq, rfl⟩ := List.mem_map.mp hp
    exact c0.out q hq
  · obtain ⟨q, hq, rfl⟩ := List.mem_map.mp hp
    exact PySem.W.codeHd_of_K X (c0.hd q hq)
  · exact (FunD.bindsA (ps := ["script"]) F_law fun _ _ _ _ _ _ us hl => match us, hl with | [_], _ => rfl) s [u] rfl
  · obtain rfl := List.mem_singleton.mp hp
    simp
  · obtain ⟨q, hq, rfl⟩ := List.mem_map.mp hp
    exact hTt q hq
  · obtain rfl := List.mem_singleton.mp hp
    exact List.mem_map.mpr ⟨_, List.mem_map.mpr ⟨("_law_works", none), by decide, rfl⟩, rfl⟩
  ·
    have TBw : LamX.TabB base mg (He.codeOf K ("_law_works", none)) (pm K).P := hTB _ (List.mem_map.mpr ⟨("_law_works", none), by decide, rfl⟩)
    have ef_TooMany : ErrF P w K mg base "TooMany" ((pm K).cA "TooMany") "most" := ef_of X G eb_TooMany (ini_TooMany (P := P) (w := w) (base := base) Fi_TooMany) (Fi_TooMany.bindsN (ps := ["self", "most"]) fun _ _ _ _ _ _ us hl => match us, hl with | [_, _], _ => rfl)
    have h_f_law_taken := ok_f_law_taken (P := P) (w := w) (base := base) B F_f_law_taken m_f_law_taken
    have h_f_law_pick := ok_f_law_pick (P := P) (w := w) (base := base) B h_f_law_taken F_f_law_pick m_f_law_pick
    have h_is_tuple_of := ok_is_tuple_of (P := P) (w := w) (base := base) B F_is_tuple_of m_is_tuple_of
    have h_are_bytes := ok_are_bytes (P := P) (w := w) (base := base) B h_is_tuple_of F_are_bytes m_are_bytes
    have h_check_row := ok_check_row (P := P) (w := w) (base := base) (p := pm K) B c_LONGEST_ROW h_are_bytes err_BadRow F_check_row m_check_row
    have h_rest_of := ok_rest_of (P := P) (w := w) (base := base) B F_rest_of m_rest_of
    have h_check_of := ok_check_of (P := P) (w := w) (base := base) (p := pm K) B h_check_row h_rest_of F_check_of m_check_of
    have h_fixed_code := ok_fixed_code (P := P) (w := w) (base := base) B F_fixed_code m_fixed_code
    have h_sealed := ok_sealed (P := P) (w := w) (base := base) (p := pm K) B c_LONGEST_ROW c_CHECK_BYTES h_check_row h_rest_of h_fixed_code ef_TooMany F_sealed m_sealed
    have h_is_right := ok_is_right (P := P) (w := w) (base := base) B c_CHECK_BYTES h_rest_of F_is_right m_is_right
    have h_is_sealed := ok_is_sealed (P := P) (w := w) (base := base) (p := pm K) B h_check_row h_is_right F_is_sealed m_is_sealed
    have h_is_integer := ok_is_integer (P := P) (w := w) (base := base) B F_is_integer m_is_integer
    have h_check_flips := ok_check_flips (P := P) (w := w) (base := base) (p := pm K) B c_MOST_FLIPS h_is_tuple_of h_is_integer err_BadFlips F_check_flips m_check_flips
    have h_with_flips := ok_with_flips (P := P) (w := w) (base := base) B F_with_flips m_with_flips
    have h_flipped := ok_flipped (P := P) (w := w) (base := base) (p := pm K) B h_check_row h_check_flips h_with_flips F_flipped m_flipped
    have h_is_unseen := ok_is_unseen (P := P) (w := w) (base := base) (p := pm K) B c_LONGEST_ROW c_CHECK_BYTES h_is_integer h_check_flips h_with_flips h_is_right err_BadNumber F_is_unseen m_is_unseen
    have h_least_unseen := ok_least_unseen (P := P) (w := w) (base := base) (p := pm K) B c_LONGEST_SEARCHED c_CHECK_BYTES h_is_integer err_BadNumber F_least_unseen m_least_unseen
    have h_f_law_works : Cal P w K mg base "_law_works" 1 2 (s_f_law_works (pm K)) := ok_f_law_works (P := P) (w := w) (base := base) TBw F_f_law_works m_f_law_works
    have hT : ∀ L ys t, T_lam (pm K) L ys t → LamOk P w K mg base 4 L ys t := by
      rintro L ys t (⟨rfl, rfl, rfl⟩ | ⟨rfl, rfl, rfl⟩ | ⟨rfl, rfl, rfl⟩ | ⟨rfl, rfl, rfl⟩ | ⟨rfl, rfl, rfl⟩ | ⟨rfl, rfl, rfl⟩)
      · exact lok_0 (P := P) (w := w) (base := base) (p := pm K) B h_check_of
      · exact lok_1 (P := P) (w := w) (base := base) (p := pm K) B h_sealed
      · exact lok_2 (P := P) (w := w) (base := base) (p := pm K) B h_is_sealed
      · exact lok_3 (P := P) (w := w) (base := base) (p := pm K) B h_flipped
      · exact lok_4 (P := P) (w := w) (base := base) (p := pm K) B h_is_unseen
      · exact lok_5 (P := P) (w := w) (base := base) (p := pm K) B h_least_unseen
    have h_f_law_refused := ok_f_law_refused (P := P) (w := w) (base := base) (p := pm K) B err_CutError err_BadRow err_BadNumber err_BadFlips ef_TooMany hmt his hfl hT F_f_law_refused m_f_law_refused
    exact fn_law (P := P) (w := w) (base := base) (p := pm K) B h_f_law_pick h_f_law_works h_f_law_refused h_f_law_taken F_law m_law
end K7
open PySem PySem.W PySem.Calls PyProof.Rows
set_option maxRecDepth 100000 in
set_option maxHeartbeats 0 in
theorem PySem.Challenge.cw_cutledger_k07_checks_refused_holds : PySem.Challenge.rw_cutledger_k07_checks_refused.Holds := by
  w_on; o_law
  refine HandSHeadRun.head_any (r := OpenLaw.row PySem.Challenge.rw_cutledger_k07_checks_refused) (q := view (OpenLaw.row PySem.Challenge.rw_cutledger_k07_checks_refused).prog [36]) (H := K7.hk) (ob := K7.ob) (M := 4000) (loose := K7.loose) (d := HandSHeadRun.topDef (OpenLaw.row PySem.Challenge.rw_cutledger_k07_checks_refused).prog 36) (kwd := []) K7.ob_eq
    (by kernel_rfl) (fun s => by kernel_rfl) K7.run (by kernel_rfl) (by kernel_rfl) (by kernel_rfl) (by rfl) (by first | assumption | decide +kernel) (by decide +kernel) ⟨rfl, rfl, rfl, rfl, rfl, by decide +kernel⟩ ?hw ?hc
  case hw => w_witness2
  case hc =>
    refine LamX.walk_ofTsE (l := PySem.Challenge.rw_cutledger_k07_checks_refused) (n := 63) (k := 7) (x := "script") (CX := fun w => L2.CX (PySem.Challenge.rw_cutledger_k07_checks_refused).prog w) rfl (by decide) (by kernel_rfl) ⟨rfl, by decide, by decide⟩ ?F (fun _ _ _ _ _ z => Ab.cx_no z)
    intro w mg fa h Y G hmg0
    obtain ⟨K, KX, c⟩ := Y
    have hmg : mg ("law" : PySem.Str) = some (.ref fa) := by
      have e : (HandSHeadRun.topDef (OpenLaw.row PySem.Challenge.rw_cutledger_k07_checks_refused).prog 36).name = ("law" : PySem.Str) := by kernel_rfl
      rw [← e]
      exact hmg0
    exact ⟨K, KX, K7.law_at (P := (PySem.Challenge.rw_cutledger_k07_checks_refused).prog) (w := w) KX G hmg c⟩
