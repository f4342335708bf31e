import PyProof.Rows.All
import Wide.All
import OpenK.AllK
import Wide.FinOn
import HandS.ForMost
import HandS.Exc
import HandS.TryOnly
import HandS.ExcOwn
import HandS.WordsExc
import HandS.Wide
import HandS.IsInst
import HandS.Defaults
import HandS.Rev
import HandS.RevTup
import HandS.Star
import HandS.TupAny
import HandS.TupMul
import HandS.Conv
import HandS.Flow
import HandS.Small
import HandS.Lambda
import HandS.Style
import HandS.TupLe
import HandS.AnyAll
import HandS.HeadWalk
import HandS.HeadHook4
import HandS.Head2
import HandS.Deep
import HandS.Strs
import KE.DataAny
import HandS.Dict
import HandS.SortInts
import PyProof.EqKinds
import PyProof.FactsAll.dict
import KE.GoesMore
import KE.DataMinMax
import PyProof.Claim2Refuses
import KE.DatumOrd
import PySem.Challenge.RW_cutledger_k32_whole_fewest_checks
set_option Elab.async false
set_option linter.all false
set_option maxRecDepth 100000
set_option maxHeartbeats 2000000
/-! Ab: data inline. Tuples and texts are plain data (D), what changes stands in an abstract store (M). -/
namespace Ab
open PySem PySem.Spec PyProof.Rows L2

inductive D where
  | non | bl (b : Bool) | int (i : Int) | str (x : Str) | tup (ds : List D) | fls (ds : List D) | ref (a : Addr) | ty (n : String)

/-- a list that nobody changes -/
def FrL (K : PySem.W.Frag) (H : Hp) (a : Addr) (xs : List V) : Prop := (∃ o, H a = some (.frz o (.lst xs))) ∨
    ∃ (o : Obj) (its : Array Value) (n : Nat), K.lookup a = some o ∧ o.cls = .type "list" ∧ o.dict = none ∧ o.data = .seq its n ∧ its.size ≤ sizeLine ∧ Vals xs its.toList
theorem FrL.sq {K : PySem.W.Frag} {H : Hp} {a : Addr} {xs : List V} (h : FrL K H a xs) : SqL K H a xs := by
  rcases h with ⟨o, h⟩ | h
  · exact .inl (.inr ⟨o, h⟩)
  · exact .inr h

mutual
def Rep (K : PySem.W.Frag) (H : Hp) : D → V → Prop
  | .non, v => v = .non
  | .bl b, v => v = .bl b
  | .int i, v => v = .int i
  | .str x, v => v = .str x
  | .ty n, v => v = .ty n
  | .ref a, v => v = .ref a
  | .tup ds, v => ∃ a xs, v = .ref a ∧ SqT K H a xs ∧ Reps K H ds xs
  | .fls ds, v => ∃ a xs, v = .ref a ∧ FrL K H a xs ∧ Reps K H ds xs
def Reps (K : PySem.W.Frag) (H : Hp) : List D → List V → Prop
  | [], xs => xs = []
  | d :: ds, xs => ∃ x r, xs = x :: r ∧ Rep K H d x ∧ Reps K H ds r
end

/-- what stays whatever runs -/
def Tx (H H' : Hp) : Prop := (∀ a xs, H a = some (.tup xs) → H' a = some (.tup xs)) ∧ ∀ a o u, H a = some (.frz o u) → H' a = some (.frz o u)
theorem Tx.refl (H : Hp) : Tx H H := ⟨fun _ _ h => h, fun _ _ _ h => h⟩
theorem Tx.trans {H H1 H2 : Hp} (a : Tx H H1) (b : Tx H1 H2) : Tx H H2 := ⟨fun x xs h => b.1 x xs (a.1 x xs h), fun x o u h => b.2 x o u (a.2 x o u h)⟩
theorem Tx.new {H : Hp} {p : Addr} {o : HO} (h : H p = none) : Tx H (upd H p o) := ⟨fun a xs e => by rw [upd_ne (ne_of_none e h)]; exact e, fun a xs u e => by rw [upd_ne (ne_of_none e h)]; exact e⟩
theorem Tx.mut {H : Hp} {p : Addr} {o u : HO} (h : H p = some u) (hu : Mut (some u)) : Tx H (upd H p o) := by
  refine ⟨fun a xs e => ?_, fun a ob x e => ?_⟩
  · rw [upd_ne fun z => ?_]; exact e
    rw [z, h] at e; cases e; exact hu
  · rw [upd_ne fun z => ?_]; exact e
    rw [z, h] at e; cases e; exact hu
section
variable {K : PySem.W.Frag} {H H' : Hp}
theorem sqT_tx {a : Addr} {xs : List V} (t : Tx H H') (h : SqT K H a xs) : SqT K H' a xs := by
  rcases h with (h | ⟨o, h⟩) | h
  · exact .inl (.inl (t.1 _ _ h))
  · exact .inl (.inr ⟨o, t.2 _ _ _ h⟩)
  · exact .inr h
theorem FrL.tx {a : Addr} {xs : List V} (t : Tx H H') (h : FrL K H a xs) : FrL K H' a xs := by
  rcases h with ⟨o, h⟩ | h
  · exact .inl ⟨o, t.2 _ _ _ h⟩
  · exact .inr h
mutual
theorem Rep.mono (t : Tx H H') : ∀ {d : D} {v : V}, Rep K H d v → Rep K H' d v
  | .non, _, h => h
  | .bl _, _, h => h
  | .int _, _, h => h
  | .str _, _, h => h
  | .ty _, _, h => h
  | .ref _, _, h => h
  | .tup ds, _, ⟨a, xs, e, s, r⟩ => ⟨a, xs, e, sqT_tx t s, Reps.mono t r⟩
  | .fls ds, _, ⟨a, xs, e, s, r⟩ => ⟨a, xs, e, FrL.tx t s, Reps.mono t r⟩
theorem Reps.mono (t : Tx H H') : ∀ {ds : List D} {vs : List V}, Reps K H ds vs → Reps K H' ds vs
  | [], _, h => h
  | d :: ds, _, ⟨x, r, e, h, hr⟩ => ⟨x, r, e, Rep.mono t h, Reps.mono t hr⟩
end
theorem Reps.length : ∀ {ds : List D} {vs : List V}, Reps K H ds vs → ds.length = vs.length
  | [], _, h => by rw [show _ = [] from h]; rfl
  | d :: ds, _, ⟨x, r, e, h, hr⟩ => by rw [e]; exact congrArg (· + 1) (Reps.length hr)
theorem Reps.append : ∀ {ds es : List D} {vs us : List V}, Reps K H ds vs → Reps K H es us → Reps K H (ds ++ es) (vs ++ us)
  | [], _, _, _, h, h2 => by rw [show _ = [] from h]; exact h2
  | d :: ds, _, _, _, ⟨x, r, e, h, hr⟩, h2 => by rw [e]; exact ⟨x, r ++ _, rfl, h, Reps.append hr h2⟩
theorem Reps.get : ∀ {ds : List D} {vs : List V} {i : Nat} {d : D}, Reps K H ds vs → ds[i]? = some d → ∃ v, vs[i]? = some v ∧ Rep K H d v
  | [], _, i, _, h, e => by simp at e
  | d :: ds, _, 0, _, ⟨x, r, e, h, hr⟩, q => by rw [e]; simp at q; subst q; exact ⟨x, rfl, h⟩
  | d :: ds, _, i + 1, _, ⟨x, r, e, h, hr⟩, q => by rw [e]; exact Reps.get (ds := ds) (vs := r) (i := i) hr (by simpa using q)
theorem Reps.get' : ∀ {ds : List D} {vs : List V} {i : Nat} {v : V}, Reps K H ds vs → vs[i]? = some v → ∃ d, ds[i]? = some d ∧ Rep K H d v
  | [], _, i, _, h, e => by rw [show _ = [] from h] at e; simp at e
  | d :: ds, _, 0, _, ⟨x, r, e, h, hr⟩, q => by rw [e] at q; simp at q; subst q; exact ⟨d, rfl, h⟩
  | d :: ds, _, i + 1, _, ⟨x, r, e, h, hr⟩, q => by rw [e] at q; exact Reps.get' (ds := ds) (vs := r) (i := i) hr (by simpa using q)
theorem Reps.take : ∀ {ds : List D} {vs : List V} (n : Nat), Reps K H ds vs → Reps K H (ds.take n) (vs.take n)
  | _, _, 0, _ => by simp [Reps]
  | [], _, n + 1, h => by rw [show _ = [] from h]; simp [Reps]
  | d :: ds, _, n + 1, ⟨x, r, e, h, hr⟩ => by rw [e]; exact ⟨x, _, rfl, h, Reps.take n hr⟩
theorem Reps.drop : ∀ {ds : List D} {vs : List V} (n : Nat), Reps K H ds vs → Reps K H (ds.drop n) (vs.drop n)
  | _, _, 0, h => h
  | [], _, n + 1, h => by rw [show _ = [] from h]; simp [Reps]
  | d :: ds, _, n + 1, ⟨x, r, e, h, hr⟩ => by rw [e]; exact Reps.drop (ds := ds) n hr
theorem Reps.reverse : ∀ {ds : List D} {vs : List V}, Reps K H ds vs → Reps K H ds.reverse vs.reverse
  | [], _, h => by rw [show _ = [] from h]; rfl
  | d :: ds, _, ⟨x, r, e, h, hr⟩ => by
    rw [e, List.reverse_cons, List.reverse_cons]
    exact Reps.append (Reps.reverse hr) ⟨x, [], rfl, h, rfl⟩
theorem Reps.replicate {d : D} {v : V} (h : Rep K H d v) : ∀ n : Nat, Reps K H (List.replicate n d) (List.replicate n v)
  | 0 => rfl
  | n + 1 => ⟨v, _, rfl, h, Reps.replicate h n⟩
theorem Reps.flat {ds : List D} {vs : List V} (h : Reps K H ds vs) : ∀ n : Nat, Reps K H (List.replicate n ds).flatten (List.replicate n vs).flatten
  | 0 => rfl
  | n + 1 => by rw [List.replicate_succ, List.replicate_succ, List.flatten_cons, List.flatten_cons]; exact Reps.append h (Reps.flat h n)
theorem Reps.set : ∀ {ds : List D} {vs : List V} (i : Nat) {d : D} {v : V}, Reps K H ds vs → Rep K H d v → Reps K H (ds.set i d) (vs.set i v)
  | [], _, i, _, _, h, _ => by rw [show _ = [] from h]; rfl
  | d :: ds, _, 0, _, _, ⟨x, r, e, h, hr⟩, q => by rw [e]; exact ⟨_, r, rfl, q, hr⟩
  | d :: ds, _, i + 1, _, _, ⟨x, r, e, h, hr⟩, q => by rw [e]; exact ⟨x, _, rfl, h, Reps.set i hr q⟩
/-- ints stand for themselves -/
theorem Reps.ints : ∀ {ns : List Int} {vs : List V}, Reps K H (ns.map D.int) vs → vs = ns.map V.int
  | [], _, h => h
  | n :: ns, _, ⟨x, r, e, h, hr⟩ => by rw [e, show x = V.int n from h, Reps.ints hr]; rfl
theorem Reps.of_ints : ∀ ns : List Int, Reps K H (ns.map D.int) (ns.map V.int)
  | [] => rfl
  | n :: ns => ⟨_, _, rfl, rfl, Reps.of_ints ns⟩
end

/-- an object that is known for good -/
def Kd (o : Obj) : HO := .frz o (.ext fun _ => True)
theorem kd_ok {P : Program} {w : World} {H : Hp} {h : Heap} {a : Addr} {o : Obj} (e : h.get? a = some o) : ObjOk P w H h a (Kd o) := ⟨e, trivial, ⟨o, e⟩, fun _ _ _ _ => trivial⟩
theorem kd_get {P : Program} {w : World} {H : Hp} {h : Heap} {a : Addr} {o : Obj} (x : HOk P w H h) (e : H a = some (Kd o)) : h.get? a = some o := (x a _ e).1
theorem kd_tx {H H' : Hp} {a : Addr} {o : Obj} (t : Tx H H') (e : H a = some (Kd o)) : H' a = some (Kd o) := t.2 a _ _ e
/-- a code object of this name -/
def CodeK (H : Hp) (c : Addr) (q : Str) : Prop := ∃ (oc : Obj) (vs : Array Value) (t : Tok), H c = some (Kd oc) ∧ oc.data = .fields vs ∧ vs[1]? = some (.str q t)
theorem CodeK.tx {H H' : Hp} {c : Addr} {q : Str} (t : Tx H H') (x : CodeK H c q) : CodeK H' c q :=
  let ⟨oc, vs, tk, a, b⟩ := x; ⟨oc, vs, tk, kd_tx t a, b⟩
/-- a table of code objects, all of one name -/
def TabK (H : Hp) (P : Addr) (q : Str) : Prop := ∃ ps : Array Value, H P = some (.tbl ps) ∧ TriplesOk ps.toList ∧ ∀ (pos : Pos) (cv : Value), codeAmong pos ps.toList = some cv → ∃ c, cv = .ref c ∧ CodeK H c q
/-- the syntax of a lambda without parameters -/
structure LSyn where
  params : Arguments
  body : Expr
  scope : Scope
  qual : Str
/-- a lambda with the cells that it captured -/
def FnK (H : Hp) (f : Addr) (L : LSyn) (cl : List (Str × Addr)) : Prop := ∃ (c' : Addr) (pm ctv : Value), H f = some (Kd (PySem.W.kla_obj "<lambda>" L.qual L.params L.body L.scope cl pm c' ctv)) ∧ CodeK H c' L.qual
theorem FnK.tx {H H' : Hp} {f : Addr} {L : LSyn} {cl : List (Str × Addr)} (t : Tx H H') (x : FnK H f L cl) : FnK H' f L cl :=
  let ⟨c', pm, ctv, a, b⟩ := x; ⟨c', pm, ctv, kd_tx t a, b.tx t⟩
/-- the cells of a lambda hold these values -/
def CellsK (H : Hp) (ys : List Str) (cl : List (Str × Addr)) (vs : List V) : Prop := ∀ (i : Nat) (y : Str), ys[i]? = some y → ∃ (c : Addr) (v : V) (w : Value) (o : Obj), cl.lookup y = some c ∧ vs[i]? = some v ∧ RelV v w ∧ H c = some (Kd o) ∧ o.data = .cell (some w)
/-- the names of a lambda without parameters: captured ones and globals -/
structure LSc (L : LSyn) (ys : List Str) : Prop where
  kind : L.scope.kind = .function
  co : L.scope.isCoroutine = false
  gen : L.scope.isGenerator = false
  own : ∀ y ∈ L.scope.names, y.2 ≠ .local ∧ y.2 ≠ .cell
  free : ∀ y ∈ L.scope.names, y.2 = .free → y.1 ∈ ys
  bind : ∀ (cl : List (Str × Addr)) (pm cv ctv : Value), bindArgs (PySem.W.kla_fn "<lambda>" L.qual L.params L.body L.scope cl pm cv ctv) ⟨[], []⟩ = pure []
/-- the cells stand under the captured names, each its own -/
structure ClK (H : Hp) (L : LSyn) (ys : List Str) (cl : List (Str × Addr)) (vs : List V) : Prop where
  cells : CellsK H ys cl vs
  only : ∀ y c, cl.lookup y = some c → ∃ i : Nat, ys[i]? = some y
  mem : ∀ c, c ∈ cl.map (·.2) → ∃ y, cl.lookup y = some c
  inj : ∀ x y c, cl.lookup x = some c → cl.lookup y = some c → x = y
  len : vs.length = ys.length
  has : ∀ y ∈ L.scope.names, y.2 = .free → ∃ c, cl.lookup y.1 = some c
theorem CellsK.tx {H H' : Hp} {ys : List Str} {cl : List (Str × Addr)} {vs : List V} (t : Tx H H') (x : CellsK H ys cl vs) : CellsK H' ys cl vs := fun i y h =>
  let ⟨c, v, w, o, a1, a2, a3, a4, a5⟩ := x i y h; ⟨c, v, w, o, a1, a2, a3, kd_tx t a4, a5⟩
theorem ClK.tx {H H' : Hp} {L : LSyn} {ys : List Str} {cl : List (Str × Addr)} {vs : List V} (t : Tx H H') (x : ClK H L ys cl vs) : ClK H' L ys cl vs := ⟨x.cells.tx t, x.only, x.mem, x.inj, x.len, x.has⟩
/-! ### the store of what changes -/
inductive O where
  | lst (ds : List D)
  | tab
  | dic (ps : List (Key × D))
  | ltab (q : Str)
  | fn (L : LSyn) (ys : List Str) (cap : List Nat) (cl : List (Str × Addr))
  | clo (L : LSyn) (ys : List Str) (ds : List D)
  | opq
  | xd (fs : List (Str × D))
abbrev M := Addr → Option O
def mset (m : M) (a : Addr) (o : O) : M := fun b => if b = a then some o else m b
theorem mset_same {m : M} {a : Addr} {o : O} : mset m a o a = some o := by unfold mset; rw [if_pos rfl]
theorem mset_ne {m : M} {a b : Addr} {o : O} (h : b ≠ a) : mset m a o b = m b := by unfold mset; rw [if_neg h]
theorem mset_mset {m : M} {a : Addr} {o u : O} : mset (mset m a o) a u = mset m a u := by funext b; unfold mset; split <;> rfl
def RepKV (K : PySem.W.Frag) (H : Hp) : List (Key × D) → List (Key × V) → Prop
  | [], l => l = []
  | (k, d) :: ps, l => ∃ v r, l = (k, v) :: r ∧ Rep K H d v ∧ RepKV K H ps r
theorem RepKV.mono {K : PySem.W.Frag} {H H' : Hp} (t : Tx H H') : ∀ {ps : List (Key × D)} {l : List (Key × V)}, RepKV K H ps l → RepKV K H' ps l
  | [], _, h => h
  | (k, d) :: ps, _, ⟨v, r, e, h, hr⟩ => ⟨v, r, e, h.mono t, RepKV.mono t hr⟩
def RelO (K : PySem.W.Frag) (H : Hp) (a : Addr) : O → Prop
  | .lst ds => ∃ xs, H a = some (.lst xs) ∧ Reps K H ds xs
  | .tab => ∃ ps, H a = some (.tbl ps) ∧ TriplesOk ps.toList
  | .dic ps => ∃ l, H a = some (.dK l) ∧ RepKV K H ps l
  | .ltab q => TabK H a q
  | .fn L _ _ cl => FnK H a L cl
  | .clo L ys ds => ∃ cl vs, FnK H a L cl ∧ ClK H L ys cl vs ∧ Reps K H ds vs
  | .opq => ∃ o fd, H a = some (Kd o) ∧ o.data = .func fd
  | .xd fs => ∃ vs, H a = some (.xd ((fs.map (·.1)).zip vs)) ∧ Reps K H (fs.map (·.2)) vs
theorem RelO.move {K : PySem.W.Frag} {H H' : Hp} {a : Addr} (t : Tx H H') (k : ∀ u, H a = some u → H' a = some u) : ∀ {o : O}, RelO K H a o → RelO K H' a o
  | .lst _, ⟨xs, q, z⟩ => ⟨xs, k _ q, z.mono t⟩
  | .tab, ⟨ps, q, z⟩ => ⟨ps, k _ q, z⟩
  | .dic _, ⟨l, q, z⟩ => ⟨l, k _ q, z.mono t⟩
  | .ltab _, ⟨ps, e, ht, ha⟩ => ⟨ps, k _ e, ht, fun pos cv hc => let ⟨c, a1, a2⟩ := ha pos cv hc; ⟨c, a1, a2.tx t⟩⟩
  | .fn _ _ _ _, x => FnK.tx t x
  | .clo _ _ _, ⟨cl, vs, f, c, r⟩ => ⟨cl, vs, f.tx t, c.tx t, r.mono t⟩
  | .opq, ⟨o, fd, e, d⟩ => ⟨o, fd, kd_tx t e, d⟩
  | .xd _, ⟨vs, q, z⟩ => ⟨vs, k _ q, z.mono t⟩
theorem RelO.there {K : PySem.W.Frag} {H : Hp} {a : Addr} : ∀ {o : O}, RelO K H a o → ∃ u, H a = some u
  | .lst _, ⟨_, q, _⟩ => ⟨_, q⟩
  | .tab, ⟨_, q, _⟩ => ⟨_, q⟩
  | .dic _, ⟨_, q, _⟩ => ⟨_, q⟩
  | .ltab _, ⟨_, q, _⟩ => ⟨_, q⟩
  | .fn _ _ _ _, ⟨_, _, _, q, _⟩ => ⟨_, q⟩
  | .clo _ _ _, ⟨_, _, ⟨_, _, _, q, _⟩, _⟩ => ⟨_, q⟩
  | .opq, ⟨_, _, q, _⟩ => ⟨_, q⟩
  | .xd _, ⟨_, q, _⟩ => ⟨_, q⟩
def RelM (K : PySem.W.Frag) (H : Hp) (m : M) : Prop := ∀ a o, m a = some o → RelO K H a o
def Sub (m m' : M) : Prop := ∀ a o, m a = some o → m' a = some o
theorem Sub.refl (m : M) : Sub m m := fun _ _ h => h
theorem Sub.trans {m m1 m2 : M} (a : Sub m m1) (b : Sub m1 m2) : Sub m m2 := fun x o h => b x o (a x o h)
theorem Sub.new {m : M} {p : Addr} {o : O} (h : m p = none) : Sub m (mset m p o) := fun a u e => by
  rw [mset_ne fun z => by rw [z, h] at e; cases e]; exact e
theorem Sub.mut {m m' : M} {p : Addr} {o : O} (s : Sub m m') (h : m p = none) : Sub m (mset m' p o) := fun a u e => by
  rw [mset_ne fun z => by rw [z, h] at e; cases e]; exact s a u e
theorem Sub.none {m m' : M} {p : Addr} (s : Sub m m') (h : m' p = none) : m p = none := by
  cases e : m p with
  | none => rfl
  | some o => rw [s p o e] at h; cases h
section
variable {K : PySem.W.Frag} {H H' : Hp} {m m' : M}
theorem RelM.sub (r : RelM K H m') (s : Sub m m') : RelM K H m := fun a o e => r a o (s a o e)
theorem RelM.free {p : Addr} (r : RelM K H m) (h : H p = none) : m p = none := by
  cases e : m p with
  | none => rfl
  | some o =>
    obtain ⟨u, q⟩ := (r p o e).there
    rw [h] at q; cases q
/-- a new object that the store does not tell of -/
theorem RelM.grow {p : Addr} {o : HO} (r : RelM K H m) (h : H p = none) : RelM K (upd H p o) m := fun a u e =>
  (r a u e).move (Tx.new h) fun v q => by rw [upd_ne (ne_of_none q h)]; exact q
theorem RelM.newL {p : Addr} {xs : List V} {ds : List D} (r : RelM K H m) (h : H p = none) (z : Reps K H ds xs) : RelM K (upd H p (.lst xs)) (mset m p (.lst ds)) := fun a u e => by
  by_cases hb : a = p
  · subst hb
    rw [mset_same] at e; cases e
    exact ⟨xs, upd_same, z.mono (Tx.new h)⟩
  · rw [mset_ne hb] at e
    exact r.grow h a u e
theorem RelM.putL {p : Addr} {xs ys : List V} {ds : List D} (r : RelM K H m) (h : H p = some (.lst ys)) (z : Reps K H ds xs) : RelM K (upd H p (.lst xs)) (mset m p (.lst ds)) := fun a u e => by
  have t : Tx H (upd H p (.lst xs)) := Tx.mut h trivial
  by_cases hb : a = p
  · subst hb
    rw [mset_same] at e; cases e
    exact ⟨xs, upd_same, z.mono t⟩
  · rw [mset_ne hb] at e
    exact (r a u e).move t fun v q => by rw [upd_ne hb]; exact q
theorem RelM.newD {p : Addr} {l : List (Key × V)} {ps : List (Key × D)} (r : RelM K H m) (h : H p = none) (z : RepKV K H ps l) : RelM K (upd H p (.dK l)) (mset m p (.dic ps)) := fun a u e => by
  by_cases hb : a = p
  · subst hb
    rw [mset_same] at e; cases e
    exact ⟨l, upd_same, z.mono (Tx.new h)⟩
  · rw [mset_ne hb] at e
    exact r.grow h a u e
theorem RelM.putD {p : Addr} {l l' : List (Key × V)} {ps : List (Key × D)} (r : RelM K H m) (h : H p = some (.dK l')) (z : RepKV K H ps l) : RelM K (upd H p (.dK l)) (mset m p (.dic ps)) := fun a u e => by
  have t : Tx H (upd H p (.dK l)) := Tx.mut h trivial
  by_cases hb : a = p
  · subst hb
    rw [mset_same] at e; cases e
    exact ⟨l, upd_same, z.mono t⟩
  · rw [mset_ne hb] at e
    exact (r a u e).move t fun v q => by rw [upd_ne hb]; exact q
end

/-! ### slots -/
abbrev En := List (Option D)
def En.g : En → Nat → Option D
  | [], _ => none
  | x :: _, 0 => x
  | _ :: r, i + 1 => En.g r i
def En.s : En → Nat → D → En
  | [], _, _ => []
  | _ :: r, 0, d => some d :: r
  | x :: r, i + 1, d => x :: En.s r i d
def En.x : En → Nat → En
  | [], _ => []
  | _ :: r, 0 => none :: r
  | x :: r, i + 1 => x :: En.x r i
def RelS (K : PySem.W.Frag) (H : Hp) (x : Option V) : Option D → Prop
  | none => True
  | some d => ∃ v, x = some v ∧ Rep K H d v
def RelE (K : PySem.W.Frag) (H : Hp) : L2.St → En → Prop
  | [], [] => True
  | x :: σ, e :: en => RelS K H x e ∧ RelE K H σ en
  | _, _ => False
section
variable {K : PySem.W.Frag} {H H' : Hp}
theorem RelE.mono (t : Tx H H') : ∀ {σ : L2.St} {e : En}, RelE K H σ e → RelE K H' σ e
  | [], [], _ => trivial
  | x :: σ, none :: en, h => ⟨trivial, RelE.mono t h.2⟩
  | x :: σ, some d :: en, h => ⟨let ⟨v, e, r⟩ := h.1; ⟨v, e, r.mono t⟩, RelE.mono t h.2⟩
  | [], _ :: _, h => h.elim
  | _ :: _, [], h => h.elim
theorem RelE.get : ∀ {σ : L2.St} {e : En} {i : Nat} {d : D}, RelE K H σ e → e.g i = some d → ∃ v, σ[i]? = some (some v) ∧ Rep K H d v
  | [], [], _, _, _, e => by simp [En.g] at e
  | x :: σ, y :: en, 0, d, h, e => by
    have e' : y = some d := e
    subst e'
    obtain ⟨v, q, r⟩ := h.1
    exact ⟨v, by simp [q], r⟩
  | x :: σ, y :: en, i + 1, d, h, e => by
    obtain ⟨v, q, r⟩ := RelE.get (i := i) h.2 e
    exact ⟨v, by simpa using q, r⟩
  | [], _ :: _, _, _, h, _ => h.elim
  | _ :: _, [], _, _, h, _ => h.elim
theorem RelE.set : ∀ {σ : L2.St} {e : En} (i : Nat) {d : D} {v : V}, RelE K H σ e → Rep K H d v → RelE K H (σ.set i (some v)) (e.s i d)
  | [], [], _, _, _, _, _ => trivial
  | x :: σ, y :: en, 0, d, v, h, r => ⟨⟨v, rfl, r⟩, h.2⟩
  | x :: σ, y :: en, i + 1, d, v, h, r => ⟨h.1, RelE.set i h.2 r⟩
  | [], _ :: _, _, _, _, h, _ => h.elim
  | _ :: _, [], _, _, _, h, _ => h.elim
theorem RelE.unset : ∀ {σ : L2.St} {e : En} (i : Nat), RelE K H σ e → RelE K H (σ.set i none) (e.x i)
  | [], [], _, _ => trivial
  | x :: σ, y :: en, 0, h => ⟨trivial, h.2⟩
  | x :: σ, y :: en, i + 1, h => ⟨h.1, RelE.unset i h.2⟩
  | [], _ :: _, _, h => h.elim
  | _ :: _, [], _, h => h.elim
def eStart (n : Nat) (ds : List D) : En := ds.map some ++ List.replicate (n - ds.length) none
theorem RelE.nones : ∀ (n : Nat), RelE K H (List.replicate n none) (List.replicate n none)
  | 0 => trivial
  | n + 1 => ⟨trivial, RelE.nones n⟩
theorem RelE.start0 (k : Nat) : ∀ {ds : List D} {vs : List V}, Reps K H ds vs → RelE K H (vs.map some ++ List.replicate k none) (ds.map some ++ List.replicate k none)
  | [], _, h => by rw [show _ = [] from h]; exact RelE.nones k
  | d :: ds, _, ⟨x, r, e, h, hr⟩ => by rw [e]; exact ⟨⟨x, rfl, h⟩, RelE.start0 k hr⟩
theorem RelE.start {N : List Str} {ds : List D} {vs : List V} (h : Reps K H ds vs) : RelE K H (L2.start N vs) (eStart N.length ds) := by
  unfold L2.start eStart
  rw [h.length]
  exact RelE.start0 _ h
end

/-! ### abstract readings and what they mean -/
structure Xn where
  cls : Addr
  fs : List (Str × D)
abbrev PQ := D → M → Prop
abbrev PX := Xn → M → Prop
abbrev AE := En → M → PQ → PX → Prop
abbrev AT := En → M → (Bool → M → Prop) → PX → Prop
abbrev AA := En → M → (List D → M → Prop) → PX → Prop
abbrev AG := D → En → M → (En → M → Prop) → Prop
structure AEnds where
  nx : En → M → Prop
  rt : PQ
  bk : En → M → Prop := fun _ _ => False
  ct : En → M → Prop := fun _ _ => False
  xe : En → PX
abbrev AS := AEnds → En → M → Prop
abbrev ASp := List D → M → PQ → PX → Prop
abbrev AR2 := D → D → M → PQ → Prop
abbrev AR1 := D → M → PQ → Prop
abbrev ARL := List D → M → PQ → Prop

def XRep (K : PySem.W.Frag) (H : Hp) (x : Xn) (cls : Value) (dd : Option Addr) : Prop := cls = .ref x.cls ∧ match x.fs with
  | [] => dd = none
  | fs => ∃ d vs, dd = some d ∧ H d = some (.xd ((fs.map (·.1)).zip vs)) ∧ Reps K H (fs.map (·.2)) vs
structure WOk (K : PySem.W.Frag) (W : WX) (σ : L2.St) (H : Hp) (R : PX) : Prop where
  go : ∀ x m', R x m' → ∀ cls dd H', Tx H H' → XRep K H' x cls dd → RelM K H' m' → W cls dd σ H'
theorem WOk.mono {K : PySem.W.Frag} {W : WX} {σ : L2.St} {H H1 : Hp} {R : PX} (h : WOk K W σ H R) (t : Tx H H1) : WOk K W σ H1 R := ⟨fun x m' r cls dd H' t' => h.go x m' r cls dd H' (t.trans t')⟩
/-- what is wanted of a value -/
def QOk (K : PySem.W.Frag) (H : Hp) (P : PQ) (Q : VK) : Prop := ∀ d m', P d m' → ∀ v H', Tx H H' → Rep K H' d v → RelM K H' m' → Q v H'
theorem QOk.mono {K : PySem.W.Frag} {H H1 : Hp} {P : PQ} {Q : VK} (h : QOk K H P Q) (t : Tx H H1) : QOk K H1 P Q := fun d m' p v H' t' => h d m' p v H' (t.trans t')
def lE (K : PySem.W.Frag) (W : WX) (t : AE) : TE := fun σ H Q => ∃ e m P R, RelE K H σ e ∧ RelM K H m ∧ t e m P R ∧ QOk K H P Q ∧ WOk K W σ H R
def lT (K : PySem.W.Frag) (W : WX) (t : AT) : TT := fun σ H Q => ∃ e m P R, RelE K H σ e ∧ RelM K H m ∧ t e m P R ∧ (∀ b m', P b m' → ∀ H', Tx H H' → RelM K H' m' → Q b H') ∧ WOk K W σ H R
def lA (K : PySem.W.Frag) (W : WX) (t : AA) : TA := fun σ H Q => ∃ e m P R, RelE K H σ e ∧ RelM K H m ∧ t e m P R ∧ (∀ ds m', P ds m' → ∀ vs H', Tx H H' → Reps K H' ds vs → RelM K H' m' → Q vs H') ∧ WOk K W σ H R
def lG (K : PySem.W.Frag) (g : AG) : TG := fun v σ H Q => ∃ d e m P, Rep K H d v ∧ RelE K H σ e ∧ RelM K H m ∧ g d e m P ∧ ∀ e' m', P e' m' → ∀ σ' H', Tx H H' → RelE K H' σ' e' → RelM K H' m' → Q σ' H'
structure EndsOk (K : PySem.W.Frag) (W : WX) (H : Hp) (A : AEnds) (D : Ends) : Prop where
  nx : ∀ e m, A.nx e m → ∀ σ' H', Tx H H' → RelE K H' σ' e → RelM K H' m → D.nx σ' H'
  rt : QOk K H A.rt D.rt
  bk : ∀ e m, A.bk e m → ∀ σ' H', Tx H H' → RelE K H' σ' e → RelM K H' m → D.bk σ' H'
  ct : ∀ e m, A.ct e m → ∀ σ' H', Tx H H' → RelE K H' σ' e → RelM K H' m → D.ct σ' H'
  xe : ∀ e σ' H', Tx H H' → RelE K H' σ' e → WOk K W σ' H' (A.xe e)
theorem EndsOk.mono {K : PySem.W.Frag} {W : WX} {H H1 : Hp} {A : AEnds} {D : Ends} (h : EndsOk K W H A D) (t : Tx H H1) : EndsOk K W H1 A D :=
  ⟨fun e m p σ' H' t' => h.nx e m p σ' H' (t.trans t'), h.rt.mono t, fun e m p σ' H' t' => h.bk e m p σ' H' (t.trans t'), fun e m p σ' H' t' => h.ct e m p σ' H' (t.trans t'), fun e σ' H' t' => h.xe e σ' H' (t.trans t')⟩
def lS (K : PySem.W.Frag) (W : WX) (t : AS) : TS := fun D σ H => ∃ e m A, RelE K H σ e ∧ RelM K H m ∧ t A e m ∧ EndsOk K W H A D

abbrev GE (X : Cx) (W : WX) (e : Expr) (t : AE) : Prop := PE X e (lE X.K W t)
abbrev GT (X : Cx) (W : WX) (e : Expr) (t : AT) : Prop := PT X e (lT X.K W t)
abbrev GW (X : Cx) (W : WX) (e : Expr) (t : AT) : Prop := PW X e (lT X.K W t)
abbrev GA (X : Cx) (W : WX) (es : List Expr) (t : AA) : Prop := PA X es (lA X.K W t)
abbrev GS (X : Cx) (W : WX) (st : Stmt) (t : AS) : Prop := PS X st (lS X.K W t)
abbrev GSs (X : Cx) (W : WX) (st : List Stmt) (t : AS) : Prop := PSs X st (lS X.K W t)
abbrev GG (X : Cx) (tg : Expr) (g : AG) : Prop := PG X tg (lG X.K g)

theorem pe_imp {X : Cx} {e : Expr} {t u : TE} (h : PE X e t) (i : ∀ σ H Q, u σ H Q → t σ H Q) : PE X e u := ⟨fun p s σ H Q I q => h.run p s σ H Q I (i σ H Q q)⟩
theorem pt_imp {X : Cx} {e : Expr} {t u : TT} (h : PT X e t) (i : ∀ σ H Q, u σ H Q → t σ H Q) : PT X e u := ⟨fun p s σ H Q I q => h.run p s σ H Q I (i σ H Q q)⟩
theorem pw_imp {X : Cx} {e : Expr} {t u : TT} (h : PW X e t) (i : ∀ σ H Q, u σ H Q → t σ H Q) : PW X e u := ⟨fun w p s σ H Q I q => h.run w p s σ H Q I (i σ H Q q)⟩
theorem pa_imp {X : Cx} {e : List Expr} {t u : TA} (h : PA X e t) (i : ∀ σ H Q, u σ H Q → t σ H Q) : PA X e u := ⟨fun w p s σ H Q I q => h.run w p s σ H Q I (i σ H Q q)⟩
theorem ps_imp {X : Cx} {e : Stmt} {t u : TS} (h : PS X e t) (i : ∀ D σ H, u D σ H → t D σ H) : PS X e u := ⟨fun p s σ H D I q => h.run p s σ H D I (i D σ H q)⟩
theorem pss_imp {X : Cx} {e : List Stmt} {t u : TS} (h : PSs X e t) (i : ∀ D σ H, u D σ H → t D σ H) : PSs X e u := ⟨fun p s σ H D I q => h.run p s σ H D I (i D σ H q)⟩
theorem pg_imp {X : Cx} {e : Expr} {t u : TG} (h : PG X e t) (i : ∀ v σ H Q, u v σ H Q → t v σ H Q) : PG X e u := ⟨fun p s σ H v w Q I r q => h.run p s σ H v w Q I r (i v σ H Q q)⟩

section
variable {X : Cx} {W : WX}
/-! ### names, constants -/
def aVar (i : Nat) : AE := fun e m Q _ => match e.g i with
  | some d => Q d m
  | none => False
def aC (d : D) : AE := fun _ m Q _ => Q d m
theorem lvar {K : PySem.W.Frag} {i : Nat} {σ : L2.St} {H : Hp} {Q : VK} (h : lE K W (aVar i) σ H Q) : tVar i σ H Q := by
  obtain ⟨e, m, P, R, rE, rM, t, q, w⟩ := h
  have t' : (match e.g i with | some d => P d m | none => False) := t
  cases g : e.g i with
  | none => rw [g] at t'; exact t'.elim
  | some d =>
    rw [g] at t'
    obtain ⟨v, s, r⟩ := rE.get g
    exact ⟨v, s, q d m t' v H (Tx.refl H) r rM⟩
theorem gv (i : Nat) {x : Str} {pos : Pos} (hN : X.N[i]? = some x := by rfl) (hv : Vis X.env.scope x := by first | exact Or.inl rfl | exact Or.inr (Or.inl rfl) | exact Or.inr (Or.inr rfl)) (hd : (x == ("__debug__" : Str)) = false := by decide)
    (hcd : (x == ("__classdict__" : Str)) = false := by decide) : GE X W (.Name x pos) (aVar i) := pe_imp (pe_var hN hv hd hcd) fun _ _ _ h => lvar h
theorem lc {K : PySem.W.Frag} {d : D} {v : V} (r : ∀ H, Rep K H d v) {σ : L2.St} {H : Hp} {Q : VK} (h : lE K W (aC d) σ H Q) : tC v σ H Q := by
  obtain ⟨e, m, P, R, rE, rM, t, q, w⟩ := h
  exact q d m t v H (Tx.refl H) (r H) rM
theorem g_int {i j pos} : GE X W (.Constant (.int i) j pos) (aC (.int i)) := pe_imp pe_int fun _ _ _ h => lc (d := .int i) (v := .int i) (fun _ => rfl) h
theorem g_bl {b j pos} : GE X W (.Constant (.bool b) j pos) (aC (.bl b)) := pe_imp pe_bl fun _ _ _ h => lc (d := .bl b) (v := .bl b) (fun _ => rfl) h
theorem g_non {j pos} : GE X W (.Constant .none j pos) (aC .non) := pe_imp pe_non fun _ _ _ h => lc (d := .non) (v := .non) (fun _ => rfl) h
theorem g_str {x j pos} : GE X W (.Constant (.str x) j pos) (aC (.str x)) := pe_imp pe_str fun _ _ _ h => lc (d := .str x) (v := .str x) (fun _ => rfl) h
theorem g_glob {x : Str} {d : D} {v : V} {u : Value} {pos : Pos} (hg : Gl X x) (hm : X.mg x = some u) (r : RelV v u) (rd : ∀ H, Rep X.K H d v) (hd : (x == ("__debug__" : Str)) = false := by decide) : GE X W (.Name x pos) (aC d) :=
  pe_imp (pe_glob hg hm r hd) fun _ _ _ h => lc rd h
theorem g_bltn {x : Str} {n : String} {pos : Pos} (hg : Gl X x) (hm : X.mg x = none) (hv : bootBuiltins x = some (.type n)) (hn : x ≠ "__name__" := by decide) (hd : (x == ("__debug__" : Str)) = false := by decide) : GE X W (.Name x pos) (aC (.ty n)) :=
  pe_imp (pe_bltn (v := .ty n) hg hm hv rfl hn hd) fun _ _ _ h => lc (d := .ty n) (v := .ty n) (fun _ => rfl) h

/-! ### operators -/
def lR2 (K : PySem.W.Frag) (r : AR2) : R2 := fun x y H Q => ∃ d1 d2 m P, Rep K H d1 x ∧ Rep K H d2 y ∧ RelM K H m ∧ r d1 d2 m P ∧ QOk K H P Q
def lR1 (K : PySem.W.Frag) (r : AR1) : V → Hp → VK → Prop := fun x H Q => ∃ d m P, Rep K H d x ∧ RelM K H m ∧ r d m P ∧ QOk K H P Q
def lRL (K : PySem.W.Frag) (r : ARL) : List V → Hp → VK → Prop := fun xs H Q => ∃ ds m P, Reps K H ds xs ∧ RelM K H m ∧ r ds m P ∧ QOk K H P Q
def aOp (r : AR2) (ta tb : AE) : AE := fun e m Q R => ta e m (fun x m1 => tb e m1 (fun y m2 => r x y m2 Q) R) R
def aUn (r : AR1) (ta : AE) : AE := fun e m Q R => ta e m (fun x m1 => r x m1 Q) R
theorem lop {K : PySem.W.Frag} {r : AR2} {ta tb : AE} {σ : L2.St} {H : Hp} {Q : VK} (h : lE K W (aOp r ta tb) σ H Q) : tOp (lR2 K r) (lE K W ta) (lE K W tb) σ H Q := by
  obtain ⟨e, m, P, R, rE, rM, t, q, w⟩ := h
  refine ⟨e, m, _, R, rE, rM, t, fun d1 m1 h1 x H1 t1 r1 rm1 => ?_, w⟩
  refine ⟨e, m1, _, R, rE.mono t1, rm1, h1, fun d2 m2 h2 y H2 t2 r2 rm2 => ?_, w.mono t1⟩
  exact ⟨d1, d2, m2, P, r1.mono t2, r2, rm2, h2, q.mono (t1.trans t2)⟩
theorem g_op {op : Operator} {r : AR2} {a b : Expr} {ta tb : AE} {pos : Pos} (ho : OpR X (binaryOp op) (lR2 X.K r)) (ha : GE X W a ta) (hb : GE X W b tb) : GE X W (.BinOp a op b pos) (aOp r ta tb) := pe_imp (pe_op ho ha hb) fun _ _ _ h => lop h
theorem g_un {op : UnaryOp} {r : AR1} {a : Expr} {ta : AE} {pos : Pos} (ho : UnR X (unaryOp op) (lR1 X.K r)) (ha : GE X W a ta) : GE X W (.UnaryOp op a pos) (aUn r ta) := pe_imp (pe_un ho ha) fun σ H Q h => by
  obtain ⟨e, m, P, R, rE, rM, t, q, w⟩ := h
  exact ⟨e, m, _, R, rE, rM, t, fun d1 m1 h1 x H1 t1 r1 rm1 => ⟨d1, m1, P, r1, rm1, h1, q.mono t1⟩, w⟩
theorem g_cmp {op : CmpOp} {r : AR2} {a b : Expr} {ta tb : AE} {pos : Pos} (ho : OpR X (compareOp op) (lR2 X.K r)) (ha : GE X W a ta) (hb : GE X W b tb) (hm : behindInMarks op b = false) : GE X W (.Compare a [op] [b] pos) (aOp r ta tb) := pe_imp (pe_cmpR ho ha hb hm) fun _ _ _ h => lop h
/-- the result of a comparison as a test -/
def aTest (t : AE) : AT := fun e m Q R => t e m (fun d m' => match d with | .bl b => Q b m' | _ => False) R
theorem ltest {K : PySem.W.Frag} {ta : AE} {σ : L2.St} {H : Hp} {Q : Bool → Hp → Prop} (h : lT K W (aTest ta) σ H Q) : lE K W ta σ H fun x H' => ∃ k, x = .bl k ∧ Q k H' := by
  obtain ⟨e, m, P, R, rE, rM, t, q, w⟩ := h
  refine ⟨e, m, _, R, rE, rM, t, fun d m1 h1 x H1 t1 r1 rm1 => ?_, w⟩
  cases d with
  | bl b => exact ⟨b, r1, q b m1 h1 H1 t1 rm1⟩
  | _ => exact h1.elim
theorem gt_cmp {op : CmpOp} {r : AR2} {a b : Expr} {ta tb : AE} {pos : Pos} (ho : OpR X (compareOp op) (lR2 X.K r)) (ha : GE X W a ta) (hb : GE X W b tb) (hm : behindInMarks op b = false) : GT X W (.Compare a [op] [b] pos) (aTest (aOp r ta tb)) := pt_imp (pt_cmpR ho ha hb hm) fun σ H Q h => by
  obtain ⟨e, m, P, R, rE, rM, t, q, w⟩ := ltest h
  exact lop ⟨e, m, P, R, rE, rM, t, q, w⟩
/-- a < b <= c -/
def aChain (r r' : AR2) (ta tb tc : AE) : AE := fun e m Q R => ta e m (fun x m1 => tb e m1 (fun y m2 => r x y m2 fun z m3 => match z with
  | .bl k => if k = true then tc e m3 (fun u m4 => r' y u m4 Q) R else Q (.bl false) m3
  | _ => False) R) R

theorem g_chain {op op' : CmpOp} {r r' : AR2} {a b c : Expr} {ta tb tc : AE} {pos : Pos} (ho : OpR X (compareOp op) (lR2 X.K r)) (ho' : OpR X (compareOp op') (lR2 X.K r')) (ha : GE X W a ta) (hb : GE X W b tb) (hc : GE X W c tc)
    (hm : lastMarks [op, op'] [b, c] = false) : GE X W (.Compare a [op, op'] [b, c] pos) (aChain r r' ta tb tc) := pe_imp (pe_chain ho ho' ha hb hc hm) fun σ H Q h => by
  obtain ⟨e, m, P, R, rE, rM, t, q, w⟩ := h
  refine ⟨e, m, _, R, rE, rM, t, fun d1 m1 h1 x H1 t1 r1 rm1 => ?_, w⟩
  refine ⟨e, m1, _, R, rE.mono t1, rm1, h1, fun d2 m2 h2 y H2 t2 r2 rm2 => ?_, w.mono t1⟩
  refine ⟨d1, d2, m2, _, r1.mono t2, r2, rm2, h2, fun d3 m3 h3 z H3 t3 r3 rm3 => ?_⟩
  cases d3 with
  | bl k =>
    refine ⟨k, r3, ?_⟩
    cases k with
    | true =>
      have h3' : tc e m3 (fun u m4 => r' d2 u m4 P) R := by simpa using h3
      refine ⟨e, m3, _, R, rE.mono (t1.trans (t2.trans t3)), rm3, h3', fun d4 m4 h4 u H4 t4 r4 rm4 => ?_, w.mono (t1.trans (t2.trans t3))⟩
      exact ⟨d2, d4, m4, P, r2.mono (t3.trans t4), r4, rm4, h4, q.mono (t1.trans (t2.trans (t3.trans t4)))⟩
    | false =>
      have h3' : P (.bl false) m3 := by simpa using h3
      exact q (.bl false) m3 h3' (.bl false) H3 (t1.trans (t2.trans t3)) rfl rm3
  | _ => exact h3.elim
/-! ### tests -/
def aAnd (t u : AT) : AT := fun e m Q R => t e m (fun c m1 => if c = true then u e m1 Q R else Q false m1) R
def aOr (t u : AT) : AT := fun e m Q R => t e m (fun c m1 => if c = true then Q true m1 else u e m1 Q R) R
def aNot (t : AT) : AT := fun e m Q R => t e m (fun c m1 => Q (!c) m1) R
theorem gw_and1 {a : Expr} {ta : AT} {pos : Pos} (ha : GT X W a ta) : GW X W (.BoolOp .And [a] pos) ta := pw_and1 ha
theorem gw_or1 {a : Expr} {ta : AT} {pos : Pos} (ha : GT X W a ta) : GW X W (.BoolOp .Or [a] pos) ta := pw_or1 ha
theorem gw_and {a b : Expr} {rest : List Expr} {ta tb : AT} {pos : Pos} (ha : GT X W a ta) (hb : GW X W (.BoolOp .And (b :: rest) pos) tb) : GW X W (.BoolOp .And (a :: b :: rest) pos) (aAnd ta tb) := pw_imp (pw_and ha hb) fun σ H Q h => by
  obtain ⟨e, m, P, R, rE, rM, t, q, w⟩ := h
  refine ⟨e, m, _, R, rE, rM, t, fun c m1 h1 H1 t1 rm1 => ?_, w⟩
  cases c with
  | true =>
    have h1' : tb e m1 P R := by simpa using h1
    exact ⟨e, m1, P, R, rE.mono t1, rm1, h1', fun b m' p H' t' => q b m' p H' (t1.trans t'), w.mono t1⟩
  | false =>
    have h1' : P false m1 := by simpa using h1
    exact q false m1 h1' H1 t1 rm1
theorem gw_or {a b : Expr} {rest : List Expr} {ta tb : AT} {pos : Pos} (ha : GT X W a ta) (hb : GW X W (.BoolOp .Or (b :: rest) pos) tb) : GW X W (.BoolOp .Or (a :: b :: rest) pos) (aOr ta tb) := pw_imp (pw_or ha hb) fun σ H Q h => by
  obtain ⟨e, m, P, R, rE, rM, t, q, w⟩ := h
  refine ⟨e, m, _, R, rE, rM, t, fun c m1 h1 H1 t1 rm1 => ?_, w⟩
  cases c with
  | true =>
    have h1' : P true m1 := by simpa using h1
    exact q true m1 h1' H1 t1 rm1
  | false =>
    have h1' : tb e m1 P R := by simpa using h1
    exact ⟨e, m1, P, R, rE.mono t1, rm1, h1', fun b m' p H' t' => q b m' p H' (t1.trans t'), w.mono t1⟩
theorem gt_w {e : Expr} {t : AT} (h : GW X W e t) : GT X W e t := h.pt
theorem gt_not {a : Expr} {ta : AT} {pos : Pos} (ha : GT X W a ta) : GT X W (.UnaryOp .Not a pos) (aNot ta) := pt_imp (pt_not ha) fun σ H Q h => by
  obtain ⟨e, m, P, R, rE, rM, t, q, w⟩ := h
  exact ⟨e, m, _, R, rE, rM, t, fun c m1 h1 H1 t1 rm1 => q _ m1 h1 H1 t1 rm1, w⟩
/-- a value's truth -/
def aTru (t : AE) : AT := fun e m Q R => t e m (fun d m' => match d with
  | .bl b => Q b m'
  | .non => Q false m'
  | .int i => Q (i != 0) m'
  | .str x => x.length ≤ 100000 ∧ Q ((x.length : Int) != 0) m'
  | .tup ds => Q (!ds.isEmpty) m'
  | .ref a => (match m' a with
    | some (.lst ds) => Q (!ds.isEmpty) m'
    | _ => False)
  | _ => False) R
theorem Reps.emp {K : PySem.W.Frag} {H : Hp} {ds : List D} {vs : List V} (h : Reps K H ds vs) : (!vs.isEmpty) = !ds.isEmpty := by
  cases ds with
  | nil => rw [show vs = [] from h]; rfl
  | cons d r => obtain ⟨x, r', e, _⟩ := h; rw [e]; rfl
theorem g_tru {a : Expr} {ta : AE} (ha : GE X W a ta) (he : ∀ whole, isTrue a X.env whole = (do let v ← whole; standAt a.pos; holding [v] (truthy v)) := by intro _; rfl) : GT X W a (aTru ta) := pt_imp (pt_truth ha he) fun σ H Q h => by
  obtain ⟨e, m, P, R, rE, rM, t, q, w⟩ := h
  refine ⟨e, m, _, R, rE, rM, t, fun d m1 h1 x H1 t1 r1 rm1 => ?_, w⟩
  have go : ∀ k, TruV X.K x H1 k → P k m1 → ∃ k, TruV X.K x H1 k ∧ Q k H1 := fun k hk hp => ⟨k, hk, q k m1 hp H1 t1 rm1⟩
  cases d with
  | bl b => rw [show x = .bl b from r1] at go ⊢; exact go b rfl h1
  | non => rw [show x = .non from r1] at go ⊢; exact go false rfl h1
  | int i => rw [show x = .int i from r1] at go ⊢; exact go _ rfl h1
  | str z => rw [show x = .str z from r1] at go ⊢; exact go _ ⟨Nat.le_trans h1.1 (by decide), rfl⟩ h1.2
  | tup ds =>
    obtain ⟨p, xs, rfl, hs, hr⟩ := r1
    exact go _ (.inr (.inl ⟨xs, hs, rfl⟩)) (by rw [hr.emp]; exact h1)
  | ref a =>
    rw [show x = .ref a from r1] at go ⊢
    have h1' : (match m1 a with | some (.lst ds) => P (!ds.isEmpty) m1 | _ => False) := h1
    cases hm : m1 a with
    | none => rw [hm] at h1'; exact h1'.elim
    | some o =>
      rw [hm] at h1'
      cases o with
      | lst ds =>
        obtain ⟨xs, hx, hr⟩ := rm1 a _ hm
        exact go _ (.inl ⟨xs, SqL.of hx, rfl⟩) (by rw [hr.emp]; exact h1')
      | _ => exact h1'.elim
  | _ => exact h1.elim
/-! ### values of and, or, not, if -/
def aAndV (ta tb : AE) : AE := fun e m Q R => ta e m (fun x m1 => match x with
  | .bl c => if c = true then tb e m1 Q R else Q (.bl false) m1
  | _ => False) R
def aOrV (ta tb : AE) : AE := fun e m Q R => ta e m (fun x m1 => match x with
  | .bl c => if c = true then Q (.bl true) m1 else tb e m1 Q R
  | _ => False) R
def aNotV (ta : AE) : AE := fun e m Q R => ta e m (fun x m1 => match x with
  | .bl c => Q (.bl (!c)) m1
  | _ => False) R
def aIf (t : AT) (ta tb : AE) : AE := fun e m Q R => t e m (fun c m1 => if c = true then ta e m1 Q R else tb e m1 Q R) R
theorem g_one {op} {a : Expr} {t : AE} {pos : Pos} (h : GE X W a t) : GE X W (.BoolOp op [a] pos) t := pe_one h
theorem g_and {a b : Expr} {rest : List Expr} {ta tb : AE} {pos : Pos} (ha : GE X W a ta) (hb : GE X W (.BoolOp .And (b :: rest) pos) tb) : GE X W (.BoolOp .And (a :: b :: rest) pos) (aAndV ta tb) := pe_imp (pe_and ha hb) fun σ H Q h => by
  obtain ⟨e, m, P, R, rE, rM, t, q, w⟩ := h
  refine ⟨e, m, _, R, rE, rM, t, fun d m1 h1 x H1 t1 r1 rm1 => ?_, w⟩
  cases d with
  | bl c =>
    refine ⟨c, r1, ?_⟩
    cases c with
    | true => exact ⟨e, m1, P, R, rE.mono t1, rm1, by simpa using h1, q.mono t1, w.mono t1⟩
    | false => exact q (.bl false) m1 (by simpa using h1) (.bl false) H1 t1 rfl rm1
  | _ => exact h1.elim
theorem g_or {a b : Expr} {rest : List Expr} {ta tb : AE} {pos : Pos} (ha : GE X W a ta) (hb : GE X W (.BoolOp .Or (b :: rest) pos) tb) : GE X W (.BoolOp .Or (a :: b :: rest) pos) (aOrV ta tb) := pe_imp (pe_or ha hb) fun σ H Q h => by
  obtain ⟨e, m, P, R, rE, rM, t, q, w⟩ := h
  refine ⟨e, m, _, R, rE, rM, t, fun d m1 h1 x H1 t1 r1 rm1 => ?_, w⟩
  cases d with
  | bl c =>
    refine ⟨c, r1, ?_⟩
    cases c with
    | false => exact ⟨e, m1, P, R, rE.mono t1, rm1, by simpa using h1, q.mono t1, w.mono t1⟩
    | true => exact q (.bl true) m1 (by simpa using h1) (.bl true) H1 t1 rfl rm1
  | _ => exact h1.elim
theorem g_not {a : Expr} {ta : AE} {pos : Pos} (ha : GE X W a ta) : GE X W (.UnaryOp .Not a pos) (aNotV ta) := pe_imp (pe_not ha) fun σ H Q h => by
  obtain ⟨e, m, P, R, rE, rM, t, q, w⟩ := h
  refine ⟨e, m, _, R, rE, rM, t, fun d m1 h1 x H1 t1 r1 rm1 => ?_, w⟩
  cases d with
  | bl c => exact ⟨c, r1, q (.bl (!c)) m1 h1 (.bl (!c)) H1 t1 rfl rm1⟩
  | _ => exact h1.elim
theorem g_if {c a b : Expr} {tc : AT} {ta tb : AE} {pos : Pos} (hc : GT X W c tc) (ha : GE X W a ta) (hb : GE X W b tb) : GE X W (.IfExp c a b pos) (aIf tc ta tb) := pe_imp (pe_ifExp hc ha hb) fun σ H Q h => by
  obtain ⟨e, m, P, R, rE, rM, t, q, w⟩ := h
  refine ⟨e, m, _, R, rE, rM, t, fun c m1 h1 H1 t1 rm1 => ?_, w⟩
  cases c with
  | true => exact ⟨e, m1, P, R, rE.mono t1, rm1, by simpa using h1, q.mono t1, w.mono t1⟩
  | false => exact ⟨e, m1, P, R, rE.mono t1, rm1, by simpa using h1, q.mono t1, w.mono t1⟩
/-! ### arguments, displays, calls -/
def aNil : AA := fun _ m Q _ => Q [] m
def aCons (ta : AE) (tr : AA) : AA := fun e m Q R => ta e m (fun x m1 => tr e m1 (fun xs m2 => Q (x :: xs) m2) R) R
def aStar (ta : AE) (tr : AA) : AA := fun e m Q R => ta e m (fun x m1 => match x with
  | .tup ds => tr e m1 (fun xs m2 => Q (ds ++ xs) m2) R
  | .ref a => (match m1 a with
    | some (.lst ds) => tr e m1 (fun xs m2 => Q (ds ++ xs) m2) R
    | _ => False)
  | _ => False) R
theorem ga_nil : GA X W [] aNil := pa_imp pa_nil fun σ H Q h => by
  obtain ⟨e, m, P, R, rE, rM, t, q, w⟩ := h
  exact q [] m t [] H (Tx.refl H) rfl rM
theorem ga_cons {e : Expr} {es : List Expr} {te : AE} {t : AA} (ha : GE X W e te) (hr : GA X W es t) (hs : starEach (e :: es) X.env = (false, eval e X.env) :: starEach es X.env := by rfl) : GA X W (e :: es) (aCons te t) := pa_imp (pa_cons ha hr hs) fun σ H Q h => by
  obtain ⟨e, m, P, R, rE, rM, t, q, w⟩ := h
  refine ⟨e, m, _, R, rE, rM, t, fun d m1 h1 x H1 t1 r1 rm1 => ?_, w⟩
  exact ⟨e, m1, _, R, rE.mono t1, rm1, h1, fun ds m2 h2 vs H2 t2 r2 rm2 => q (d :: ds) m2 h2 (x :: vs) H2 (t1.trans t2) ⟨x, vs, rfl, r1.mono t2, r2⟩ rm2, w.mono t1⟩
theorem ga_star {e : Expr} {es : List Expr} {te : AE} {t : AA} {p : Pos} (ha : GE X W e te) (hr : GA X W es t) (hs : starEach (.Starred e p :: es) X.env = (true, eval e X.env) :: starEach es X.env := by rfl) : GA X W (.Starred e p :: es) (aStar te t) := pa_imp (StX.pa_star ha hr hs) fun σ H Q h => by
  obtain ⟨e, m, P, R, rE, rM, ht, q, w⟩ := h
  refine ⟨e, m, _, R, rE, rM, ht, fun d m1 h1 x H1 t1 r1 rm1 => ?_, w⟩
  have go : ∀ (a : Addr) (ds : List D) (xs : List V), x = .ref a → (SqT X.K H1 a xs ∨ SqL X.K H1 a xs) → Reps X.K H1 ds xs → t e m1 (fun xs m2 => P (ds ++ xs) m2) R →
      ∃ p xs, x = V.ref p ∧ (SqT X.K H1 p xs ∨ SqL X.K H1 p xs) ∧ lA X.K W t σ H1 fun ys H2 => Q (xs ++ ys) H2 := fun a ds xs ex hs hr ht =>
    ⟨a, xs, ex, hs, e, m1, _, R, rE.mono t1, rm1, ht, fun es m2 h2 vs H2 t2 r2 rm2 => q (ds ++ es) m2 h2 (xs ++ vs) H2 (t1.trans t2) (Reps.append (hr.mono t2) r2) rm2, w.mono t1⟩
  cases d with
  | tup ds =>
    obtain ⟨a, xs, ex, hs, hr⟩ := r1
    exact go a ds xs ex (.inl hs) hr h1
  | ref a =>
    have h1' : (match m1 a with | some (.lst ds) => t e m1 (fun xs m2 => P (ds ++ xs) m2) R | _ => False) := h1
    cases hm : m1 a with
    | none => rw [hm] at h1'; exact h1'.elim
    | some o =>
      rw [hm] at h1'
      cases o with
      | lst ds =>
        obtain ⟨xs, hx, hr⟩ := rm1 a _ hm
        exact go a ds xs r1 (.inr (SqL.of hx)) hr h1'
      | _ => exact h1'.elim
  | _ => exact h1.elim
def big : Nat := 100000
theorem big_line {n : Nat} (h : n ≤ big) : n ≤ sizeLine := Nat.le_trans h (by decide)
theorem big_lt {n : Nat} (h : n < big) : n < sizeLine := Nat.lt_of_lt_of_le h (by decide)
def aTup (t : AA) : AE := fun e m Q R => t e m (fun ds m1 => ds.length ≤ big ∧ Q (.tup ds) m1) R
def aLst (t : AA) : AE := fun e m Q R => t e m (fun ds m1 => ds.length ≤ big ∧ ∀ p, m1 p = none → Q (.ref p) (mset m1 p (.lst ds))) R
theorem g_tup {es : List Expr} {t : AA} {x1} {pos : Pos} (h : GA X W es t) : GE X W (.Tuple es x1 pos) (aTup t) := pe_imp (pe_tup h) fun σ H Q h => by
  obtain ⟨e, m, P, R, rE, rM, t, q, w⟩ := h
  refine ⟨e, m, _, R, rE, rM, t, fun ds m1 h1 vs H1 t1 r1 rm1 => ⟨by rw [← r1.length]; exact big_line h1.1, fun p hp => ?_⟩, w⟩
  exact q (.tup ds) m1 h1.2 (.ref p) _ (t1.trans (Tx.new hp)) ⟨p, vs, rfl, SqT.of upd_same, r1.mono (Tx.new hp)⟩ (rm1.grow hp)
theorem g_lst {es : List Expr} {t : AA} {pos : Pos} (h : GA X W es t) : GE X W (.List es pos) (aLst t) := pe_imp (pe_lst h) fun σ H Q h => by
  obtain ⟨e, m, P, R, rE, rM, t, q, w⟩ := h
  refine ⟨e, m, _, R, rE, rM, t, fun ds m1 h1 vs H1 t1 r1 rm1 => ⟨by rw [← r1.length]; exact big_line h1.1, fun p hp => ?_⟩, w⟩
  exact q (.ref p) _ (h1.2 p (rm1.free hp)) (.ref p) _ (t1.trans (Tx.new hp)) rfl (rm1.newL hp r1)
/-- what a def promises -/
structure EOk (K : PySem.W.Frag) (H : Hp) (R : PX) (E : XK) : Prop where
  go : ∀ x m', R x m' → ∀ cls dd H', Tx H H' → XRep K H' x cls dd → RelM K H' m' → E cls dd H'
def lSp (K : PySem.W.Frag) (n : Nat) (sp : ASp) : Sp := fun vs H Q E => ∃ ds m P R, ds.length = n ∧ Reps K H ds vs ∧ RelM K H m ∧ sp ds m P R ∧ QOk K H P Q ∧ EOk K H R E
def aCall (n : Nat) (sp : ASp) (t : AA) : AE := fun e m Q R => t e m (fun ds m1 => ds.length = n ∧ sp ds m1 Q R) R
section
variable {k n : Nat} {f : Addr} {fd : FuncData} {ps : List Str} {sp : ASp} {x : Str} {p pos : Pos} {e : Expr} {es : List Expr} {t : AA}
theorem g_call (F : FnOk X.prog X.w X.K X.mg X.base (L2.CX X.prog X.w) k f fd ps (lSp X.K n sp)) (tk : Takes X W) (hr : Room k X.A) (hm : X.mg x = some (.ref f)) (hk : PySem.W.keepIn X.K (.ref f) = true) (hb : Binds X.K fd ps []) (ha : GA X W (e :: es) t) (hg : Gl X x := by rfl)
    (hdb : (x == ("__debug__" : Str)) = false := by decide) (he : starEach (e :: es) X.env = (false, eval e X.env) :: starEach es X.env := by rfl) (hpl : (backTo pos (starEach es X.env)).any (·.1) = false := by rfl) :
    GE X W (.Call (.Name x p) (e :: es) [] pos) (aCall n sp t) := pe_imp (pe_callS F hr hg hm hk hb (fun σ => passAt tk σ) ha hdb he hpl) fun σ H Q h => by
  obtain ⟨en, m, P, R, rE, rM, t, q, w⟩ := h
  refine ⟨en, m, _, R, rE, rM, t, fun ds m1 h1 vs H1 t1 r1 rm1 => ?_, w⟩
  exact ⟨ds, m1, P, R, h1.1, r1, rm1, h1.2, q.mono t1, ⟨fun x m' r cls dd H' t' => (w.mono t1).go x m' r cls dd H' t'⟩⟩
end
def aCB (r : ARL) (t : AA) : AE := fun e m Q R => t e m (fun ds m1 => r ds m1 Q) R
theorem lcb {K : PySem.W.Frag} {r : ARL} {t : AA} {σ : L2.St} {H : Hp} {Q : VK} (h : lE K W (aCB r t) σ H Q) : tCB (lRL K r) (lA K W t) σ H Q := by
  obtain ⟨e, m, P, R, rE, rM, t, q, w⟩ := h
  exact ⟨e, m, _, R, rE, rM, t, fun ds m1 h1 vs H1 t1 r1 rm1 => ⟨ds, m1, P, r1, rm1, h1, q.mono t1⟩, w⟩
theorem g_cb {r : ARL} {id : String} {x : Str} {e : Expr} {es : List Expr} {t : AA} {p pos : Pos} (hc : CallR X (.builtin id) (lRL X.K r)) (hm : X.mg x = none) (hv : bootBuiltins x = some (.builtin id)) (ha : GA X W (e :: es) t) (hg : Gl X x := by rfl) (hn : x ≠ "__name__" := by decide) (hdb : (x == ("__debug__" : Str)) = false := by decide)
    (he : starEach (e :: es) X.env = (false, eval e X.env) :: starEach es X.env := by rfl) (hpl : (backTo pos (starEach es X.env)).any (·.1) = false := by rfl) : GE X W (.Call (.Name x p) (e :: es) [] pos) (aCB r t) := pe_imp (pe_callB hc hg hm hv ha hn hdb he hpl) fun _ _ _ h => lcb h
theorem g_ct {r : ARL} {T : String} {x : Str} {e : Expr} {es : List Expr} {t : AA} {p pos : Pos} (hc : CallR X (.type T) (lRL X.K r)) (hm : X.mg x = none) (hv : bootBuiltins x = some (.type T)) (ha : GA X W (e :: es) t) (hg : Gl X x := by rfl) (hn : x ≠ "__name__" := by decide) (hdb : (x == ("__debug__" : Str)) = false := by decide)
    (he : starEach (e :: es) X.env = (false, eval e X.env) :: starEach es X.env := by rfl) (hpl : (backTo pos (starEach es X.env)).any (·.1) = false := by rfl) : GE X W (.Call (.Name x p) (e :: es) [] pos) (aCB r t) := pe_imp (pe_callTy hc hg hm hv ha hn hdb he hpl) fun _ _ _ h => lcb h
/-! ### subscripts -/
theorem g_ix {r : AR2} {a b : Expr} {ta tb : AE} {pos : Pos} (hr : IxR X (lR2 X.K r)) (ha : GE X W a ta) (hb : GE X W b tb) (hs : PlainIx b := by exact fun _ _ => rfl) : GE X W (.Subscript a b pos) (aOp r ta tb) := pe_imp (pe_ix hr ha hb hs) fun _ _ _ h => lop h
abbrev APt := En → M → (Option Int → M → Prop) → PX → Prop
def lPt (K : PySem.W.Frag) (W : WX) (t : APt) : TO := fun σ H Q => ∃ e m P R, RelE K H σ e ∧ RelM K H m ∧ t e m P R ∧ (∀ o m', P o m' → ∀ H', Tx H H' → RelM K H' m' → Q o H') ∧ WOk K W σ H R
abbrev GP (X : Cx) (W : WX) (e : Option Expr) (t : APt) : Prop := PO X e (lPt X.K W t)
def aNoP : APt := fun _ m Q _ => Q none m
def aPt (t : AE) : APt := fun e m Q R => t e m (fun d m1 => match d with
  | .int i => Q (some i) m1
  | _ => False) R
theorem po_imp {e : Option Expr} {t u : TO} (h : PO X e t) (i : ∀ σ H Q, u σ H Q → t σ H Q) : PO X e u := ⟨fun p s σ H Q I q => h.run p s σ H Q I (i σ H Q q)⟩
theorem gp_none : GP X W none aNoP := po_imp po_none fun σ H Q h => by
  obtain ⟨e, m, P, R, rE, rM, t, q, w⟩ := h
  exact q none m t H (Tx.refl H) rM
theorem gp_some {e : Expr} {te : AE} (h : GE X W e te) : GP X W (some e) (aPt te) := po_imp (po_some h) fun σ H Q h => by
  obtain ⟨e, m, P, R, rE, rM, t, q, w⟩ := h
  refine ⟨e, m, _, R, rE, rM, t, fun d m1 h1 x H1 t1 r1 rm1 => ?_, w⟩
  cases d with
  | int i => exact ⟨i, r1, q (some i) m1 h1 H1 t1 rm1⟩
  | _ => exact h1.elim
abbrev ARS := D → Option Int → Option Int → M → PQ → Prop
def lRS (K : PySem.W.Frag) (r : ARS) : V → Option Int → Option Int → Hp → VK → Prop := fun x lo hi H Q => ∃ d m P, Rep K H d x ∧ RelM K H m ∧ r d lo hi m P ∧ QOk K H P Q
def aSl (r : ARS) (te : AE) (tl th : APt) : AE := fun e m Q R => te e m (fun d m1 => tl e m1 (fun l m2 => th e m2 (fun u m3 => r d l u m3 Q) R) R) R
theorem g_slice {r : ARS} {e : Expr} {lo hi : Option Expr} {te : AE} {tl th : APt} {p2 pos : Pos} (hr : SlR X (lRS X.K r)) (he : GE X W e te) (hl : GP X W lo tl) (hu : GP X W hi th) : GE X W (.Subscript e (.Slice lo hi none p2) pos) (aSl r te tl th) := pe_imp (pe_slice hr he hl hu) fun σ H Q h => by
  obtain ⟨e, m, P, R, rE, rM, t, q, w⟩ := h
  refine ⟨e, m, _, R, rE, rM, t, fun d m1 h1 x H1 t1 r1 rm1 => ?_, w⟩
  refine ⟨e, m1, _, R, rE.mono t1, rm1, h1, fun l m2 h2 H2 t2 rm2 => ?_, w.mono t1⟩
  refine ⟨e, m2, _, R, rE.mono (t1.trans t2), rm2, h2, fun u m3 h3 H3 t3 rm3 => ?_, w.mono (t1.trans t2)⟩
  exact ⟨d, m3, P, r1.mono (t2.trans t3), rm3, h3, q.mono (t1.trans (t2.trans t3))⟩
end
end Ab

set_option Elab.async false
set_option linter.all false
set_option maxRecDepth 100000
set_option maxHeartbeats 2000000
namespace Ab
open PySem PySem.Spec PyProof.Rows L2
section
variable {X : Cx} {W : WX}
/-! ### statements -/
def aNext : AS := fun A e m => A.nx e m
def aSeq (t u : AS) : AS := fun A e m => t { A with nx := u A } e m
theorem gs_nil : GSs X W [] aNext := pss_imp pss_nil fun D σ H h => by
  obtain ⟨e, m, A, rE, rM, t, ok⟩ := h
  exact ok.nx e m t σ H (Tx.refl H) rE rM
theorem gs_cons {st : Stmt} {rest : List Stmt} {t u : AS} (h1 : GS X W st t) (h2 : GSs X W rest u) : GSs X W (st :: rest) (aSeq t u) := pss_imp (pss_cons h1 h2) fun D σ H h => by
  obtain ⟨e, m, A, rE, rM, t, ok⟩ := h
  refine ⟨e, m, { A with nx := u A }, rE, rM, t, ⟨fun e' m' h' σ' H' t' rE' rM' => ⟨e', m', A, rE', rM', h', ok.mono t'⟩, ok.rt, ok.bk, ok.ct, ok.xe⟩⟩
theorem gs_one {st : Stmt} {t : AS} (h1 : GS X W st t) : GSs X W [st] t := pss_one h1
def aNever : AS := fun _ _ _ => False
theorem s_never {st : Stmt} : GS X W st aNever := ps_imp ps_never fun D σ H h => by
  obtain ⟨e, m, A, rE, rM, t, ok⟩ := h
  exact t
theorem gs_never {st : List Stmt} : GSs X W st aNever := pss_imp pss_never fun D σ H h => by
  obtain ⟨e, m, A, rE, rM, t, ok⟩ := h
  exact t
theorem s_pass {pos : Pos} : GS X W (.Pass pos) aNext := ps_imp ps_pass fun D σ H h => by
  obtain ⟨e, m, A, rE, rM, t, ok⟩ := h
  exact ok.nx e m t σ H (Tx.refl H) rE rM
def aBrk : AS := fun A e m => A.bk e m
def aCnt : AS := fun A e m => A.ct e m
theorem s_break {pos : Pos} : GS X W (.Break pos) aBrk := ps_imp ps_break fun D σ H h => by
  obtain ⟨e, m, A, rE, rM, t, ok⟩ := h
  exact ok.bk e m t σ H (Tx.refl H) rE rM
theorem s_continue {pos : Pos} : GS X W (.Continue pos) aCnt := ps_imp ps_continue fun D σ H h => by
  obtain ⟨e, m, A, rE, rM, t, ok⟩ := h
  exact ok.ct e m t σ H (Tx.refl H) rE rM
def aDrop (te : AE) : AS := fun A e m => te e m (fun _ m1 => A.nx e m1) (A.xe e)
theorem s_expr {e : Expr} {te : AE} {pos : Pos} (he : GE X W e te) (hs : swapsWith e none pos.line X.env = pure false := by rfl) : GS X W (.Expr e pos) (aDrop te) := ps_imp (ps_expr he hs) fun D σ H h => by
  obtain ⟨e, m, A, rE, rM, t, ok⟩ := h
  exact ⟨e, m, _, _, rE, rM, t, fun d m1 h1 v H1 t1 r1 rm1 => ok.nx e m1 h1 σ H1 t1 (rE.mono t1) rm1, ok.xe e σ H (Tx.refl H) rE⟩
def aRet (te : AE) : AS := fun A e m => te e m A.rt (A.xe e)
theorem s_ret {e : Expr} {te : AE} {pos : Pos} (he : GE X W e te) : GS X W (.Return (some e) pos) (aRet te) := ps_imp (ps_ret he) fun D σ H h => by
  obtain ⟨e, m, A, rE, rM, t, ok⟩ := h
  exact ⟨e, m, _, _, rE, rM, t, ok.rt, ok.xe e σ H (Tx.refl H) rE⟩
def aRetN : AS := fun A _ m => A.rt .non m
theorem s_retN {pos : Pos} : GS X W (.Return none pos) aRetN := ps_imp ps_retN fun D σ H h => by
  obtain ⟨e, m, A, rE, rM, t, ok⟩ := h
  exact ok.rt .non m t .non H (Tx.refl H) rfl rM
def aIfS (c : AT) (t u : AS) : AS := fun A e m => c e m (fun b m1 => if b = true then t A e m1 else u A e m1) (A.xe e)
theorem s_if {c : Expr} {a b : List Stmt} {tc : AT} {t u : AS} {pos : Pos} (hc : GT X W c tc) (ha : GSs X W a t) (hb : GSs X W b u) : GS X W (.If c a b pos) (aIfS tc t u) := ps_imp (ps_if hc ha hb) fun D σ H h => by
  obtain ⟨e, m, A, rE, rM, t, ok⟩ := h
  refine ⟨e, m, _, _, rE, rM, t, fun b m1 h1 H1 t1 rm1 => ?_, ok.xe e σ H (Tx.refl H) rE⟩
  cases b with
  | true => exact ⟨e, m1, A, rE.mono t1, rm1, by simpa using h1, ok.mono t1⟩
  | false => exact ⟨e, m1, A, rE.mono t1, rm1, by simpa using h1, ok.mono t1⟩
/-! ### targets -/
def aN (i : Nat) : AG := fun d e m Q => Q (e.s i d) m
theorem t_name {i : Nat} {x : Str} {pos : Pos} (hN : X.N.Nodup) (hi : X.N[i]? = some x := by rfl) (hx : Loc X.env.scope x := by first | exact .inl rfl | exact .inr rfl) (hf : X.fn x = true ∨ X.env.scope.names.lookup x = some .local := by first | exact .inl rfl | exact .inr rfl) : GG X (.Name x pos) (aN i) := pg_imp (pg_name hN hi hx hf) fun v σ H Q h => by
  obtain ⟨d, e, m, P, r, rE, rM, t, q⟩ := h
  exact q _ m t _ H (Tx.refl H) (rE.set i r) rM
abbrev AGs := List D → En → M → (En → M → Prop) → Prop
def lGs (K : PySem.W.Frag) (g : AGs) : TGs := fun vs σ H Q => ∃ ds e m P, Reps K H ds vs ∧ RelE K H σ e ∧ RelM K H m ∧ g ds e m P ∧ ∀ e' m', P e' m' → ∀ σ' H', Tx H H' → RelE K H' σ' e' → RelM K H' m' → Q σ' H'
abbrev GGs (X : Cx) (tg : List Expr) (g : AGs) : Prop := PGs X tg (lGs X.K g)
theorem pgs_imp {X : Cx} {e : List Expr} {t u : TGs} (h : PGs X e t) (i : ∀ v σ H Q, u v σ H Q → t v σ H Q) : PGs X e u := ⟨fun p s σ H v w Q I r q => h.run p s σ H v w Q I r (i v σ H Q q)⟩
def aGNil : AGs := fun ds e m Q => match ds with
  | [] => Q e m
  | _ => False
def aGCons (g : AG) (u : AGs) : AGs := fun ds e m Q => match ds with
  | d :: r => g d e m fun e1 m1 => u r e1 m1 Q
  | [] => False
theorem ts_nil : GGs X [] aGNil := pgs_imp pgs_nil fun vs σ H Q h => by
  obtain ⟨ds, e, m, P, r, rE, rM, t, q⟩ := h
  cases ds with
  | nil => exact ⟨r, q e m t σ H (Tx.refl H) rE rM⟩
  | cons d r => exact t.elim
theorem ts_cons {e : Expr} {es : List Expr} {t : AG} {u : AGs} (h1 : GG X e t) (h2 : GGs X es u)
    (hs : (assignEach (e :: es) X.env).map (·.2) = assign e X.env :: (assignEach es X.env).map (·.2) := by rfl) : GGs X (e :: es) (aGCons t u) := pgs_imp (pgs_cons h1 h2 hs) fun vs σ H Q h => by
  obtain ⟨ds, e, m, P, r, rE, rM, t, q⟩ := h
  cases ds with
  | nil => exact t.elim
  | cons d ds =>
    obtain ⟨x, xs, e1, rd, rr⟩ := r
    refine ⟨x, xs, e1, d, e, m, _, rd, rE, rM, t, fun e' m' h' σ' H' t' rE' rM' => ?_⟩
    exact ⟨ds, e', m', P, rr.mono t', rE', rM', h', fun e2 m2 h2 σ2 H2 t2 => q e2 m2 h2 σ2 H2 (t'.trans t2)⟩
def aTT (n : Nat) (t : AGs) : AG := fun d e m Q => match d with
  | .tup ds => ds.length = n ∧ t ds e m Q
  | _ => False
theorem t_tup {es : List Expr} {k : Nat} {t : AGs} {n : Nat} {pos : Pos} (hc : X.calm = true) (h : GGs X es t)
    (hn : (assignEach es X.env).length = n := by rfl) (hst : (assignEach es X.env).findIdx? (·.1) = none := by rfl) : GG X (.Tuple es k pos) (aTT n t) := pg_imp (pg_tup hc h hn hst) fun v σ H Q h => by
  obtain ⟨d, e, m, P, r, rE, rM, t, q⟩ := h
  cases d with
  | tup ds =>
    obtain ⟨a, xs, ex, hs, hr⟩ := r
    exact ⟨a, xs, ex, hs, by rw [← hr.length]; exact t.1, ds, e, m, P, hr, rE, rM, t.2, q⟩
  | _ => exact t.elim
def aAsg (te : AE) (g : AG) : AS := fun A e m => te e m (fun d m1 => g d e m1 A.nx) (A.xe e)
theorem lasg {K : PySem.W.Frag} {te : AE} {g : AG} {D : Ends} {σ : L2.St} {H : Hp} (h : lS K W (aAsg te g) D σ H) : tAsg (lE K W te) (lG K g) D σ H := by
  obtain ⟨e, m, A, rE, rM, t, ok⟩ := h
  refine ⟨e, m, _, _, rE, rM, t, fun d m1 h1 v H1 t1 r1 rm1 => ?_, ok.xe e σ H (Tx.refl H) rE⟩
  exact ⟨d, e, m1, _, r1, rE.mono t1, rm1, h1, fun e' m' h' σ' H' t' rE' rM' => ok.nx e' m' h' σ' H' (t1.trans t') rE' rM'⟩
theorem s_asg {tg e : Expr} {te : AE} {g : AG} {pos : Pos} (he : GE X W e te) (hg : GG X tg g) (hs : swapsWithSole [tg] e pos.line X.env = pure false := by rfl) (hw : swappedStores [tg] e X.env = pure none := by rfl)
    (h1 : (assignEach [tg] X.env).map (·.2) = [assign tg X.env] := by rfl) : GS X W (.Assign [tg] e pos) (aAsg te g) := ps_imp (ps_asg he hg hs hw h1) fun _ _ _ h => lasg h
theorem s_set {i : Nat} {x : Str} {e : Expr} {te : AE} {pos pos' : Pos} (hN : X.N.Nodup) (he : GE X W e te) (hi : X.N[i]? = some x := by rfl) (hx : Loc X.env.scope x := by first | exact .inl rfl | exact .inr rfl) (hs : swapsWith e (some (.Name x pos')) pos.line X.env = pure false := by rfl) (hf : X.fn x = true ∨ X.env.scope.names.lookup x = some .local := by first | exact .inl rfl | exact .inr rfl) :
    GS X W (.Assign [.Name x pos'] e pos) (aAsg te (aN i)) := ps_imp (ps_set hN hi hx he hs hf) fun D σ H h => by
  obtain ⟨e, m, A, rE, rM, t, ok⟩ := h
  refine ⟨e, m, _, _, rE, rM, t, fun d m1 h1 v H1 t1 r1 rm1 => ?_, ok.xe e σ H (Tx.refl H) rE⟩
  exact ok.nx _ m1 h1 _ H1 t1 ((rE.mono t1).set i r1) rm1
/-- a, b = x, y with plain local names -/
def aPar (i j : Nat) (ta : AA) : AS := fun A e m => ta e m (fun ds m1 => match ds with
  | [d, d'] => A.nx ((e.s i d).s j d') m1
  | _ => False) (A.xe e)
theorem s_par {i j : Nat} {x y : Str} {a b : Expr} {ta : AA} {px py pt pos : Pos} {kt k2 pt2} (hc : X.calm = true) (hN : X.N.Nodup) (ha : GA X W [a, b] ta) (hi : X.N[i]? = some x := by rfl) (hj : X.N[j]? = some y := by rfl) (hij : i ≠ j := by decide)
    (hx : X.env.scope.names.lookup x = some .local := by rfl) (hy : X.env.scope.names.lookup y = some .local := by rfl)
    (hw : swappedStores [.Tuple [.Name x px, .Name y py] kt pt] (.Tuple [a, b] k2 pt2) X.env = pure (some [x, y]) := by rfl)
    (hs : swapsWithSole [.Tuple [.Name x px, .Name y py] kt pt] (.Tuple [a, b] k2 pt2) pos.line X.env = pure false := by rfl) :
    GS X W (.Assign [.Tuple [.Name x px, .Name y py] kt pt] (.Tuple [a, b] k2 pt2) pos) (aPar i j ta) := ps_imp (ps_par hc hN hi hj hij hx hy ha hw hs) fun D σ H h => by
  obtain ⟨e, m, A, rE, rM, t, ok⟩ := h
  refine ⟨e, m, _, _, rE, rM, t, fun ds m1 h1 vs H1 t1 r1 rm1 => ?_, ok.xe e σ H (Tx.refl H) rE⟩
  match ds, h1, r1 with
  | [d, d'], h1, r1 =>
    obtain ⟨v, r, e1, rv, w, r', e2, rw', e3⟩ := r1
    subst e1 e2
    obtain rfl : r' = [] := e3
    exact ⟨v, w, rfl, ok.nx _ m1 h1 _ H1 t1 (((rE.mono t1).set i rv).set j rw') rm1⟩
/-! ### while -/
def whileN (c : AT) (b : AS) : Nat → AEnds → En → M → Prop
  | 0, _, _, _ => False
  | n + 1, A, e, m => c e m (fun t m1 => if t = true then b { A with nx := whileN c b n A, ct := whileN c b n A, bk := A.nx } e m1 else A.nx e m1) (A.xe e)
def aWhile (c : AT) (b : AS) : AS := fun A e m => ∃ n, whileN c b n A e m
theorem s_while {c : Expr} {body : List Stmt} {tc : AT} {tb : AS} {pos : Pos} (hp : PassesOwn (model X.prog X.w) X.A X.env X.xe) (hc : GT X W c tc) (hb : GSs X W body tb) : GS X W (.While c body [] pos) (aWhile tc tb) := ps_imp (ps_while hp hc hb) fun D σ H h => by
  obtain ⟨e, m, A, rE, rM, ⟨n, t⟩, ok⟩ := h
  refine ⟨fun k σ1 H1 => ∃ e1 m1, Tx H H1 ∧ RelE X.K H1 σ1 e1 ∧ RelM X.K H1 m1 ∧ whileN tc tb k A e1 m1, ⟨n, e, m, Tx.refl H, rE, rM, t⟩, ?_⟩
  rintro k σ1 H1 ⟨e1, m1, t1, rE1, rM1, w1⟩
  cases k with
  | zero => exact w1.elim
  | succ k =>
    refine ⟨e1, m1, _, _, rE1, rM1, w1, fun b m2 h2 H2 t2 rm2 => ?_, ok.xe e1 σ1 H1 t1 rE1⟩
    cases b with
    | true =>
      rw [if_pos rfl]
      refine ⟨fun σ3 H3 => ∃ e3 m3, Tx H H3 ∧ RelE X.K H3 σ3 e3 ∧ RelM X.K H3 m3 ∧ whileN tc tb k A e3 m3, fun σ3 H3 h3 => ⟨k, Nat.lt_succ_self k, h3⟩, e1, m2, { A with nx := whileN tc tb k A, ct := whileN tc tb k A, bk := A.nx }, rE1.mono t2, rm2, by simpa using h2, ?_⟩
      have o2 := ok.mono (t1.trans t2)
      exact ⟨fun e3 m3 h3 σ3 H3 t3 rE3 rM3 => ⟨e3, m3, (t1.trans t2).trans t3, rE3, rM3, h3⟩, o2.rt, o2.nx, fun e3 m3 h3 σ3 H3 t3 rE3 rM3 => ⟨e3, m3, (t1.trans t2).trans t3, rE3, rM3, h3⟩, o2.xe⟩
    | false =>
      rw [if_neg Bool.false_ne_true]
      exact ok.nx e1 m2 (by simpa using h2) σ1 H2 (t1.trans t2) (rE1.mono t2) rm2
/-! ### what is walked -/
/-- items, and what must hold of the store at each turn -/
abbrev AI := En → M → (List D → (M → Prop) → M → Prop) → PX → Prop
/-- what a walk gives, as data -/
structure ItR (K : PySem.W.Frag) (H : Hp) (J : It) (its : List D) (gd : M → Prop) : Prop where
  go : ∀ i H2 m2, Tx H H2 → RelM K H2 m2 → gd m2 → i < its.length → J.go i H2
  yld : ∀ i d H2 m2 x H3, Tx H H2 → RelM K H2 m2 → gd m2 → its[i]? = some d → J.yld i H2 x H3 → Tx H2 H3 ∧ Rep K H3 d x ∧ ∀ m3, RelM K H2 m3 → RelM K H3 m3
  stop : ∀ H2 m2, Tx H H2 → RelM K H2 m2 → gd m2 → J.stop its.length H2
def lI (K : PySem.W.Frag) (W : WX) (t : AI) : TI := fun σ H R => ∃ e m P E, RelE K H σ e ∧ RelM K H m ∧ t e m P E ∧ (∀ its gd m', P its gd m' → ∀ J H', Tx H H' → RelM K H' m' → ItR K H' J its gd → R J H') ∧ WOk K W σ H E
abbrev GI' (X : Cx) (W : WX) (tg iter : Expr) (t : AI) : Prop := PI X tg iter (lI X.K W t)
theorem pi_imp {X : Cx} {tg e : Expr} {t u : TI} (h : PI X tg e t) (i : ∀ σ H Q, u σ H Q → t σ H Q) : PI X tg e u := ⟨fun p s σ H Q I q => h.run p s σ H Q I (i σ H Q q)⟩
/-- over a tuple (or a list that nobody changes) -/
def aITup (te : AE) : AI := fun e m Q R => te e m (fun d m1 => match d with
  | .tup ds => Q ds (fun _ => True) m1
  | _ => False) R
theorem i_tup {tg e : Expr} {te : AE} (he : GE X W e te) : GI' X W tg e (aITup te) := pi_imp (pi_tup he) fun σ H Q h => by
  obtain ⟨e, m, P, R, rE, rM, t, q, w⟩ := h
  refine ⟨e, m, _, R, rE, rM, t, fun d m1 h1 x H1 t1 r1 rm1 => ?_, w⟩
  cases d with
  | tup ds =>
    obtain ⟨a, xs, rfl, hs, hr⟩ := r1
    refine ⟨a, rfl, ⟨xs, hs⟩, q ds _ m1 h1 _ H1 t1 rm1 ⟨fun i H2 m2 t2 _ _ hi => ?_, fun i d H2 m2 x H3 t2 rm2 _ hd y => ?_, fun H2 m2 t2 _ _ => ?_⟩⟩
    · have hi' : i < xs.length := by rw [← hr.length]; exact hi
      exact ⟨xs, xs[i], sqT_tx t2 hs, by simp [hi']⟩
    · obtain ⟨e3, hx⟩ := y
      subst e3
      refine ⟨Tx.refl _, ?_, fun _ z => z⟩
      obtain ⟨v, hv, rv⟩ := hr.get hd
      have := hx xs (sqT_tx t2 hs)
      rw [hv] at this
      cases this
      exact rv.mono t2
    · exact ⟨xs, sqT_tx t2 hs, by rw [← hr.length]; exact Nat.le_refl _⟩
  | _ => exact h1.elim
/-- over a list: it stays as it is while it is walked -/
def aILst (te : AE) : AI := fun e m Q R => te e m (fun d m1 => match d with
  | .fls ds => Q ds (fun _ => True) m1
  | .ref a => (match m1 a with
    | some (.lst ds) => Q ds (fun m2 => m2 a = some (.lst ds)) m1
    | _ => False)
  | _ => False) R
theorem i_lst {tg e : Expr} {te : AE} (he : GE X W e te) : GI' X W tg e (aILst te) := pi_imp (pi_list he) fun σ H Q h => by
  obtain ⟨e, m, P, R, rE, rM, t, q, w⟩ := h
  refine ⟨e, m, _, R, rE, rM, t, fun d m1 h1 x H1 t1 r1 rm1 => ?_, w⟩
  cases d with
  | fls ds =>
    obtain ⟨a, xs, rfl, hs, hr⟩ := r1
    refine ⟨a, rfl, ⟨xs, hs.sq⟩, q ds _ m1 h1 _ H1 t1 rm1 ⟨fun i H2 m2 t2 _ _ hi => ?_, fun i d H2 m2 x H3 t2 rm2 _ hd y => ?_, fun H2 m2 t2 _ _ => ?_⟩⟩
    · have hi' : i < xs.length := by rw [← hr.length]; exact hi
      exact ⟨xs, xs[i], (FrL.tx t2 hs).sq, by simp [hi']⟩
    · obtain ⟨e3, hx⟩ := y
      subst e3
      refine ⟨Tx.refl _, ?_, fun _ z => z⟩
      obtain ⟨v, hv, rv⟩ := hr.get hd
      have := hx xs (FrL.tx t2 hs).sq
      rw [hv] at this
      cases this
      exact rv.mono t2
    · exact ⟨xs, (FrL.tx t2 hs).sq, by rw [← hr.length]; exact Nat.le_refl _⟩
  | ref a =>
    have h1' : (match m1 a with | some (.lst ds) => P ds (fun m2 => m2 a = some (.lst ds)) m1 | _ => False) := h1
    cases hm : m1 a with
    | none => rw [hm] at h1'; exact h1'.elim
    | some o =>
      rw [hm] at h1'
      cases o with
      | lst ds =>
        obtain ⟨xs, hx, hr⟩ := rm1 a _ hm
        refine ⟨a, r1, ⟨xs, SqL.of hx⟩, q ds _ m1 h1' _ H1 t1 rm1 ⟨fun i H2 m2 t2 rm2 g2 hi => ?_, fun i d H2 m2 x H3 t2 rm2 g2 hd y => ?_, fun H2 m2 t2 rm2 g2 => ?_⟩⟩
        · obtain ⟨ys, hy, hr2⟩ := rm2 a _ g2
          have hi' : i < ys.length := by rw [← hr2.length]; exact hi
          exact ⟨ys, ys[i], SqL.of hy, by simp [hi']⟩
        · obtain ⟨ys, hy, hr2⟩ := rm2 a _ g2
          obtain ⟨e3, hx3⟩ := y
          subst e3
          refine ⟨Tx.refl _, ?_, fun _ z => z⟩
          obtain ⟨v, hv, rv⟩ := hr2.get hd
          have := hx3 ys (SqL.of hy)
          rw [hv] at this
          cases this
          exact rv
        · obtain ⟨ys, hy, hr2⟩ := rm2 a _ g2
          exact ⟨ys, SqL.of hy, by rw [← hr2.length]; exact Nat.le_refl _⟩
      | _ => exact h1'.elim
  | _ => exact h1.elim
/-- range -/
def rngD (lo : Int) (n : Nat) : List D := (List.range n).map fun i => .int (lo + (i : Nat))
theorem itr_ok {K : PySem.W.Frag} {H : Hp} {lo : Int} {n : Nat} : ItR K H (Itr lo n) (rngD lo n) fun _ => True := by
  refine ⟨fun i H2 m2 _ _ _ hi => ?_, fun i d H2 m2 x H3 t2 rm2 _ hd y => ?_, fun H2 m2 _ _ _ => ?_⟩
  · show i < n
    simpa [rngD] using hi
  · obtain ⟨e3, ex⟩ := y
    subst e3
    refine ⟨Tx.refl _, ?_, fun _ z => z⟩
    unfold rngD at hd
    rw [List.getElem?_map] at hd
    cases q : (List.range n)[i]? with
    | none => rw [q] at hd; cases hd
    | some j =>
      rw [q] at hd
      have hj : j = i := by
        obtain ⟨h1, h2⟩ := List.getElem?_eq_some_iff.mp q
        rw [List.getElem_range] at h2
        exact h2.symm
      subst hj
      cases hd
      exact ex
  · show n ≤ (rngD lo n).length
    simp [rngD]
def aIR1 (ta : AA) : AI := fun e m Q R => ta e m (fun ds m1 => match ds with
  | [.int j] => (-(2 ^ 62) ≤ j ∧ j < 2 ^ 62) ∧ Q (rngD 0 j.toNat) (fun _ => True) m1
  | _ => False) R
def aIR2 (ta : AA) : AI := fun e m Q R => ta e m (fun ds m1 => match ds with
  | [.int i, .int j] => (-(2 ^ 62) ≤ i ∧ i < 2 ^ 62 ∧ -(2 ^ 62) ≤ j ∧ j < 2 ^ 62) ∧ Q (rngD i (j - i).toNat) (fun _ => True) m1
  | _ => False) R
theorem i_r1 {tg a : Expr} {ta : AA} {p pos : Pos} (hm : X.mg "range" = none) (ha : GA X W [a] ta) (hg : Gl X "range" := by rfl) (hs : starEach [a] X.env = [(false, eval a X.env)] := by rfl) : GI' X W tg (.Call (.Name "range" p) [a] [] pos) (aIR1 ta) := pi_imp (pi_range1 hg hm ha hs) fun σ H Q h => by
  obtain ⟨e, m, P, R, rE, rM, t, q, w⟩ := h
  refine ⟨e, m, _, R, rE, rM, t, fun ds m1 h1 vs H1 t1 r1 rm1 => ?_, w⟩
  match ds, h1, r1 with
  | [.int j], h1, r1 =>
    obtain ⟨v, r, e1, rv, e2⟩ := r1
    obtain rfl : r = [] := e2
    obtain rfl : v = .int j := rv
    exact ⟨j, e1, h1.1.1, h1.1.2, q _ _ m1 h1.2 _ H1 t1 rm1 itr_ok⟩
theorem i_r2 {tg a b : Expr} {ta : AA} {p pos : Pos} (hm : X.mg "range" = none) (ha : GA X W [a, b] ta) (hg : Gl X "range" := by rfl) (hs : starEach [a, b] X.env = [(false, eval a X.env), (false, eval b X.env)] := by rfl) (hs2 : starEach [b] X.env = [(false, eval b X.env)] := by rfl) : GI' X W tg (.Call (.Name "range" p) [a, b] [] pos) (aIR2 ta) := pi_imp (pi_range2 hg hm ha hs hs2) fun σ H Q h => by
  obtain ⟨e, m, P, R, rE, rM, t, q, w⟩ := h
  refine ⟨e, m, _, R, rE, rM, t, fun ds m1 h1 vs H1 t1 r1 rm1 => ?_, w⟩
  match ds, h1, r1 with
  | [.int i, .int j], h1, r1 =>
    obtain ⟨v, r, e1, rv, u, r', e2, ru, e3⟩ := r1
    subst e2
    obtain rfl : r' = [] := e3
    obtain rfl : v = .int i := rv
    obtain rfl : u = .int j := ru
    exact ⟨i, j, e1, h1.1, q _ _ m1 h1.2 _ H1 t1 rm1 itr_ok⟩
/-! ### for -/
def forL (g : AG) (b : AS) (gd : M → Prop) : List D → AEnds → En → M → Prop
  | [], A, e, m => gd m ∧ A.nx e m
  | d :: r, A, e, m => gd m ∧ g d e m fun e1 m1 => b { A with nx := forL g b gd r A, ct := forL g b gd r A, bk := A.nx } e1 m1
def aFor (ti : AI) (g : AG) (b : AS) : AS := fun A e m => ti e m (fun its gd m1 => forL g b gd its A e m1) (A.xe e)
theorem s_for {tg iter : Expr} {body : List Stmt} {ti : AI} {g : AG} {tb : AS} {pos : Pos} (hp : PassesOwn (model X.prog X.w) X.A X.env X.xe) (hc : X.calm = true) (hi : GI' X W tg iter ti) (hg : GG X tg g) (hb : GSs X W body tb)
    (hs : ∀ x, foldedSetIterable iter X.env x = pure x := by intro _; rfl) : GS X W (.For tg iter body [] pos) (aFor ti g tb) := ps_imp (ps_for hp hc hi hg hb hs) fun D σ H h => by
  obtain ⟨e, m, A, rE, rM, t, ok⟩ := h
  refine ⟨e, m, _, _, rE, rM, t, fun its gd m1 h1 J H1 t1 rm1 it => ?_, ok.xe e σ H (Tx.refl H) rE⟩
  refine ⟨fun i k σ2 H2 => ∃ e2 m2, k = its.length - i ∧ i ≤ its.length ∧ Tx H1 H2 ∧ RelE X.K H2 σ2 e2 ∧ RelM X.K H2 m2 ∧ forL g tb gd (its.drop i) A e2 m2, ⟨its.length, e, m1, by simp, Nat.zero_le _, Tx.refl _, rE.mono t1, rm1, h1⟩, ?_⟩
  rintro i k σ2 H2 ⟨e2, m2, rfl, hi, t2, rE2, rM2, w2⟩
  by_cases hlt : i < its.length
  · have hd : its.drop i = its[i] :: its.drop (i + 1) := List.drop_eq_getElem_cons hlt
    rw [hd] at w2
    refine .inr ⟨it.go i H2 m2 t2 rM2 w2.1 hlt, fun σ3 H3 => ∃ e3 m3, Tx H1 H3 ∧ RelE X.K H3 σ3 e3 ∧ RelM X.K H3 m3 ∧ forL g tb gd (its.drop (i + 1)) A e3 m3, fun σ3 H3 ⟨e3, m3, t3, a3, b3, c3⟩ => ⟨its.length - (i + 1), by omega, e3, m3, rfl, hlt, t3, a3, b3, c3⟩, fun x H3 y => ?_⟩
    obtain ⟨t3, rx, keep⟩ := it.yld i its[i] H2 m2 x H3 t2 rM2 w2.1 (by simp [hlt]) y
    refine ⟨its[i], e2, m2, _, rx, rE2.mono t3, keep m2 rM2, w2.2, fun e4 m4 h4 σ4 H4 t4 rE4 rM4 => ?_⟩
    have t14 := (t2.trans t3).trans t4
    have o2 := ok.mono (t1.trans t14)
    exact ⟨e4, m4, _, rE4, rM4, h4, ⟨fun e5 m5 h5 σ5 H5 t5 rE5 rM5 => ⟨e5, m5, t14.trans t5, rE5, rM5, h5⟩, o2.rt, o2.nx, fun e5 m5 h5 σ5 H5 t5 rE5 rM5 => ⟨e5, m5, t14.trans t5, rE5, rM5, h5⟩, o2.xe⟩⟩
  · have e1 : i = its.length := by omega
    subst e1
    rw [List.drop_length] at w2
    exact .inl ⟨it.stop H2 m2 t2 rM2 w2.1, ok.nx e2 m2 w2.2 σ2 H2 (t1.trans t2) rE2 rM2⟩
end
end Ab

set_option Elab.async false
set_option linter.all false
set_option maxRecDepth 100000
set_option maxHeartbeats 2000000
namespace Ab
open PySem PySem.Spec PyProof.Rows L2
section
variable {X : Cx} {W : WX}
/-! ### list comprehensions: nothing may be raised within -/
abbrev W0 : WX := fun _ _ _ _ => False
theorem tk0 {X : Cx} : Takes X W0 := takes0
theorem wok0 {K : PySem.W.Frag} {σ : L2.St} {H : Hp} : WOk K W0 σ H fun _ _ => False := ⟨fun _ _ z => z.elim⟩
def wipeE (e : En) : List Nat → En
  | [] => e
  | v :: vs => (wipeE e vs).x v
theorem RelE.wipe {K : PySem.W.Frag} {H : Hp} {σ : L2.St} {e : En} (r : RelE K H σ e) : ∀ vs, RelE K H (L2.wipe σ vs) (wipeE e vs)
  | [] => r
  | v :: vs => RelE.unset v (RelE.wipe r vs)
theorem wipe_set {σ : L2.St} {i : Nat} {x : Option V} : ∀ {vs : List Nat}, i ∈ vs → L2.wipe (σ.set i x) vs = L2.wipe σ vs
  | v :: vs, h => by
    show (L2.wipe (σ.set i x) vs).set v none = (L2.wipe σ vs).set v none
    by_cases hv : i ∈ vs
    · rw [wipe_set hv]
    · have e : i = v := by
        rcases List.mem_cons.mp h with h | h
        · exact h
        · exact absurd h hv
      subst e
      have go : ∀ (us : List Nat), i ∉ us → L2.wipe (σ.set i x) us = (L2.wipe σ us).set i x := by
        intro us
        induction us with
        | nil => intro _; rfl
        | cons u us ih =>
          intro hn
          show (L2.wipe (σ.set i x) us).set u none = ((L2.wipe σ us).set u none).set i x
          rw [ih fun z => hn (List.mem_cons_of_mem _ z), List.set_comm _ _ fun z => hn (by rw [z]; exact List.mem_cons_self)]
      rw [go vs hv, List.set_set]
/-- a target of a comprehension: it stores into the slots vs alone -/
def lGc (K : PySem.W.Frag) (vs : List Nat) (g : AG) : TG := fun v σ H Q => ∃ d e m P, Rep K H d v ∧ RelE K H σ e ∧ RelM K H m ∧ g d e m P ∧ ∀ e' m', P e' m' → ∀ σ' H', Tx H H' → RelE K H' σ' e' → RelM K H' m' → L2.wipe σ' vs = L2.wipe σ vs → Q σ' H'
def lGsc (K : PySem.W.Frag) (vs : List Nat) (g : AGs) : TGs := fun us σ H Q => ∃ ds e m P, Reps K H ds us ∧ RelE K H σ e ∧ RelM K H m ∧ g ds e m P ∧ ∀ e' m', P e' m' → ∀ σ' H', Tx H H' → RelE K H' σ' e' → RelM K H' m' → L2.wipe σ' vs = L2.wipe σ vs → Q σ' H'
theorem c_name {i : Nat} {x : Str} {pos : Pos} {vs : List Nat} (hN : X.N.Nodup) (hm : i ∈ vs := by decide) (hi : X.N[i]? = some x := by rfl) (hx : Loc X.env.scope x := by first | exact .inl rfl | exact .inr rfl) (hf : X.fn x = true ∨ X.env.scope.names.lookup x = some .local := by first | exact .inl rfl | exact .inr rfl) : PG X (.Name x pos) (lGc X.K vs (aN i)) := pg_imp (pg_name hN hi hx hf) fun v σ H Q h => by
  obtain ⟨d, e, m, P, r, rE, rM, t, q⟩ := h
  exact q _ m t _ H (Tx.refl H) (rE.set i r) rM (wipe_set hm)
theorem cs_nil {vs : List Nat} : PGs X [] (lGsc X.K vs aGNil) := pgs_imp pgs_nil fun us σ H Q h => by
  obtain ⟨ds, e, m, P, r, rE, rM, t, q⟩ := h
  cases ds with
  | nil => exact ⟨r, q e m t σ H (Tx.refl H) rE rM rfl⟩
  | cons d r => exact t.elim
theorem cs_cons {vs : List Nat} {e : Expr} {es : List Expr} {t : AG} {u : AGs} (h1 : PG X e (lGc X.K vs t)) (h2 : PGs X es (lGsc X.K vs u))
    (hs : (assignEach (e :: es) X.env).map (·.2) = assign e X.env :: (assignEach es X.env).map (·.2) := by rfl) : PGs X (e :: es) (lGsc X.K vs (aGCons t u)) := pgs_imp (pgs_cons h1 h2 hs) fun us σ H Q h => by
  obtain ⟨ds, e, m, P, r, rE, rM, t, q⟩ := h
  cases ds with
  | nil => exact t.elim
  | cons d ds =>
    obtain ⟨x, xs, e1, rd, rr⟩ := r
    refine ⟨x, xs, e1, d, e, m, _, rd, rE, rM, t, fun e' m' h' σ' H' t' rE' rM' w1 => ?_⟩
    exact ⟨ds, e', m', P, rr.mono t', rE', rM', h', fun e2 m2 h2 σ2 H2 t2 a b w2 => q e2 m2 h2 σ2 H2 (t'.trans t2) a b (w2.trans w1)⟩
theorem c_tup {vs : List Nat} {es : List Expr} {k : Nat} {t : AGs} {n : Nat} {pos : Pos} (hc : X.calm = true) (h : PGs X es (lGsc X.K vs t))
    (hn : (assignEach es X.env).length = n := by rfl) (hst : (assignEach es X.env).findIdx? (·.1) = none := by rfl) : PG X (.Tuple es k pos) (lGc X.K vs (aTT n t)) := pg_imp (pg_tup hc h hn hst) fun v σ H Q h => by
  obtain ⟨d, e, m, P, r, rE, rM, t, q⟩ := h
  cases d with
  | tup ds =>
    obtain ⟨a, xs, ex, hs, hr⟩ := r
    exact ⟨a, xs, ex, hs, by rw [← hr.length]; exact t.1, ds, e, m, P, hr, rE, rM, t.2, q⟩
  | _ => exact t.elim
def aYes : AT := fun _ m Q _ => Q true m
theorem ts_yes {K : PySem.W.Frag} : PTs X [] (lT K W0 aYes) := ⟨fun p s σ H Q I h => pts_nil.run p s σ H Q I (by
  obtain ⟨e, m, P, R, rE, rM, t, q, w⟩ := h
  exact q true m t H (Tx.refl H) rM)⟩
theorem ts_if {c : Expr} {t : AT} (h : GT X W0 c t) : PTs X [c] (lT X.K W0 t) := pts_one h
def lcL (g : AG) (tt : AT) (te : AE) (e : En) (p : Addr) (gd : M → Prop) : List D → PQ → M → Prop
  | [], Q, m => gd m ∧ Q (.ref p) m
  | d :: r, Q, m => gd m ∧ g d e m fun e1 m1 => tt e1 m1 (fun b m2 => if b = true then te e1 m2 (fun y m3 => match m3 p with
    | some (.lst acc) => acc.length < big ∧ lcL g tt te e p gd r Q (mset m3 p (.lst (acc ++ [y])))
    | _ => False) (fun _ _ => False) else lcL g tt te e p gd r Q m2) fun _ _ => False
def aLc (ti : AI) (g : AG) (tt : AT) (te : AE) (vs : List Nat) : AE := fun e m Q R => ti e m (fun its gd m1 => ∀ p, m1 p = none → lcL g tt te (wipeE e vs) p gd its Q (mset m1 p (.lst []))) R
theorem llc {K : PySem.W.Frag} {ti : AI} {g : AG} {tt : AT} {te : AE} {vs : List Nat} {σ : L2.St} {H : Hp} {Q : VK} (h : lE K W (aLc ti g tt te vs) σ H Q) : tLc (lI K W ti) (lGc K vs g) (lT K W0 tt) (lE K W0 te) vs σ H Q := by
  obtain ⟨e, m, P, R, rE, rM, t, q, w⟩ := h
  refine ⟨e, m, _, R, rE, rM, t, fun its gd m1 h1 J H1 t1 rm1 it p hp => ?_, w⟩
  refine ⟨fun i k H2 => ∃ m2, k = its.length - i ∧ i ≤ its.length ∧ Tx H1 H2 ∧ RelM K H2 m2 ∧ lcL g tt te (wipeE e vs) p gd (its.drop i) P m2, ⟨its.length, _, by simp, Nat.zero_le _, Tx.new hp, rm1.newL hp (show Reps K H1 [] [] from rfl), h1 p (rm1.free hp)⟩, ?_⟩
  rintro i k H2 ⟨m2, rfl, hi, t2, rM2, w2⟩
  by_cases hlt : i < its.length
  · have hd : its.drop i = its[i] :: its.drop (i + 1) := List.drop_eq_getElem_cons hlt
    rw [hd] at w2
    refine .inr ⟨it.go i H2 m2 t2 rM2 w2.1 hlt, fun H3 => ∃ m3, Tx H1 H3 ∧ RelM K H3 m3 ∧ lcL g tt te (wipeE e vs) p gd (its.drop (i + 1)) P m3, fun H3 ⟨m3, t3, b3, c3⟩ => ⟨its.length - (i + 1), by omega, m3, rfl, hlt, t3, b3, c3⟩, fun x H3 y => ?_⟩
    obtain ⟨t3, rx, keep⟩ := it.yld i its[i] H2 m2 x H3 t2 rM2 w2.1 (by simp [hlt]) y
    have rE3 : RelE K H3 (L2.wipe σ vs) (wipeE e vs) := (rE.mono (t1.trans (t2.trans t3))).wipe vs
    refine ⟨its[i], wipeE e vs, m2, _, rx, rE3, keep m2 rM2, w2.2, fun e4 m4 h4 σ4 H4 t4 rE4 rM4 wp => ⟨?_, ?_⟩⟩
    · have e9 : L2.wipe (L2.wipe σ vs) vs = L2.wipe σ vs := by
        have go : ∀ (us : List Nat) (τ : L2.St), (∀ u ∈ us, u ∈ vs) → L2.wipe (L2.wipe τ us) vs = L2.wipe τ vs := by
          intro us
          induction us with
          | nil => intro τ _; rfl
          | cons u us ih =>
            intro τ hu
            show L2.wipe ((L2.wipe τ us).set u none) vs = _
            rw [wipe_set (hu u List.mem_cons_self), ih τ fun z hz => hu z (List.mem_cons_of_mem _ hz)]
        exact go vs σ fun _ z => z
      rw [wp, e9]
    · refine ⟨e4, m4, _, _, rE4, rM4, h4, fun b m5 h5 H5 t5 rm5 => ?_, wok0⟩
      cases b with
      | true =>
        rw [if_pos rfl]
        refine ⟨e4, m5, _, _, rE4.mono t5, rm5, by simpa using h5, fun d6 m6 h6 v H6 t6 r6 rm6 => ?_, wok0⟩
        have h6' : (match m6 p with | some (.lst acc) => acc.length < big ∧ lcL g tt te (wipeE e vs) p gd (its.drop (i + 1)) P (mset m6 p (.lst (acc ++ [d6]))) | _ => False) := h6
        cases hm : m6 p with
        | none => rw [hm] at h6'; exact h6'.elim
        | some o =>
          rw [hm] at h6'
          cases o with
          | lst acc =>
            obtain ⟨xs, hx, hr⟩ := rm6 p _ hm
            exact ⟨xs, hx, by rw [← hr.length]; exact big_lt h6'.1, _, ((t2.trans t3).trans t4).trans (t5.trans (t6.trans (Tx.mut hx trivial))), rm6.putL hx (hr.append (show Reps K H6 [d6] [v] from ⟨v, [], rfl, r6, rfl⟩)), h6'.2⟩
          | _ => exact h6'.elim
      | false =>
        rw [if_neg Bool.false_ne_true]
        exact ⟨m5, ((t2.trans t3).trans t4).trans t5, rm5, by simpa using h5⟩
  · have e1 : i = its.length := by omega
    subst e1
    rw [List.drop_length] at w2
    exact .inl ⟨it.stop H2 m2 t2 rM2 w2.1, q _ m2 w2.2 _ H2 (t1.trans t2) rfl rM2⟩
abbrev Blk (X : Cx) (s : Shared) (H : Hp) (scope : Scope) (C : Addr) (cl : List (Str × Addr)) (fp : List Addr) : Cx := X.blk s H scope (compEnvC scope cl C X.env) fp
theorem g_lc {elt tg iter : Expr} {ifs : List Expr} {scope : Scope} {own : List (Str × Nat)} {pos : Pos} {ti : AI} {g : AG} {tt : AT} {te : AE} (hc : X.calm = true) (hN : X.N.Nodup) (hi : GI' X W tg iter ti) (ok : BlkOk X.N X.env.scope scope own)
    (hg : ∀ (s : Shared) (H : Hp) (C : Addr) (cl : List (Str × Addr)) (fp : List Addr), PG (Blk X s H scope C cl fp) tg (lGc X.K (own.map (·.2)) g)) (ht : ∀ (s : Shared) (H : Hp) (C : Addr) (cl : List (Str × Addr)) (fp : List Addr), PTs (Blk X s H scope C cl fp) ifs (lT X.K W0 tt))
    (he : ∀ (s : Shared) (H : Hp) (C : Addr) (cl : List (Str × Addr)) (fp : List Addr), GE (Blk X s H scope C cl fp) W0 elt te) (hs : ∀ x, foldedSetIterable iter X.env x = pure x := by intro _; rfl) :
    GE X W (.ListComp elt [⟨tg, iter, ifs, 0⟩] scope pos) (aLc ti g tt te (own.map (·.2))) := pe_imp (pe_lc hc hN hi ok hg ht he hs) fun _ _ _ h => llc h
theorem s_setLc {i : Nat} {y : Str} {py : Pos} {elt tg iter : Expr} {ifs : List Expr} {scope : Scope} {own : List (Str × Nat)} {pos spos : Pos} {ti : AI} {g : AG} {tt : AT} {te : AE} (hc : X.calm = true) (hN : X.N.Nodup) (hi : GI' X W tg iter ti) (ok : BlkOk X.N X.env.scope scope own)
    (hsw : swapsWith (.ListComp elt [⟨tg, iter, ifs, 0⟩] scope pos) (some (.Name y py)) spos.line X.env = pure true)
    (hg : ∀ (s : Shared) (H : Hp) (C : Addr) (cl : List (Str × Addr)) (fp : List Addr), PG (Blk X s H scope C cl fp) tg (lGc X.K (own.map (·.2)) g)) (ht : ∀ (s : Shared) (H : Hp) (C : Addr) (cl : List (Str × Addr)) (fp : List Addr), PTs (Blk X s H scope C cl fp) ifs (lT X.K W0 tt))
    (he : ∀ (s : Shared) (H : Hp) (C : Addr) (cl : List (Str × Addr)) (fp : List Addr), GE (Blk X s H scope C cl fp) W0 elt te) (hy : X.N[i]? = some y := by rfl) (hyl : X.env.scope.names.lookup y = some .local := by rfl) (hs : ∀ x, foldedSetIterable iter X.env x = pure x := by intro _; rfl) :
    GS X W (.Assign [.Name y py] (.ListComp elt [⟨tg, iter, ifs, 0⟩] scope pos) spos) (aAsg (aLc ti g tt te (own.map (·.2))) (aN i)) := ps_imp (ps_setLc hc hN hy hyl hsw hi ok hg ht he hs) fun D σ H h => by
  obtain ⟨e, m, A, rE, rM, t, ok2⟩ := h
  refine llc ⟨e, m, _, _, rE, rM, t, fun d m1 h1 v H1 t1 r1 rm1 => ?_, ok2.xe e σ H (Tx.refl H) rE⟩
  exact ok2.nx _ m1 h1 _ H1 t1 ((rE.mono t1).set i r1) rm1
end
end Ab

set_option Elab.async false
set_option linter.all false
set_option maxRecDepth 100000
set_option maxHeartbeats 2000000
namespace Ab
open PySem PySem.Spec PyProof.Rows L2
/-- a list of the store -/
def M.l (m : M) (a : Addr) : Option (List D) := match m a with
  | some (.lst ds) => some ds
  | _ => none
theorem M.l_of {m : M} {a : Addr} {ds : List D} (h : m.l a = some ds) : m a = some (.lst ds) := by
  unfold M.l at h
  cases e : m a with
  | none => rw [e] at h; cases h
  | some o => rw [e] at h; cases o with
    | lst xs => cases h; rfl
    | _ => cases h
theorem M.l_mk {m : M} {a : Addr} {ds : List D} (h : m a = some (.lst ds)) : m.l a = some ds := by unfold M.l; rw [h]
theorem M.l_set {m : M} {a : Addr} {ds : List D} : (mset m a (.lst ds)).l a = some ds := M.l_mk mset_same
theorem M.l_ne {m : M} {a b : Addr} {o : O} (h : b ≠ a) : (mset m a o).l b = m.l b := by unfold M.l; rw [mset_ne h]
section
variable {X : Cx} {W : WX}
/-! ### operators on data -/
def rAddA : AR2
  | .int i, .int j, m, Q => Q (.int (i + j)) m
  | .tup a, .tup b, m, Q => a.length + b.length ≤ big ∧ Q (.tup (a ++ b)) m
  | .str a, .str b, m, Q => a.length + b.length ≤ big ∧ Q (.str (a ++ b)) m
  | .ref a, .ref b, m, Q => (match m.l a, m.l b with
    | some xs, some ys => xs.length + ys.length ≤ big ∧ ∀ p, m p = none → Q (.ref p) (mset m p (.lst (xs ++ ys)))
    | _, _ => False)
  | _, _, _, _ => False
theorem or_int {f : Value → Value → Sem Value} {C : Int → Int → Prop} {g : Int → Int → V} {pins : List (Addr × Obj)} {s : Shared} {σ : L2.St} {H : Hp} {x y : V} {v u : Value} {Q : VK} {i j : Int} (h : OpR X f (rI C g)) (I : Inv X pins σ H s) (rx : RelV x v) (ry : RelV y u) (ex : x = .int i) (ey : y = .int j) (c : C i j) (q : Q (g i j) H) :
    wpAny (model X.prog X.w) X.A (f v u) (EP X pins σ Q) X.xe s := h pins s σ H x y v u Q I rx ry ⟨i, j, ex, ey, c, q⟩
theorem or_int0 {f : Value → Value → Sem Value} {g : Int → Int → V} {pins : List (Addr × Obj)} {s : Shared} {σ : L2.St} {H : Hp} {x y : V} {v u : Value} {Q : VK} {i j : Int} (h : OpR X f (rI0 g)) (I : Inv X pins σ H s) (rx : RelV x v) (ry : RelV y u) (ex : x = .int i) (ey : y = .int j) (q : Q (g i j) H) :
    wpAny (model X.prog X.w) X.A (f v u) (EP X pins σ Q) X.xe s := h pins s σ H x y v u Q I rx ry ⟨i, j, ex, ey, q⟩
theorem o_add : OpR X (binaryOp .Add) (lR2 X.K rAddA) := by
  intro pins s σ H x y v u Q I rx ry ⟨d1, d2, m, P, r1, r2, rM, h, q⟩
  cases d1 with
  | int i => cases d2 with
    | int j => exact or_int0 op_add I rx ry r1 r2 (q _ m h _ H (Tx.refl H) rfl rM)
    | _ => exact h.elim
  | str a => cases d2 with
    | str b => exact op_add_str pins s σ H x y v u Q I rx ry ⟨a, b, r1, r2, big_line h.1, q _ m h.2 _ H (Tx.refl H) rfl rM⟩
    | _ => exact h.elim
  | tup a => cases d2 with
    | tup b =>
      obtain ⟨p1, xs, e1, s1, z1⟩ := r1
      obtain ⟨p2, ys, e2, s2, z2⟩ := r2
      refine op_catA pins s σ H x y v u Q I rx ry ⟨p1, p2, xs, ys, e1, e2, s1, s2, by rw [← z1.length, ← z2.length]; exact big_line h.1, fun hx => ?_, fun hx hy => ?_, fun hx hy p hp => ?_⟩
      · refine q _ m h.2 _ H (Tx.refl H) ⟨p2, ys, rfl, s2, ?_⟩ rM
        have := z1.append z2
        rw [hx] at this
        exact this
      · refine q _ m h.2 _ H (Tx.refl H) ⟨p1, xs, rfl, s1, ?_⟩ rM
        have := z1.append z2
        rw [hy, List.append_nil] at this
        exact this
      · exact q _ m h.2 _ _ (Tx.new hp) ⟨p, xs ++ ys, rfl, SqT.of upd_same, (z1.append z2).mono (Tx.new hp)⟩ (rM.grow hp)
    | _ => exact h.elim
  | ref a => cases d2 with
    | ref b =>
      have h' : (match m.l a, m.l b with | some xs, some ys => xs.length + ys.length ≤ big ∧ ∀ p, m p = none → P (.ref p) (mset m p (.lst (xs ++ ys))) | _, _ => False) := h
      cases e1 : m.l a with
      | none => rw [e1] at h'; exact h'.elim
      | some xs => cases e2 : m.l b with
        | none => rw [e1, e2] at h'; exact h'.elim
        | some ys =>
          rw [e1, e2] at h'
          obtain ⟨xv, hx, zx⟩ := rM a _ (M.l_of e1)
          obtain ⟨yv, hy, zy⟩ := rM b _ (M.l_of e2)
          exact op_cat pins s σ H x y v u Q I rx ry ⟨a, b, xv, yv, r1, r2, hx, hy, by rw [← zx.length, ← zy.length]; exact big_line h'.1, fun p hp => q _ _ (h'.2 p (rM.free hp)) _ _ (Tx.new hp) rfl (rM.newL hp (zx.append zy))⟩
    | _ => exact h.elim
  | _ => exact h.elim
/-- ints alone -/
def rIntC (C : Int → Int → Prop) (g : Int → Int → D) : AR2
  | .int i, .int j, m, Q => C i j ∧ Q (g i j) m
  | _, _, _, _ => False
def rInt0 (g : Int → Int → D) : AR2
  | .int i, .int j, m, Q => Q (g i j) m
  | _, _, _, _ => False
theorem o_intC {f : Value → Value → Sem Value} {C : Int → Int → Prop} {g : Int → Int → Int} (h : OpR X f (rI C fun i j => .int (g i j))) : OpR X f (lR2 X.K (rIntC C fun i j => .int (g i j))) := by
  intro pins s σ H x y v u Q I rx ry ⟨d1, d2, m, P, r1, r2, rM, hh, q⟩
  cases d1 with
  | int i => cases d2 with
    | int j => exact or_int h I rx ry r1 r2 hh.1 (q _ m hh.2 _ H (Tx.refl H) rfl rM)
    | _ => exact hh.elim
  | _ => exact hh.elim
theorem o_int0 {f : Value → Value → Sem Value} {g : Int → Int → Int} (h : OpR X f (rI0 fun i j => .int (g i j))) : OpR X f (lR2 X.K (rInt0 fun i j => .int (g i j))) := by
  intro pins s σ H x y v u Q I rx ry ⟨d1, d2, m, P, r1, r2, rM, hh, q⟩
  cases d1 with
  | int i => cases d2 with
    | int j => exact or_int0 h I rx ry r1 r2 (q _ m hh _ H (Tx.refl H) rfl rM)
    | _ => exact hh.elim
  | _ => exact hh.elim
theorem o_intB {f : Value → Value → Sem Value} {g : Int → Int → Bool} (h : OpR X f (rI0 fun i j => .bl (g i j))) : OpR X f (lR2 X.K (rInt0 fun i j => .bl (g i j))) := by
  intro pins s σ H x y v u Q I rx ry ⟨d1, d2, m, P, r1, r2, rM, hh, q⟩
  cases d1 with
  | int i => cases d2 with
    | int j => exact or_int0 h I rx ry r1 r2 (q _ m hh _ H (Tx.refl H) rfl rM)
    | _ => exact hh.elim
  | _ => exact hh.elim
abbrev rSubA : AR2 := rInt0 fun i j => .int (i - j)
abbrev rFdivA : AR2 := rIntC CDivW fun i j => .int (i / j)
abbrev rModA : AR2 := rIntC (fun _ j => 0 < j) fun i j => .int (i % j)
abbrev rPowA : AR2 := rIntC CPow fun i j => .int (i ^ j.toNat)
abbrev rShlA : AR2 := rIntC CPow fun i j => .int (i * 2 ^ j.toNat)
abbrev rShrA : AR2 := rIntC (fun _ j => 0 ≤ j) fun i j => .int (i / 2 ^ j.toNat)
abbrev rAndA : AR2 := rInt0 fun i j => .int (Builtin.bitAnd i j)
abbrev rOrA : AR2 := rInt0 fun i j => .int (Builtin.bitOr i j)
abbrev rXorA : AR2 := rInt0 fun i j => .int (Builtin.bitXor i j)
theorem o_sub : OpR X (binaryOp .Sub) (lR2 X.K rSubA) := o_int0 op_sub
theorem o_fdiv : OpR X (binaryOp .FloorDiv) (lR2 X.K rFdivA) := o_intC op_fdivW
theorem o_mod : OpR X (binaryOp .Mod) (lR2 X.K rModA) := o_intC op_mod
theorem o_pow : OpR X (binaryOp .Pow) (lR2 X.K rPowA) := o_intC op_pow
theorem o_shl : OpR X (binaryOp .LShift) (lR2 X.K rShlA) := o_intC op_shl
theorem o_shr : OpR X (binaryOp .RShift) (lR2 X.K rShrA) := o_intC op_shr
theorem o_and : OpR X (binaryOp .BitAnd) (lR2 X.K rAndA) := o_int0 op_and
theorem o_or : OpR X (binaryOp .BitOr) (lR2 X.K rOrA) := o_int0 op_or
theorem o_xor : OpR X (binaryOp .BitXor) (lR2 X.K rXorA) := o_int0 op_xor
abbrev rLtA : AR2 := rInt0 fun i j => .bl (decide (i < j))
abbrev rLeA : AR2 := rInt0 fun i j => .bl (decide (i ≤ j))
abbrev rGtA : AR2 := rInt0 fun i j => .bl (decide (j < i))
abbrev rGeA : AR2 := rInt0 fun i j => .bl (decide (j ≤ i))
theorem o_lt : OpR X (compareOp .Lt) (lR2 X.K rLtA) := o_intB op_lt
theorem o_le : OpR X (compareOp .LtE) (lR2 X.K rLeA) := o_intB op_le
theorem o_gt : OpR X (compareOp .Gt) (lR2 X.K rGtA) := o_intB op_gt
theorem o_ge : OpR X (compareOp .GtE) (lR2 X.K rGeA) := o_intB op_ge
/-- i * j; t * n -/
def rMulA : AR2
  | .int i, .int j, m, Q => CMulW i j ∧ Q (.int (i * j)) m
  | .tup a, .int k, m, Q => (a ≠ [] ∧ 2 ≤ k ∧ k ≤ 1000 ∧ a.length ≤ 1000) ∧ Q (.tup (List.replicate k.toNat a).flatten) m
  | .ref a, .int k, m, Q => (match m.l a with
    | some xs => (-(2 ^ 62) ≤ k ∧ k < 2 ^ 62 ∧ xs.length * k.toNat ≤ big) ∧ ∀ p, m p = none → Q (.ref p) (mset m p (.lst (List.replicate k.toNat xs).flatten))
    | none => False)
  | _, _, _, _ => False
theorem Reps.nil_iff {K : PySem.W.Frag} {H : Hp} {ds : List D} {vs : List V} (h : Reps K H ds vs) (n : ds ≠ []) : vs ≠ [] := by
  intro e
  subst e
  have := h.length
  exact n (List.length_eq_zero_iff.mp this)
theorem o_mul : OpR X (binaryOp .Mult) (lR2 X.K rMulA) := by
  intro pins s σ H x y v u Q I rx ry ⟨d1, d2, m, P, r1, r2, rM, h, q⟩
  cases d1 with
  | int i => cases d2 with
    | int j => exact or_int op_mulW I rx ry r1 r2 h.1 (q _ m h.2 _ H (Tx.refl H) rfl rM)
    | _ => exact h.elim
  | tup a => cases d2 with
    | int k =>
      obtain ⟨p1, xs, e1, s1, z1⟩ := r1
      obtain ⟨⟨h1, h2, h3, h4⟩, h5⟩ := h
      exact op_repT pins s σ H x y v u Q I rx ry ⟨p1, k, xs, e1, r2, s1, z1.nil_iff h1, h2, h3, by rw [← z1.length]; exact h4, fun p hp => q _ m h5 _ _ (Tx.new hp) ⟨p, _, rfl, SqT.of upd_same, (z1.flat _).mono (Tx.new hp)⟩ (rM.grow hp)⟩
    | _ => exact h.elim
  | ref a => cases d2 with
    | int k =>
      have h' : (match m.l a with | some xs => (-(2 ^ 62) ≤ k ∧ k < 2 ^ 62 ∧ xs.length * k.toNat ≤ big) ∧ ∀ p, m p = none → P (.ref p) (mset m p (.lst (List.replicate k.toNat xs).flatten)) | none => False) := h
      cases e1 : m.l a with
      | none => rw [e1] at h'; exact h'.elim
      | some xs =>
        rw [e1] at h'
        obtain ⟨xv, hx, zx⟩ := rM a _ (M.l_of e1)
        exact op_rep pins s σ H x y v u Q I rx ry ⟨a, k, xv, r1, r2, hx, by omega, by omega, by rw [← zx.length]; exact big_line h'.1.2.2, fun p hp => q _ _ (h'.2 p (rM.free hp)) _ _ (Tx.new hp) rfl (rM.newL hp (zx.flat _))⟩
    | _ => exact h.elim
  | _ => exact h.elim
def rNegA : AR1
  | .int i, m, Q => Q (.int (-i)) m
  | _, _, _ => False
theorem u_neg : UnR X (unaryOp .USub) (lR1 X.K rNegA) := by
  intro pins s σ H x v Q I rx ⟨d, m, P, r, rM, h, q⟩
  cases d with
  | int i => exact un_neg pins s σ H x v Q I rx ⟨i, r, q _ m h _ H (Tx.refl H) rfl rM⟩
  | _ => exact h.elim
/-! ### == -/
mutual
def D.py : D → Option PyData
  | .non => some .none
  | .bl b => some (.bool b)
  | .int i => some (.int i)
  | .str x => some (.str x)
  | .tup ds => (D.pys ds).map .tuple
  | .fls ds => (D.pys ds).map .list
  | _ => none
def D.pys : List D → Option (List PyData)
  | [] => some []
  | d :: ds => match D.py d, D.pys ds with
    | some p, some ps => some (p :: ps)
    | _, _ => none
end
mutual
theorem dp_of {K : PySem.W.Frag} {H : Hp} : ∀ {d : D} {p : PyData} {v : V}, d.py = some p → Rep K H d v → Dp K H v p
  | .non, _, _, e, r => by cases e; rw [show _ = V.non from r]; exact .non
  | .bl b, _, _, e, r => by cases e; rw [show _ = V.bl b from r]; exact .bl b
  | .int i, _, _, e, r => by cases e; rw [show _ = V.int i from r]; exact .int i
  | .str x, _, _, e, r => by cases e; rw [show _ = V.str x from r]; exact .str x
  | .tup ds, p, v, e, ⟨a, xs, ev, hs, hr⟩ => by
    have e' : (D.pys ds).map PyData.tuple = some p := e
    cases q : D.pys ds with
    | none => rw [q] at e'; cases e'
    | some ps => rw [q] at e'; cases e'; rw [ev]; exact .tup hs (dps_of q hr)
  | .fls ds, p, v, e, ⟨a, xs, ev, hs, hr⟩ => by
    have e' : (D.pys ds).map PyData.list = some p := e
    cases q : D.pys ds with
    | none => rw [q] at e'; cases e'
    | some ps => rw [q] at e'; cases e'; rw [ev]; exact .lst hs.sq (dps_of q hr)
  | .ref _, _, _, e, _ => by cases e
  | .ty _, _, _, e, _ => by cases e
theorem dps_of {K : PySem.W.Frag} {H : Hp} : ∀ {ds : List D} {ps : List PyData} {vs : List V}, D.pys ds = some ps → Reps K H ds vs → DpAll K H vs ps
  | [], _, _, e, r => by cases e; rw [show _ = [] from r]; exact .nil
  | d :: ds, ps, _, e, ⟨x, r, ev, hx, hr⟩ => by
    have e' : (match D.py d, D.pys ds with | some p, some ps => some (p :: ps) | _, _ => none) = some ps := e
    cases q1 : D.py d with
    | none => rw [q1] at e'; cases e'
    | some p => cases q2 : D.pys ds with
      | none => rw [q1, q2] at e'; cases e'
      | some qs => rw [q1, q2] at e'; cases e'; rw [ev]; exact .cons (dp_of q1 hx) (dps_of q2 hr)
end
/-- data, a list of the store at the top -/
def D.pyM (m : M) : D → Option PyData
  | .ref a => (match m.l a with
    | some ds => (D.pys ds).map .list
    | none => none)
  | d => d.py
theorem dpM_of {K : PySem.W.Frag} {H : Hp} {m : M} (rM : RelM K H m) : ∀ {d : D} {p : PyData} {v : V}, d.pyM m = some p → Rep K H d v → Dp K H v p
  | .ref a, p, v, e, r => by
    have e' : (match m.l a with | some ds => (D.pys ds).map PyData.list | none => none) = some p := e
    cases q : m.l a with
    | none => rw [q] at e'; cases e'
    | some ds =>
      rw [q] at e'
      obtain ⟨xs, hx, hr⟩ := rM a _ (M.l_of q)
      cases q2 : D.pys ds with
      | none => simp only [q2, Option.map_none] at e'; cases e'
      | some ps => simp only [q2, Option.map_some] at e'; cases e'; rw [show v = .ref a from r]; exact .lst (SqL.of hx) (dps_of q2 hr)
  | .non, p, v, e, r => dp_of e r
  | .bl _, p, v, e, r => dp_of e r
  | .int _, p, v, e, r => dp_of e r
  | .str _, p, v, e, r => dp_of e r
  | .tup _, p, v, e, r => dp_of e r
  | .fls _, p, v, e, r => dp_of e r
  | .ty _, p, v, e, r => by cases e
def eqA (x y : D) (m : M) (k : Bool → Prop) : Prop := match x, y with
  | .int i, .int j => k (decide (i = j))
  | .str i, .str j => k (decide (i = j))
  | .bl i, .bl j => k (decide (i = j))
  | .non, .non => k true
  | x, y => match x.pyM m, y.pyM m with
    | some p, some q => (SeqAt.shaped p = true ∧ SeqAt.shaped q = true) ∧ k (PyData.eqv p q)
    | _, _ => False
def rEqA : AR2 := fun x y m Q => eqA x y m fun b => Q (.bl b) m
def rNeA : AR2 := fun x y m Q => eqA x y m fun b => Q (.bl (!b)) m
theorem eq_go {op : CmpOp} {n : Bool → Bool} (hs : ∀ {x y : V}, scal x y = true → ∀ (pins : List (Addr × Obj)) (s : Shared) (σ : L2.St) (H : Hp) (v u : Value) (Q : VK), Inv X pins σ H s → RelV x v → RelV y u → Q (.bl (n (decide (x = y)))) H → wpAny (model X.prog X.w) X.A (compareOp op v u) (EP X pins σ Q) X.xe s)
    (hd : ∀ (pins : List (Addr × Obj)) (s : Shared) (σ : L2.St) (H : Hp) (x y : V) (v u : Value) (Q : VK) (d e : PyData), Inv X pins σ H s → RelV x v → RelV y u → Dp X.K H x d → Dp X.K H y e → SeqAt.shaped d = true → SeqAt.shaped e = true → Q (.bl (n (PyData.eqv d e))) H → wpAny (model X.prog X.w) X.A (compareOp op v u) (EP X pins σ Q) X.xe s) :
    OpR X (compareOp op) (lR2 X.K fun x y m Q => eqA x y m fun b => Q (.bl (n b)) m) := by
  intro pins s σ H x y v u Q I rx ry ⟨d1, d2, m, P, r1, r2, rM, h, q⟩
  have fin : ∀ b, P (.bl (n b)) m → Q (.bl (n b)) H := fun b p => q _ m p _ H (Tx.refl H) rfl rM
  have gen : (match d1.pyM m, d2.pyM m with | some p, some q => (SeqAt.shaped p = true ∧ SeqAt.shaped q = true) ∧ P (.bl (n (PyData.eqv p q))) m | _, _ => False) → wpAny (model X.prog X.w) X.A (compareOp op v u) (EP X pins σ Q) X.xe s := fun h => by
    cases e1 : d1.pyM m with
    | none => rw [e1] at h; exact h.elim
    | some p => cases e2 : d2.pyM m with
      | none => rw [e1, e2] at h; exact h.elim
      | some p2 =>
        rw [e1, e2] at h
        exact hd pins s σ H x y v u Q p p2 I rx ry (dpM_of rM e1 r1) (dpM_of rM e2 r2) h.1.1 h.1.2 (fin _ h.2)
  cases d1 with
  | int i => cases d2 with
    | int j =>
      obtain rfl : x = .int i := r1
      obtain rfl : y = .int j := r2
      refine hs (x := .int i) (y := .int j) rfl pins s σ H v u Q I rx ry ?_
      have : decide (V.int i = V.int j) = decide (i = j) := by simp
      rw [this]
      exact fin _ h
    | _ => exact gen h
  | str i => cases d2 with
    | str j =>
      obtain rfl : x = .str i := r1
      obtain rfl : y = .str j := r2
      refine hs (x := .str i) (y := .str j) rfl pins s σ H v u Q I rx ry ?_
      have : decide (V.str i = V.str j) = decide (i = j) := by simp
      rw [this]
      exact fin _ h
    | _ => exact gen h
  | bl i => cases d2 with
    | bl j =>
      obtain rfl : x = .bl i := r1
      obtain rfl : y = .bl j := r2
      refine hs (x := .bl i) (y := .bl j) rfl pins s σ H v u Q I rx ry ?_
      have : decide (V.bl i = V.bl j) = decide (i = j) := by simp
      rw [this]
      exact fin _ h
    | _ => exact gen h
  | non => cases d2 with
    | non =>
      obtain rfl : x = .non := r1
      obtain rfl : y = .non := r2
      refine hs (x := .non) (y := .non) rfl pins s σ H v u Q I rx ry ?_
      have : decide (V.non = V.non) = true := by simp
      rw [this]
      exact fin _ h
    | _ => exact gen h
  | _ => exact gen h
theorem o_eq (hu : X.A.units + 64 < cLine) : OpR X (compareOp .Eq) (lR2 X.K rEqA) := eq_go (n := id) (fun {x y} hxy pins s σ H v u Q I rx ry q => op_eq pins s σ H x y v u Q I rx ry ⟨hxy, q⟩) fun pins s σ H x y v u Q d e I rx ry dx dy sx sy q => op_eqD hu pins s σ H x y v u Q I rx ry ⟨d, e, dx, dy, sx, sy, q⟩
theorem o_ne (hu : X.A.units + 64 < cLine) : OpR X (compareOp .NotEq) (lR2 X.K rNeA) := eq_go (n := not) (fun {x y} hxy pins s σ H v u Q I rx ry q => op_ne pins s σ H x y v u Q I rx ry ⟨hxy, q⟩) fun pins s σ H x y v u Q d e I rx ry dx dy sx sy q => op_neD hu pins s σ H x y v u Q I rx ry ⟨d, e, dx, dy, sx, sy, q⟩
end
end Ab

set_option Elab.async false
set_option linter.all false
set_option maxRecDepth 100000
set_option maxHeartbeats 2000000
namespace Ab
open PySem PySem.Spec PyProof.Rows L2
section
variable {X : Cx} {W : WX}
/-! ### is -/
def D.isNon : D → Bool
  | .non => true
  | _ => false
def rIsA : AR2 := fun x y m Q => match x, y with
  | .bl a, .bl b => Q (.bl (decide (a = b))) m
  | x, .non => Q (.bl x.isNon) m
  | _, _ => False
def rIsNotA : AR2 := fun x y m Q => match x, y with
  | .bl a, .bl b => Q (.bl (!decide (a = b))) m
  | x, .non => Q (.bl (!x.isNon)) m
  | _, _ => False
theorem isNon_of {K : PySem.W.Frag} {H : Hp} {d : D} {v : V} (r : Rep K H d v) : decide (v = V.non) = d.isNon := by
  cases d with
  | non => rw [show v = .non from r]; rfl
  | bl _ => rw [show v = .bl _ from r]; rfl
  | int _ => rw [show v = .int _ from r]; rfl
  | str _ => rw [show v = .str _ from r]; rfl
  | ty _ => rw [show v = .ty _ from r]; rfl
  | ref _ => rw [show v = .ref _ from r]; rfl
  | tup _ => obtain ⟨a, xs, e, _⟩ := r; rw [e]; rfl
  | fls _ => obtain ⟨a, xs, e, _⟩ := r; rw [e]; rfl
theorem is_go {op : CmpOp} {n : Bool → Bool} (h1 : OpR X (compareOp op) fun x y H Q => ∃ a b : Bool, x = .bl a ∧ y = .bl b ∧ Q (.bl (n (decide (a = b)))) H)
    (h2 : OpR X (compareOp op) fun x y H Q => y = .non ∧ Q (.bl (n (decide (x = .non)))) H) : OpR X (compareOp op) (lR2 X.K fun x y m Q => match x, y with
  | .bl a, .bl b => Q (.bl (n (decide (a = b)))) m
  | x, .non => Q (.bl (n x.isNon)) m
  | _, _ => False) := by
  intro pins s σ H x y v u Q I rx ry ⟨d1, d2, m, P, r1, r2, rM, h, q⟩
  have non : d2 = .non → P (.bl (n d1.isNon)) m → wpAny (model X.prog X.w) X.A (compareOp op v u) (EP X pins σ Q) X.xe s := fun e p => by
    subst e
    refine h2 pins s σ H x y v u Q I rx ry ⟨r2, ?_⟩
    rw [isNon_of r1]
    exact q _ m p _ H (Tx.refl H) rfl rM
  cases d2 with
  | bl b => cases d1 with
    | bl a => exact h1 pins s σ H x y v u Q I rx ry ⟨a, b, r1, r2, q _ m h _ H (Tx.refl H) rfl rM⟩
    | _ => exact h.elim
  | non => exact non rfl (by cases d1 <;> exact h)
  | _ => cases d1 <;> exact h.elim
theorem o_is : OpR X (compareOp .Is) (lR2 X.K rIsA) := is_go (n := id) op_isBl op_isN
theorem o_isNot : OpR X (compareOp .IsNot) (lR2 X.K rIsNotA) := is_go (n := not) op_notBl op_notN
/-! ### len, int, tuple, list .. -/
def lenD (m : M) : D → Option Nat
  | .tup ds => some ds.length
  | .fls ds => some ds.length
  | .str x => if x.length ≤ big then some x.length else none
  | .ref a => (m.l a).map List.length
  | _ => none
def rLenA : ARL := fun ds m Q => match ds with
  | [d] => (match lenD m d with
    | some n => Q (.int (n : Int)) m
    | none => False)
  | _ => False
theorem reps1 {K : PySem.W.Frag} {H : Hp} {d : D} {vs : List V} (r : Reps K H [d] vs) : ∃ v, vs = [v] ∧ Rep K H d v := by
  obtain ⟨v, r, e, rv, e2⟩ := r
  obtain rfl : r = [] := e2
  exact ⟨v, e, rv⟩
theorem reps2 {K : PySem.W.Frag} {H : Hp} {d d' : D} {vs : List V} (r : Reps K H [d, d'] vs) : ∃ v v', vs = [v, v'] ∧ Rep K H d v ∧ Rep K H d' v' := by
  obtain ⟨v, r, e, rv, r2⟩ := r
  obtain ⟨v', e2, rv'⟩ := reps1 r2
  subst e2
  exact ⟨v, v', e, rv, rv'⟩
theorem c_len : CallR X (.builtin "len") (lRL X.K rLenA) := by
  intro pins s σ H xs us Q I r ⟨ds, m, P, rs, rM, h, q⟩
  match ds, h, rs with
  | [d], h, rs =>
    obtain ⟨v, rfl, rv⟩ := reps1 rs
    have h' : (match lenD m d with | some n => P (.int (n : Int)) m | none => False) := h
    have go : ∀ n : Nat, LenV X.K v H n → P (.int (n : Int)) m → wpAny (model X.prog X.w) X.A (call (.builtin "len") us) (EP X pins σ Q) X.xe s := fun n ln p => call_len pins s σ H [v] us Q I r ⟨v, n, rfl, ln, q _ m p _ H (Tx.refl H) rfl rM⟩
    cases d with
    | tup es => obtain ⟨a, zs, e, hs, hr⟩ := rv; subst e; exact go _ (.inr ⟨zs, hs, hr.length⟩) h'
    | fls es => obtain ⟨a, zs, e, hs, hr⟩ := rv; subst e; exact go _ (.inl ⟨zs, hs.sq, hr.length⟩) h'
    | str z =>
      obtain rfl : v = .str z := rv
      have h2 : (match (if z.length ≤ big then some z.length else none) with | some n => P (.int (n : Int)) m | none => False) := h'
      by_cases c : z.length ≤ big
      · rw [if_pos c] at h2; exact go _ ⟨big_line c, rfl⟩ h2
      · rw [if_neg c] at h2; exact h2.elim
    | ref a =>
      have h2 : (match (m.l a).map List.length with | some n => P (.int (n : Int)) m | none => False) := h'
      cases e : m.l a with
      | none => rw [e] at h2; exact h2.elim
      | some es =>
        rw [e] at h2
        have h' : P (.int (es.length : Int)) m := h2
        obtain ⟨zs, hz, hr⟩ := rM a _ (M.l_of e)
        obtain rfl : v = .ref a := rv
        exact go _ (.inl ⟨zs, SqL.of hz, hr.length⟩) h'
    | _ => exact h'.elim
def rIntA : ARL := fun ds m Q => match ds with
  | [.int i] => Q (.int i) m
  | [.bl k] => Q (.int (if k then 1 else 0)) m
  | _ => False
theorem c_int : CallR X (.type "int") (lRL X.K rIntA) := by
  intro pins s σ H xs us Q I r ⟨ds, m, P, rs, rM, h, q⟩
  match ds, h, rs with
  | [.int i], h, rs =>
    obtain ⟨v, rfl, rv⟩ := reps1 rs
    exact call_int1 pins s σ H [v] us Q I r (.inl ⟨i, by rw [show v = .int i from rv], q _ m h _ H (Tx.refl H) rfl rM⟩)
  | [.bl k], h, rs =>
    obtain ⟨v, rfl, rv⟩ := reps1 rs
    exact call_int1 pins s σ H [v] us Q I r (.inr ⟨k, by rw [show v = .bl k from rv], q _ m h _ H (Tx.refl H) rfl rM⟩)
def rTupleA : ARL := fun ds m Q => match ds with
  | [.tup es] => Q (.tup es) m
  | [.fls es] => Q (.tup es) m
  | [.ref a] => (match m.l a with
    | some es => Q (.tup es) m
    | none => False)
  | _ => False
theorem c_tuple : CallR X (.type "tuple") (lRL X.K rTupleA) := by
  intro pins s σ H xs us Q I r ⟨ds, m, P, rs, rM, h, q⟩
  match ds, h, rs with
  | [.tup es], h, rs =>
    obtain ⟨v, rfl, a, zs, e, hs, hr⟩ := reps1 rs
    subst e
    exact call_tuple_of pins s σ H _ us Q I r ⟨a, zs, rfl, .inr ⟨hs, q _ m h _ H (Tx.refl H) ⟨a, zs, rfl, hs, hr⟩ rM⟩⟩
  | [.fls es], h, rs =>
    obtain ⟨v, rfl, a, zs, e, hs, hr⟩ := reps1 rs
    subst e
    exact call_tuple_of pins s σ H _ us Q I r ⟨a, zs, rfl, .inl ⟨hs.sq, fun p hp => q _ m h _ _ (Tx.new hp) ⟨p, zs, rfl, SqT.of upd_same, hr.mono (Tx.new hp)⟩ (rM.grow hp)⟩⟩
  | [.ref a], h, rs =>
    obtain ⟨v, rfl, rv⟩ := reps1 rs
    have h' : (match m.l a with | some es => P (.tup es) m | none => False) := h
    cases e : m.l a with
    | none => rw [e] at h'; exact h'.elim
    | some es =>
      rw [e] at h'
      obtain ⟨zs, hz, hr⟩ := rM a _ (M.l_of e)
      exact call_tuple_of pins s σ H _ us Q I r ⟨a, zs, by rw [show v = .ref a from rv], .inl ⟨SqL.of hz, fun p hp => q _ m h' _ _ (Tx.new hp) ⟨p, zs, rfl, SqT.of upd_same, hr.mono (Tx.new hp)⟩ (rM.grow hp)⟩⟩
def itemsD (m : M) : D → Option (List D)
  | .tup ds => some ds
  | .fls ds => some ds
  | .ref a => m.l a
  | _ => none
def rListA : ARL := fun ds m Q => match ds with
  | [d] => (match itemsD m d with
    | some es => ∀ p, m p = none → Q (.ref p) (mset m p (.lst es))
    | none => False)
  | _ => False
theorem items_of {K : PySem.W.Frag} {H : Hp} {m : M} {d : D} {es : List D} {v : V} (rM : RelM K H m) (e : itemsD m d = some es) (r : Rep K H d v) : ∃ a xs, v = .ref a ∧ (SqL K H a xs ∨ SqT K H a xs) ∧ Reps K H es xs := by
  cases d with
  | tup ds => cases e; obtain ⟨a, xs, ev, hs, hr⟩ := r; exact ⟨a, xs, ev, .inr hs, hr⟩
  | fls ds => cases e; obtain ⟨a, xs, ev, hs, hr⟩ := r; exact ⟨a, xs, ev, .inl hs.sq, hr⟩
  | ref a => obtain ⟨xs, hx, hr⟩ := rM a _ (M.l_of e); exact ⟨a, xs, r, .inl (SqL.of hx), hr⟩
  | _ => cases e
theorem c_list : CallR X (.type "list") (lRL X.K rListA) := by
  intro pins s σ H xs us Q I r ⟨ds, m, P, rs, rM, h, q⟩
  match ds, h, rs with
  | [d], h, rs =>
    obtain ⟨v, rfl, rv⟩ := reps1 rs
    have h' : (match itemsD m d with | some es => ∀ p, m p = none → P (.ref p) (mset m p (.lst es)) | none => False) := h
    cases e : itemsD m d with
    | none => rw [e] at h'; exact h'.elim
    | some es =>
      rw [e] at h'
      obtain ⟨a, zs, ev, hs, hr⟩ := items_of rM e rv
      subst ev
      exact call_list_of pins s σ H _ us Q I r ⟨a, zs, rfl, hs, fun p hp => q _ _ (h' p (rM.free hp)) _ _ (Tx.new hp) rfl (rM.newL hp hr)⟩
def rMinA : ARL := fun ds m Q => match ds with
  | [.int i, .int j] => Q (.int (if j < i then j else i)) m
  | _ => False
def rMaxA : ARL := fun ds m Q => match ds with
  | [.int i, .int j] => Q (.int (if j > i then j else i)) m
  | _ => False
theorem c_min (hc : X.calm = true) : CallR X (.builtin "min") (lRL X.K rMinA) := by
  intro pins s σ H xs us Q I r ⟨ds, m, P, rs, rM, h, q⟩
  match ds, h, rs with
  | [.int i, .int j], h, rs =>
    obtain ⟨v, w, rfl, rv, rw'⟩ := reps2 rs
    exact call_min2 hc pins s σ H _ us Q I r ⟨i, j, by rw [show v = .int i from rv, show w = .int j from rw'], q _ m h _ H (Tx.refl H) rfl rM⟩
theorem c_max (hc : X.calm = true) : CallR X (.builtin "max") (lRL X.K rMaxA) := by
  intro pins s σ H xs us Q I r ⟨ds, m, P, rs, rM, h, q⟩
  match ds, h, rs with
  | [.int i, .int j], h, rs =>
    obtain ⟨v, w, rfl, rv, rw'⟩ := reps2 rs
    exact call_max2 hc pins s σ H _ us Q I r ⟨i, j, by rw [show v = .int i from rv, show w = .int j from rw'], q _ m h _ H (Tx.refl H) rfl rM⟩
/-! ### isinstance with a built-in class, with a tuple of them -/
inductive Ty where
  | non | bool | int | str | tuple | list | dict
  deriving DecidableEq
def Ty.n : Ty → String
  | .non => "NoneType" | .bool => "bool" | .int => "int" | .str => "str" | .tuple => "tuple" | .list => "list" | .dict => "dict"
def Ty.sub (a b : Ty) : Bool := decide (a = b) || (decide (a = .bool) && decide (b = .int))
theorem kit_ty' {K : PySem.W.Frag} (a b : Ty) : PySem.W.kitOne K (.type a.n) (.type b.n) = some (a.sub b) := by
  refine kit_ty ?_
  cases a <;> cases b <;> decide +kernel
def tyD (m : M) : D → Option Ty
  | .non => some .non
  | .bl _ => some .bool
  | .int _ => some .int
  | .str _ => some .str
  | .tup _ => some .tuple
  | .fls _ => some .list
  | .ref a => if (m.l a).isSome then some .list else (match m a with | some (.dic _) => some .dict | _ => none)
  | .ty _ => none
theorem sqT_ty {K : PySem.W.Frag} {H : Hp} {a : Addr} {xs : List V} (h : SqT K H a xs) : TyX K H (.ref a) (.type "tuple") := by
  rcases h with (h | ⟨o, h⟩) | ⟨o, _, _, h, c, _⟩
  · exact .base (.tup h)
  · exact .fTuple h
  · exact .kTuple h c
theorem frL_ty {K : PySem.W.Frag} {H : Hp} {a : Addr} {xs : List V} (h : FrL K H a xs) : TyX K H (.ref a) (.type "list") := by
  rcases h with ⟨o, h⟩ | ⟨o, _, _, h, c, _⟩
  · exact .base (.frz h)
  · exact .kList h c
theorem ty_of {K : PySem.W.Frag} {H : Hp} {m : M} {d : D} {t : Ty} {v : V} (rM : RelM K H m) (e : tyD m d = some t) (r : Rep K H d v) : TyX K H v (.type t.n) := by
  cases d with
  | non => cases e; rw [show v = .non from r]; exact .base .non
  | bl b => cases e; rw [show v = .bl b from r]; exact .base (.bl b)
  | int b => cases e; rw [show v = .int b from r]; exact .base (.int b)
  | str b => cases e; rw [show v = .str b from r]; exact .base (.str b)
  | tup ds => cases e; obtain ⟨a, xs, ev, hs, hr⟩ := r; rw [ev]; exact sqT_ty hs
  | fls ds => cases e; obtain ⟨a, xs, ev, hs, hr⟩ := r; rw [ev]; exact frL_ty hs
  | ref a =>
    have e' : (if (m.l a).isSome then some Ty.list else (match m a with | some (.dic _) => some .dict | _ => none)) = some t := e
    cases q : m.l a with
    | none =>
      rw [q] at e'
      replace e' : (match m a with | some (.dic _) => some Ty.dict | _ => none) = some t := by simpa using e'
      cases q2 : m a with
      | none => rw [q2] at e'; cases e'
      | some ob =>
        rw [q2] at e'
        cases ob with
        | dic ps =>
          cases e'
          obtain ⟨l, hl, _⟩ := rM a _ q2
          rw [show v = .ref a from r]
          exact .base (.dK hl)
        | _ => cases e'
    | some es =>
      rw [q] at e'
      have e2 : t = .list := by simpa using e'.symm
      subst e2
      obtain ⟨xs, hx, hr⟩ := rM a _ (M.l_of q)
      rw [show v = .ref a from r]
      exact .base (.lst hx)
  | ty n => cases e
def aIsi (c : Ty) (ta : AE) : AE := fun e m Q R => ta e m (fun d m1 => match tyD m1 d with
  | some t => Q (.bl (t.sub c)) m1
  | none => False) R
def aIsi2 (c c' : Ty) (ta : AE) : AE := fun e m Q R => ta e m (fun d m1 => match tyD m1 d with
  | some t => Q (.bl (t.sub c || t.sub c')) m1
  | none => False) R
theorem g_isi (c : Ty) {a : Expr} {y : Str} {ta : AE} {p p2 pos : Pos} (ha : GE X W a ta) (hm : X.mg "isinstance" = none) (hmy : X.mg y = none) (hv : bootBuiltins y = some (.type c.n)) (hg : Gl X "isinstance" := by rfl) (hgy : Gl X y := by rfl) (hn : y ≠ "__name__" := by decide) (hd : (y == ("__debug__" : Str)) = false := by decide)
    (hb : bootBuiltins "isinstance" = some (.builtin "isinstance") := by decide +kernel) (he : starEach [a, .Name y p2] X.env = (false, eval a X.env) :: starEach [.Name y p2] X.env := by rfl) (he2 : starEach [.Name y p2] X.env = (false, eval (.Name y p2) X.env) :: starEach [] X.env := by rfl) (hpl : (backTo pos (starEach [.Name y p2] X.env)).any (·.1) = false := by rfl) :
    GE X W (.Call (.Name "isinstance" p) [a, .Name y p2] [] pos) (aIsi c ta) := pe_imp (pe_callB call_isi hg hm hb (pa_cons ha (pa_cons (pe_bltn (v := .ty c.n) hgy hmy hv rfl hn hd) pa_nil he2) he) (by decide) (by decide) he hpl) fun σ H Q h => by
  obtain ⟨e, m, P, R, rE, rM, t, q, w⟩ := h
  refine ⟨e, m, _, R, rE, rM, t, fun d m1 h1 v H1 t1 r1 rm1 => ?_, w⟩
  have h1' : (match tyD m1 d with | some t => P (.bl (t.sub c)) m1 | none => False) := h1
  cases e1 : tyD m1 d with
  | none => rw [e1] at h1'; exact h1'.elim
  | some t =>
    rw [e1] at h1'
    exact ⟨v, .ty c.n, _, _, t.sub c, rfl, .ty c.n, ty_of rm1 e1 r1, kit_ty' t c, q _ m1 h1' _ H1 t1 rfl rm1⟩
theorem g_isi2 (c c' : Ty) {a : Expr} {y z : Str} {ta : AE} {p p2 p3 p4 pos : Pos} {k4} (ha : GE X W a ta) (hm : X.mg "isinstance" = none) (hmy : X.mg y = none) (hv : bootBuiltins y = some (.type c.n)) (hmz : X.mg z = none) (hvz : bootBuiltins z = some (.type c'.n)) (hg : Gl X "isinstance" := by rfl) (hgy : Gl X y := by rfl) (hgz : Gl X z := by rfl) (hn : y ≠ "__name__" := by decide) (hd : (y == ("__debug__" : Str)) = false := by decide) (hnz : z ≠ "__name__" := by decide) (hdz : (z == ("__debug__" : Str)) = false := by decide)
    (hb : bootBuiltins "isinstance" = some (.builtin "isinstance") := by decide +kernel) (he : starEach [a, .Tuple [.Name y p2, .Name z p3] k4 p4] X.env = (false, eval a X.env) :: starEach [.Tuple [.Name y p2, .Name z p3] k4 p4] X.env := by rfl)
    (he2 : starEach [.Tuple [.Name y p2, .Name z p3] k4 p4] X.env = (false, eval (.Tuple [.Name y p2, .Name z p3] k4 p4) X.env) :: starEach [] X.env := by rfl) (he3 : starEach [.Name y p2, .Name z p3] X.env = (false, eval (.Name y p2) X.env) :: starEach [.Name z p3] X.env := by rfl) (he4 : starEach [.Name z p3] X.env = (false, eval (.Name z p3) X.env) :: starEach [] X.env := by rfl)
    (hpl : (backTo pos (starEach [.Tuple [.Name y p2, .Name z p3] k4 p4] X.env)).any (·.1) = false := by rfl) :
    GE X W (.Call (.Name "isinstance" p) [a, .Tuple [.Name y p2, .Name z p3] k4 p4] [] pos) (aIsi2 c c' ta) := pe_imp (pe_callB call_isiT hg hm hb (pa_cons ha (pa_cons (pe_tup (pa_cons (pe_bltn (v := .ty c.n) hgy hmy hv rfl hn hd) (pa_cons (pe_bltn (v := .ty c'.n) hgz hmz hvz rfl hnz hdz) pa_nil he4) he3)) pa_nil he2) he) (by decide) (by decide) he hpl) fun σ H Q h => by
  obtain ⟨e, m, P, R, rE, rM, t, q, w⟩ := h
  refine ⟨e, m, _, R, rE, rM, t, fun d m1 h1 v H1 t1 r1 rm1 => ⟨by show 2 ≤ sizeLine; decide, fun tp htp => ?_⟩, w⟩
  have h1' : (match tyD m1 d with | some t => P (.bl (t.sub c || t.sub c')) m1 | none => False) := h1
  cases e1 : tyD m1 d with
  | none => rw [e1] at h1'; exact h1'.elim
  | some t =>
    rw [e1] at h1'
    refine ⟨v, tp, _, _, _, (t.sub c || t.sub c'), rfl, upd_same, .cons (.ty c.n) (.cons (.ty c'.n) .nil), ty_of (rm1.grow htp) e1 (r1.mono (Tx.new htp)), ?_, q _ m1 h1' _ _ (t1.trans (Tx.new htp)) rfl (rm1.grow htp)⟩
    refine kitAny_cons (kit_ty' t c) (fun hb => kitAny_cons (kit_ty' t c') (fun hb' => ?_) fun hb' => ?_) fun hb => ?_
    · rw [hb, hb']; exact kitAny_nil
    · rw [hb, hb']; rfl
    · rw [hb]; rfl
/-! ### subscripts -/
def rIxA : AR2 := fun x y m Q => match y with
  | .int i => (match x with
    | .str z => z.length ≤ big ∧ (match atI z.cps.toList i with
      | some c => Q (.str ⟨#[c]⟩) m
      | none => False)
    | x => (match itemsD m x with
      | some ds => (match atI ds i with
        | some d => Q d m
        | none => False)
      | none => False))
  | _ => False
theorem Reps.at {K : PySem.W.Frag} {H : Hp} {ds : List D} {vs : List V} {i : Int} {d : D} (r : Reps K H ds vs) (h : atI ds i = some d) : ∃ v, atI vs i = some v ∧ Rep K H d v := by
  unfold atI at h ⊢
  rw [← r.length]
  cases e : ixN ds.length i with
  | none => rw [e] at h; cases h
  | some j =>
    rw [e] at h
    obtain ⟨v, h1, h2⟩ := r.get (i := j) h
    exact ⟨v, h1, h2⟩
theorem x_any : IxR X (lR2 X.K rIxA) := by
  intro value slice pins s σ H x y v u Q I rx ry ⟨d1, d2, m, P, r1, r2, rM, h, q⟩ hs
  cases d2 with
  | int i =>
    obtain rfl : y = .int i := r2
    have gen : (match itemsD m d1 with | some ds => (match atI ds i with | some d => P d m | none => False) | none => False) → wpAny (model X.prog X.w) X.A (subscriptTail value slice v u) (EP X pins σ Q) X.xe s := fun h => by
      cases e1 : itemsD m d1 with
      | none => rw [e1] at h; exact h.elim
      | some ds =>
        rw [e1] at h
        cases e2 : atI ds i with
        | none => simp only [e2] at h
        | some d =>
          simp only [e2] at h
          obtain ⟨a, xs, ev, hq, hr⟩ := items_of rM e1 r1
          subst ev
          obtain ⟨z, hz, rz⟩ := hr.at e2
          rcases hq with hq | hq
          · exact ix_list value slice pins s σ H _ _ v u Q I rx ry ⟨a, xs, i, z, rfl, rfl, hq, hz, q d m h z H (Tx.refl H) rz rM⟩ hs
          · exact ix_tup value slice pins s σ H _ _ v u Q I rx ry ⟨a, xs, i, z, rfl, rfl, hq, hz, q d m h z H (Tx.refl H) rz rM⟩ hs
    cases d1 with
    | str z =>
      obtain rfl : x = .str z := r1
      have h' : z.length ≤ big ∧ (match atI z.cps.toList i with | some c => P (.str ⟨#[c]⟩) m | none => False) := h
      cases e2 : atI z.cps.toList i with
      | none => rw [e2] at h'; exact h'.2.elim
      | some c =>
        rw [e2] at h'
        exact ix_str value slice pins s σ H _ _ v u Q I rx ry ⟨z, i, c, rfl, rfl, big_line h'.1, e2, q _ m h'.2 _ H (Tx.refl H) rfl rM⟩ hs
    | _ => exact gen h
  | _ => exact h.elim
def cutD (xs : List D) (lo hi : Option Int) : List D := (xs.drop (HT.sIx xs.length 0 lo)).take (HT.sIx xs.length xs.length hi - HT.sIx xs.length 0 lo)
theorem Reps.cut {K : PySem.W.Frag} {H : Hp} {ds : List D} {vs : List V} {lo hi : Option Int} (r : Reps K H ds vs) : Reps K H (cutD ds lo hi) (cutV vs lo hi) := by
  unfold cutD cutV
  rw [r.length]
  exact (r.drop _).take _
def rSlA : ARS := fun x lo hi m Q => match x with
  | .tup ds => Q (.tup (cutD ds lo hi)) m
  | .fls ds => ∀ p, m p = none → Q (.ref p) (mset m p (.lst (cutD ds lo hi)))
  | .ref a => (match m.l a with
    | some ds => ∀ p, m p = none → Q (.ref p) (mset m p (.lst (cutD ds lo hi)))
    | none => False)
  | _ => False
theorem sl_any : SlR X (lRS X.K rSlA) := by
  intro pins s σ H x v vl vu lo hi sl Q I rx hs pl pu ⟨d, m, P, r, rM, h, q⟩
  cases d with
  | tup ds =>
    obtain ⟨a, xs, ev, hq, hr⟩ := r
    refine sl_tupA pins s σ H x v vl vu lo hi sl Q I rx hs pl pu ⟨a, xs, ev, hq, fun hw => ?_, fun hw p hp => ?_⟩
    · refine q _ m h _ H (Tx.refl H) ⟨a, xs, rfl, hq, ?_⟩ rM
      have := hr.cut (lo := lo) (hi := hi)
      have e : cutV xs lo hi = xs := by
        unfold cutV
        rw [hw.1, hw.2]
        simp
      rw [e] at this
      exact this
    · exact q _ m h _ _ (Tx.new hp) ⟨p, _, rfl, SqT.of upd_same, hr.cut.mono (Tx.new hp)⟩ (rM.grow hp)
  | fls ds =>
    obtain ⟨a, xs, ev, hq, hr⟩ := r
    exact sl_list pins s σ H x v vl vu lo hi sl Q I rx hs pl pu ⟨a, xs, ev, hq.sq, fun p hp => q _ _ (h p (rM.free hp)) _ _ (Tx.new hp) rfl (rM.newL hp hr.cut)⟩
  | ref a =>
    have h' : (match m.l a with | some ds => ∀ p, m p = none → P (.ref p) (mset m p (.lst (cutD ds lo hi))) | none => False) := h
    cases e : m.l a with
    | none => rw [e] at h'; exact h'.elim
    | some ds =>
      rw [e] at h'
      obtain ⟨xs, hx, hr⟩ := rM a _ (M.l_of e)
      exact sl_list pins s σ H x v vl vu lo hi sl Q I rx hs pl pu ⟨a, xs, r, SqL.of hx, fun p hp => q _ _ (h' p (rM.free hp)) _ _ (Tx.new hp) rfl (rM.newL hp hr.cut)⟩
  | _ => exact h.elim
/-- o[i] = v -/
def aSubL (to ti : AE) : AG := fun v e m Q => to e m (fun o m1 => ti e m1 (fun i m2 => match o, i with
  | .ref a, .int k => (match m2.l a with
    | some ds => (match ixN ds.length k with
      | some j => Q e (mset m2 a (.lst (ds.set j v)))
      | none => False)
    | none => False)
  | _, _ => False) fun _ _ => False) fun _ _ => False
theorem t_sub {o i : Expr} {to ti : AE} {pos : Pos} (ho : GE X W0 o to) (hi : GE X W0 i ti)
    (ha : ∀ v, assign (.Subscript o i pos) X.env v = (do
      let ov ← holding [v] (eval o X.env)
      let iv ← holding [v, ov] (eval i X.env)
      standAt pos
      holding [v, ov, iv] (setItem ov iv v)
      release [v, ov, iv] []) := by intro _; rfl) : GG X (.Subscript o i pos) (aSubL to ti) := pg_imp (pg_sub ho hi set_list ha) fun v σ H Q h => by
  obtain ⟨d, e, m, P, r, rE, rM, t, q⟩ := h
  refine ⟨e, m, _, _, rE, rM, t, fun d1 m1 h1 x1 H1 t1 r1 rm1 => ?_, wok0⟩
  refine ⟨e, m1, _, _, rE.mono t1, rm1, h1, fun d2 m2 h2 x2 H2 t2 r2 rm2 => ?_, wok0⟩
  cases d1 with
  | ref a => cases d2 with
    | int k =>
      have h2' : (match m2.l a with | some ds => (match ixN ds.length k with | some j => P e (mset m2 a (.lst (ds.set j d))) | none => False) | none => False) := h2
      cases e1 : m2.l a with
      | none => rw [e1] at h2'; exact h2'.elim
      | some ds =>
        rw [e1] at h2'
        cases e2 : ixN ds.length k with
        | none => simp only [e2] at h2'
        | some j =>
          simp only [e2] at h2'
          obtain ⟨xs, hx, hr⟩ := rm2 a _ (M.l_of e1)
          have tm : Tx H2 (upd H2 a (.lst (xs.set j v))) := Tx.mut hx trivial
          exact ⟨a, xs, k, j, r1, r2, hx, by rw [← hr.length]; exact e2, q e _ h2' σ _ ((t1.trans t2).trans tm) (rE.mono ((t1.trans t2).trans tm)) (rm2.putL hx (hr.set j (r.mono (t1.trans t2))))⟩
    | _ => exact h2.elim
  | _ => cases d2 <;> exact h2.elim
/-- xs.append(v) -/
def aApp (to ta : AE) : AE := fun e m Q R => to e m (fun o m1 => match o with
  | .ref a => (match m1.l a with
    | some _ => ta e m1 (fun d m2 => match m2.l a with
      | some ds => ds.length < big ∧ Q .non (mset m2 a (.lst (ds ++ [d])))
      | none => False) R
    | none => False)
  | _ => False) R
theorem g_app {o a : Expr} {to ta : AE} {apos cpos : Pos} (ho : GE X W o to) (ha : GE X W a ta) (hbase : attributeBase o "append" X.env (eval o X.env) = eval o X.env := by rfl)
    (hfew : ((backTo cpos (starEach [a] X.env)).all (fun x => !x.1) && (backToKw cpos (keywordEach [] X.env)).all (fun x => x.1.isSome)
      && decide ([a].length + ([] : List Keyword).length + (if ([] : List Keyword).isEmpty then 0 else 1) < 30)) = true := by rfl)
    (hline : (apos.endLine == cpos.line) = true := by rfl) (hs : starEach [a] X.env = (false, eval a X.env) :: starEach [] X.env := by rfl) (hplain : (backTo cpos (starEach [] X.env)).any (·.1) = false := by rfl) :
    GE X W (.Call (.Attribute o "append" apos) [a] [] cpos) (aApp to ta) := pe_imp (pe_bm PySem.F.plainAttrs_list PySem.F.slot_list_append PySem.F.type_list_append mt_append ho (pa_cons ha pa_nil hs) hbase hfew hline hs hplain) fun σ H Q h => by
  obtain ⟨e, m, P, R, rE, rM, t, q, w⟩ := h
  refine ⟨e, m, _, R, rE, rM, t, fun d m1 h1 v H1 t1 r1 rm1 => ?_, w⟩
  cases d with
  | ref b =>
    obtain rfl : v = .ref b := r1
    have h1' : (match m1.l b with | some _ => ta e m1 (fun d m2 => match m2.l b with | some ds => ds.length < big ∧ P .non (mset m2 b (.lst (ds ++ [d]))) | none => False) R | none => False) := h1
    cases e1 : m1.l b with
    | none => rw [e1] at h1'; exact h1'.elim
    | some ds1 =>
      rw [e1] at h1'
      obtain ⟨xs1, hx1, _⟩ := rm1 b _ (M.l_of e1)
      refine ⟨.inl ⟨rfl, _, SqL.of hx1⟩, e, m1, _, R, rE.mono t1, rm1, h1', fun d2 m2 h2 v2 H2 t2 r2 rm2 => ?_, w.mono t1⟩
      have h2' : (match m2.l b with | some ds => ds.length < big ∧ P .non (mset m2 b (.lst (ds ++ [d2]))) | none => False) := h2
      cases e2 : m2.l b with
      | none => rw [e2] at h2'; exact h2'.elim
      | some ds =>
        rw [e2] at h2'
        obtain ⟨xs, hx, hr⟩ := rm2 b _ (M.l_of e2)
        exact ⟨b, xs, v2, rfl, rfl, hx, by rw [← hr.length]; exact big_lt h2'.1, q _ _ h2'.2 _ _ ((t1.trans t2).trans (Tx.mut hx trivial)) rfl (rm2.putL hx (hr.append (show Reps X.K H2 [d2] [v2] from ⟨v2, [], rfl, r2, rfl⟩)))⟩
  | _ => exact h1.elim
/-- tuple(reversed(e)), e a list -/
def aTupRev (te : AE) : AE := fun e m Q R => te e m (fun d m1 => match d with
  | .ref a => (match m1.l a with
    | some ds => Q (.tup ds.reverse) m1
    | none => False)
  | _ => False) R
theorem g_tupRev {e : Expr} {te : AE} {p p2 pos pos2 : Pos} (hc : X.calm = true) (hm : X.mg "tuple" = none) (hm2 : X.mg "reversed" = none) (he : GE X W e te) (hg : Gl X "tuple" := by rfl) (hg2 : Gl X "reversed" := by rfl)
    (hs : starEach [e] X.env = (false, eval e X.env) :: starEach [] X.env := by rfl)
    (hs2 : starEach [.Call (.Name "reversed" p2) [e] [] pos2] X.env = (false, eval (.Call (.Name "reversed" p2) [e] [] pos2) X.env) :: starEach [] X.env := by rfl) :
    GE X W (.Call (.Name "tuple" p) [.Call (.Name "reversed" p2) [e] [] pos2] [] pos) (aTupRev te) := pe_imp (RT.pe_tupRev hc hg hm hg2 hm2 he hs hs2) fun σ H Q h => by
  obtain ⟨e, m, P, R, rE, rM, t, q, w⟩ := h
  refine ⟨e, m, _, R, rE, rM, t, fun d m1 h1 v H1 t1 r1 rm1 => ?_, w⟩
  cases d with
  | ref b =>
    have h1' : (match m1.l b with | some ds => P (.tup ds.reverse) m1 | none => False) := h1
    cases e1 : m1.l b with
    | none => rw [e1] at h1'; exact h1'.elim
    | some ds =>
      rw [e1] at h1'
      obtain ⟨xs, hx, hr⟩ := rm1 b _ (M.l_of e1)
      exact ⟨b, xs, r1, SqL.of hx, fun p hp => q _ m1 h1' _ _ (t1.trans (Tx.new hp)) ⟨p, _, rfl, SqT.of upd_same, hr.reverse.mono (Tx.new hp)⟩ (rm1.grow hp)⟩
  | _ => exact h1.elim
/-! ### defs -/
/-- what a body leaves to its caller: it may forget what the store tells -/
def aDef (n : Nat) (b : AS) : ASp := fun ds m Q R => b { nx := fun _ m' => ∃ m2, Sub m2 m' ∧ Q .non m2, rt := fun d m' => ∃ m2, Sub m2 m' ∧ Q d m2, xe := fun _ x m' => ∃ m2, Sub m2 m' ∧ R x m2 } (eStart n ds) m
end
section
variable {P : Program} {w : World} {K : PySem.W.Frag} {mg : Str → Option Value} {base : Heap} {x qual : Str} {params : Arguments} {body : List Stmt} {scope : Scope} {f : Addr} {fd : FuncData} {N ps : List Str} {k n : Nat} {b : AS}
abbrev WD (E : XK) : WX := fun cls d _ H => E cls d H
theorem ok_def (F : FunD K x qual params body scope [] [] f fd) (S : FnScope N ps scope) (hn : ps.length = n)
    (hb : ∀ (cdv : Value) (A : Around) (outer : List Env) (s : Shared) (H : Hp) (E : XK), Room k (A.deeper (envOfC qual scope s.heap.objs.size f cdv)) → GSs (cxOf (L2.CX P w) P w K mg base N qual scope f cdv A outer s H E) (WD E) body b) :
    FnOk P w K mg base (L2.CX P w) (k + 1) f fd ps (lSp K n (aDef N.length b)) := by
  refine F.ok S (fun vs H Q E h => ?_) (fun cdv A outer s H vs Q E hr h => ⟨_, hb cdv A outer s H E hr, ?_⟩)
  · obtain ⟨ds, m, P', R, e, r, _⟩ := h
    rw [← r.length, e, hn]
  · obtain ⟨ds, m, P', R, e, r, rM, t, q, w'⟩ := h
    refine ⟨_, m, _, RelE.start r, rM, t, ⟨fun e' m' h σ' H' t' rE rM' => ?_, fun d m' h v H' t' rv rM' => ?_, fun _ _ h => h.elim, fun _ _ h => h.elim, fun e' σ' H' t' rE => ⟨fun x' m' h cls dd H2 t2 xr rM2 => ?_⟩⟩⟩
    · obtain ⟨m2, s2, h⟩ := h
      exact q .non m2 h .non H' t' rfl (rM'.sub s2)
    · obtain ⟨m2, s2, h⟩ := h
      exact q d m2 h v H' t' rv (rM'.sub s2)
    · obtain ⟨m2, s2, h⟩ := h
      exact w'.go x' m2 h cls dd H2 (t'.trans t2) xr (rM2.sub s2)
end
end Ab

set_option Elab.async false
set_option linter.all false
set_option maxRecDepth 100000
set_option maxHeartbeats 4000000
namespace Ab
open PySem PySem.Spec PyProof.Rows L2
/-- what is known of an item's class -/
def Kn (h : Heap) (u : Value) : Ty → Prop
  | .non => u = .none
  | .bool => ∃ b, u = .bool b
  | .int => ∃ n t, u = .int n t
  | .str => ∃ x t, u = .str x t
  | .tuple => ∃ a, u = .ref a ∧ PySem.W.KitAt a "tuple" h
  | .list => ∃ a, u = .ref a ∧ PySem.W.KitAt a "list" h
  | .dict => ∃ a, u = .ref a ∧ PySem.W.KitAt a "dict" h
theorem Kn.kit {K : PySem.W.Frag} {h : Heap} {u : Value} : ∀ {t : Ty}, Kn h u t → ∃ P : Heap → Prop, PySem.W.KitX K u (.type t.n) P ∧ P h ∧ u ≠ .builtin "__main__.__loader__#opaque"
  | .non, k => by rw [show u = .none from k]; exact ⟨_, PySem.W.kitx_none, trivial, fun z => nomatch z⟩
  | .bool, ⟨b, e⟩ => by rw [e]; exact ⟨_, PySem.W.kitx_bool, trivial, fun z => nomatch z⟩
  | .int, ⟨n, t, e⟩ => by rw [e]; exact ⟨_, PySem.W.kitx_int, trivial, fun z => nomatch z⟩
  | .str, ⟨n, t, e⟩ => by rw [e]; exact ⟨_, PySem.W.kitx_str, trivial, fun z => nomatch z⟩
  | .tuple, ⟨a, e, k⟩ => by rw [e]; exact ⟨_, PySem.W.kitx_tuple, k, fun z => nomatch z⟩
  | .list, ⟨a, e, k⟩ => by rw [e]; exact ⟨_, PySem.W.kitx_list, k, fun z => nomatch z⟩
  | .dict, ⟨a, e, k⟩ => by rw [e]; exact ⟨_, PySem.W.kitx_dict, k, fun z => nomatch z⟩
theorem Kn.keep {h h' : Heap} {u : Value} (k : ∀ a o n, u = .ref a → h.get? a = some o → o.cls = .type n → h'.get? a = some o) : ∀ {t : Ty}, Kn h u t → Kn h' u t
  | .non, z => z
  | .bool, z => z
  | .int, z => z
  | .str, z => z
  | .tuple, ⟨a, e, o, h1, h2⟩ => ⟨a, e, o, k a o _ e h1 h2, h2⟩
  | .list, ⟨a, e, o, h1, h2⟩ => ⟨a, e, o, k a o _ e h1 h2, h2⟩
  | .dict, ⟨a, e, o, h1, h2⟩ => ⟨a, e, o, k a o _ e h1 h2, h2⟩
theorem kn_of {X : Cx} {pins : List (Addr × Obj)} {σ : L2.St} {H : Hp} {s : Shared} {m : M} {d : D} {t : Ty} {v : V} {u : Value} (I : Inv X pins σ H s) (rM : RelM X.K H m) (e : tyD m d = some t) (r : Rep X.K H d v) (ru : RelV v u) : Kn s.heap u t := by
  cases d with
  | non => cases e; rw [show v = .non from r] at ru; exact ru
  | bl b => cases e; rw [show v = .bl b from r] at ru; exact ⟨b, ru⟩
  | int b => cases e; rw [show v = .int b from r] at ru; obtain ⟨t, h⟩ := ru; exact ⟨b, t, h⟩
  | str b => cases e; rw [show v = .str b from r] at ru; obtain ⟨t, h⟩ := ru; exact ⟨b, t, h⟩
  | tup ds =>
    cases e
    obtain ⟨a, xs, ev, hs, hr⟩ := r
    subst ev
    obtain ⟨its, _, ⟨o, h1, h2, _⟩, _⟩ := I.tuple hs
    exact ⟨a, ru, o, h1, h2⟩
  | fls ds =>
    cases e
    obtain ⟨a, xs, ev, hs, hr⟩ := r
    subst ev
    obtain ⟨its, _, ⟨o, n, h1, h2, _⟩, _⟩ := I.list hs.sq
    exact ⟨a, ru, o, h1, h2⟩
  | ref a =>
    have e' : (if (m.l a).isSome then some Ty.list else (match m a with | some (.dic _) => some .dict | _ => none)) = some t := e
    cases q : m.l a with
    | none =>
      rw [q] at e'
      replace e' : (match m a with | some (.dic _) => some Ty.dict | _ => none) = some t := by simpa using e'
      cases q2 : m a with
      | none => rw [q2] at e'; cases e'
      | some ob =>
        rw [q2] at e'
        cases ob with
        | dic ps =>
          cases e'
          obtain ⟨l, hl, _⟩ := rM a _ q2
          rw [show v = .ref a from r] at ru
          obtain ⟨_, _, vs, _, o, es, ep, h1, h2, _⟩ := I.hok a _ hl
          exact ⟨a, ru, o, h1, h2.1⟩
        | _ => cases e'
    | some es =>
      rw [q] at e'
      have e2 : t = .list := by simpa using e'.symm
      subst e2
      obtain ⟨xs, hx, hr⟩ := rM a _ (M.l_of q)
      rw [show v = .ref a from r] at ru
      obtain ⟨its, _, ⟨o, n, h1, h2, _⟩, _⟩ := I.list (SqL.of hx)
      exact ⟨a, ru, o, h1, h2⟩
  | ty n => cases e
/-- is_integer's answer -/
def isIntD (lo hi : Int) : D → Bool
  | .int i => decide (lo ≤ i) && decide (i ≤ hi)
  | _ => false
def ansV (lo hi : Int) : Value → Bool
  | .int n _ => decide (lo ≤ n) && decide (n ≤ hi)
  | _ => false
theorem ansV_of {K : PySem.W.Frag} {H : Hp} {d : D} {v : V} {u : Value} {lo hi : Int} (r : Rep K H d v) (ru : RelV v u) : isIntD lo hi d = ansV lo hi u := by
  cases d with
  | int i => rw [show v = .int i from r] at ru; obtain ⟨t, e⟩ := ru; rw [e]; rfl
  | non => rw [show v = .non from r] at ru; rw [show u = _ from ru]; rfl
  | bl b => rw [show v = .bl b from r] at ru; rw [show u = _ from ru]; rfl
  | str b => rw [show v = .str b from r] at ru; obtain ⟨t, e⟩ := ru; rw [e]; rfl
  | ty b => rw [show v = .ty b from r] at ru; rw [show u = _ from ru]; rfl
  | ref a => rw [show v = .ref a from r] at ru; rw [show u = _ from ru]; rfl
  | tup ds => obtain ⟨a, xs, e, _⟩ := r; rw [e] at ru; rw [show u = _ from ru]; rfl
  | fls ds => obtain ⟨a, xs, e, _⟩ := r; rw [e] at ru; rw [show u = _ from ru]; rfl
theorem mod_keeps {K : PySem.W.Frag} {mg : Str → Option Value} {h h' : Heap} (m : Mod K mg h) (k : ∀ b o, h.get? b = some o → h'.get? b = some o) : Mod K mg h' :=
  ⟨m.kin.keeps k, m.glob.keeps k, let ⟨mb, a, b⟩ := m.blt; ⟨mb, a.keeps k, b⟩, m.nolimit.keeps k⟩
section
variable {prog : Program} {w : World} {A : Around} {E : Value → Shared → Prop} {s : Shared} {K : PySem.W.Frag} {mg : Str → Option Value}
theorem ldL {env : Env} {m : Str → Option Value} {x : Str} {pos : Pos} {v : Value} {Q : Value → Shared → Prop} (hk : env.scope.kind = .function) (hn : s.heap.Ns env.locals m) (hv : m x = some v) (h : Q v s)
    (hl : env.kindOf x = some .local := by rfl) (hd : (x == ("__debug__" : Str)) = false := by decide) :
    wpAny (model prog w) A (eval (.Name x pos) env) Q E s := wpAny_Name (wpAny_loadName_local hk hl hn hv h) hd
theorem ldB {env : Env} {x : Str} {u : Value} {pos : Pos} {Q : Value → Shared → Prop} (M : Mod K mg s.heap) (hk : env.scope.kind = .function) (hG : env.globals = mainGlobals) (hB : env.builtins = builtinsNs) (hm : mg x = none) (hv : bootBuiltins x = some u) (h : Q u s)
    (hg : env.kindOf x = some .globalImplicit := by rfl) (hn : x ≠ "__name__" := by decide) (hd : (x == ("__debug__" : Str)) = false := by decide) : wpAny (model prog w) A (eval (.Name x pos) env) Q E s := by
  obtain ⟨mb, h1, h2⟩ := M.blt
  exact Calls.Name_function_global hk hg (Calls.loadGlobal_builtin (by rw [hG]; exact M.glob) hm (by rw [hB]; exact h1) ((h2 x hn).trans hv) h) hd
theorem ldF {env : Env} {x : Str} {u : Value} {pos : Pos} {Q : Value → Shared → Prop} (M : Mod K mg s.heap) (hk : env.scope.kind = .function) (hG : env.globals = mainGlobals) (hm : mg x = some u) (h : Q u s)
    (hg : env.kindOf x = some .globalImplicit) (hd : (x == ("__debug__" : Str)) = false := by decide) : wpAny (model prog w) A (eval (.Name x pos) env) Q E s :=
  Calls.Name_function_global hk hg (Calls.loadGlobal_global (by rw [hG]; exact M.glob) hm h) hd
/-- isinstance(x, T), x a local -/
theorem isi_low {env : Env} {m : Str → Option Value} {x y : Str} {p1 p2 p3 p4 : Pos} {v : Value} {t c : Ty} {Q : Value → Shared → Prop} (M : Mod K mg s.heap) (hk : env.scope.kind = .function) (hG : env.globals = mainGlobals) (hB : env.builtins = builtinsNs)
    (hi : mg "isinstance" = none) (hy : mg y = none) (hv : bootBuiltins y = some (.type c.n)) (hn : s.heap.Ns env.locals m) (hx : m x = some v) (k : Kn s.heap v t) (h : ∀ tk, Q (.bool (t.sub c)) { s with toks := tk })
    (hl : env.kindOf x = some .local := by rfl) (hgi : env.kindOf "isinstance" = some .globalImplicit := by rfl) (hgy : env.kindOf y = some .globalImplicit := by rfl) (hd : (x == ("__debug__" : Str)) = false := by decide) (hny : y ≠ "__name__" := by decide) (hdy : (y == ("__debug__" : Str)) = false := by decide) :
    wpAny (model prog w) A (eval (.Call (.Name "isinstance" p1) [.Name x p2, .Name y p3] [] p4) env) Q E s := by
  refine wpAny_Call_Name_kw (ldB M hk hG hB hi (show bootBuiltins "isinstance" = some (.builtin "isinstance") by decide +kernel) ?_ hgi)
  refine PyProof.Rows.callWith_builtin1 (args_cons (ldL hk hn hx ?_ hl hd))
  refine args_cons (ldB M hk hG hB hy hv (args_nil ?_) hgy hny hdy)
  obtain ⟨P, Z, p, hx'⟩ := k.kit (K := K)
  exact PySem.W.kia_one Z M.kin p (kit_ty' t c) hx' h

/-- the body of is_integer -/
def bodyInt (q1 q2 q3 q4 q5 q6 q7 q8 q9 qa qb qc qd qe qf : Pos) : List Stmt :=
  [.Return (some (.BoolOp .And [.Call (.Name "isinstance" q1) [.Name "value" q2, .Name "int" q3] [] q4,
    .UnaryOp .Not (.Call (.Name "isinstance" q5) [.Name "value" q6, .Name "bool" q7] [] q8) q9,
    .Compare (.Name "low" qa) [.LtE, .LtE] [.Name "value" qb, .Name "high" qc] qd] qe)) qf]
/-- a def that stands in K -/
structure DefIn (K : PySem.W.Frag) (name : Str) (params : Arguments) (body : List Stmt) (scope : Scope) (f : Addr) : Prop where
  ex : ∃ (oc : Value) (od : Option Addr) (dV kV doc pm : Value) (an : Option Addr) (cdv ct : Value) (osl : Array (Option Value)),
    K.lookup f = some ⟨oc, od, .func (PySem.W.fnOf name name params body scope dV kV doc pm an cdv ct), osl⟩ ∧ PySem.W.codeIn K cdv name = true
theorem isInt_call {f : Addr} {params : Arguments} {scope : Scope} {fd : FuncData} {q1 q2 q3 q4 q5 q6 q7 q8 q9 qa qb qc qd qe qf : Pos} {v : Value} {t : Ty} {d : D} {lo hi : Int} {t1 t2 : Tok} {Q : Value → Shared → Prop}
    (F : FunD K "is_integer" "is_integer" params (bodyInt q1 q2 q3 q4 q5 q6 q7 q8 q9 qa qb qc qd qe qf) scope [] [] f fd) (hb : Binds K fd ["value", "low", "high"] [])
    (k1 : scope.kind = .function) (k2 : scope.isCoroutine = false) (k3 : scope.isGenerator = false) (l1 : scope.names.lookup ("value" : Str) = some NameKind.local) (l2 : scope.names.lookup ("low" : Str) = some NameKind.local) (l3 : scope.names.lookup ("high" : Str) = some NameKind.local)
    (g1 : scope.names.lookup ("isinstance" : Str) = some NameKind.globalImplicit) (g2 : scope.names.lookup ("int" : Str) = some NameKind.globalImplicit) (g3 : scope.names.lookup ("bool" : Str) = some NameKind.globalImplicit)
    (M : Mod K mg s.heap) (hroom : A.depth < recursionLimit) (hisi : mg "isinstance" = none) (hint : mg "int" = none) (hbool : mg "bool" = none)
    (k : Kn s.heap v t) (hd : isIntD lo hi d = ansV lo hi v)
    (h : ∀ s', Keeps s s' → Q (.bool (isIntD lo hi d)) s') :
    wpAny (model prog w) A (call (.ref f) [v, .int lo t1, .int hi t2]) Q E s := by
  obtain ⟨oc, od, dV, kV, doc, pm, an, cdv, ct, osl, rfl, lk, hcd, _, _⟩ := F.ex
  have bt := hb s [v, .int lo t1, .int hi t2] M.kin rfl
  rw [List.append_nil] at bt
  refine wpAny_call (Att.call_fn (binds := [(("value" : Str), v), (("low" : Str), .int lo t1), (("high" : Str), .int hi t2)]) M.kin M.nolimit lk hcd hroom bt ?_ (fun s₁ IC => ?_) k2 k3 k1)
  · simp [List.all_cons, l1, l2, l3]
  obtain ⟨h₁, tk₁, rfl⟩ := IC.toInCall.same
  have kp : ∀ b o, s.heap.get? b = some o → h₁.get? b = some o := IC.toInCall.keep
  have hn := IC.toInCall.ns
  have ko : ∀ x, (envOfC "is_integer" scope s.heap.objs.size f cdv).kindOf x = scope.names.lookup x := fun _ => rfl
  have m1 : bindL (envOfC "is_integer" scope s.heap.objs.size f cdv).kindOf [(("value" : Str), v), (("low" : Str), Value.int lo t1), (("high" : Str), Value.int hi t2)] (fun _ => none) "value" = some v := by
    exact L2.bindL_get (P := ["value", "low", "high"]) (vs := [v, .int lo t1, .int hi t2]) (i := 0) (by decide) rfl rfl l1
  have m2 : bindL (envOfC "is_integer" scope s.heap.objs.size f cdv).kindOf [(("value" : Str), v), (("low" : Str), Value.int lo t1), (("high" : Str), Value.int hi t2)] (fun _ => none) "low" = some (.int lo t1) := by
    exact L2.bindL_get (P := ["value", "low", "high"]) (vs := [v, .int lo t1, .int hi t2]) (i := 1) (by decide) rfl rfl l2
  have m3 : bindL (envOfC "is_integer" scope s.heap.objs.size f cdv).kindOf [(("value" : Str), v), (("low" : Str), Value.int lo t1), (("high" : Str), Value.int hi t2)] (fun _ => none) "high" = some (.int hi t2) := by
    exact L2.bindL_get (P := ["value", "low", "high"]) (vs := [v, .int lo t1, .int hi t2]) (i := 2) (by decide) rfl rfl l3
  have M1 : Mod K mg h₁ := mod_keeps M kp
  have kn1 : Kn h₁ v t := k.keep fun a o _ _ e _ => kp a o e
  have fin : ∀ tk, Q (.bool (isIntD lo hi d)) { s with heap := h₁, toks := tk } := fun tk => h _ ⟨h₁, tk, rfl, kp⟩
  refine wpAny_execs_cons (wpAny_Return_some ?_)
  refine BoolOp_and (isi_low (c := .int) (t := t) (s := { s with heap := h₁, toks := tk₁ }) M1 k1 rfl rfl hisi hint (by decide +kernel) hn m1 kn1 (fun tk2 => wpAny_truthy_bool ?_) l1 g1 g2)
  by_cases c1 : t.sub .int = true
  · rw [c1]
    refine ite_tt ?_
    refine BoolOp_and (UnaryOp_ (isi_low (c := .bool) (t := t) (s := { s with heap := h₁, toks := tk2 }) M1 k1 rfl rfl hisi hbool (by decide +kernel) hn m1 kn1 (fun tk3 => not_of (wpAny_truthy_bool (wpAny_truthy_bool ?_))) l1 g1 g3))
    by_cases c2 : t.sub .bool = true
    · rw [c2]
      refine ite_ff ?_
      have e : isIntD lo hi d = false := by
        rw [hd]
        cases t with
        | bool => obtain ⟨b, e⟩ := kn1; rw [e]; rfl
        | _ => exact absurd c2 (by decide)
      have := fin tk3
      rw [e] at this
      exact this
    · have c2' : t.sub .bool = false := by simpa using c2
      rw [c2']
      refine ite_tt ?_
      have ht : t = .int := by
        cases t with
        | int => rfl
        | _ => first | exact absurd c1 (by decide) | exact absurd c2' (by decide)
      subst ht
      obtain ⟨n, tn, e⟩ := id kn1
      subst e
      refine BoolOp_one (Compare_chain (ldL (s := { s with heap := h₁, toks := tk3 }) k1 hn m2 (chain_link (ldL (s := { s with heap := h₁, toks := tk3 }) k1 hn m1 (le_int (wpAny_truthy_bool ?_)) l1)) l2))
      by_cases c3 : lo ≤ n
      · rw [decide_eq_true c3]
        refine ite_tt (chain_last (ldL (s := { s with heap := h₁, toks := tk3 }) k1 hn m3 (le_int ?_) l3))
        have e : isIntD lo hi d = decide (n ≤ hi) := by rw [hd]; show (decide (lo ≤ n) && decide (n ≤ hi)) = _; simp [c3]
        have := fin tk3
        rw [e] at this
        exact this
      · rw [decide_eq_false c3]
        refine ite_ff ?_
        have e : isIntD lo hi d = false := by rw [hd]; show (decide (lo ≤ n) && decide (n ≤ hi)) = _; simp [c3]
        have := fin tk3
        rw [e] at this
        exact this
  · have c1' : t.sub .int = false := by simpa using c1
    rw [c1']
    refine ite_ff ?_
    have e : isIntD lo hi d = false := by
      rw [hd]
      cases t with
      | int => exact absurd c1' (by decide)
      | bool => exact absurd c1' (by decide)
      | non => rw [show v = .none from kn1]; rfl
      | str => obtain ⟨n, t, e⟩ := kn1; rw [e]; rfl
      | tuple => obtain ⟨n, e, _⟩ := kn1; rw [e]; rfl
      | list => obtain ⟨n, e, _⟩ := kn1; rw [e]; rfl
      | dict => obtain ⟨n, e, _⟩ := kn1; rw [e]; rfl
    have := fin tk2
    rw [e] at this
    exact this
end
/-! ### all(is_integer(x, lo, hi) for x in a tuple) -/
section
open GxR
variable {X : Cx} {W : WX} {pins : List (Addr × Obj)} {σ : L2.St} {H : Hp} {s : Shared}
/-- an element of a generator expression, by what it says of an item; everything but the table stands as it stood -/
def EltD (X : Cx) (scope : Scope) (x : Str) (elt : Expr) (pb : D → Bool) : Prop :=
  ∀ (cenv : Env) (A' : Around) (E' : Value → Shared → Prop) (d : D) (t : Ty) (u : Value) (s₂ : Shared) (m₂ : Str → Option Value), cenv.scope = scope → cenv.globals = mainGlobals → cenv.builtins = builtinsNs → A'.handled = none → A'.depth ≤ X.A.depth + 1 → A'.units ≤ X.A.units + 8 →
    Mod X.K X.mg s₂.heap → s₂.heap.Ns cenv.locals m₂ → m₂ x = some u → Kn s₂.heap u t → (∀ lo hi, isIntD lo hi d = ansV lo hi u) → wpAny (model X.prog X.w) A' (eval elt cenv) (fun y s₃ => y = .bool (pb d) ∧ Keeps s₂ s₃) E' s₂
def trD (pb : D → Bool) (l : List D) (j : Nat) : Bool := match l[j]? with
  | some b => pb b
  | none => false
theorem trD_some {pb : D → Bool} {l : List D} {j : Nat} {b : D} (h : l[j]? = some b) : trD pb l j = pb b := by
  unfold trD
  rw [h]
def ReadyD (X : Cx) (pins : List (Addr × Obj)) (σ : L2.St) (H1 : Hp) (P : Addr) (l : List D) (pb : D → Bool) (g : Addr) (s5 : Shared) : Prop :=
  ∃ (fp wr : List Addr) (G : Array GenState → Array GenState → Prop) (F : Nat → Value → Prop) (St : Nat → Shared → Prop),
    WalksS X.prog X.w X.A.in1 g fp wr G l.length F St ∧ St 0 s5 ∧
    TruthOf X.prog X.w X.A.in1 F (trD pb l) ∧
    ∀ s', Moved wr G s5 s' → ∃ H2, Tabbed P H1 H2 ∧ Inv X pins σ H2 s'
theorem gen_tup {c P : Addr} {elt iter : Expr} {x : Str} {px gpos : Pos} {scope : Scope} {pb : D → Bool} {te : TE} {k : Nat} {Q' : Value → Shared → Prop} {R : List D → M → Hp → Prop}
    (hr : Room k X.A) (TB : TabB X.base X.mg c P) (hcode : X.env.code = .ref c) (S : GenS X.env scope x) (hi : PE X iter te) (hel : EltD X scope x elt pb)
    (hs : ∀ v, genFold iter X.env v = pure v) (I : Inv X pins σ H s) (h : te σ H fun v H1 => ∃ (ds : List D) (m1 : M), Rep X.K H1 (.tup ds) v ∧ RelM X.K H1 m1 ∧ m1 P = some .tab ∧ (∀ d ∈ ds, ∃ t, tyD m1 d = some t) ∧ R ds m1 H1)
    (hQ : ∀ ds m1 H1 g s5, R ds m1 H1 → ReadyD X pins σ H1 P ds pb g s5 → Q' (.ref g) s5) :
    wpAny (model X.prog X.w) X.A (eval (.GeneratorExp elt [⟨.Name x px, iter, [], 0⟩] scope gpos) X.env) Q' X.xe s := by
  refine wpAny_GeneratorExp_walksQD hr.hd S.co (closure_ok S.free) S.cell S.dot S.loc S.kind (by have := hr.dp; omega) ?_ hs
  refine thn (hi.run pins s σ H _ I h) fun xv s1 ⟨v, H1, I1, r1, q1⟩ => ?_
  obtain ⟨ds, mm, ⟨ta, xs, rfl, hsq, hrs⟩, rM, hmP, hty, q1⟩ := q1
  obtain ⟨ps, hP, ht⟩ : ∃ ps, H1 P = some (.tbl ps) ∧ TriplesOk ps.toList := rM P _ hmP
  obtain rfl : xv = Value.ref ta := r1
  obtain ⟨its, rv, htup, hz⟩ := I1.tuple hsq
  have hlen : its.toArray.size = ds.length := by rw [List.size_toArray, ← rv.length, ← hrs.length]
  refine wpAny_pyIter_tuple (show s1.heap.IsTuple ta its.toArray from htup) ?_
  have hPs : s1.heap.get? P = some { cls := .none, data := .fields ps } := I1.hok P _ hP
  have hPlt : P < s1.heap.objs.size := Heap.lt_size hPs
  have talt : ta < s1.heap.objs.size := by obtain ⟨o, e, _⟩ := id htup; exact Heap.lt_size e
  have taP : ta ≠ P := fun z => by
    obtain ⟨o, e, hc, _⟩ := id htup
    rw [z, hPs] at e
    cases e
    cases hc
  have hP2 : (s1.heap.push { cls := .type "tuple_iterator", data := .fields #[.ref ta, .int 0 0] }).get? P = some { cls := .none, data := .fields ps } := Heap.get?_push_of_some _ hPs
  have cd : PySem.W.CodeHd (s1.heap.push { cls := .type "tuple_iterator", data := .fields #[.ref ta, .int 0 0] }) c P := TB.code.keeps fun b u e => Heap.get?_push_of_some _ (I1.bk b u e)
  have lim2 : (s1.heap.push { cls := .type "tuple_iterator", data := .fields #[.ref ta, .int 0 0] }).NoLimit := I1.nolimit.push _
  have st0 : (s1.heap.push { cls := .type "tuple_iterator", data := .fields #[.ref ta, .int 0 0] }).IsTupleIter s1.heap.objs.size ta 0 ∧ (s1.heap.push { cls := .type "tuple_iterator", data := .fields #[.ref ta, .int 0 0] }).IsTuple ta its.toArray :=
    ⟨⟨_, Heap.get?_push_size _ rfl, rfl, rfl⟩, (show s1.heap.IsTuple ta its.toArray from htup).push _⟩
  have wk : ∀ A' : Around, A'.handled = none → Walks X.prog X.w A' s1.heap.objs.size [s1.heap.objs.size, ta] [s1.heap.objs.size] its.toArray.size (fun i v => its.toArray[i]? = some v) (fun i h => h.IsTupleIter s1.heap.objs.size ta i ∧ h.IsTuple ta its.toArray) :=
    fun A' hA => Walks.tuple hA _ ta (Nat.ne_of_lt talt) its.toArray
  have sz2 : (s1.heap.push { cls := .type "tuple_iterator", data := .fields #[.ref ta, .int 0 0] }).objs.size = s1.heap.objs.size + 1 := Heap.size_push ..
  have cont : ∀ (code : Value) (h3 : Heap) (tk : Nat) (ps' : Array Value), Heap.ExtBut P (s1.heap.push { cls := .type "tuple_iterator", data := .fields #[.ref ta, .int 0 0] }) h3 → (s1.heap.push { cls := .type "tuple_iterator", data := .fields #[.ref ta, .int 0 0] }).objs.size ≤ h3.objs.size → h3.get? P = some { cls := .none, data := .fields ps' } → (∃ more, ps' = ps ++ more) → TriplesOk ps'.toList →
      wpAny (model X.prog X.w) X.A (builtinsFor X.env.globals X.env.builtins) (fun bi s₄ =>
        ∃ Ia fp wr n₀ Pf St₀ pz F, Value.ref s1.heap.objs.size = .ref Ia ∧ (∀ A' : Around, A'.handled = none → Walks X.prog X.w A' Ia fp wr n₀ Pf St₀) ∧ St₀ 0 s₄.heap ∧ (∀ b ∈ fp, b < s₄.heap.objs.size) ∧ s₄.heap.NoLimit ∧ cStatics ∉ wr ∧
          (∀ href : Heap, (∀ b o, s₄.heap.get? b = some o → href.get? b = some o) →
            QuietGenD X.prog X.w (genEnv scope (cloFrom X.env.cells scope.names []) s₄.heap.objs.size code bi X.env) x [] elt (List.range s₄.heap.objs.size) wr Pf pz F href (X.A.depth + 1) (X.A.units + 8)) ∧
          (∀ a h₅ tk gs, gs.bare = true → s₄.heap.objs.size < a → h₅.objs.size = a + 1 → (∀ b o, s₄.heap.get? b = some o → h₅.get? b = some o) →
            WalksS X.prog X.w X.A.in4 a (a :: s₄.heap.objs.size :: List.range s₄.heap.objs.size) (s₄.heap.objs.size :: wr) (GenOnlyQ s₄.gens.size) (passing pz n₀ 0).length
              (fun j y => ∃ i, (passing pz n₀ 0)[j]? = some i ∧ F i y) (GenAt X.prog X.w X.A.in4 a s₄.gens.size s₄.heap.objs.size (List.range s₄.heap.objs.size) wr pz n₀ F) →
            GenAt X.prog X.w X.A.in4 a s₄.gens.size s₄.heap.objs.size (List.range s₄.heap.objs.size) wr pz n₀ F 0 { s₄ with gens := s₄.gens.push gs, toks := tk, heap := h₅ } →
            Q' (.ref a) { s₄ with gens := s₄.gens.push gs, toks := tk, heap := h₅ })) X.xe { s1 with heap := h3, toks := tk } := by
    intro code h3 tk ps' hx hsz hP3 hmore ht3
    have hge3 : s1.heap.objs.size + 1 ≤ h3.objs.size := by rw [← sz2]; exact hsz
    obtain ⟨bm, ob, e1, e2, e3, e4, e5, e6, e7, e8⟩ := TB.bm
    have hcP : cStatics ≠ P := fun e => by
      obtain ⟨_, hns, _⟩ := I1.nolimit
      obtain ⟨o', es, ep, ho, hd, _⟩ := hns
      rw [e, hPs] at ho
      cases ho
      cases hd
    have hcl : cStatics < s1.heap.objs.size := let ⟨_, hns, _⟩ := I1.nolimit; hns.lt
    have keep3 : ∀ b u, b ≠ P → s1.heap.get? b = some u → h3.get? b = some u := fun b u hb e => hx b u hb (Heap.get?_push_of_some _ e)
    refine wpAny_builtinsFor (m := X.mg) (by rw [I1.ok.glob]; exact ((I1.mod.glob.keeps I1.bk).push _).extBut hx TB.gP) e1 e2 (keep3 _ _ e4 (I1.bk _ _ e5)) e6 e7 e8 ?_
    refine ⟨s1.heap.objs.size, [s1.heap.objs.size, ta], [s1.heap.objs.size], its.toArray.size, _, _, (fun _ => true), (fun i y => ∃ d, ds[i]? = some d ∧ y = .bool (pb d)), rfl, wk, ?_, ?_, lim2.extBut hx hcP, ?_, ?_, ?_⟩
    · refine (wk X.A hr.hd).frame _ _ _ st0 fun b hb u e => hx b u (fun z => ?_) e
      rcases List.mem_cons.mp hb with z2 | z2
      · exact Nat.ne_of_lt hPlt (z.symm.trans z2)
      · rcases List.mem_cons.mp z2 with z2 | z2
        · exact taP (z2.symm.trans z)
        · cases z2
    · intro b hb
      rcases List.mem_cons.mp hb with z | z
      · rw [z]
        exact Nat.lt_of_succ_le hge3
      · rcases List.mem_cons.mp z with z | z
        · rw [z]
          exact Nat.lt_of_lt_of_le talt (Nat.le_of_succ_le hge3)
        · cases z
    · intro z
      rcases List.mem_cons.mp z with z | z
      · exact Nat.ne_of_lt hcl z
      · cases z
    · intro href hhref
      have old : ∀ (s₂ : Shared), (∀ b ∈ List.range h3.objs.size, b ∉ [s1.heap.objs.size] → ∀ o, href.get? b = some o → s₂.heap.get? b = some o) → ∀ b o, b ≠ P → s1.heap.get? b = some o → s₂.heap.get? b = some o := fun s₂ hk b o hb e => by
        have hlt := Heap.lt_size e
        refine hk b (List.mem_range.mpr (Nat.lt_of_lt_of_le hlt (Nat.le_of_succ_le hge3))) (fun z => ?_) o (hhref b o (keep3 b o hb e))
        rcases List.mem_cons.mp z with z | z
        · rw [z] at hlt; exact Nat.lt_irrefl _ hlt
        · cases z
      refine ⟨fun A' E' i v s₂ m₂ hA hD hU hPv hn hm hk => ?_, fun A' E' i v s₂ m₂ hA hD hU hPv hp hn hm hk => ?_⟩
      · simp only [List.forIn_nil]
        exact wpAny_pure ⟨rfl, keeps_refl _⟩
      · have hPv' : its.toArray[i]? = some v := hPv
        have hv1 : its[i]? = some v := by simpa using hPv'
        obtain ⟨hlt, _⟩ := List.getElem?_eq_some_iff.mp hv1
        have hltx : i < xs.length := by rw [rv.length]; exact hlt
        obtain ⟨u', hu', rvu⟩ := rv.get (List.getElem?_eq_getElem hltx)
        rw [hv1] at hu'
        cases hu'
        obtain ⟨d, hd, rd⟩ := hrs.get' (List.getElem?_eq_getElem hltx)
        obtain ⟨t, htd⟩ := hty d (List.mem_of_getElem? hd)
        have kn1 := kn_of I1 rM htd rd rvu
        have o2 := old s₂ hk
        have M2 : Mod X.K X.mg s₂.heap := mod_keeps I1.mod fun b o e => by
          obtain ⟨q1, q2⟩ := I1.bs b o e
          exact o2 b o (fun z => by rw [z, hP] at q2; cases q2) q1
        have kn2 : Kn s₂.heap v t := kn1.keep fun a o n _ e hc => o2 a o (fun z => by rw [z, hPs] at e; cases e; cases hc) e
        exact wpAny_mono (hel _ A' E' d t v s₂ m₂ rfl I1.ok.glob rfl hA hD hU M2 hn hm kn2 (fun lo hi => ansV_of rd rvu)) (fun y s3 r => ⟨⟨d, hd, r.1⟩, r.2⟩) fun _ _ e => e
    · intro g h5 tk5 gs hgb hag hsz5 hk5 W5 hat
      simp only [GxR.passing_true, List.length_range] at W5
      rw [hlen] at W5
      rw [hlen] at hat
      refine hQ ds mm H1 g _ q1 ⟨_, _, _, _, _, W5.in4_1, hat, ?_, fun s' hm => ?_⟩
      · intro j y sj Qj Ej hy hQj
        obtain ⟨i, hij, d, hd, rfl⟩ := hy
        obtain ⟨hj, ej⟩ := List.getElem?_eq_some_iff.mp hij
        rw [List.getElem_range] at ej
        subst ej
        have hQ2 : Qj (trD pb ds j) sj := hQj
        rw [trD_some hd] at hQ2
        exact wpAny_truthy_bool hQ2
      · obtain ⟨more, em⟩ := hmore
        have nwr : ∀ b u, s1.heap.get? b = some u → b ∉ h3.objs.size :: [s1.heap.objs.size] := fun b u e hb => by
          have hl := Heap.lt_size e
          rcases List.mem_cons.mp hb with z | z
          · rw [z] at hl
            have h9 : (h3.objs.size : Nat) < s1.heap.objs.size := hl
            omega
          · rcases List.mem_cons.mp z with z | z
            · rw [z] at hl
              exact Nat.lt_irrefl _ hl
            · cases z
        have J := inv_tab (more := more) (h' := s'.heap) (g' := s'.gens) (d' := s'.drawn) (t' := s'.toks) I1 hP (fun b u hb e => hm.heap b u (nwr b u e) (hk5 b u (keep3 b u hb e)))
          (by rw [← em]; exact hm.heap P _ (nwr P _ hPs) (hk5 P _ hP3)) (AllBare.movedS (I1.bare.push hgb) hm)
        rw [sh_eta s1 s' hm.os] at J
        refine ⟨upd H1 P (.tbl (ps ++ more)), ⟨⟨ps ++ more, upd_same, by rw [← em]; exact ht3⟩, fun b hb => upd_ne hb⟩, J⟩
  refine ⟨lim2, ?_⟩
  cases hf : codeAmong gpos ps.toList with
  | none =>
    refine wpAny_genexprCodeX hcode (cd.code hP2 ht) (cd.tab hP2) hf fun c' h' tk hx hge hlt hco' _ htab' _ => ?_
    obtain ⟨o1, vs, f1, tf, fl, tg, inF, tx, tt, op, _, _, _, _, _, _, _, _, _, htr, _⟩ := hco'
    exact cont _ h' tk _ hx (Nat.le_trans hge (Nat.le_of_lt hlt)) htab'.2 ⟨_, rfl⟩ htr
  | some cv =>
    refine wpAny_genexprCode_hit hcode (cd.code hP2 ht) hf ?_
    exact cont cv _ s1.toks ps (Heap.ExtBut.refl _ _) (Nat.le_refl _) hP2 ⟨#[], by simp⟩ ht
theorem rel_tabbed {K : PySem.W.Frag} {H H2 : Hp} {m : M} {P : Addr} (r : RelM K H m) (hm : m P = some .tab) (t : Tabbed P H H2) : RelM K H2 m ∧ Tx H H2 := by
  obtain ⟨ps, hp, _⟩ := r P _ hm
  have tx : Tx H H2 := ⟨fun a xs e => by rw [t.2 a fun z => by rw [z, hp] at e; cases e]; exact e, fun a o u e => by rw [t.2 a fun z => by rw [z, hp] at e; cases e]; exact e⟩
  refine ⟨fun a o e => ?_, tx⟩
  by_cases h : a = P
  · subst h
    rw [hm] at e; cases e
    exact t.1
  · exact (r a o e).move tx fun v q => by rw [t.2 a h]; exact q
/-- all(test(x) for x in e), e a tuple -/
def aAll (P : Addr) (pb : D → Bool) (te : AE) : AE := fun e m Q R => te e m (fun d m1 => match d with
  | .tup ds => m1 P = some .tab ∧ (∀ d ∈ ds, ∃ t, tyD m1 d = some t) ∧ Q (.bl (ds.all pb)) m1
  | _ => False) R
theorem all_rng (l : List D) (pb : D → Bool) : (List.range l.length).all (trD pb l) = l.all pb := by
  rw [Bool.eq_iff_iff, List.all_eq_true, List.all_eq_true]
  constructor
  · intro h b hb
    obtain ⟨j, hj, e⟩ := List.getElem_of_mem hb
    have q := h j (List.mem_range.mpr hj)
    rw [trD_some (List.getElem?_eq_getElem hj), e] at q
    exact q
  · intro h j hj
    have hj' := List.mem_range.mp hj
    rw [trD_some (List.getElem?_eq_getElem hj')]
    exact h _ (List.getElem_mem hj')
theorem g_all {c P : Addr} {elt iter : Expr} {x : Str} {px p pos gpos : Pos} {scope : Scope} {pb : D → Bool} {te : AE} {k : Nat}
    (hr : Room k X.A) (hm : X.mg "all" = none) (TB : TabB X.base X.mg c P) (hcode : X.env.code = .ref c) (S : GenS X.env scope x) (hi : GE X W iter te) (hel : EltD X scope x elt pb)
    (hg : Gl X "all" := by rfl) (hs : ∀ v, genFold iter X.env v = pure v := by exact fun _ => rfl)
    (he : starEach [.GeneratorExp elt [⟨.Name x px, iter, [], 0⟩] scope gpos] X.env = (false, eval (.GeneratorExp elt [⟨.Name x px, iter, [], 0⟩] scope gpos) X.env) :: starEach [] X.env := by rfl) :
    GE X W (.Call (.Name "all" p) [.GeneratorExp elt [⟨.Name x px, iter, [], 0⟩] scope gpos] [] pos) (aAll P pb te) := by
  refine ⟨fun pins s σ H Q I h => ?_⟩
  obtain ⟨e, m, P', R, rE, rM, t, q, w⟩ := h
  have hb : bootBuiltins "all" = some (.builtin "all") := PyProof.Rows.boot_all
  refine wpAny_Call_Name_kw (ld_blt I hg hm hb ?_)
  refine PyProof.Rows.callWith_builtin1 ?_ he (by rfl)
  rw [he]
  show wpAny _ _ (spliced ((false, eval (.GeneratorExp elt [⟨.Name x px, iter, [], 0⟩] scope gpos) X.env) :: backTo pos (starEach [] X.env))) _ _ s
  refine Calls.spliced_cons (gen_tup (R := fun ds m1 H1 => m1 P = some .tab ∧ RelM X.K H1 m1 ∧ Tx H H1 ∧ P' (.bl (ds.all pb)) m1) hr TB hcode S hi hel hs I ?_ fun ds m1 H1 g s5 hR hG => ?_)
  · refine ⟨e, m, _, R, rE, rM, t, fun d m1 h1 v H1 t1 r1 rm1 => ?_, w⟩
    cases d with
    | tup ds => exact ⟨ds, m1, r1, rm1, h1.1, h1.2.1, h1.1, rm1, t1, h1.2.2⟩
    | _ => exact h1.elim
  · obtain ⟨fp, wr, G, F, St, W, hst, htr, hI⟩ := hG
    obtain ⟨hmP, rM1, t1, hp⟩ := hR
    refine Calls.spliced_nil ?_
    refine call_all_walkS (W.self 0 _ _ _ hst ⟨g, fp, wr, G, _, F, St, _, rfl, W, hst, htr, fun s' hmv => ?_⟩)
    obtain ⟨H2, hT, J⟩ := hI s' hmv
    obtain ⟨rM2, t2⟩ := rel_tabbed rM1 hmP hT
    refine ⟨.bl _, H2, J, rfl, ?_⟩
    rw [all_rng]
    exact q _ m1 hp _ H2 (t1.trans t2) rfl rM2

/-- is_integer(x, lo, hi), x the item -/
theorem elt_int {f : Addr} {params : Arguments} {fscope scope : Scope} {fd : FuncData} {q1 q2 q3 q4 q5 q6 q7 q8 q9 qa qb qc qd qe qf p1 p2 p3 p4 p5 : Pos} {k : Nat} {x : Str} {lo hi : Int} {j1 j2 : Nat}
    (F : FunD X.K "is_integer" "is_integer" params (bodyInt q1 q2 q3 q4 q5 q6 q7 q8 q9 qa qb qc qd qe qf) fscope [] [] f fd) (hb : Binds X.K fd ["value", "low", "high"] []) (hmf : X.mg "is_integer" = some (.ref f)) (hr : Room k X.A) (hk : 3 ≤ k)
    (hisi : X.mg "isinstance" = none) (hint : X.mg "int" = none) (hbool : X.mg "bool" = none)
    (k1 : fscope.kind = .function := by rfl) (k2 : fscope.isCoroutine = false := by rfl) (k3 : fscope.isGenerator = false := by rfl) (l1 : fscope.names.lookup ("value" : Str) = some NameKind.local := by rfl) (l2 : fscope.names.lookup ("low" : Str) = some NameKind.local := by rfl) (l3 : fscope.names.lookup ("high" : Str) = some NameKind.local := by rfl)
    (g1 : fscope.names.lookup ("isinstance" : Str) = some NameKind.globalImplicit := by rfl) (g2 : fscope.names.lookup ("int" : Str) = some NameKind.globalImplicit := by rfl) (g3 : fscope.names.lookup ("bool" : Str) = some NameKind.globalImplicit := by rfl)
    (s1 : scope.kind = .function := by rfl) (s2 : scope.names.lookup x = some NameKind.local := by rfl) (s3 : scope.names.lookup ("is_integer" : Str) = some NameKind.globalImplicit := by rfl) (hd : (x == ("__debug__" : Str)) = false := by decide) :
    EltD X scope x (.Call (.Name "is_integer" p1) [.Name x p2, .Constant (.int lo) j1 p3, .Constant (.int hi) j2 p4] [] p5) (isIntD lo hi) := by
  intro cenv A' E' d t u s₂ m₂ hs hG hB hA hD hU M hn hm kn hans
  have ks : cenv.scope.kind = .function := by rw [hs]; exact s1
  have kx : cenv.kindOf x = some .local := by show cenv.scope.names.lookup x = _; rw [hs]; exact s2
  have kf : cenv.kindOf "is_integer" = some .globalImplicit := by show cenv.scope.names.lookup _ = _; rw [hs]; exact s3
  refine wpAny_Call_Name_kw (ldF M ks hG hmf ?_ kf)
  refine PySem.W.callWith_K (h₀ := s₂.heap) M.kin F.kp ?_ (by rfl) (by rfl)
  refine args_cons (ldL ks hn hm ?_ kx hd)
  refine args_cons (wpAny_Constant_int ?_)
  refine args_cons (wpAny_Constant_int (args_nil ⟨M.kin, ?_⟩))
  have hdp := hr.dp
  refine isInt_call (s := { s₂ with toks := s₂.toks + 1 + 1 }) F hb k1 k2 k3 l1 l2 l3 g1 g2 g3 M (by omega) hisi hint hbool kn (hans lo hi) fun s' hk' => ⟨rfl, ?_⟩
  obtain ⟨h', tk, e, kp⟩ := hk'
  exact ⟨h', tk, e, kp⟩
end
end Ab

set_option Elab.async false
set_option linter.all false
set_option maxRecDepth 100000
set_option maxHeartbeats 4000000
namespace Ab
open PySem PySem.Spec PyProof.Rows L2
/-- a def as its callers want it -/
structure Cal (P : Program) (w : World) (K : PySem.W.Frag) (mg : Str → Option Value) (base : Heap) (x : Str) (k n : Nat) (sp : ASp) : Prop where
  ex : ∃ (f : Addr) (fd : FuncData) (ps : List Str), FnOk P w K mg base (L2.CX P w) k f fd ps (lSp K n sp) ∧ mg x = some (.ref f) ∧ PySem.W.keepIn K (.ref f) = true ∧ Binds K fd ps []
theorem Cal.mono {P : Program} {w : World} {K : PySem.W.Frag} {mg : Str → Option Value} {base : Heap} {x : Str} {k j n : Nat} {sp : ASp} (c : Cal P w K mg base x k n sp) (h : k ≤ j) : Cal P w K mg base x j n sp :=
  let ⟨f, fd, ps, a, b⟩ := c.ex; ⟨f, fd, ps, a.mono h, b⟩
section
variable {X : Cx} {W : WX}
theorem g_c {x : Str} {k n : Nat} {sp : ASp} {p pos : Pos} {e : Expr} {es : List Expr} {t : AA} (C : Cal X.prog X.w X.K X.mg X.base x k n sp) (tk : Takes X W) (hr : Room k X.A) (ha : GA X W (e :: es) t) (hg : Gl X x := by rfl)
    (hdb : (x == ("__debug__" : Str)) = false := by decide) (he : starEach (e :: es) X.env = (false, eval e X.env) :: starEach es X.env := by rfl) (hpl : (backTo pos (starEach es X.env)).any (·.1) = false := by rfl) :
    GE X W (.Call (.Name x p) (e :: es) [] pos) (aCall n sp t) := by
  obtain ⟨f, fd, ps, F, hm, hk, hb⟩ := C.ex
  exact g_call F tk hr hm hk hb ha hg hdb he hpl
/-- a constant of the module -/
def CI (mg : Str → Option Value) (x : Str) (i : Int) : Prop := ∃ t, mg x = some (.int i t)
def CS (mg : Str → Option Value) (x z : Str) : Prop := ∃ t, mg x = some (.str z t)
theorem g_ci {x : Str} {i : Int} {pos : Pos} (c : CI X.mg x i) (hg : Gl X x := by rfl) (hd : (x == ("__debug__" : Str)) = false := by decide) : GE X W (.Name x pos) (aC (.int i)) := by
  obtain ⟨t, h⟩ := c
  exact g_glob (v := .int i) hg h ⟨t, rfl⟩ (fun _ => rfl) hd
theorem g_cs {x z : Str} {pos : Pos} (c : CS X.mg x z) (hg : Gl X x := by rfl) (hd : (x == ("__debug__" : Str)) = false := by decide) : GE X W (.Name x pos) (aC (.str z)) := by
  obtain ⟨t, h⟩ := c
  exact g_glob (v := .str z) hg h ⟨t, rfl⟩ (fun _ => rfl) hd
theorem gt_chain {op op' : CmpOp} {r r' : AR2} {a b c : Expr} {ta tb tc : AE} {pos : Pos} (ho : OpR X (compareOp op) (lR2 X.K r)) (ho' : OpR X (compareOp op') (lR2 X.K r')) (ha : GE X W a ta) (hb : GE X W b tb) (hc : GE X W c tc)
    (hm : lastMarks [op, op'] [b, c] = false) : GT X W (.Compare a [op, op'] [b, c] pos) (aTest (aChain r r' ta tb tc)) := pt_imp (pt_chain ho ho' ha hb hc hm) fun σ H Q h => by
  obtain ⟨e, m, P, R, rE, rM, t, q, w⟩ := ltest h
  refine ⟨e, m, _, R, rE, rM, t, fun d1 m1 h1 x H1 t1 r1 rm1 => ?_, w⟩
  refine ⟨e, m1, _, R, rE.mono t1, rm1, h1, fun d2 m2 h2 y H2 t2 r2 rm2 => ?_, w.mono t1⟩
  refine ⟨d1, d2, m2, _, r1.mono t2, r2, rm2, h2, fun d3 m3 h3 z H3 t3 r3 rm3 => ?_⟩
  cases d3 with
  | bl k =>
    refine ⟨k, r3, ?_⟩
    cases k with
    | true =>
      have h3' : tc e m3 (fun u m4 => r' d2 u m4 P) R := by simpa using h3
      refine ⟨e, m3, _, R, rE.mono (t1.trans (t2.trans t3)), rm3, h3', fun d4 m4 h4 u H4 t4 r4 rm4 => ?_, w.mono (t1.trans (t2.trans t3))⟩
      exact ⟨d2, d4, m4, P, r2.mono (t3.trans t4), r4, rm4, h4, q.mono (t1.trans (t2.trans (t3.trans t4)))⟩
    | false =>
      have h3' : P (.bl false) m3 := by simpa using h3
      exact q (.bl false) m3 h3' (.bl false) H3 (t1.trans (t2.trans t3)) rfl rm3
  | _ => exact h3.elim
/-- an expression that ends by its value alone, as a test: a bool by itself -/
theorem gt_b {a : Expr} {ta : AE} (ha : GE X W a ta) (he : ∀ whole, isTrue a X.env whole = (do let v ← whole; standAt a.pos; holding [v] (truthy v)) := by intro _; rfl) : GT X W a (aTest ta) := pt_imp (pt_val ha he) fun σ H Q h => by
  obtain ⟨e, m, P, R, rE, rM, t, q, w⟩ := ltest h
  exact ⟨e, m, P, R, rE, rM, t, q, w⟩
end
/-- the built-ins that the text uses: none of them is a name of the module -/
structure Bi (mg : Str → Option Value) : Prop where
  len : mg "len" = none
  int : mg "int" = none
  bool : mg "bool" = none
  str : mg "str" = none
  tuple : mg "tuple" = none
  list : mg "list" = none
  isinstance : mg "isinstance" = none
  range : mg "range" = none
  all : mg "all" = none
  any : mg "any" = none
  min : mg "min" = none
  max : mg "max" = none
  reversed : mg "reversed" = none
  sorted : mg "sorted" = none
  enumerate : mg "enumerate" = none
  zip : mg "zip" = none
  dict : mg "dict" = none
  sum : mg "sum" = none
  abs : mg "abs" = none
theorem bt_len : bootBuiltins "len" = some (.builtin "len") := by decide +kernel
theorem bt_int : bootBuiltins "int" = some (.type "int") := by decide +kernel
theorem bt_bool : bootBuiltins "bool" = some (.type "bool") := by decide +kernel
theorem bt_str : bootBuiltins "str" = some (.type "str") := by decide +kernel
theorem bt_tuple : bootBuiltins "tuple" = some (.type "tuple") := by decide +kernel
theorem bt_list : bootBuiltins "list" = some (.type "list") := by decide +kernel
theorem bt_min : bootBuiltins "min" = some (.builtin "min") := by decide +kernel
theorem bt_max : bootBuiltins "max" = some (.builtin "max") := by decide +kernel
section
variable {P : Program} {w : World} {K : PySem.W.Frag} {mg : Str → Option Value} {base : Heap}
theorem cal_def {x : Str} {params : Arguments} {body : List Stmt} {scope : Scope} {f : Addr} {fd : FuncData} {N ps : List Str} {k n : Nat} {b : AS} (F : FunD K x x params body scope [] [] f fd) (hm : mg x = some (.ref f)) (bd : Binds K fd ps []) (S : FnScope N ps scope) (hn : ps.length = n)
    (hb : ∀ (cdv : Value) (A : Around) (outer : List Env) (s : Shared) (H : Hp) (E : XK), Room k (A.deeper (envOfC x scope s.heap.objs.size f cdv)) → GSs (cxOf (L2.CX P w) P w K mg base N x scope f cdv A outer s H E) (WD E) body b) :
    Cal P w K mg base x (k + 1) n (aDef N.length b) := ⟨f, fd, ps, ok_def F S hn hb, hm, F.kp, bd⟩
def noSp : ASp := fun _ _ _ _ => False
theorem cal_no {x : Str} {params : Arguments} {body : List Stmt} {scope : Scope} {f : Addr} {fd : FuncData} {ps : List Str} {k n : Nat} (F : FunD K x x params body scope [] [] f fd) (hm : mg x = some (.ref f)) (bd : Binds K fd ps []) : Cal P w K mg base x k n noSp :=
  ⟨f, fd, ps, ⟨fun _ _ _ _ h => by obtain ⟨_, _, _, _, _, _, _, z, _⟩ := h; exact z.elim, fun _ _ _ _ _ _ _ _ _ _ _ _ _ h => by obtain ⟨_, _, _, _, _, _, _, z, _⟩ := h; exact z.elim⟩, hm, F.kp, bd⟩
end
end Ab

set_option Elab.async false
set_option linter.all false
set_option maxRecDepth 100000
set_option maxHeartbeats 4000000
namespace Ab
open PySem PySem.Spec PyProof.Rows L2
section
variable {P : Program} {w : World} {K : PySem.W.Frag} {mg : Str → Option Value} {base : Heap}
/-- a list that is handed in and never changed may be held as it is -/
def spF (K : PySem.W.Frag) (sp : Sp) : Sp := fun vs H Q E => ∃ a xs, vs = [.ref a] ∧ ((FrL K H a xs ∧ sp vs H Q E) ∨ (H a = some (.lst xs) ∧ ∀ o, sp vs (upd H a (.frz o (.lst xs))) Q E))
theorem fn_freeze {k : Nat} {f : Addr} {fd : FuncData} {x : Str} {sp : Sp} (F : FnOk P w K mg base (L2.CX P w) k f fd [x] sp) : FnOk P w K mg base (L2.CX P w) k f fd [x] (spF K sp) := by
  refine ⟨fun vs H Q E h => ?_, fun A outer s H args us vs Q E hr e0 hb hv h => ?_⟩
  · obtain ⟨a, xs, rfl, _⟩ := h
    rfl
  · obtain ⟨a, xs, e, h⟩ := h
    rcases h with ⟨_, h⟩ | ⟨hl, h⟩
    · exact F.run A outer s H args us vs Q E hr e0 hb hv h
    · obtain ⟨z, its, n, rv, ho⟩ := (show ObjOk P w H s.heap a (.lst xs) from e0.hok a _ hl)
      have at_ : ∀ b, b ≠ a → (upd H a (.frz { cls := .type "list", data := .seq its.toArray n } (.lst xs))) b = H b := fun b hb => upd_ne hb
      have ne : ∀ b u, H b = some u → (∀ ys, u ≠ .lst ys) → b ≠ a := fun b u q hu z => by rw [z, hl] at q; cases q; exact hu xs rfl
      have nn : ∀ b, H b = none → b ≠ a := fun b q z => by rw [z, hl] at q; cases q
      have e1 : Env0 P w K mg base A outer s (upd H a (.frz { cls := .type "list", data := .seq its.toArray n } (.lst xs))) := by
        refine ⟨e0.frames, e0.mod, fun b o q => ⟨(e0.bs b o q).1, by rw [at_ b (nn b (e0.bs b o q).2)]; exact (e0.bs b o q).2⟩, e0.bsz, e0.funs, fun b q => by rw [at_ b (nn b (e0.frf b q))]; exact e0.frf b q, fun b u q => ?_, e0.bare⟩
        by_cases hb : b = a
        · subst hb
          rw [upd_same] at q
          cases q
          exact ⟨ho, z, its, n, rv, ho⟩
        · rw [at_ b hb] at q
          refine (e0.hok b u q).stay (fun c v _ y => y) (fun c y => by rw [at_ c (ne c _ y fun ys t => by cases t)]; exact y) fun c ys y => by rw [at_ c (ne c _ y fun ys t => by cases t)]; exact y
      refine codeAny_mono (F.run A outer s _ args us vs Q E hr e1 hb hv (h _)) fun r s' q => ?_
      cases r with
      | error e =>
        obtain ⟨ax, B, H', cls, d, q1, q2, q3, u, q4⟩ := q
        refine ⟨ax, B, H', cls, d, q1, q2, q3, ⟨fun b o e n hb => u.keep b o e (by rw [at_ b (nn b n)]; exact n) hb, u.slot, fun b o e n => u.free b o e (by rw [at_ b (nn b n)]; exact n), u.there, fun b ys y => u.tups b ys (by rw [at_ b (ne b _ y fun ys t => by cases t)]; exact y), fun b o ys y => u.frzs b o ys (by rw [at_ b (ne b _ y fun ys t => by cases t)]; exact y), fun b ps y => u.tbls b ps (by rw [at_ b (ne b _ y fun ys t => by cases t)]; exact y)⟩, q4⟩
      | ok fl =>
        cases fl with
        | ret v =>
          obtain ⟨x', H', q1, q2, u, q4⟩ := q
          exact ⟨x', H', q1, q2, ⟨fun b o e n hb hx => u.keep b o e (by rw [at_ b (nn b n)]; exact n) hb hx, fun b o e n hb hx => u.slot b o e (by rw [at_ b (nn b n)]; exact n) hb hx, fun b o e n hx => u.free b o e (by rw [at_ b (nn b n)]; exact n) hx, u.there, fun b ys y => u.tups b ys (by rw [at_ b (ne b _ y fun ys t => by cases t)]; exact y), fun b o ys y => u.frzs b o ys (by rw [at_ b (ne b _ y fun ys t => by cases t)]; exact y), fun b ps y => u.tbls b ps (by rw [at_ b (ne b _ y fun ys t => by cases t)]; exact y)⟩, q4⟩
        | next => exact q
        | brk => exact q
        | cont => exact q
/-- the law's promise, from what its abstract reading does -/
theorem law_sp {sp : ASp} {ts : List Addr} {H : Hp} {a : Addr} {ns : List Int} (h : ∀ m : M, (∀ p ∈ ts, m p = some .tab) → sp [.fls (ns.map D.int)] m (fun d _ => d = .bl true) fun _ _ => False)
    (hT : ∀ p ∈ ts, H p = some (.tbl #[])) (hS : SqL K H a (ns.map V.int)) : spF K (lSp K 1 sp) [.ref a] H (fun v _ => v = .bl true) fun _ _ _ => False := by
  have go : ∀ H' : Hp, (∀ p ∈ ts, H' p = some (.tbl #[])) → FrL K H' a (ns.map V.int) → lSp K 1 sp [.ref a] H' (fun v _ => v = .bl true) fun _ _ _ => False := fun H' hT' hF => by
    refine ⟨[.fls (ns.map D.int)], fun p => if p ∈ ts then some .tab else none, _, _, rfl, ⟨_, _, rfl, ⟨a, _, rfl, hF, Reps.of_ints ns⟩, rfl⟩, fun p o e => ?_, h _ fun p hp => if_pos hp, fun d m' e v H2 _ r _ => by subst e; exact r, ⟨fun _ _ z => z.elim⟩⟩
    have e : (if p ∈ ts then some O.tab else none) = some o := e
    by_cases hp : p ∈ ts
    · rw [if_pos hp] at e
      cases e
      exact ⟨#[], hT' p hp, by simp [TriplesOk]⟩
    · rw [if_neg hp] at e
      cases e
  rcases hS with (hS | ⟨o, hS⟩) | hS
  · refine ⟨a, _, rfl, .inr ⟨hS, fun o => go _ (fun p hp => ?_) (.inl ⟨o, upd_same⟩)⟩⟩
    rw [upd_ne fun z => by rw [← z, hT p hp] at hS; cases hS]
    exact hT p hp
  · exact ⟨a, _, rfl, .inl ⟨.inl ⟨o, hS⟩, go H hT (.inl ⟨o, hS⟩)⟩⟩
  · exact ⟨a, _, rfl, .inl ⟨.inr hS, go H hT (.inr hS)⟩⟩
/-- a def whose code object is asked for (it holds a generator expression) -/
theorem cal_defT {x : Str} {params : Arguments} {body : List Stmt} {scope : Scope} {fd : FuncData} {N ps : List Str} {k n : Nat} {b : AS} (F : FunD K x x params body scope [] [] (He.fAd K (x, none)) fd) (hm : mg x = some (.ref (He.fAd K (x, none)))) (bd : Binds K fd ps []) (S : FnScope N ps scope) (hn : ps.length = n)
    (hb : ∀ (A : Around) (outer : List Env) (s : Shared) (H : Hp) (E : XK), Room k (A.deeper (envOfC x scope s.heap.objs.size (He.fAd K (x, none)) (.ref (He.codeOf K (x, none))))) → GSs (cxOf (L2.CX P w) P w K mg base N x scope (He.fAd K (x, none)) (.ref (He.codeOf K (x, none))) A outer s H E) (WD E) body b) :
    Cal P w K mg base x (k + 1) n (aDef N.length b) := by
  refine ⟨_, fd, ps, ?_, hm, F.kp, bd⟩
  obtain ⟨oc, od, dV, kV, doc, pm, an, cdv, ct, osl, rfl, lk, hcd, _, _⟩ := F.ex
  obtain ⟨c, rfl⟩ := He.codeIn_ref hcd
  have ec : He.codeOf K (x, none) = c := He.codeOf_eq (p := (x, none)) lk rfl
  rw [ec] at hb
  refine fn_of lk hcd S (fun vs H Q E h => ?_) (fun A outer s H vs Q E hr h => ⟨_, hb A outer s H E hr, ?_⟩)
  · obtain ⟨ds, m, P', R, e, r, _⟩ := h
    rw [← r.length, e, hn]
  · obtain ⟨ds, m, P', R, e, r, rM, t, q, w'⟩ := h
    refine ⟨_, m, _, RelE.start r, rM, t, ⟨fun e' m' h σ' H' t' rE rM' => ?_, fun d m' h v H' t' rv rM' => ?_, fun _ _ h => h.elim, fun _ _ h => h.elim, fun e' σ' H' t' rE => ⟨fun x' m' h cls dd H2 t2 xr rM2 => ?_⟩⟩⟩
    · obtain ⟨m2, s2, h⟩ := h
      exact q .non m2 h .non H' t' rfl (rM'.sub s2)
    · obtain ⟨m2, s2, h⟩ := h
      exact q d m2 h v H' t' rv (rM'.sub s2)
    · obtain ⟨m2, s2, h⟩ := h
      exact w'.go x' m2 h cls dd H2 (t'.trans t2) xr (rM2.sub s2)
end
end Ab

set_option Elab.async false
set_option linter.all false
namespace Ab
open PySem PySem.Spec PyProof.Rows L2
theorem noFree {l : List (Str × NameKind)} {p : Str × NameKind → Prop} (h : (l.all fun y => !decide (y.2 = .free)) = true) : ∀ y ∈ l, y.2 = .free → p y := fun y hy hf => by
  have := List.all_eq_true.mp h y hy
  rw [decide_eq_true hf] at this
  cases this
theorem cx_no {P : Program} {w : World} {H : Hp} {s : Shared} {e : Value} {s' : Shared} (h : L2.CX P w [] H s (fun _ _ _ => False) e s') : False := by
  obtain ⟨_, _, _, _, _, _, _, _, _, _, _, _, z⟩ := h
  exact z
end Ab

set_option Elab.async false
set_option linter.all false
namespace Ab
open PySem PySem.Spec PyProof.Rows L2
theorem l_same {m : M} {a : Addr} {ds : List D} : (mset m a (.lst ds)).l a = some ds := by unfold M.l; rw [mset_same]
theorem l_ne {m : M} {a b : Addr} {o : O} (h : b ≠ a) : (mset m a o).l b = m.l b := by unfold M.l; rw [mset_ne h]
theorem l_of {m : M} {a : Addr} {ds : List D} (h : m a = some (.lst ds)) : m.l a = some ds := by unfold M.l; rw [h]
theorem of_l {m : M} {a : Addr} {ds : List D} (h : m.l a = some ds) : m a = some (.lst ds) := by
  unfold M.l at h
  split at h
  · next z => cases h; exact z
  · cases h
theorem atI_nat {α : Type} {xs : List α} {i : Int} (h0 : 0 ≤ i) (h1 : i < xs.length) : atI xs i = xs[i.toNat]? := by
  unfold atI ixN
  rw [if_pos h0, if_pos h1]
  rfl
theorem atI_get {α : Type} [Inhabited α] {xs : List α} {i : Int} (h0 : 0 ≤ i) (h1 : i < xs.length) : atI xs i = some (xs[i.toNat]'(by omega)) := by
  rw [atI_nat h0 h1]
  exact List.getElem?_eq_getElem _
section
variable {α : Type} {a b c d e f g h i j : α} {l : List α}
theorem at0 : atI (a :: l) 0 = some a := by rw [atI_nat (by decide) (by simp only [List.length_cons]; omega)]; rfl
theorem at1 : atI (a :: b :: l) 1 = some b := by rw [atI_nat (by decide) (by simp only [List.length_cons]; omega)]; rfl
theorem at2 : atI (a :: b :: c :: l) 2 = some c := by rw [atI_nat (by decide) (by simp only [List.length_cons]; omega)]; rfl
theorem at3 : atI (a :: b :: c :: d :: l) 3 = some d := by rw [atI_nat (by decide) (by simp only [List.length_cons]; omega)]; rfl
theorem at4 : atI (a :: b :: c :: d :: e :: l) 4 = some e := by rw [atI_nat (by decide) (by simp only [List.length_cons]; omega)]; rfl
theorem at5 : atI (a :: b :: c :: d :: e :: f :: l) 5 = some f := by rw [atI_nat (by decide) (by simp only [List.length_cons]; omega)]; rfl
theorem ix0 {n : Nat} : ixN (n + 1) 0 = some 0 := by unfold ixN; rw [if_pos (by decide), if_pos (by omega)]; rfl
theorem ix1 {n : Nat} : ixN (n + 2) 1 = some 1 := by unfold ixN; rw [if_pos (by decide), if_pos (by omega)]; rfl
theorem ix2 {n : Nat} : ixN (n + 3) 2 = some 2 := by unfold ixN; rw [if_pos (by decide), if_pos (by omega)]; rfl
theorem ix3 {n : Nat} : ixN (n + 4) 3 = some 3 := by unfold ixN; rw [if_pos (by decide), if_pos (by omega)]; rfl
theorem xN {n k : Nat} (h : k < n) : ixN n (k : Int) = some k := by unfold ixN; rw [if_pos (by omega), if_pos (by omega)]; simp
end
theorem imp_pos {p : Prop} [Decidable p] {a b : Prop} (h : p → a) (h' : ¬p → b) : if p then a else b := by
  split
  · exact h ‹_›
  · exact h' ‹_›
end Ab

set_option Elab.async false
set_option linter.all false
set_option maxRecDepth 100000
set_option maxHeartbeats 4000000
namespace Ab
open PySem PySem.Spec PyProof.Rows L2
/-- flat data -/
def flatD : D → Bool
  | .non => true
  | .bl _ => true
  | .int _ => true
  | .str _ => true
  | _ => false
def D.fv : D → V
  | .bl b => .bl b
  | .int i => .int i
  | .str x => .str x
  | _ => .non
section
variable {K : PySem.W.Frag} {H : Hp}
theorem flat_rep {d : D} {v : V} (f : flatD d = true) (r : Rep K H d v) : v = d.fv ∧ flatV v = true := by
  cases d with
  | non => rw [show v = .non from r]; exact ⟨rfl, rfl⟩
  | bl b => rw [show v = .bl b from r]; exact ⟨rfl, rfl⟩
  | int i => rw [show v = .int i from r]; exact ⟨rfl, rfl⟩
  | str x => rw [show v = .str x from r]; exact ⟨rfl, rfl⟩
  | _ => cases f
theorem flat_reps : ∀ {ds : List D} {vs : List V}, ds.all flatD = true → Reps K H ds vs → vs = ds.map D.fv ∧ vs.all flatV = true
  | [], _, _, h => by rw [show _ = [] from h]; exact ⟨rfl, rfl⟩
  | d :: ds, _, f, ⟨x, r, e, h, hr⟩ => by
    rw [List.all_cons, Bool.and_eq_true] at f
    obtain ⟨a, b⟩ := flat_rep f.1 h
    obtain ⟨c, d'⟩ := flat_reps f.2 hr
    rw [e, List.all_cons, b, d', a, c]
    exact ⟨rfl, rfl⟩
end
def inF (x : D) (ds : List D) : Bool := ds.any fun z => eqV z.fv x.fv
def rInA (neg : Bool) : AR2 := fun x y m Q => match itemsD m y with
  | some ds => (flatD x = true ∧ ds.all flatD = true) ∧ Q (.bl (if neg = true then !inF x ds else inF x ds)) m
  | none => False
section
variable {X : Cx} {W : WX}
theorem items_seq {K : PySem.W.Frag} {H : Hp} {m : M} {d : D} {v : V} {ds : List D} (rM : RelM K H m) (e : itemsD m d = some ds) (r : Rep K H d v) : ∃ p xs, v = .ref p ∧ (SqL K H p xs ∨ SqT K H p xs) ∧ Reps K H ds xs := by
  cases d with
  | tup es => cases e; obtain ⟨a, xs, ev, hs, hr⟩ := r; exact ⟨a, xs, ev, .inr hs, hr⟩
  | fls es => cases e; obtain ⟨a, xs, ev, hs, hr⟩ := r; exact ⟨a, xs, ev, .inl hs.sq, hr⟩
  | ref a =>
    obtain ⟨xs, hx, hr⟩ := rM a _ (M.l_of (show m.l a = some ds from e))
    exact ⟨a, xs, r, .inl (SqL.of hx), hr⟩
  | _ => cases e
theorem in_rel {K : PySem.W.Frag} {neg : Bool} {x y : V} {H : Hp} {Q : VK} (h : lR2 K (rInA neg) x y H Q) : rIn K neg x y H Q := by
  obtain ⟨d1, d2, m, P, r1, r2, rM, h, q⟩ := h
  have h' : (match itemsD m d2 with | some ds => (flatD d1 = true ∧ ds.all flatD = true) ∧ P (.bl (if neg = true then !inF d1 ds else inF d1 ds)) m | none => False) := h
  cases e : itemsD m d2 with
  | none => rw [e] at h'; exact h'.elim
  | some ds =>
    rw [e] at h'
    obtain ⟨⟨f1, f2⟩, p⟩ := h'
    obtain ⟨a, xs, ev, hs, hr⟩ := items_seq rM e r2
    obtain ⟨e1, g1⟩ := flat_rep f1 r1
    obtain ⟨e2, g2⟩ := flat_reps f2 hr
    refine ⟨a, xs, ev, hs, g1, g2, ?_⟩
    have : inV x xs = inF d1 ds := by
      unfold inV inF
      rw [e1, e2, List.any_map]
      rfl
    rw [this]
    exact q _ m p _ H (Tx.refl H) rfl rM
theorem o_in : OpR X (compareOp .In) (lR2 X.K (rInA false)) := fun pins s σ H x y v u Q I rx ry h => op_in_seq pins s σ H x y v u Q I rx ry (in_rel h)
theorem o_notIn : OpR X (compareOp .NotIn) (lR2 X.K (rInA true)) := fun pins s σ H x y v u Q I rx ry h => op_notIn_seq pins s σ H x y v u Q I rx ry (in_rel h)
/-- any of a tuple of numbers and truths -/
def D.tr : D → Bool
  | .bl b => b
  | .int i => i != 0
  | _ => false
def D.isNum : D → Bool
  | .bl _ => true
  | .int _ => true
  | _ => false
def D.pd : D → PyData
  | .bl b => .bool b
  | .int i => .int i
  | _ => .none
def rAnyTA : ARL := fun ds m Q => match ds with
  | [.tup es] => es.all D.isNum = true ∧ Q (.bl (es.any D.tr)) m
  | _ => False
theorem num_pd : ∀ {es : List D}, es.all D.isNum = true → PyData.plainAll (es.map D.pd) = true ∧ (∀ x ∈ es.map D.pd, x.fits63) ∧ (es.map D.pd).any PyData.truthy = es.any D.tr
  | [], _ => ⟨rfl, fun _ h => by simp at h, rfl⟩
  | d :: es, h => by
    rw [List.all_cons, Bool.and_eq_true] at h
    obtain ⟨a, b, c⟩ := num_pd h.2
    cases d with
    | bl k =>
      refine ⟨by rw [List.map_cons, PyData.plainAll, a]; rfl, fun x hx => ?_, ?_⟩
      · rcases List.mem_cons.mp hx with e | e
        · rw [e]; trivial
        · exact b x e
      · rw [List.map_cons, List.any_cons, c]; rfl
    | int i =>
      refine ⟨by rw [List.map_cons, PyData.plainAll, a]; rfl, fun x hx => ?_, ?_⟩
      · rcases List.mem_cons.mp hx with e | e
        · rw [e]; trivial
        · exact b x e
      · rw [List.map_cons, List.any_cons, c]; rfl
    | _ => cases h.1
theorem num_dp {K : PySem.W.Frag} {H : Hp} : ∀ {es : List D} {vs : List V}, es.all D.isNum = true → Reps K H es vs → DpAll K H vs (es.map D.pd)
  | [], _, _, r => by rw [show _ = [] from r]; exact .nil
  | d :: es, _, h, ⟨x, r, e, hx, hr⟩ => by
    rw [List.all_cons, Bool.and_eq_true] at h
    rw [e]
    cases d with
    | bl k => rw [show x = .bl k from hx]; exact .cons (.bl k) (num_dp h.2 hr)
    | int k => rw [show x = .int k from hx]; exact .cons (.int k) (num_dp h.2 hr)
    | _ => cases h.1
theorem c_anyT (hc : X.calm = true) : CallR X (.builtin "any") (lRL X.K rAnyTA) := by
  intro pins s σ H vs us Q I r h
  obtain ⟨ds, m, P, rs, rM, h, q⟩ := h
  match ds, h, rs with
  | [.tup es], h, rs =>
    obtain ⟨v, r', e, ⟨a, xs, ev, hs, hr⟩, e2⟩ := rs
    obtain rfl : r' = [] := e2
    subst e ev
    obtain ⟨its, rv, ht, _⟩ := I.tuple hs
    obtain ⟨n1, n2, n3⟩ := num_pd h.1
    obtain ⟨as, ra⟩ := Dp.readsAll I _ _ its (num_dp h.1 hr) rv
    rw [Vals.ref1 r]
    refine PySem.W.any_tuple_data (vs := its.toArray) (I.ok.hd hc) ht (by simpa using ra) n1 n2 fun h' tk hk => ?_
    exact ⟨.bl _, H, I.kept hk, by rw [n3]; rfl, q _ m h.2 _ H (Tx.refl H) rfl rM⟩
/-! ### the place of an item -/
def aIndex (to ta : AE) : AE := fun e m Q R => to e m (fun o m1 => match o with
  | .ref a => (match m1.l a with
    | some _ => ta e m1 (fun d m2 => match m2.l a with
      | some ds => (flatD d = true ∧ ds.all flatD = true) ∧ ∃ j z, ds[j]? = some z ∧ eqV z.fv d.fv = true ∧ (∀ (i : Nat) z', i < j → ds[i]? = some z' → eqV z'.fv d.fv = false) ∧ Q (.int (j : Nat)) m2
      | none => False) R
    | none => False)
  | _ => False) R
theorem g_index {o a : Expr} {to ta : AE} {apos cpos : Pos} (ho : GE X W o to) (ha : GE X W a ta) (hbase : attributeBase o "index" X.env (eval o X.env) = eval o X.env := by rfl)
    (hfew : ((backTo cpos (starEach [a] X.env)).all (fun x => !x.1) && (backToKw cpos (keywordEach [] X.env)).all (fun x => x.1.isSome)
      && decide ([a].length + ([] : List Keyword).length + (if ([] : List Keyword).isEmpty then 0 else 1) < 30)) = true := by rfl)
    (hline : (apos.endLine == cpos.line) = true := by rfl) (hs : starEach [a] X.env = (false, eval a X.env) :: starEach [] X.env := by rfl) (hplain : (backTo cpos (starEach [] X.env)).any (·.1) = false := by rfl) :
    GE X W (.Call (.Attribute o "index" apos) [a] [] cpos) (aIndex to ta) := pe_imp (pe_bm PySem.F.plainAttrs_list PySem.F.slot_list_index PySem.F.type_list_index mt_index ho (pa_cons ha pa_nil hs) hbase hfew hline hs hplain) fun σ H Q h => by
  obtain ⟨e, m, P, R, rE, rM, t, q, w⟩ := h
  refine ⟨e, m, _, R, rE, rM, t, fun d m1 h1 v H1 t1 r1 rm1 => ?_, w⟩
  cases d with
  | ref b =>
    obtain rfl : v = .ref b := r1
    have h1' : (match m1.l b with | some _ => ta e m1 (fun d m2 => match m2.l b with | some ds => (flatD d = true ∧ ds.all flatD = true) ∧ ∃ j z, ds[j]? = some z ∧ eqV z.fv d.fv = true ∧ (∀ (i : Nat) z', i < j → ds[i]? = some z' → eqV z'.fv d.fv = false) ∧ P (.int (j : Nat)) m2 | none => False) R | none => False) := h1
    cases e1 : m1.l b with
    | none => rw [e1] at h1'; exact h1'.elim
    | some ds1 =>
      rw [e1] at h1'
      obtain ⟨xs1, hx1, _⟩ := rm1 b _ (M.l_of e1)
      refine ⟨.inl ⟨rfl, _, SqL.of hx1⟩, e, m1, _, R, rE.mono t1, rm1, h1', fun d2 m2 h2 v2 H2 t2 r2 rm2 => ?_, w.mono t1⟩
      have h2' : (match m2.l b with | some ds => (flatD d2 = true ∧ ds.all flatD = true) ∧ ∃ j z, ds[j]? = some z ∧ eqV z.fv d2.fv = true ∧ (∀ (i : Nat) z', i < j → ds[i]? = some z' → eqV z'.fv d2.fv = false) ∧ P (.int (j : Nat)) m2 | none => False) := h2
      cases e2 : m2.l b with
      | none => rw [e2] at h2'; exact h2'.elim
      | some ds =>
        rw [e2] at h2'
        obtain ⟨⟨f1, f2⟩, j, z, hj, hz, hn, p⟩ := h2'
        obtain ⟨xs, hx, hr⟩ := rm2 b _ (M.l_of e2)
        obtain ⟨k1, k2⟩ := flat_rep f1 r2
        obtain ⟨k3, k4⟩ := flat_reps f2 hr
        refine ⟨b, xs, v2, j, z.fv, rfl, rfl, SqL.of hx, k2, k4, by rw [k3, List.getElem?_map, hj]; rfl, by rw [k1]; exact hz, fun i z' hi hz' => ?_, q _ m2 p _ H2 (t1.trans t2) rfl rm2⟩
        rw [k3, List.getElem?_map] at hz'
        cases e3 : ds[i]? with
        | none => rw [e3] at hz'; cases hz'
        | some y => rw [e3] at hz'; cases hz'; rw [k1]; exact hn i y hi e3
  | _ => exact h1.elim
/-- a tuple of texts that the module names -/
structure CT (K : PySem.W.Frag) (mg : Str → Option Value) (x : Str) (zs : List Str) : Prop where
  ex : ∃ (a : Addr) (o : Obj) (its : Array Value) (n : Nat), mg x = some (.ref a) ∧ K.lookup a = some o ∧ o.cls = .type "tuple" ∧ o.dict = none ∧ o.data = .seq its n ∧ its.size ≤ sizeLine ∧ Vals (zs.map V.str) its.toList
def strV : Value → Option Str
  | .str z _ => some z
  | _ => none
def tupIn (K : PySem.W.Frag) (x : Str) (zs : List Str) : Bool := match PySem.W.nsIn K mainGlobals x with
  | some (some (.ref a)) => (match K.lookup a with
    | some ⟨.type t, none, .seq its _, _⟩ => decide (t = "tuple") && (decide (its.toList.map strV = zs.map some) && decide (zs.length ≤ 100))
    | _ => false)
  | _ => false
theorem vals_strV : ∀ {l : List Value} {zs : List Str}, l.map strV = zs.map some → Vals (zs.map V.str) l
  | [], [], _ => .nil
  | [], _ :: _, h => by cases h
  | _ :: _, [], h => by cases h
  | v :: l, z :: zs, h => by
    rw [List.map_cons, List.map_cons] at h
    obtain ⟨a, b⟩ := List.cons.inj h
    refine .cons ?_ (vals_strV b)
    cases v with
    | str y t => cases a; exact ⟨t, rfl⟩
    | _ => cases a
theorem ct_ok {K : PySem.W.Frag} {h : Heap} {mg : Str → Option Value} {x : Str} {zs : List Str} (KX : K.In h) (G : h.Ns mainGlobals mg) (c : tupIn K x zs = true) : CT K mg x zs := by
  unfold tupIn at c
  split at c
  · next a ea =>
    split at c
    · next t its n sl eo =>
      obtain ⟨c1, c2⟩ := Bool.and_eq_true_iff.mp c
      obtain ⟨c2, c3⟩ := Bool.and_eq_true_iff.mp c2
      have c1 := of_decide_eq_true c1
      have c2 := of_decide_eq_true c2
      have c3 := of_decide_eq_true c3
      subst c1
      have lz : its.size ≤ 100 := by
        have := congrArg List.length c2
        simp at this
        omega
      exact ⟨a, _, its, n, PySem.W.mg_of KX G ea, eo, rfl, rfl, rfl, Nat.le_trans lz (by decide), vals_strV c2⟩
    · cases c
  · cases c
theorem reps_strs {K : PySem.W.Frag} {H : Hp} : ∀ zs : List Str, Reps K H (zs.map D.str) (zs.map V.str)
  | [] => rfl
  | z :: zs => ⟨_, _, rfl, rfl, reps_strs zs⟩
theorem ct_sqT {K : PySem.W.Frag} {mg : Str → Option Value} {x : Str} {zs : List Str} (c : CT K mg x zs) : ∃ a, mg x = some (.ref a) ∧ (∃ o, K.lookup a = some o ∧ o.cls = .type "tuple" ∧ o.dict = none) ∧ ∀ H, SqT K H a (zs.map V.str) := by
  obtain ⟨a, o, its, n, h1, h2, h3, h4, h5, h6, h7⟩ := c
  exact ⟨a, h1, ⟨o, h2, h3, h4⟩, fun H => .inr ⟨o, its, n, h2, h3, h5, h6, h7⟩⟩
theorem g_ctup {x : Str} {zs : List Str} {pos : Pos} (c : CT X.K X.mg x zs) (hg : Gl X x := by rfl) (hd : (x == ("__debug__" : Str)) = false := by decide) : GE X W (.Name x pos) (aC (.tup (zs.map D.str))) := by
  obtain ⟨a, h, _, s⟩ := ct_sqT c
  exact g_glob (v := .ref a) hg h rfl (fun H => ⟨a, _, rfl, s H, reps_strs zs⟩) hd
/-- the place of a text in such a tuple -/
def aCtIx (zs : List Str) (ta : AE) : AE := fun e m Q R => ta e m (fun d m1 => match d with
  | .str z => ∃ j, zs[j]? = some z ∧ (∀ i, i < j → zs[i]? ≠ some z) ∧ Q (.int (j : Nat)) m1
  | _ => False) R
theorem g_ctIx {x : Str} {zs : List Str} {a : Expr} {ta : AE} {xp apos cpos : Pos} (c : CT X.K X.mg x zs) (ha : GE X W a ta) (hg : Gl X x := by rfl) (hd : (x == ("__debug__" : Str)) = false := by decide) (hbase : attributeBase (.Name x xp) "index" X.env (eval (.Name x xp) X.env) = eval (.Name x xp) X.env := by rfl)
    (hfew : ((backTo cpos (starEach [a] X.env)).all (fun x => !x.1) && (backToKw cpos (keywordEach [] X.env)).all (fun x => x.1.isSome)
      && decide ([a].length + ([] : List Keyword).length + (if ([] : List Keyword).isEmpty then 0 else 1) < 30)) = true := by rfl)
    (hline : (apos.endLine == cpos.line) = true := by rfl) (hs : starEach [a] X.env = (false, eval a X.env) :: starEach [] X.env := by rfl) (hplain : (backTo cpos (starEach [] X.env)).any (·.1) = false := by rfl) :
    GE X W (.Call (.Attribute (.Name x xp) "index" apos) [a] [] cpos) (aCtIx zs ta) := by
  obtain ⟨p, h, hk, s⟩ := ct_sqT c
  refine pe_imp (pe_bm PySem.F.plainAttrs_tuple PySem.F.slot_tuple_index PySem.F.type_tuple_index mt_tup_index (pe_glob (v := .ref p) hg h rfl hd) (pa_cons ha pa_nil hs) hbase hfew hline hs hplain) fun σ H Q h => ?_
  obtain ⟨e, m, P, R, rE, rM, t, q, w⟩ := h
  refine ⟨.inr (.inl ⟨rfl, hk⟩), e, m, _, R, rE, rM, t, fun d m1 h1 v H1 t1 r1 rm1 => ?_, w⟩
  cases d with
  | str z =>
    obtain ⟨j, hj, hn, p1⟩ := h1
    exact ⟨p, zs, z, j, rfl, by rw [show v = .str z from r1], s H1, hj, hn, q _ m1 p1 _ H1 t1 rfl rm1⟩
  | _ => exact h1.elim
end
end Ab

set_option Elab.async false
set_option linter.all false
set_option maxRecDepth 100000
namespace Ab
open PySem PySem.Spec PyProof.Rows L2
section
variable {ds es : List D} {i j k : Int} {m : M} {Q : PQ} {a b : Addr} {x : Str} {p q : Bool}
theorem ixT : rIxA (.tup ds) (.int i) m Q = (match atI ds i with | some d => Q d m | none => False) := rfl
theorem ixF : rIxA (.fls ds) (.int i) m Q = (match atI ds i with | some d => Q d m | none => False) := rfl
theorem ixR : rIxA (.ref a) (.int i) m Q = (match m.l a with | some ds => (match atI ds i with | some d => Q d m | none => False) | none => False) := rfl
theorem intI : rIntA [.int i] m Q = Q (.int i) m := rfl
theorem intB : rIntA [.bl p] m Q = Q (.int (if p then 1 else 0)) m := rfl
theorem tupT : rTupleA [.tup ds] m Q = Q (.tup ds) m := rfl
theorem tupF : rTupleA [.fls ds] m Q = Q (.tup ds) m := rfl
theorem tupR : rTupleA [.ref a] m Q = (match m.l a with | some es => Q (.tup es) m | none => False) := rfl
theorem addI : rAddA (.int i) (.int j) m Q = Q (.int (i + j)) m := rfl
theorem addT : rAddA (.tup ds) (.tup es) m Q = (ds.length + es.length ≤ big ∧ Q (.tup (ds ++ es)) m) := rfl
theorem addR : rAddA (.ref a) (.ref b) m Q = (match m.l a, m.l b with | some xs, some ys => xs.length + ys.length ≤ big ∧ ∀ p, m p = none → Q (.ref p) (mset m p (.lst (xs ++ ys))) | _, _ => False) := rfl
theorem mulI : rMulA (.int i) (.int j) m Q = (CMulW i j ∧ Q (.int (i * j)) m) := rfl
theorem mulT : rMulA (.tup ds) (.int k) m Q = ((ds ≠ [] ∧ 2 ≤ k ∧ k ≤ 1000 ∧ ds.length ≤ 1000) ∧ Q (.tup (List.replicate k.toNat ds).flatten) m) := rfl
theorem mulR : rMulA (.ref a) (.int k) m Q = (match m.l a with
    | some xs => (-(2 ^ 62) ≤ k ∧ k < 2 ^ 62 ∧ xs.length * k.toNat ≤ big) ∧ ∀ p, m p = none → Q (.ref p) (mset m p (.lst (List.replicate k.toNat xs).flatten))
    | none => False) := rfl
theorem slT {l u : Option Int} : Ab.rSlA (.tup ds) l u m Q = Q (.tup (Ab.cutD ds l u)) m := rfl
theorem slR {l u : Option Int} : Ab.rSlA (.ref a) l u m Q = (match m.l a with | some ds => ∀ p, m p = none → Q (.ref p) (mset m p (.lst (Ab.cutD ds l u))) | none => False) := rfl
theorem i2 {f : Int → Int → D} : rInt0 f (.int i) (.int j) m Q = Q (f i j) m := rfl
theorem c2 {C : Int → Int → Prop} {f : Int → Int → D} : rIntC C f (.int i) (.int j) m Q = (C i j ∧ Q (f i j) m) := rfl
theorem negI : rNegA (.int i) m Q = Q (.int (-i)) m := rfl
theorem isB : rIsA (.bl p) (.bl q) m Q = Q (.bl (decide (p = q))) m := rfl
theorem isN {d : D} : rIsA d .non m Q = Q (.bl d.isNon) m := by cases d <;> rfl
theorem notB : rIsNotA (.bl p) (.bl q) m Q = Q (.bl (!decide (p = q))) m := rfl
theorem notN {d : D} : rIsNotA d .non m Q = Q (.bl (!d.isNon)) m := by cases d <;> rfl
theorem eqI : rEqA (.int i) (.int j) m Q = Q (.bl (decide (i = j))) m := rfl
theorem eqS {y : Str} : rEqA (.str x) (.str y) m Q = Q (.bl (decide (x = y))) m := rfl
theorem eqB : rEqA (.bl p) (.bl q) m Q = Q (.bl (decide (p = q))) m := rfl
theorem neI : rNeA (.int i) (.int j) m Q = Q (.bl (!decide (i = j))) m := rfl
theorem neB : rNeA (.bl p) (.bl q) m Q = Q (.bl (!decide (p = q))) m := rfl
theorem nonN : D.isNon .non = true := rfl
theorem nonT : D.isNon (.tup ds) = false := rfl
theorem lenT : lenD m (.tup ds) = some ds.length := rfl
theorem lenF : lenD m (.fls ds) = some ds.length := rfl
theorem lenR : lenD m (.ref a) = (m.l a).map List.length := rfl
theorem itT : itemsD m (.tup ds) = some ds := rfl
theorem itF : itemsD m (.fls ds) = some ds := rfl
theorem itR : itemsD m (.ref a) = m.l a := rfl
theorem minI : rMinA [.int i, .int j] m Q = Q (.int (if j < i then j else i)) m := rfl
theorem maxI : rMaxA [.int i, .int j] m Q = Q (.int (if j > i then j else i)) m := rfl
theorem anyT : rAnyTA [.tup es] m Q = (es.all D.isNum = true ∧ Q (.bl (es.any D.tr)) m) := rfl
def starR (x : D) (m : M) (k : List D → Prop) : Prop := match x with
  | .tup ds => k ds
  | .ref a => (match m a with
    | some (.lst ds) => k ds
    | _ => False)
  | _ => False
theorem star_e {ta : AE} {tr : AA} {e : En} {Q' : List D → M → Prop} {R : PX} : aStar ta tr e m Q' R = ta e m (fun x m1 => starR x m1 fun ds => tr e m1 (fun xs m2 => Q' (ds ++ xs) m2) R) R := by
  unfold aStar
  congr 1
theorem starT {k : List D → Prop} : starR (.tup ds) m k = k ds := rfl
theorem starL {k : List D → Prop} : starR (.ref a) m k = (match m a with | some (.lst ds) => k ds | _ => False) := rfl
end
theorem bt_any : bootBuiltins "any" = some (.builtin "any") := by decide +kernel
end Ab

set_option Elab.async false
set_option linter.all false
set_option maxRecDepth 100000
namespace Ab
open PySem PySem.Spec PyProof.Rows L2
section
variable {e : En} {m : M} {Q : PQ} {R : PX} {A : AEnds} {ta tb te : AE} {t u : AS} {i : Nat} {d : D}
theorem seqI (h : t { A with nx := u A } e m) : aSeq t u A e m := h
theorem retI (h : te e m A.rt (A.xe e)) : aRet te A e m := h
theorem asgI {g : AG} (h : te e m (fun d m1 => g d e m1 A.nx) (A.xe e)) : aAsg te g A e m := h
theorem setI (h : te e m (fun d m1 => A.nx (e.s i d) m1) (A.xe e)) : aAsg te (aN i) A e m := h
theorem dropI (h : te e m (fun _ m1 => A.nx e m1) (A.xe e)) : aDrop te A e m := h
theorem nextI (h : A.nx e m) : aNext A e m := h
theorem ifI {c : AT} (h : c e m (fun b m1 => if b = true then t A e m1 else u A e m1) (A.xe e)) : aIfS c t u A e m := h
theorem tstI {P : Bool → M → Prop} (h : te e m (fun d m' => match d with | .bl b => P b m' | _ => False) R) : aTest te e m P R := h
theorem forI {ti : AI} {g : AG} {b : AS} (h : ti e m (fun its gd m1 => forL g b gd its A e m1) (A.xe e)) : aFor ti g b A e m := h
theorem r1I {P : List D → (M → Prop) → M → Prop} (h : ta e m (fun d m1 => match d with | .int j => (-(2 ^ 62) ≤ j ∧ j < 2 ^ 62) ∧ P (rngD 0 j.toNat) (fun _ => True) m1 | _ => False) R) : aIR1 (aCons ta aNil) e m P R := by
  show ta e m _ R
  refine (show (fun x m1 => aNil e m1 (fun xs m2 => (match x :: xs with | [.int j] => (-(2 ^ 62) ≤ j ∧ j < 2 ^ 62) ∧ P (rngD 0 j.toNat) (fun _ => True) m2 | _ => False)) R) = (fun (d : D) m1 => match d with | .int j => (-(2 ^ 62) ≤ j ∧ j < 2 ^ 62) ∧ P (rngD 0 j.toNat) (fun _ => True) m1 | _ => False) from ?_) ▸ h
  funext x m1
  cases x <;> rfl
theorem tupI {a : AA} (h : a e m (fun ds m1 => ds.length ≤ big ∧ Q (.tup ds) m1) R) : aTup a e m Q R := h
theorem lstI {a : AA} (h : a e m (fun ds m1 => ds.length ≤ big ∧ ∀ p, m1 p = none → Q (.ref p) (mset m1 p (.lst ds))) R) : aLst a e m Q R := h
theorem starI {tr : AA} {P : List D → M → Prop} (h : ta e m (fun x m1 => starR x m1 fun ds => tr e m1 (fun xs m2 => P (ds ++ xs) m2) R) R) : aStar ta tr e m P R := by rw [star_e]; exact h
theorem consI {tr : AA} {P : List D → M → Prop} (h : ta e m (fun x m1 => tr e m1 (fun xs m2 => P (x :: xs) m2) R) R) : aCons ta tr e m P R := h
theorem nilI {P : List D → M → Prop} (h : P [] m) : aNil e m P R := h
theorem callI {n : Nat} {sp : ASp} {a : AA} (h : a e m (fun ds m1 => ds.length = n ∧ sp ds m1 Q R) R) : aCall n sp a e m Q R := h
theorem cbI {r : ARL} {a : AA} (h : a e m (fun ds m1 => r ds m1 Q) R) : aCB r a e m Q R := h
theorem varI (g : e.g i = some d) (h : Q d m) : aVar i e m Q R := by unfold aVar; rw [g]; exact h
theorem cI (h : Q d m) : aC d e m Q R := h
theorem opI {r : AR2} (h : ta e m (fun x m1 => tb e m1 (fun y m2 => r x y m2 Q) R) R) : aOp r ta tb e m Q R := h
theorem andI (h : ta e m (fun x m1 => match x with | .bl c => if c = true then tb e m1 Q R else Q (.bl false) m1 | _ => False) R) : aAndV ta tb e m Q R := h
theorem notI (h : ta e m (fun x m1 => match x with | .bl c => Q (.bl (!c)) m1 | _ => False) R) : aNotV ta e m Q R := h
theorem lcI {ti : AI} {g : AG} {tt : AT} {vs : List Nat} (h : ti e m (fun its gd m1 => ∀ p, m1 p = none → lcL g tt te (wipeE e vs) p gd its Q (mset m1 p (.lst []))) R) : aLc ti g tt te vs e m Q R := h
theorem leI {i j : Int} : rLeA (.int i) (.int j) m Q = Q (.bl (decide (i ≤ j))) m := rfl
theorem ltI {i j : Int} : rLtA (.int i) (.int j) m Q = Q (.bl (decide (i < j))) m := rfl
theorem gtI {i j : Int} : rGtA (.int i) (.int j) m Q = Q (.bl (decide (j < i))) m := rfl
theorem geI {i j : Int} : rGeA (.int i) (.int j) m Q = Q (.bl (decide (j ≤ i))) m := rfl
theorem subI {i j : Int} : rSubA (.int i) (.int j) m Q = Q (.int (i - j)) m := rfl
theorem powI {i j : Int} : rPowA (.int i) (.int j) m Q = (CPow i j ∧ Q (.int (i ^ j.toNat)) m) := rfl
theorem parI {j : Nat} {a : AA} (h : a e m (fun ds m1 => match ds with | [d, d'] => A.nx ((e.s i d).s j d') m1 | _ => False) (A.xe e)) : aPar i j a A e m := h
end
end Ab

set_option Elab.async false
set_option linter.all false
set_option maxRecDepth 100000
set_option maxHeartbeats 4000000
namespace Ab
open PySem PySem.Spec PyProof.Rows L2
/-! ### dicts -/
def putKD (ps : List (Key × D)) (k : Key) (d : D) : List (Key × D) :=
  if (ps.any fun p => decide (p.1 = k)) = true then ps.map (fun p => if p.1 = k then (p.1, d) else p) else ps ++ [(k, d)]
def keyD : Key → D
  | .inl i => .int i
  | .inr x => .str x
section
variable {K : PySem.W.Frag} {H : Hp}
theorem RepKV.any {k : Key} : ∀ {ps : List (Key × D)} {l : List (Key × V)}, RepKV K H ps l → (l.any fun p => decide (p.1 = k)) = ps.any fun p => decide (p.1 = k)
  | [], _, h => by rw [show _ = [] from h]; rfl
  | (k', d) :: ps, _, ⟨v, r, e, h, hr⟩ => by rw [e, List.any_cons, List.any_cons, RepKV.any hr]
theorem RepKV.map {k : Key} {d : D} {v : V} (hd : Rep K H d v) : ∀ {ps : List (Key × D)} {l : List (Key × V)}, RepKV K H ps l → RepKV K H (ps.map fun p => if p.1 = k then (p.1, d) else p) (l.map fun p => if p.1 = k then (p.1, v) else p)
  | [], _, h => by rw [show _ = [] from h]; rfl
  | (k', d') :: ps, _, ⟨v', r, e, h, hr⟩ => by
    rw [e, List.map_cons, List.map_cons]
    by_cases c : k' = k
    · rw [if_pos c, if_pos c]
      exact ⟨v, _, rfl, hd, RepKV.map hd hr⟩
    · rw [if_neg c, if_neg c]
      exact ⟨v', _, rfl, h, RepKV.map hd hr⟩
theorem RepKV.snoc {k : Key} {d : D} {v : V} (hd : Rep K H d v) : ∀ {ps : List (Key × D)} {l : List (Key × V)}, RepKV K H ps l → RepKV K H (ps ++ [(k, d)]) (l ++ [(k, v)])
  | [], _, h => by rw [show _ = [] from h]; exact ⟨v, [], rfl, hd, rfl⟩
  | (k', d') :: ps, _, ⟨v', r, e, h, hr⟩ => by
    rw [e]
    exact ⟨v', _, rfl, h, RepKV.snoc hd hr⟩
theorem RepKV.put {k : Key} {d : D} {v : V} {ps : List (Key × D)} {l : List (Key × V)} (h : RepKV K H ps l) (hd : Rep K H d v) : RepKV K H (putKD ps k d) (putK l k v) := by
  unfold putKD putK
  rw [h.any]
  by_cases c : (ps.any fun p => decide (p.1 = k)) = true
  · rw [if_pos c, if_pos c]; exact RepKV.map hd h
  · rw [if_neg c, if_neg c]; exact RepKV.snoc hd h
theorem RepKV.length : ∀ {ps : List (Key × D)} {l : List (Key × V)}, RepKV K H ps l → ps.length = l.length
  | [], _, h => by rw [show _ = [] from h]; rfl
  | (k', d) :: ps, _, ⟨v, r, e, h, hr⟩ => by rw [e]; exact congrArg (· + 1) (RepKV.length hr)
theorem RepKV.keys : ∀ {ps : List (Key × D)} {l : List (Key × V)}, RepKV K H ps l → Reps K H (ps.map fun p => keyD p.1) (l.map fun p => kV p.1)
  | [], _, h => by rw [show _ = [] from h]; rfl
  | (k', d) :: ps, _, ⟨v, r, e, h, hr⟩ => by
    rw [e]
    refine ⟨kV k', _, rfl, ?_, RepKV.keys hr⟩
    cases k' <;> rfl
end
section
variable {X : Cx} {W : WX}
def aDNew : AE := fun _ m Q _ => ∀ p, m p = none → Q (.ref p) (mset m p (.dic []))
theorem g_dnew {pos : Pos} : GE X W (.Dict [] [] pos) aDNew := pe_imp pe_dnewK fun σ H Q h => by
  obtain ⟨e, m, P, R, rE, rM, t, q, w⟩ := h
  intro p hp
  exact q (.ref p) _ (t p (rM.free hp)) (.ref p) _ (Tx.new hp) rfl (rM.newD hp rfl)
/-- d[k] = v -/
def keyK : D → Option Key
  | .int i => some (.inl i)
  | .str x => some (.inr x)
  | _ => none
def aDPut (tv td tk : AE) : AS := fun A e m => tv e m (fun v m1 => td e m1 (fun o m2 => tk e m2 (fun k m3 => match o with
  | .ref a => (match m3 a, keyK k with
    | some (.dic ps), some k => ps.length < big ∧ A.nx e (mset m3 a (.dic (putKD ps k v)))
    | _, _ => False)
  | _ => False) (A.xe e)) (A.xe e)) (A.xe e)
theorem s_dput {o i value : Expr} {td tk tv : AE} {pos pos' : Pos} (hu : X.A.units + 1 < cLine) (ho : GE X W o td) (hi : GE X W i tk) (hv : GE X W value tv) (hs : swapsWith value (some (.Subscript o i pos')) pos.line X.env = pure false := by rfl) :
    GS X W (.Assign [.Subscript o i pos'] value pos) (aDPut tv td tk) := ps_imp (ps_dput hu ho hi hv hs) fun D σ H h => by
  obtain ⟨e, m, A, rE, rM, t, ok⟩ := h
  refine ⟨e, m, _, _, rE, rM, t, fun dv m1 h1 v H1 t1 r1 rm1 => ?_, ok.xe e σ H (Tx.refl H) rE⟩
  refine ⟨e, m1, _, _, rE.mono t1, rm1, h1, fun dd m2 h2 x H2 t2 r2 rm2 => ?_, ok.xe e σ H1 t1 (rE.mono t1)⟩
  refine ⟨e, m2, _, _, rE.mono (t1.trans t2), rm2, h2, fun dk m3 h3 y H3 t3 r3 rm3 => ?_, ok.xe e σ H2 (t1.trans t2) (rE.mono (t1.trans t2))⟩
  cases dd with
  | ref a =>
    have h3' : (match m3 a, keyK dk with
      | some (.dic ps), some k => ps.length < big ∧ A.nx e (mset m3 a (.dic (putKD ps k dv)))
      | _, _ => False) := h3
    cases e1 : m3 a with
    | none => rw [e1] at h3'; exact h3'.elim
    | some ob =>
      cases e2 : keyK dk with
      | none => rw [e1, e2] at h3'; cases ob <;> exact h3'.elim
      | some k =>
        rw [e1, e2] at h3'
        cases ob with
        | dic ps =>
          obtain ⟨l, hl, hz⟩ := rm3 a _ e1
          have ey : y = kV k := by
            cases dk with
            | int i => cases e2; exact r3
            | str z => cases e2; exact r3
            | _ => cases e2
          subst ey
          refine ⟨a, _, r2, DPut.k hl (by rw [← hz.length]; exact big_lt h3'.1), ok.nx _ _ h3'.2 σ _ ((t1.trans (t2.trans t3)).trans (Tx.mut hl trivial)) ((rE.mono (t1.trans (t2.trans t3))).mono (Tx.mut hl trivial)) (rm3.putD hl (hz.put (r1.mono (t2.trans t3))))⟩
        | _ => exact h3'.elim
  | _ => exact h3.elim
/-- list(x), a dict too -/
def rListXA : ARL := fun ds m Q => match ds with
  | [.ref a] => (match m a with
    | some (.dic ps) => ∀ p, m p = none → Q (.ref p) (mset m p (.lst (ps.map fun q => keyD q.1)))
    | _ => rListA [.ref a] m Q)
  | ds => rListA ds m Q
theorem c_listX (hc : X.calm = true) : CallR X (.type "list") (lRL X.K rListXA) := by
  intro pins s σ H vs us Q I r h
  obtain ⟨ds, m, P, rs, rM, h, q⟩ := h
  have old : rListA ds m P → wpAny (model X.prog X.w) X.A (call (.type "list") us) (EP X pins σ Q) X.xe s := fun z => c_list pins s σ H vs us Q I r ⟨ds, m, P, rs, rM, z, q⟩
  match ds, h, rs, old with
  | [], h, rs, old => exact old h
  | [.ref a], h, rs, old =>
    have h' : (match m a with
      | some (.dic ps) => ∀ p, m p = none → P (.ref p) (mset m p (.lst (ps.map fun q => keyD q.1)))
      | _ => rListA [.ref a] m P) := h
    cases e : m a with
    | none => rw [e] at h'; exact old h'
    | some ob =>
      cases ob with
      | dic ps =>
        rw [e] at h'
        obtain ⟨l, hl, hz⟩ := rM a _ e
        obtain ⟨v, r', ev, hv, hr⟩ := rs
        obtain rfl : r' = [] := hr
        obtain rfl : v = .ref a := hv
        subst ev
        refine call_list_dK hc pins s σ H _ us Q I r ⟨a, l, rfl, hl, fun p hp => ?_⟩
        exact q (.ref p) _ (h' p (rM.free hp)) (.ref p) _ (Tx.new hp) rfl (rM.newL hp hz.keys)
      | _ => rw [e] at h'; exact old h'
  | [.non], h, rs, old => exact old h
  | [.bl _], h, rs, old => exact old h
  | [.int _], h, rs, old => exact old h
  | [.str _], h, rs, old => exact old h
  | [.tup _], h, rs, old => exact old h
  | [.fls _], h, rs, old => exact old h
  | [.ty _], h, rs, old => exact old h
  | d :: _ :: _, h, rs, old => cases d <;> exact old h
/-- sorted(l), a list of ints -/
def intsD : List D → Option (List Int)
  | [] => some []
  | .int i :: r => (intsD r).map (i :: ·)
  | _ :: _ => none
theorem intsD_eq : ∀ {ds : List D} {ns : List Int}, intsD ds = some ns → ds = ns.map D.int
  | [], _, h => by cases h; rfl
  | .int i :: r, ns, h => by
    have h' : (intsD r).map (i :: ·) = some ns := h
    cases e : intsD r with
    | none => rw [e] at h'; cases h'
    | some ms => rw [e] at h'; cases h'; rw [intsD_eq e]; rfl
  | .non :: _, _, h => by cases h
  | .bl _ :: _, _, h => by cases h
  | .str _ :: _, _, h => by cases h
  | .tup _ :: _, _, h => by cases h
  | .fls _ :: _, _, h => by cases h
  | .ref _ :: _, _, h => by cases h
  | .ty _ :: _, _, h => by cases h
def rSortedA : ARL := fun ds m Q => match ds with
  | [.ref a] => ∃ ns, m.l a = some (ns.map D.int) ∧ ∀ (ns' : List Int) p, ns'.Perm ns → ns'.Pairwise (· ≤ ·) → m p = none → Q (.ref p) (mset m p (.lst (ns'.map D.int)))
  | _ => False
theorem c_sorted : CallR X (.builtin "sorted") (lRL X.K rSortedA) := by
  intro pins s σ H vs us Q I r h
  obtain ⟨ds, m, P, rs, rM, h, q⟩ := h
  match ds, h, rs with
  | [.ref a], ⟨ns, ha, h⟩, ⟨v, r', ev, hv, hr⟩ =>
    obtain rfl : r' = [] := hr
    obtain rfl : v = .ref a := hv
    subst ev
    obtain ⟨xs, hx, hz⟩ := rM a _ (M.l_of ha)
    rw [hz.ints] at hx
    refine cr_sortedI pins s σ H _ us Q I r ⟨a, ns, rfl, SqL.of hx, fun ns' p hp hs hn => ?_⟩
    exact q (.ref p) _ (h ns' p hp hs (rM.free hn)) (.ref p) _ (Tx.new hn) rfl (rM.newL hn (Reps.of_ints ns'))
theorem bt_sorted : bootBuiltins "sorted" = some (.builtin "sorted") := by decide +kernel
end
end Ab

set_option Elab.async false
set_option linter.all false
set_option maxRecDepth 100000
namespace Ab
open PySem PySem.Spec PyProof.Rows L2
section
variable {e : En} {m : M} {Q : PQ} {R : PX} {A : AEnds} {ta tb te : AE} {t u : AS} {i j k : Int} {d : D} {C : Int → Int → Prop} {f : Int → Int → D} {p q : Bool} {x y : Str} {a b : Addr} {ds es : List D} {ct cu : AT}
theorem bl_f {b : Bool} {p q : Prop} (hb : b = false) (h : q) : (if b = true then p else q) := by rw [hb]; exact h
theorem bl_t {b : Bool} {p q : Prop} (hb : b = true) (h : p) : (if b = true then p else q) := by rw [hb]; exact h
theorem notTI {P : Bool → M → Prop} (h : ct e m (fun b m1 => P (!b) m1) R) : aNot ct e m P R := h
theorem andTI {P : Bool → M → Prop} (h : ct e m (fun c m1 => if c = true then cu e m1 P R else P false m1) R) : aAnd ct cu e m P R := h
theorem orTI {P : Bool → M → Prop} (h : ct e m (fun c m1 => if c = true then P true m1 else cu e m1 P R) R) : aOr ct cu e m P R := h
theorem ifEI (h : ct e m (fun c m1 => if c = true then ta e m1 Q R else tb e m1 Q R) R) : aIf ct ta tb e m Q R := h
theorem orVI (h : ta e m (fun x m1 => match x with | .bl c => if c = true then Q (.bl true) m1 else tb e m1 Q R | _ => False) R) : aOrV ta tb e m Q R := h
theorem slI {l u : APt} {r : ARS} (h : ta e m (fun d m1 => l e m1 (fun l m2 => u e m2 (fun u m3 => r d l u m3 Q) R) R) R) : aSl r ta l u e m Q R := h
theorem noPI {P : Option Int → M → Prop} (h : P none m) : aNoP e m P R := h
theorem ptI {P : Option Int → M → Prop} (h : ta e m (fun d m1 => match d with | .int i => P (some i) m1 | _ => False) R) : aPt ta e m P R := h
theorem unI {r : AR1} (h : ta e m (fun x m1 => r x m1 Q) R) : aUn r ta e m Q R := h
theorem iTupI {P : List D → (M → Prop) → M → Prop} (h : te e m (fun d m1 => match d with | .tup ds => P ds (fun _ => True) m1 | _ => False) R) : aITup te e m P R := h
theorem parII {n1 n2 : Nat} {aa : AA} (h : aa e m (fun ds m1 => match ds with | [d, d'] => A.nx ((e.s n1 d).s n2 d') m1 | _ => False) (A.xe e)) : aPar n1 n2 aa A e m := h
theorem rIC (h : Q (f i j) m) (c : C i j) : rIntC C f (.int i) (.int j) m Q := ⟨c, h⟩
theorem rI0 (h : Q (f i j) m) : rInt0 f (.int i) (.int j) m Q := h
theorem addII (h : Q (.int (i + j)) m) : rAddA (.int i) (.int j) m Q := h
theorem addTT (h : Q (.tup (ds ++ es)) m) (c : ds.length + es.length ≤ big) : rAddA (.tup ds) (.tup es) m Q := ⟨c, h⟩
theorem addSS (h : Q (.str (x ++ y)) m) (c : x.length + y.length ≤ big) : rAddA (.str x) (.str y) m Q := ⟨c, h⟩
theorem mulII (h : Q (.int (i * j)) m) (c : CMulW i j) : rMulA (.int i) (.int j) m Q := ⟨c, h⟩
theorem negII (h : Q (.int (-i)) m) : rNegA (.int i) m Q := h
theorem eqII (h : Q (.bl (decide (i = j))) m) : rEqA (.int i) (.int j) m Q := h
theorem eqSS (h : Q (.bl (decide (x = y))) m) : rEqA (.str x) (.str y) m Q := h
theorem eqBB (h : Q (.bl (decide (p = q))) m) : rEqA (.bl p) (.bl q) m Q := h
theorem neII (h : Q (.bl (!decide (i = j))) m) : rNeA (.int i) (.int j) m Q := h
theorem neSS (h : Q (.bl (!decide (x = y))) m) : rNeA (.str x) (.str y) m Q := h
theorem neBB (h : Q (.bl (!decide (p = q))) m) : rNeA (.bl p) (.bl q) m Q := h
theorem isNN (h : Q (.bl d.isNon) m) : rIsA d .non m Q := by rw [isN]; exact h
theorem isNotNN (h : Q (.bl (!d.isNon)) m) : rIsNotA d .non m Q := by rw [notN]; exact h
theorem isBB (h : Q (.bl (decide (p = q))) m) : rIsA (.bl p) (.bl q) m Q := h
theorem isNotBB (h : Q (.bl (!decide (p = q))) m) : rIsNotA (.bl p) (.bl q) m Q := h
theorem ixTI (ha : atI ds i = some d) (h : Q d m) : rIxA (.tup ds) (.int i) m Q := by rw [ixT, ha]; exact h
theorem ixFI (ha : atI ds i = some d) (h : Q d m) : rIxA (.fls ds) (.int i) m Q := by rw [ixF, ha]; exact h
theorem ixRI (hl : m.l a = some ds) (ha : atI ds i = some d) (h : Q d m) : rIxA (.ref a) (.int i) m Q := by rw [ixR, hl]; simp only [ha]; exact h
theorem lenTI (h : Q (.int (ds.length : Nat)) m) : rLenA [.tup ds] m Q := h
theorem lenFI (h : Q (.int (ds.length : Nat)) m) : rLenA [.fls ds] m Q := h
theorem lenRI (hl : m.l a = some ds) (h : Q (.int (ds.length : Nat)) m) : rLenA [.ref a] m Q := by
  unfold rLenA; simp only [lenR, hl, Option.map_some]; exact h
theorem intII (h : Q (.int i) m) : rIntA [.int i] m Q := h
theorem intBI (h : Q (.int (if p then 1 else 0)) m) : rIntA [.bl p] m Q := h
theorem tupTI (h : Q (.tup ds) m) : rTupleA [.tup ds] m Q := h
theorem tupRI (hl : m.l a = some ds) (h : Q (.tup ds) m) : rTupleA [.ref a] m Q := by rw [tupR, hl]; exact h
theorem minII (h : Q (.int (if j < i then j else i)) m) : rMinA [.int i, .int j] m Q := h
theorem maxII (h : Q (.int (if j > i then j else i)) m) : rMaxA [.int i, .int j] m Q := h
theorem slTI {l u : Option Int} (h : Q (.tup (Ab.cutD ds l u)) m) : Ab.rSlA (.tup ds) l u m Q := h
theorem starTI {tr : AA} {P : List D → M → Prop} (h : ta e m (fun x m1 => starR x m1 fun ds => tr e m1 (fun xs m2 => P (ds ++ xs) m2) R) R) : aStar ta tr e m P R := starI h
theorem starTT {k : List D → Prop} (h : k ds) : starR (.tup ds) m k := h
theorem lenOk {n : Nat} (h : Nat.ble n 64 = true) : n ≤ big := Nat.le_trans (Nat.le_of_ble_eq_true h) (by decide)
theorem truI {P : Bool → M → Prop} (h : te e m (fun d m' => match d with
  | .bl b => P b m'
  | .non => P false m'
  | .int i => P (i != 0) m'
  | .str x => x.length ≤ 100000 ∧ P ((x.length : Int) != 0) m'
  | .tup ds => P (!ds.isEmpty) m'
  | .ref a => (match m' a with
    | some (.lst ds) => P (!ds.isEmpty) m'
    | _ => False)
  | _ => False) R) : aTru te e m P R := h
theorem ir2I {aa : AA} {P : List D → (M → Prop) → M → Prop} (h : aa e m (fun ds m1 => match ds with
  | [.int i, .int j] => (-(2 ^ 62) ≤ i ∧ i < 2 ^ 62 ∧ -(2 ^ 62) ≤ j ∧ j < 2 ^ 62) ∧ P (rngD i (j - i).toNat) (fun _ => True) m1
  | _ => False) R) : aIR2 aa e m P R := h
theorem chainI {r r' : AR2} {tc : AE} (h : ta e m (fun x m1 => tb e m1 (fun y m2 => r x y m2 fun z m3 => match z with
  | .bl b => if b = true then tc e m3 (fun w m4 => r' y w m4 Q) R else Q (.bl false) m3
  | _ => False) R) R) : aChain r r' ta tb tc e m Q R := h
theorem iLstI {n : Nat} {P : List D → (M → Prop) → M → Prop} (g : e.g n = some (.ref a)) (h : m a = some (.lst ds)) (q : P ds (fun m2 => m2 a = some (.lst ds)) m) : aILst (aVar n) e m P R := by
  unfold aILst aVar
  rw [g]
  show (match m a with | some (.lst ds) => P ds (fun m2 => m2 a = some (.lst ds)) m | _ => False)
  rw [h]
  exact q
theorem brkI (h : A.bk e m) : aBrk A e m := h
theorem cntI (h : A.ct e m) : aCnt A e m := h
theorem retNI (h : A.rt .non m) : aRetN A e m := h
theorem yesI {P : Bool → M → Prop} (h : P true m) : aYes e m P R := h
theorem ttI {n : Nat} {g : AGs} {P : En → M → Prop} (hl : ds.length = n) (h : g ds e m P) : aTT n g (.tup ds) e m P := ⟨hl, h⟩
theorem gcI {g : AG} {v : AGs} {P : En → M → Prop} (h : g d e m fun e1 m1 => v ds e1 m1 P) : aGCons g v (d :: ds) e m P := h
theorem gnI {P : En → M → Prop} (h : P e m) : aGNil [] e m P := h
theorem aNI {n : Nat} {P : En → M → Prop} (h : P (e.s n d) m) : aN n d e m P := h
end
end Ab

set_option Elab.async false
set_option linter.all false
set_option maxRecDepth 100000
set_option maxHeartbeats 2000000
namespace Ab
open PySem PySem.Spec PyProof.Rows L2
/-! ### x in a tuple of texts, x no text -/
theorem dict_eq_declines_str (l : Addr) (es : Array DictEntry) (ep : Nat) (dd : Option Addr) (sl : Array (Option Value)) (b : Str) (u : Tok) :
    Meets (Builtin.«dict.__eq__» ⟨[.ref l, .str b u], []⟩) (fun _ R s => s.heap.get? l = some { cls := .type "dict", dict := dd, data := .dict es ep, slots := sl } ∧ R (.ok (.ret .notImplemented)) s) :=
  .of_wp fun prog w A R s h => by obtain ⟨hp, g, d, tk, os⟩ := s; obtain ⟨hl, h⟩ := h; have f1 := F.sub_str_dict; wp_walk using AutoSeq1.wpAny_loadPart' hl, wpAny_load hl; exact ⟨_, rfl, h⟩
theorem str_eq_declines_dict (b : Str) (u : Tok) (l : Addr) (es : Array DictEntry) (ep : Nat) (dd : Option Addr) (sl : Array (Option Value)) :
    Meets (Builtin.«str.__eq__» ⟨[.str b u, .ref l], []⟩) (fun _ R s => s.heap.get? l = some { cls := .type "dict", dict := dd, data := .dict es ep, slots := sl } ∧ R (.ok (.ret .notImplemented)) s) :=
  .of_wp fun prog w A R s h => by obtain ⟨hp, g, d, tk, os⟩ := s; obtain ⟨hl, h⟩ := h; wp_walk using AutoSeq1.wpAny_loadPart' hl, wpAny_load hl; exact ⟨_, rfl, h⟩
section
variable {A : Around} {s : Shared}
theorem eqAt_str_dict {l : Addr} {es : Array DictEntry} {ep : Nat} {o : Obj} (b : Str) (u : Tok) (hl : s.heap.get? l = some o) (hc : o.cls = .type "dict") (hd : o.data = .dict es ep) (hu : A.units < cLine) : SeqAt.EqAt A s (.str b u) (.ref l) false := fun prog w E Q h => by
  unfold eqBool
  refine wpAny_holding ?_
  refine wpAny_ite_split (fun hab => absurd (eq_of_beq hab) nofun) (fun _ => ?_)
  obtain ⟨cls, dd, data, sl⟩ := o
  simp only at hc hd
  subst hc hd
  refine wpAny_bind (SeqAt.rc_eq_decline_or (k := false) (typeIs_str s b u) ⟨_, hl, rfl⟩ (by decide) F.sub_dict_str F.slot_str_eq F.slot_dict_eq_refl
    (fun _ hq => call_meets F.slot_str_eq (typeIs_str s b u) F.entry_str_eq (F.args_str_eq_2 _ _) (str_eq_declines_dict b u l es ep dd sl) ⟨hl, hq⟩)
    (fun _ hq => call_meets F.slot_dict_eq_refl ⟨_, hl, rfl⟩ F.entry_dict_eq (F.args_dict_eq_2 _ _) (dict_eq_declines_str l es ep dd sl b u) ⟨hl, hq⟩)
    (fun _ hq => wpAny_of_eq (rfl : isSame (.str b u) (.ref l) = pure false) hq) (.inr hu) ?_)
  exact wpAny_truthy_bool h
end
def D.isStr : D → Bool
  | .str _ => true
  | _ => false
/-- a tuple, a list or a dict -/
def heapD (m : M) : D → Bool
  | .tup _ => true
  | .ref a => (m.l a).isSome || (match m a with | some (.dic _) => true | _ => false)
  | _ => false
def rInXA : AR2 := fun x y m Q => match itemsD m y with
  | some ds => ((flatD x = true ∧ ds.all flatD = true) ∧ Q (.bl (inF x ds)) m) ∨ ((heapD m x = true ∧ ds.all D.isStr = true) ∧ Q (.bl false) m)
  | none => False
section
variable {X : Cx} {W : WX}
theorem strs_at {K : PySem.W.Frag} {H : Hp} {A : Around} {s : Shared} {v : Value} (h : ∀ b u, SeqAt.EqAt A s (.str b u) v false) : ∀ {ds : List D} {xs : List V} {us : List Value}, ds.all D.isStr = true → Reps K H ds xs → Vals xs us → ∀ u ∈ us, SeqAt.EqAt A s u v false
  | [], xs, us, _, r, rv => fun u hu => by
    have e : xs = [] := r
    subst e
    cases rv
    cases hu
  | d :: ds, xs, us, f, ⟨x, r, e, hx, hr⟩, rv => fun u hu => by
    subst e
    rw [List.all_cons, Bool.and_eq_true] at f
    cases rv with
    | cons r1 r2 =>
      rcases List.mem_cons.mp hu with z | z
      · cases d with
        | str b =>
          obtain rfl : x = .str b := hx
          obtain ⟨t, et⟩ := r1
          rw [z, et]
          exact h b t
        | _ => cases f.1
      · exact strs_at h f.2 hr r2 u z
theorem heap_eq {pins : List (Addr × Obj)} {σ : L2.St} {H : Hp} {s : Shared} {m : M} {x : D} {v : V} {u : Value} {A : Around} (I : Inv X pins σ H s) (hu : A.units < cLine) (rM : RelM X.K H m) (hx : heapD m x = true) (r : Rep X.K H x v) (ru : RelV v u) (b : Str) (t : Tok) : SeqAt.EqAt A s (.str b t) u false := by
  cases x with
  | tup ds =>
    obtain ⟨a, xs, ev, hs, hr⟩ := r
    subst ev
    cases ru
    obtain ⟨its, _, ht, _⟩ := I.tuple hs
    exact SeqAt.EqAt.str_tuple b t ht hu
  | ref a =>
    rw [show v = .ref a from r] at ru
    cases ru
    have hx' : ((m.l a).isSome || (match m a with | some (.dic _) => true | _ => false)) = true := hx
    cases q : m.l a with
    | some ds =>
      obtain ⟨xs, hl, hr⟩ := rM a _ (M.l_of q)
      obtain ⟨its, _, hl, _⟩ := I.list (SqL.of hl)
      exact SeqAt.EqAt.str_list b t hl.isList hu
    | none =>
      rw [q] at hx'
      cases q2 : m a with
      | none => rw [q2] at hx'; cases hx'
      | some ob =>
        rw [q2] at hx'
        cases ob with
        | dic ps =>
          obtain ⟨l, hl, _⟩ := rM a _ q2
          obtain ⟨_, _, vs, _, o, es, ep, h1, h2, h3, _⟩ := I.hok a _ hl
          exact eqAt_str_dict b t h1 h2.1 h3 hu
        | _ => cases hx'
  | _ => cases hx
theorem o_inX (hu : X.A.units + 64 < cLine) : OpR X (compareOp .In) (lR2 X.K rInXA) := by
  intro pins s σ H x y v u Q I rx ry h
  obtain ⟨d1, d2, m, P, r1, r2, rM, h, q⟩ := h
  have h' : (match itemsD m d2 with | some ds => ((flatD d1 = true ∧ ds.all flatD = true) ∧ P (.bl (inF d1 ds)) m) ∨ ((heapD m d1 = true ∧ ds.all D.isStr = true) ∧ P (.bl false) m) | none => False) := h
  cases e : itemsD m d2 with
  | none => rw [e] at h'; exact h'.elim
  | some ds =>
    rw [e] at h'
    rcases h' with h' | ⟨⟨f1, f2⟩, p⟩
    · refine o_in pins s σ H x y v u Q I rx ry ⟨d1, d2, m, P, r1, r2, rM, ?_, q⟩
      show (match itemsD m d2 with | some ds => (flatD d1 = true ∧ ds.all flatD = true) ∧ P (.bl (if false = true then !inF d1 ds else inF d1 ds)) m | none => False)
      rw [e]
      exact h'
    · obtain ⟨a, xs, ev, hs, hr⟩ := items_seq rM e r2
      subst ev
      cases ry
      have key := fun b t => heap_eq (A := X.A.in1) I (by simp only [Around.in1_units]; omega) rM f1 r1 rx b t
      have nil : ∀ us : List Value, us.any (fun _ => false) = false := fun us => by induction us <;> simp_all
      rcases hs with hs | hs
      · obtain ⟨its, rv, pl, hz⟩ := I.list hs
        refine SeqAt.in_listAt (fun _ => false) pl.isList (fun w hw => strs_at key f2 hr rv w (by simpa using hw)) ⟨.bl _, H, I, rfl, ?_⟩
        rw [show its.toArray.any (fun _ => false) = false by simp [nil]]
        exact q _ m p _ H (Tx.refl H) rfl rM
      · obtain ⟨its, rv, pl, hz⟩ := I.tuple hs
        refine SeqAt.in_tupleAt (fun _ => false) pl (fun w hw => strs_at key f2 hr rv w (by simpa using hw)) ⟨.bl _, H, I, rfl, ?_⟩
        rw [show its.toArray.any (fun _ => false) = false by simp [nil]]
        exact q _ m p _ H (Tx.refl H) rfl rM
theorem inXF {x y : D} {m : M} {Q : PQ} {ds : List D} (hy : itemsD m y = some ds) (h1 : flatD x = true) (h2 : ds.all flatD = true) (q : Q (.bl (inF x ds)) m) : rInXA x y m Q := by
  unfold rInXA; simp only [hy]; exact .inl ⟨⟨h1, h2⟩, q⟩
theorem inXH {x y : D} {m : M} {Q : PQ} {ds : List D} (hy : itemsD m y = some ds) (h1 : heapD m x = true) (h2 : ds.all D.isStr = true) (q : Q (.bl false) m) : rInXA x y m Q := by
  unfold rInXA; simp only [hy]; exact .inr ⟨⟨h1, h2⟩, q⟩
end
end Ab

set_option Elab.async false
set_option linter.all false
set_option maxRecDepth 100000
set_option maxHeartbeats 4000000
namespace Ab
open PySem PySem.Spec PyProof.Rows L2
open Sem (wp)
open AutoSeq1 (wpAny_loadPart')
theorem meets_enumerate_newT (l : Addr) (items : Array Value) (n : Nat) (dct : Option Addr) (sl : Array (Option Value)) :
    Meets (Builtin.«enumerate.__new__» ⟨[.type "enumerate", .ref l], []⟩) (fun _ R s => s.heap.get? l = some { cls := .type "tuple", dict := dct, data := .seq items n, slots := sl } ∧
      R (.ok (.ret (.ref (s.heap.push { cls := .type "tuple_iterator", data := .fields #[.ref l, .int 0 0] }).objs.size)))
        { s with heap := (s.heap.push { cls := .type "tuple_iterator", data := .fields #[.ref l, .int 0 0] }).push { cls := .type "enumerate", data := .fields #[.none, .bool false, .ref s.heap.objs.size, rawInt 0, .none, .none] } }) :=
  .of_wp fun prog w A R s h => by
    obtain ⟨hp, g, d, tk, os⟩ := s; obtain ⟨hl, h⟩ := h
    have hsub := sub_enumerate
    have hL : Heap.IsTuple (Shared.heap ⟨hp, g, d, tk, os⟩) l items := ⟨_, hl, rfl, n, rfl⟩
    wp_walk using wpAny_loadPart' hl
    refine wpAny_stack_any fun st => wpAny_pure ?_
    split
    · rename_i c _ _ _ _ _
      cases (c == Value.type "enumerate")
      · wp_walk using wpAny_loadPart' hl, wpAny_pyIter_tuple hL
        exact ⟨_, rfl, h⟩
      · wp_walk using wpAny_loadPart' hl, wpAny_pyIter_tuple hL
        exact ⟨_, rfl, h⟩
    · wp_walk using wpAny_loadPart' hl, wpAny_pyIter_tuple hL
      exact ⟨_, rfl, h⟩
theorem call_enumerate_tuple {prog : Program} {w : World} {A : Around} {E : Value → Shared → Prop} {s : Shared} {l : Addr} {items : Array Value} {Q : Value → Shared → Prop} (hL : s.heap.IsTuple l items)
    (h : ∀ h', IsEnum h' (s.heap.objs.size + 1) s.heap.objs.size 0 .none → h'.IsTupleIter s.heap.objs.size l 0 → h'.objs.size = s.heap.objs.size + 2 →
      (∀ b o, s.heap.get? b = some o → h'.get? b = some o) → Q (.ref (s.heap.objs.size + 1)) { s with heap := h' }) :
    wpAny (model prog w) A (call (.type "enumerate") [.ref l]) Q E s := by
  obtain ⟨⟨c, dct, dt, sl⟩, hl, hc, n, hd⟩ := hL
  replace hc : c = .type "tuple" := hc
  replace hd : dt = .seq items n := hd
  subst hc hd
  refine callType_new F.called_enumerate (by decide) (F.typeCall_enumerate_1 _) (F.newCall_enumerate_1 _) (fun obj => F.args_object_init_2 obj _) F.entry_enumerate_new
    (meets_enumerate_newT l items n dct sl) ⟨hl, ?_⟩
  have hz : (s.heap.push { cls := .type "tuple_iterator", data := .fields #[.ref l, .int 0 0] }).objs.size = s.heap.objs.size + 1 := Heap.size_push ..
  show _ ∧ _
  rw [hz]
  have he : IsEnum ((s.heap.push { cls := .type "tuple_iterator", data := .fields #[.ref l, .int 0 0] }).push
      { cls := .type "enumerate", data := .fields #[.none, .bool false, .ref s.heap.objs.size, rawInt 0, .none, .none] }) (s.heap.objs.size + 1) s.heap.objs.size 0 .none := by
    have := Heap.get?_push_size (s.heap.push { cls := .type "tuple_iterator", data := .fields #[.ref l, .int 0 0] })
      (o := { cls := .type "enumerate", data := .fields #[.none, .bool false, .ref s.heap.objs.size, rawInt 0, .none, .none] }) rfl
    rw [hz] at this; exact this
  refine ⟨⟨_, he, rfl⟩, h _ he ⟨_, Heap.get?_push_of_some _ (Heap.get?_push_size _ rfl), rfl, rfl⟩ (by rw [Heap.size_push, hz]) fun b o x => Heap.get?_push_of_some _ (Heap.get?_push_of_some _ x)⟩
theorem wpAny_pyNext_enum_endT {prog : Program} {w : World} {A : Around} {E : Value → Shared → Prop} {s : Shared} {e it l : Addr} {i : Nat} {items : Array Value} {old : Value} {Q : Option Value → Shared → Prop} (hh : A.handled = none)
    (he : IsEnum s.heap e it i old) (hit : s.heap.IsTupleIter it l i) (hl : s.heap.IsTuple l items) (hx : items[i]? = none)
    (hQ : ∀ h', Heap.ExtBut it s.heap h' → Q none { s with heap := h' }) : wpAny (model prog w) A (pyNext (.ref e)) Q E s := by
  have hT : s.TypeIs (.ref e) "enumerate" := ⟨_, he, rfl⟩
  unfold pyNext
  refine wpAny_bind (wpAny_attempt (wpAny_callSpecial?_slot (name := Str.ofString "__next__") hT F.slot_enumerate_next
    (wpAny_call_entry F.slot_enumerate_next hT F.entry_enumerate_next ?_ (F.args_enumerate_next_1 _))))
  show wpAny _ _ (field (.ref e) 2 >>= _) _ _ _
  refine wpAny_bind (wpAny_field he rfl (x := .ref it) rfl ?_)
  refine wpAny_bind (wpAny_nextOf_tuple_end hh hit hl hx fun h' x he' hx' => ?_)
  obtain ⟨o, ho, hc⟩ := hx'
  refine wpAny_bind (wpAny_isInstance (T := "StopIteration") (b := true) ⟨o, ho, hc⟩ isSubtype_stop ?_)
  exact wpAny_pure (hQ _ he')
/-- the tuple at a, each item in a new pair -/
def IteT (K : PySem.W.Frag) (a : Addr) : It :=
  ⟨fun i H => ∃ (xs : List V) (x : V), SqT K H a xs ∧ xs[i]? = some x, fun i H v H' => ∃ T x, v = .ref T ∧ H T = none ∧ H' = upd H T (.tup [.int (i : Nat), x]) ∧ ∀ xs, SqT K H a xs → xs[i]? = some x, fun i H => ∃ xs : List V, SqT K H a xs ∧ xs.length ≤ i⟩
theorem turn_enumT {P : Program} {w : World} {K : PySem.W.Frag} {elts : List Expr} {kk : Nat} {tpos : Pos} (a e it : Addr) :
    Turn P w K (.Tuple elts kk tpos) (IteT K a) [e, it] e (fun i h => (∃ old, IsEnum h e it ((i : Nat) : Int) old) ∧ h.IsTupleIter it a i ∧ e ≠ it ∧ a ≠ it ∧ e ≠ a) where
  mem := by simp
  obj := fun i h st b hb => by
    obtain ⟨⟨old, he⟩, ⟨o, ho, hc, hd⟩, _⟩ := st
    have e' : b = e ∨ b = it := by simpa using hb
    rcases e' with z | z
    · rw [z]; exact ⟨_, he, fun v q => nomatch q⟩
    · rw [z]; exact ⟨o, ho, fun v q => by rw [hd] at q; cases q⟩
  keep := fun i h h' st k => let ⟨⟨old, he⟩, hi, hne⟩ := st; ⟨⟨old, k e (by simp) _ he⟩, hi.at fun o q => k it (by simp) o q, hne⟩
  item := by
    intro X hP hw hK hc i pins s σ H E I hf st hg
    subst hP hw hK
    obtain ⟨⟨old, he⟩, hit, hne, hai, hea⟩ := st
    obtain ⟨xs, x, hq, hx⟩ := hg
    obtain ⟨its, rv, p, hz⟩ := I.tuple hq
    obtain ⟨u, hu, ru⟩ := rv.get hx
    have hel : e < s.heap.objs.size := Heap.lt_size he
    have hil : it < s.heap.objs.size := by obtain ⟨_, q, _⟩ := hit; exact Heap.lt_size q
    have hlt : i < its.toArray.size := by
      rw [List.size_toArray]; exact (List.getElem?_eq_some_iff.mp hu).1
    refine wpAny_pyNext_enum_itemD (Draws.tuple (A := X.A.in1) (I.ok.hd hc) it a hai its.toArray) he ⟨hit, p⟩ hlt hne (by simp [hne, hea]) fun y h' tk hy ho hst' hT hsz hk => ?_
    obtain rfl : y = u := by
      have h1 : its.toArray[i]? = some y := hy
      have h2 : its[i]? = some y := by simpa using h1
      rw [hu] at h2; cases h2; rfl
    refine ⟨_, rfl, wpAny_letOwnedTupleGo_enum (s := { s with heap := h', toks := tk + 1 }) ho fun h'' he' sb => ?_⟩
    have hT2 : h''.get? s.heap.objs.size = some { cls := .type "tuple", data := .seq #[.int i tk, y] } := (sb.2 _ (Nat.ne_of_gt hel)).trans hT
    have new : ObjOk X.prog X.w (upd H s.heap.objs.size (.tup [.int (i : Nat), x])) h'' s.heap.objs.size (.tup [.int (i : Nat), x]) :=
      ⟨by show 2 ≤ sizeLine; decide, [.int i tk, y], .cons ⟨_, rfl⟩ (.cons ru .nil), ⟨_, hT2, rfl, _, rfl⟩⟩
    have I1 : Inv X pins σ (upd H s.heap.objs.size (.tup [.int (i : Nat), x])) { s with heap := h'', toks := tk + 1 } :=
      I.turnedNew (ch := [e, it]) (fun b ob hb q => (sb.2 b (fun z => hb (by simp [z]))).trans (hk b ob (fun z => hb (by simp [z])) (fun z => hb (by simp [z])) q)) hf (Nat.le_refl _) new
    refine ⟨.ref s.heap.objs.size, _, I1, rfl, ⟨_, x, rfl, I.hok.fresh (Nat.le_refl _), rfl, fun ys hy => by rw [I.tuple_inj hy hq]; exact hx⟩, ⟨⟨y, ?_⟩, hst'.1.at fun o q => (sb.2 it (Ne.symm hne)).trans q, hne, hai, hea⟩, fun b hb => ?_⟩
    · have e1 : ((i + 1 : Nat) : Int) = (i : Int) + 1 := by omega
      rw [e1]; exact he'
    · have hb' : b < s.heap.objs.size := by
        have e' : b = e ∨ b = it := by simpa using hb
        rcases e' with z | z
        · rw [z]; exact hel
        · rw [z]; exact hil
      rw [upd_ne (Nat.ne_of_lt hb')]
      exact (hf b hb).1
  done := by
    intro X hP hw hK hc i pins s σ H E I hf st hg
    subst hP hw hK
    obtain ⟨⟨old, he⟩, hit, hne, hai, hea⟩ := st
    obtain ⟨xs, hq, hx⟩ := hg
    obtain ⟨its, rv, p, hz⟩ := I.tuple hq
    obtain ⟨f0, f1, f2, f3, f4, f5⟩ := hf it (by simp)
    have hl := rv.length
    exact wpAny_pyNext_enum_endT (I.ok.hd hc) he hit p (by simp; omega) fun h' eb => ⟨rfl, I.turned (t' := s.toks) (fun b o hb q => eb b o hb q) f0 f1 f3 f4 f5⟩
  self := fun A i s Q E st h => let ⟨⟨_, he⟩, _⟩ := st; wpAny_pyIter_enum he h
/-! ### for i, x in enumerate(e), e a tuple or a list -/
def enD (its : List D) : List D := (List.range its.length).map fun (i : Nat) => .tup [.int (i : Nat), its.getD i .non]
def aIEnum (te : AE) : AI := fun e m Q R => te e m (fun d m1 => match d with
  | .tup ds => Q (enD ds) (fun _ => True) m1
  | .fls ds => Q (enD ds) (fun _ => True) m1
  | .ref a => (match m1 a with
    | some (.lst ds) => Q (enD ds) (fun m2 => m2 a = some (.lst ds)) m1
    | _ => False)
  | _ => False) R
def iEnumA (K : PySem.W.Frag) (ta : TA) : TI := fun σ H R => ta σ H fun vs H1 => ∃ a xs, vs = [.ref a] ∧ ((SqL K H1 a xs ∧ R (Ite K a) H1) ∨ (SqT K H1 a xs ∧ R (IteT K a) H1))
theorem pi_enumA {X : Cx} {e : Expr} {ta : TA} {p pos tpos : Pos} {elts : List Expr} {kk : Nat} (hg : Gl X "enumerate") (hm : X.mg "enumerate" = none) (ha : PA X [e] ta) (hs : starEach [e] X.env = [(false, eval e X.env)] := by rfl) :
    PI X (.Tuple elts kk tpos) (.Call (.Name "enumerate" p) [e] [] pos) (iEnumA X.K ta) := by
  refine ⟨fun pins s σ H R I h => ?_⟩
  refine Call_ (ld_blt I hg hm boot_enumerate (PyProof.Rows.callWith_type1 (thn (ha.run pos pins s σ H _ I h) fun us s1 ⟨vs, H1, I1, r1, q1⟩ => ?_) hs rfl))
  obtain ⟨a, xs, ex, hq⟩ := q1
  subst ex
  cases r1 with
  | cons r rr =>
    cases rr
    cases r
    have hle0 : ∀ b, (b = s1.heap.objs.size + 1 ∨ b = s1.heap.objs.size) → s1.heap.objs.size ≤ b := fun b e' => by
      rcases e' with z | z
      · rw [z]; exact Nat.le_add_right _ _
      · rw [z]; exact Nat.le_refl _
    rcases hq with ⟨hq, q⟩ | ⟨hq, q⟩
    · obtain ⟨its, rv, p', hz⟩ := I1.list hq
      refine call_enumerate_list p'.isList fun h' he hit hsz hk => wpAny_pyIter_enum he ?_
      have I2 : Inv X pins σ H1 { s1 with heap := h' } := I1.kept (t' := s1.toks) hk
      refine ⟨s1.heap.objs.size + 1, [s1.heap.objs.size + 1, s1.heap.objs.size], _, _, H1, rfl, I2, turn_enum a (s1.heap.objs.size + 1) s1.heap.objs.size, ⟨⟨.none, he⟩, hit, Nat.succ_ne_self _⟩, fun b hb => ?_, q⟩
      have hle := hle0 b (by simpa using hb)
      exact I1.fpOk hle (I1.hok.fresh hle)
    · obtain ⟨its, rv, p', hz⟩ := I1.tuple hq
      have al : a < s1.heap.objs.size := by obtain ⟨_, q, _⟩ := id p'; exact Heap.lt_size q
      refine call_enumerate_tuple p' fun h' he hit hsz hk => wpAny_pyIter_enum he ?_
      have I2 : Inv X pins σ H1 { s1 with heap := h' } := I1.kept (t' := s1.toks) hk
      refine ⟨s1.heap.objs.size + 1, [s1.heap.objs.size + 1, s1.heap.objs.size], _, _, H1, rfl, I2, turn_enumT a (s1.heap.objs.size + 1) s1.heap.objs.size, ⟨⟨.none, he⟩, hit, Nat.succ_ne_self _, Nat.ne_of_lt al, Nat.ne_of_gt (Nat.lt_succ_of_lt al)⟩, fun b hb => ?_, q⟩
      have hle := hle0 b (by simpa using hb)
      exact I1.fpOk hle (I1.hok.fresh hle)
section
variable {X : Cx} {W : WX}
theorem enD_len (ds : List D) : (enD ds).length = ds.length := by simp [enD]
theorem enD_get {ds : List D} {i : Nat} {d : D} (h : (enD ds)[i]? = some d) : ∃ x, ds[i]? = some x ∧ d = .tup [.int (i : Nat), x] := by
  unfold enD at h
  rw [List.getElem?_map] at h
  by_cases hi : i < ds.length
  · rw [List.getElem?_range hi] at h
    cases h
    refine ⟨ds[i], by simp [hi], ?_⟩
    show D.tup [_, ds.getD i .non] = _
    rw [List.getD_eq_getElem?_getD, List.getElem?_eq_getElem hi]
    rfl
  · rw [List.getElem?_eq_none (by simpa using hi)] at h
    cases h
theorem reps_pair {K : PySem.W.Frag} {H : Hp} {T : Addr} {i : Nat} {x : V} {d : D} (hT : H T = none) (r : Rep K H d x) : Rep K (upd H T (.tup [.int (i : Nat), x])) (.tup [.int (i : Nat), d]) (.ref T) :=
  ⟨T, [.int (i : Nat), x], rfl, SqT.of upd_same, ⟨_, _, rfl, rfl, ⟨_, _, rfl, r.mono (Tx.new hT), rfl⟩⟩⟩
theorem i_enum {elts : List Expr} {kk : Nat} {p pos tpos : Pos} {e : Expr} {te : AE} (hm : X.mg "enumerate" = none) (he : GE X W e te) (hg : Gl X "enumerate" := by rfl) (hs : starEach [e] X.env = (false, eval e X.env) :: starEach [] X.env := by rfl) (hs2 : starEach [e] X.env = [(false, eval e X.env)] := by rfl) :
    GI' X W (.Tuple elts kk tpos) (.Call (.Name "enumerate" p) [e] [] pos) (aIEnum te) := pi_imp (pi_enumA hg hm (pa_cons he pa_nil hs) hs2) fun σ H Q h => by
  obtain ⟨e, m, P, R, rE, rM, t, q, w⟩ := h
  refine ⟨e, m, _, R, rE, rM, t, fun d m1 h1 x H1 t1 r1 rm1 => ?_, w⟩
  show ∃ a xs, [x] = [V.ref a] ∧ _
  cases d with
  | tup ds =>
    obtain ⟨a, xs, rfl, hs, hr⟩ := r1
    refine ⟨a, xs, rfl, .inr ⟨hs, q (enD ds) _ m1 h1 _ H1 t1 rm1 ⟨fun i H2 m2 t2 _ _ hi => ?_, fun i d H2 m2 x H3 t2 rm2 _ hd y => ?_, fun H2 m2 t2 _ _ => ?_⟩⟩⟩
    · have hi' : i < xs.length := by rw [← hr.length, ← enD_len]; exact hi
      exact ⟨xs, xs[i], sqT_tx t2 hs, by simp [hi']⟩
    · obtain ⟨T, z, ev, hT, e3, hx⟩ := y
      subst e3 ev
      obtain ⟨d', hd', rfl⟩ := enD_get hd
      obtain ⟨v, hv, rv⟩ := hr.get hd'
      have := hx xs (sqT_tx t2 hs)
      rw [hv] at this
      cases this
      exact ⟨Tx.new hT, reps_pair hT (rv.mono t2), fun m3 z => z.grow hT⟩
    · exact ⟨xs, sqT_tx t2 hs, by rw [enD_len, ← hr.length]; exact Nat.le_refl _⟩
  | fls ds =>
    obtain ⟨a, xs, rfl, hs, hr⟩ := r1
    refine ⟨a, xs, rfl, .inl ⟨hs.sq, q (enD ds) _ m1 h1 _ H1 t1 rm1 ⟨fun i H2 m2 t2 _ _ hi => ?_, fun i d H2 m2 x H3 t2 rm2 _ hd y => ?_, fun H2 m2 t2 _ _ => ?_⟩⟩⟩
    · have hi' : i < xs.length := by rw [← hr.length, ← enD_len]; exact hi
      exact ⟨xs, xs[i], (FrL.tx t2 hs).sq, by simp [hi']⟩
    · obtain ⟨T, z, ev, hT, e3, hx⟩ := y
      subst e3 ev
      obtain ⟨d', hd', rfl⟩ := enD_get hd
      obtain ⟨v, hv, rv⟩ := hr.get hd'
      have := hx xs (FrL.tx t2 hs).sq
      rw [hv] at this
      cases this
      exact ⟨Tx.new hT, reps_pair hT (rv.mono t2), fun m3 z => z.grow hT⟩
    · exact ⟨xs, (FrL.tx t2 hs).sq, by rw [enD_len, ← hr.length]; exact Nat.le_refl _⟩
  | ref a =>
    have h1' : (match m1 a with | some (.lst ds) => P (enD ds) (fun m2 => m2 a = some (.lst ds)) m1 | _ => False) := h1
    cases hm : m1 a with
    | none => rw [hm] at h1'; exact h1'.elim
    | some o =>
      rw [hm] at h1'
      cases o with
      | lst ds =>
        obtain ⟨xs, hx, hr⟩ := rm1 a _ hm
        obtain rfl : x = V.ref a := r1
        refine ⟨a, xs, rfl, .inl ⟨SqL.of hx, q (enD ds) _ m1 h1' _ H1 t1 rm1 ⟨fun i H2 m2 t2 rm2 g2 hi => ?_, fun i d H2 m2 x H3 t2 rm2 g2 hd y => ?_, fun H2 m2 t2 rm2 g2 => ?_⟩⟩⟩
        · obtain ⟨ys, hy, hr2⟩ := rm2 a _ g2
          have hi' : i < ys.length := by rw [← hr2.length, ← enD_len]; exact hi
          exact ⟨ys, ys[i], SqL.of hy, by simp [hi']⟩
        · obtain ⟨ys, hy, hr2⟩ := rm2 a _ g2
          obtain ⟨T, z, ev, hT, e3, hx3⟩ := y
          subst e3 ev
          obtain ⟨d', hd', rfl⟩ := enD_get hd
          obtain ⟨v, hv, rv⟩ := hr2.get hd'
          have := hx3 ys (SqL.of hy)
          rw [hv] at this
          cases this
          exact ⟨Tx.new hT, reps_pair hT rv, fun m3 z => z.grow hT⟩
        · obtain ⟨ys, hy, hr2⟩ := rm2 a _ g2
          exact ⟨ys, SqL.of hy, by rw [enD_len, ← hr2.length]; exact Nat.le_refl _⟩
      | _ => exact h1'.elim
  | _ => exact h1.elim
/-! ### x op= e, x a plain local -/
def aAug (f : Int → Int → Int) (i : Nat) (te : AE) : AS := fun A e m => match e.g i with
  | some (.int x) => te e m (fun d m1 => match d with
    | .int y => A.nx (e.s i (.int (f x y))) m1
    | _ => False) (A.xe e)
  | _ => False
theorem s_aug {i : Nat} {x : Str} {e : Expr} {te : AE} {op : Operator} {f : Int → Int → Int} {pos pos' : Pos} (ho : PIp X op (ipI f)) (hN : X.N.Nodup) (he : GE X W e te) (hi : X.N[i]? = some x := by rfl) (hx : Loc X.env.scope x := by first | exact .inl rfl | exact .inr rfl) (hf : X.fn x = true ∨ X.env.scope.names.lookup x = some .local := by first | exact .inl rfl | exact .inr rfl) :
    GS X W (.AugAssign (.Name x pos') op e pos) (aAug f i te) := ps_imp (ps_aug hN hi hx he ho hf) fun D σ H h => by
  obtain ⟨e, m, A, rE, rM, t, ok⟩ := h
  have t' : (match e.g i with
  | some (.int x) => te e m (fun d m1 => match d with
    | .int y => A.nx (e.s i (.int (f x y))) m1
    | _ => False) (A.xe e)
  | _ => False) := t
  cases g : e.g i with
  | none => rw [g] at t'; exact t'.elim
  | some d0 =>
    rw [g] at t'
    cases d0 with
    | int n =>
      obtain ⟨v, s, r⟩ := rE.get g
      obtain rfl : v = .int n := r
      refine ⟨_, s, e, m, _, _, rE, rM, t', fun d m1 h1 y H1 t1 r1 rm1 => ?_, ok.xe e σ H (Tx.refl H) rE⟩
      cases d with
      | int k =>
        obtain rfl : y = .int k := r1
        exact ⟨n, k, rfl, rfl, ok.nx _ m1 h1 _ H1 t1 ((rE.mono t1).set i rfl) rm1⟩
      | _ => exact h1.elim
    | _ => exact t'.elim
theorem augI {f : Int → Int → Int} {i : Nat} {te : AE} {A : AEnds} {e : En} {m : M} {x : Int} (g : e.g i = some (.int x)) (h : te e m (fun d m1 => match d with
    | .int y => A.nx (e.s i (.int (f x y))) m1
    | _ => False) (A.xe e)) : aAug f i te A e m := by
  unfold aAug
  rw [g]
  exact h
/-! ### try whose body raises nothing -/
def aTryN (t : AS) : AS := fun A e m => t { A with xe := fun _ _ _ => False } e m
theorem s_tryN {body : List Stmt} {h₀ : ExceptHandler} {hs : List ExceptHandler} {pos : Pos} {t : AS} (hb : GSs X.nox W0 body t) : GS X W (.Try body (h₀ :: hs) [] [] pos) (aTryN t) := ps_imp (ps_try_thru0 hb) fun D σ H h => by
  obtain ⟨e, m, A, rE, rM, t, ok⟩ := h
  exact ⟨e, m, _, rE, rM, t, ⟨ok.nx, ok.rt, ok.bk, ok.ct, fun e σ' H' t' rE' => ⟨fun x m' z => z.elim⟩⟩⟩
/-! ### l.pop(i) -/
def popAt (ds : List D) (i : Int) : Option Nat := seqIndex? i ds.length
def aPopAt (to ta : AE) : AE := fun e m Q R => to e m (fun o m1 => match o with
  | .ref a => (match m1.l a with
    | some _ => ta e m1 (fun d m2 => match d, m2.l a with
      | .int i, some ds => (-(2 ^ 63) ≤ i ∧ i < 2 ^ 63) ∧ (match seqIndex? i ds.length with
        | some k => (match ds[k]? with
          | some y => Q y (mset m2 a (.lst (ds.eraseIdx k)))
          | none => False)
        | none => False)
      | _, _ => False) R
    | none => False)
  | _ => False) R
theorem Reps.eraseIdx {K : PySem.W.Frag} {H : Hp} : ∀ {ds : List D} {vs : List V} (k : Nat), Reps K H ds vs → Reps K H (ds.eraseIdx k) (vs.eraseIdx k)
  | [], _, k, h => by rw [show _ = [] from h]; rfl
  | d :: ds, _, 0, ⟨x, r, e, h, hr⟩ => by rw [e]; exact hr
  | d :: ds, _, k + 1, ⟨x, r, e, h, hr⟩ => by rw [e]; exact ⟨x, r.eraseIdx k, rfl, h, Reps.eraseIdx k hr⟩
theorem g_popAt {o a : Expr} {to ta : AE} {apos cpos : Pos} (ho : GE X W o to) (ha : GE X W a ta) (hbase : attributeBase o "pop" X.env (eval o X.env) = eval o X.env := by rfl)
    (hfew : ((backTo cpos (starEach [a] X.env)).all (fun x => !x.1) && (backToKw cpos (keywordEach [] X.env)).all (fun x => x.1.isSome)
      && decide ([a].length + ([] : List Keyword).length + (if ([] : List Keyword).isEmpty then 0 else 1) < 30)) = true := by rfl)
    (hline : (apos.endLine == cpos.line) = true := by rfl) (hs : starEach [a] X.env = (false, eval a X.env) :: starEach [] X.env := by rfl) (hplain : (backTo cpos (starEach [] X.env)).any (·.1) = false := by rfl) :
    GE X W (.Call (.Attribute o "pop" apos) [a] [] cpos) (aPopAt to ta) := pe_imp (pe_bm PySem.F.plainAttrs_list PySem.F.slot_list_pop PySem.F.type_list_pop mt_popAt ho (pa_cons ha pa_nil hs) hbase hfew hline hs hplain) fun σ H Q h => by
  obtain ⟨e, m, P, R, rE, rM, t, q, w⟩ := h
  refine ⟨e, m, _, R, rE, rM, t, fun d m1 h1 v H1 t1 r1 rm1 => ?_, w⟩
  cases d with
  | ref b =>
    obtain rfl : v = .ref b := r1
    dsimp only at h1
    cases e1 : m1.l b with
    | none => rw [e1] at h1; exact h1.elim
    | some ds1 =>
      rw [e1] at h1
      obtain ⟨xs1, hx1, _⟩ := rm1 b _ (M.l_of e1)
      refine ⟨.inl ⟨rfl, _, SqL.of hx1⟩, e, m1, _, R, rE.mono t1, rm1, h1, fun d2 m2 h2 v2 H2 t2 r2 rm2 => ?_, w.mono t1⟩
      cases d2 with
      | int i =>
        obtain rfl : v2 = .int i := r2
        cases e2 : m2.l b with
        | none => rw [e2] at h2; exact h2.elim
        | some ds =>
          rw [e2] at h2
          obtain ⟨⟨i0, i1⟩, h2⟩ := h2
          obtain ⟨xs, hx, hr⟩ := rm2 b _ (M.l_of e2)
          cases e3 : seqIndex? i ds.length with
          | none => rw [e3] at h2; exact h2.elim
          | some k =>
            rw [e3] at h2
            dsimp only at h2
            cases e4 : ds[k]? with
            | none => rw [e4] at h2; exact h2.elim
            | some y =>
              rw [e4] at h2
              obtain ⟨vy, hvy, ry⟩ := hr.get e4
              exact ⟨b, xs, i, k, vy, rfl, rfl, hx, i0, i1, by rw [← hr.length]; exact e3, hvy, q _ _ h2 _ _ ((t1.trans t2).trans (Tx.mut hx trivial)) (ry.mono (Tx.mut hx trivial)) (rm2.putL hx (hr.eraseIdx k))⟩
      | _ => exact h2.elim
  | _ => exact h1.elim
/-! ### list(range(n)) -/
def aLstRg (ta : AE) : AE := fun e m Q R => ta e m (fun d m1 => match d with
  | .int n => (0 ≤ n ∧ n ≤ 16777216) ∧ ∀ p, m1 p = none → Q (.ref p) (mset m1 p (.lst (rngD 0 n.toNat)))
  | _ => False) R
/-! ### min(l), l a list of alike data -/
theorem g_lstRg {a : Expr} {ta : AE} {p p2 pos pos2 : Pos} (hc : X.calm = true) (ht : X.mg "list" = none) (hr : X.mg "range" = none) (ha : GE X W a ta) (hg : Gl X "list" := by rfl) (hg2 : Gl X "range" := by rfl) (na2 : starEach [a] X.env = (false, eval a X.env) :: starEach [] X.env := by rfl)
    (na : starEach [.Call (.Name "range" p2) [a] [] pos2] X.env = (false, eval (.Call (.Name "range" p2) [a] [] pos2) X.env) :: starEach [] X.env := by rfl) : GE X W (.Call (.Name "list" p) [.Call (.Name "range" p2) [a] [] pos2] [] pos) (aLstRg ta) :=
  pe_imp (pe_listRg hc hg ht (prg_1 hg2 hr ha na2) na) fun σ H Q h => by
    obtain ⟨e, m, P, R, rE, rM, t, q, w⟩ := h
    refine ⟨e, m, _, R, rE, rM, t, fun d m1 h1 v H1 t1 r1 rm1 => ?_, w⟩
    cases d with
    | int n =>
      obtain ⟨⟨n0, n1⟩, h2⟩ := h1
      refine ⟨n, r1, RgOk.of_le (by omega) n1 (by omega) n0, fun p hp => ?_⟩
      have e : rngD 0 n.toNat = ((List.range n.toNat).map fun i : Nat => (0 : Int) + (i : Nat)).map D.int := by unfold rngD; rw [List.map_map]; rfl
      have e2 : rgV 0 n = ((List.range n.toNat).map fun i : Nat => (0 : Int) + (i : Nat)).map V.int := by unfold rgV; rw [List.map_map, Int.sub_zero]; rfl
      refine q _ _ (h2 p (rm1.free hp)) _ _ (t1.trans (Tx.new hp)) rfl (rm1.newL hp ?_)
      rw [e, e2]
      exact Reps.of_ints _
    | _ => exact h1.elim
def rMinLA : ARL := fun ds m Q => match ds with
  | [.int i, .int j] => Q (.int (if j < i then j else i)) m
  | [.ref a] => ∃ es p ps, m.l a = some es ∧ D.pys es = some (p :: ps) ∧ PySem.W.AlikeAll (p :: ps) ∧ PyData.depthAll (p :: ps) ≤ 40 ∧ ∀ d, d ∈ es → d.py = some (PySem.W.minD p ps) → Q d m
  | _ => False
def rMaxLA : ARL := fun ds m Q => match ds with
  | [.int i, .int j] => Q (.int (if j > i then j else i)) m
  | [.ref a] => ∃ es p ps, m.l a = some es ∧ D.pys es = some (p :: ps) ∧ PySem.W.AlikeAll (p :: ps) ∧ PyData.depthAll (p :: ps) ≤ 40 ∧ ∀ d, d ∈ es → d.py = some (PySem.W.maxD p ps) → Q d m
  | _ => False
theorem pys_get : ∀ {ds : List D} {ps : List PyData} {i : Nat} {d : D}, D.pys ds = some ps → ds[i]? = some d → ∃ p, d.py = some p ∧ ps[i]? = some p
  | [], _, _, _, _, h => by simp at h
  | x :: ds, ps, i, d, e, h => by
    have e' : (match D.py x, D.pys ds with | some p, some ps => some (p :: ps) | _, _ => none) = some ps := e
    cases q1 : D.py x with
    | none => rw [q1] at e'; cases e'
    | some p => cases q2 : D.pys ds with
      | none => rw [q1, q2] at e'; cases e'
      | some qs =>
        rw [q1, q2] at e'
        cases e'
        cases i with
        | zero => simp at h; subst h; exact ⟨p, q1, by simp⟩
        | succ i =>
          obtain ⟨p', a, b⟩ := pys_get q2 (by simpa using h)
          exact ⟨p', a, by simpa using b⟩
theorem pys_len : ∀ {ds : List D} {ps : List PyData}, D.pys ds = some ps → ps.length = ds.length
  | [], _, h => by cases h; rfl
  | x :: ds, ps, e => by
    have e' : (match D.py x, D.pys ds with | some p, some ps => some (p :: ps) | _, _ => none) = some ps := e
    cases q1 : D.py x with
    | none => rw [q1] at e'; cases e'
    | some p => cases q2 : D.pys ds with
      | none => rw [q1, q2] at e'; cases e'
      | some qs => rw [q1, q2] at e'; cases e'; simp [pys_len q2]
theorem best_go {pins : List (Addr × Obj)} {σ : L2.St} {H : Hp} {s : Shared} {m : M} {P : PQ} {Q : VK} {a : Addr} {es : List D} {p : PyData} {ps : List PyData} {b : PyData} (I : Inv X pins σ H s) (rM : RelM X.K H m) (hl : m.l a = some es) (hp : D.pys es = some (p :: ps))
    (q : QOk X.K H P Q) (h : ∀ d, d ∈ es → d.py = some b → P d m) :
    ∃ (its : List Value) (as : List Addr), s.heap.IsList a its.toArray ∧ ReadsAll s.heap its (p :: ps) as ∧
      ∀ (i : Nat) v h' tk bs, its.toArray[i]? = some v → Reads h' v b bs → (∀ b o, s.heap.get? b = some o → h'.get? b = some o) → EP X pins σ Q v { s with heap := h', toks := tk } := by
  obtain ⟨xs, hx, hr⟩ := rM a _ (M.l_of hl)
  obtain ⟨its, rv, pl, _⟩ := I.list (SqL.of hx)
  obtain ⟨as, ra⟩ := Dp.readsAll I _ _ its (dps_of hp hr) rv
  refine ⟨its, as, pl.isList, ra, fun i v h' tk bs hi r hk => ?_⟩
  have hv : its[i]? = some v := by simpa using hi
  obtain ⟨hlt, _⟩ := List.getElem?_eq_some_iff.mp hv
  have hlx : i < xs.length := by rw [rv.length]; exact hlt
  obtain ⟨u', hu', rvu⟩ := rv.get (List.getElem?_eq_getElem hlx)
  rw [hv] at hu'
  cases hu'
  obtain ⟨d, hd, rd⟩ := hr.get' (List.getElem?_eq_getElem hlx)
  obtain ⟨pd, hpd, hps⟩ := pys_get hp hd
  obtain ⟨as2, r2⟩ := Dp.reads I pd _ _ (dp_of hpd rd) rvu
  have e := (PySem.Reads.unique (PyProof.Rows.Reads.keeps hk r2) _ _ r).1
  subst e
  exact ⟨_, H, I.kept hk, rvu, q d m (h d (List.mem_of_getElem? hd) hpd) _ H (Tx.refl H) rd rM⟩
theorem c_minL (hc : X.calm = true) (hu : X.A.units + 64 < cLine) : CallR X (.builtin "min") (lRL X.K rMinLA) := by
  intro pins s σ H vs us Q I r h
  obtain ⟨ds, m, P, rs, rM, h, q⟩ := h
  match ds, h, rs with
  | [.int i, .int j], h, rs => exact c_min hc pins s σ H vs us Q I r ⟨[.int i, .int j], m, P, rs, rM, h, q⟩
  | [.ref a], ⟨es, p, ps, hl, hp, ha, hd, h⟩, ⟨v, r', ev, hv, hr⟩ =>
    obtain rfl : r' = [] := hr
    obtain rfl : v = .ref a := hv
    subst ev
    obtain ⟨its, as, il, ra, fin⟩ := best_go I rM hl hp q h
    rw [Vals.ref1 r]
    exact PySem.W.min_list_data (I.ok.hd hc) il (by simpa using ra) ha (by omega) fin
theorem c_maxL (hc : X.calm = true) (hu : X.A.units + 64 < cLine) : CallR X (.builtin "max") (lRL X.K rMaxLA) := by
  intro pins s σ H vs us Q I r h
  obtain ⟨ds, m, P, rs, rM, h, q⟩ := h
  match ds, h, rs with
  | [.int i, .int j], h, rs => exact c_max hc pins s σ H vs us Q I r ⟨[.int i, .int j], m, P, rs, rM, h, q⟩
  | [.ref a], ⟨es, p, ps, hl, hp, ha, hd, h⟩, ⟨v, r', ev, hv, hr⟩ =>
    obtain rfl : r' = [] := hr
    obtain rfl : v = .ref a := hv
    subst ev
    obtain ⟨its, as, il, ra, fin⟩ := best_go I rM hl hp q h
    rw [Vals.ref1 r]
    exact PySem.W.max_list_data (I.ok.hd hc) il (by simpa using ra) ha (by omega) fin
end
end Ab

set_option Elab.async false
set_option linter.all false
set_option maxRecDepth 100000
set_option maxHeartbeats 4000000
namespace Ab
open PySem PySem.Spec PyProof.Rows L2
/-- plain data: numbers, truths, texts, None, tuples of them, so deep -/
def okQ : Nat → D → Prop
  | _, .non => True
  | _, .bl _ => True
  | _, .int _ => True
  | _, .str x => PyData.strOk x = true
  | n + 1, .tup ds => ∀ d ∈ ds, okQ n d
  | _, _ => False
theorem okQ_tup {n : Nat} {ds : List D} (h : ∀ d ∈ ds, okQ n d) : okQ (n + 1) (.tup ds) := h
theorem pys_of {n : Nat} : ∀ {ds : List D}, (∀ d ∈ ds, ∃ p, d.py = some p ∧ p.canLay0 = true ∧ p.depth ≤ n) → ∃ ps, D.pys ds = some ps ∧ PyData.canLayAll0 ps = true ∧ PyData.depthAll ps ≤ n
  | [], _ => ⟨[], rfl, rfl, Nat.zero_le _⟩
  | d :: ds, h => by
    obtain ⟨p, a, b, c⟩ := h d (by simp)
    obtain ⟨ps, a2, b2, c2⟩ := pys_of (ds := ds) fun d hd => h d (by simp [hd])
    refine ⟨p :: ps, ?_, ?_, ?_⟩
    · show (match D.py d, D.pys ds with | some p, some ps => some (p :: ps) | _, _ => none) = _
      rw [a, a2]
    · simp only [PyData.canLayAll0, b, b2, Bool.and_self]
    · simp only [PyData.depthAll]; omega
theorem py_of : ∀ {n : Nat} {d : D}, okQ n d → ∃ p, d.py = some p ∧ p.canLay0 = true ∧ p.depth ≤ n + 1
  | _, .non, _ => ⟨.none, rfl, rfl, by simp [PyData.depth]⟩
  | _, .bl b, _ => ⟨.bool b, rfl, rfl, by simp [PyData.depth]⟩
  | _, .int i, _ => ⟨.int i, rfl, rfl, by simp [PyData.depth]⟩
  | _, .str x, h => by
    refine ⟨.str x, rfl, ?_, by simp [PyData.depth]⟩
    simp only [PyData.canLay0]
    rename_i n
    cases n <;> exact h
  | 0, .tup ds, h => h.elim
  | n + 1, .tup ds, h => by
    obtain ⟨ps, a, b, c⟩ := pys_of (n := n + 1) (ds := ds) fun d hd => py_of (h d hd)
    refine ⟨.tuple ps, ?_, ?_, ?_⟩
    · show (D.pys ds).map PyData.tuple = _
      rw [a]; rfl
    · simpa [PyData.canLay0] using b
    · simp only [PyData.depth]; omega
  | 0, .fls ds, h => h.elim
  | _ + 1, .fls ds, h => h.elim
  | 0, .ref _, h => h.elim
  | _ + 1, .ref _, h => h.elim
  | 0, .ty _, h => h.elim
  | _ + 1, .ty _, h => h.elim
theorem shaped_of {p : PyData} {n : Nat} (h : p.canLay0 = true) (hd : p.depth ≤ n) (hn : n ≤ 64) : SeqAt.shaped p = true := by
  unfold SeqAt.shaped
  rw [h, Bool.true_and]
  exact decide_eq_true (Nat.le_trans hd hn)
/-- the same without truths -/
def okN : Nat → D → Prop
  | _, .non => True
  | _, .int _ => True
  | _, .str x => PyData.strOk x = true
  | n + 1, .tup ds => ∀ d ∈ ds, okN n d
  | _, _ => False
theorem okN_Q : ∀ {n : Nat} {d : D}, okN n d → okQ n d
  | n, .non, _ => by cases n <;> trivial
  | 0, .bl b, h => h.elim
  | _ + 1, .bl b, h => h.elim
  | n, .int i, _ => by cases n <;> trivial
  | 0, .str x, h => h
  | _ + 1, .str x, h => h
  | 0, .tup ds, h => h.elim
  | n + 1, .tup ds, h => fun d hd => okN_Q (h d hd)
  | 0, .fls ds, h => h.elim
  | _ + 1, .fls ds, h => h.elim
  | 0, .ref _, h => h.elim
  | _ + 1, .ref _, h => h.elim
  | 0, .ty _, h => h.elim
  | _ + 1, .ty _, h => h.elim
theorem pys_nil {ps : List PyData} (h : D.pys [] = some ps) : ps = [] := by cases h; rfl
theorem pys_cons {d : D} {ds : List D} {ps : List PyData} (h : D.pys (d :: ds) = some ps) : ∃ p qs, ps = p :: qs ∧ d.py = some p ∧ D.pys ds = some qs := by
  have e' : (match D.py d, D.pys ds with | some p, some ps => some (p :: ps) | _, _ => none) = some ps := h
  cases q1 : D.py d with
  | none => rw [q1] at e'; cases e'
  | some p => cases q2 : D.pys ds with
    | none => rw [q1, q2] at e'; cases e'
    | some qs => rw [q1, q2] at e'; cases e'; exact ⟨p, qs, rfl, rfl, rfl⟩
theorem py_tup {ds : List D} {p : PyData} (h : D.py (.tup ds) = some p) : ∃ ps, p = .tuple ps ∧ D.pys ds = some ps := by
  have e' : (D.pys ds).map PyData.tuple = some p := h
  cases q : D.pys ds with
  | none => rw [q] at e'; cases e'
  | some ps => rw [q] at e'; cases e'; exact ⟨ps, rfl, rfl⟩
theorem eqvs_iff {P : D → Prop} {F : ∀ {d e : D} {p q : PyData}, P d → P e → d.py = some p → e.py = some q → PyData.eqv p q = true → d = e} : ∀ {ds es : List D} {ps qs : List PyData}, (∀ d ∈ ds, P d) → (∀ d ∈ es, P d) → D.pys ds = some ps → D.pys es = some qs → PyData.eqvAll ps qs = true → ds = es
  | [], [], _, _, _, _, _, _, _ => rfl
  | [], e :: es, ps, qs, _, _, a, b, h => by
    obtain ⟨q, qs', rfl, _, _⟩ := pys_cons b
    rw [pys_nil a] at h
    simp [PyData.eqvAll] at h
  | d :: ds, [], ps, qs, _, _, a, b, h => by
    obtain ⟨q, qs', rfl, _, _⟩ := pys_cons a
    rw [pys_nil b] at h
    simp [PyData.eqvAll] at h
  | d :: ds, e :: es, ps, qs, h1, h2, a, b, h => by
    obtain ⟨p, ps', rfl, a1, a2⟩ := pys_cons a
    obtain ⟨q, qs', rfl, b1, b2⟩ := pys_cons b
    simp only [PyData.eqvAll, Bool.and_eq_true] at h
    rw [F (h1 d (by simp)) (h2 e (by simp)) a1 b1 h.1, eqvs_iff (P := P) (F := F) (fun x hx => h1 x (by simp [hx])) (fun x hx => h2 x (by simp [hx])) a2 b2 h.2]
theorem okN_mono : ∀ {n k : Nat} {d : D}, n ≤ k → okN n d → okN k d
  | _, _, .non, _, _ => by rename_i n k _; cases k <;> trivial
  | _, _, .int i, _, _ => by rename_i n k _; cases k <;> trivial
  | n, k, .str x, _, h => by cases n <;> cases k <;> exact h
  | 0, _, .bl b, _, h => h.elim
  | _ + 1, _, .bl b, _, h => h.elim
  | 0, _, .tup ds, _, h => h.elim
  | n + 1, 0, .tup ds, hl, h => by omega
  | n + 1, k + 1, .tup ds, hl, h => fun d hd => okN_mono (Nat.le_of_succ_le_succ hl) (h d hd)
  | 0, _, .fls ds, _, h => h.elim
  | _ + 1, _, .fls ds, _, h => h.elim
  | 0, _, .ref _, _, h => h.elim
  | _ + 1, _, .ref _, _, h => h.elim
  | 0, _, .ty _, _, h => h.elim
  | _ + 1, _, .ty _, _, h => h.elim
theorem eqv_iff : ∀ (n : Nat) {d e : D} {p q : PyData}, okN n d → okN n e → d.py = some p → e.py = some q → PyData.eqv p q = true → d = e := by
  intro n
  induction n with
  | zero =>
    intro d e p q hd he a b h
    cases d <;> cases e <;> first | exact hd.elim | exact he.elim | skip
    all_goals (cases a; cases b; simp [PyData.eqv] at h <;> first | rfl | rw [h])
  | succ n ih =>
    intro d e p q hd he a b h
    cases d with
    | tup ds =>
      obtain ⟨ps, rfl, a'⟩ := py_tup a
      cases e with
      | tup es =>
        obtain ⟨qs, rfl, b'⟩ := py_tup b
        simp only [PyData.eqv] at h
        rw [eqvs_iff (P := okN n) (F := fun hd he a b h => ih hd he a b h) hd he a' b' h]
      | bl _ => exact he.elim
      | fls _ => exact he.elim
      | ref _ => exact he.elim
      | ty _ => exact he.elim
      | _ => cases b; simp [PyData.eqv] at h
    | bl _ => exact hd.elim
    | fls _ => exact hd.elim
    | ref _ => exact hd.elim
    | ty _ => exact hd.elim
    | _ =>
      cases e with
      | tup es =>
        obtain ⟨qs, rfl, b'⟩ := py_tup b
        cases a
        simp [PyData.eqv] at h
      | bl _ => exact he.elim
      | fls _ => exact he.elim
      | ref _ => exact he.elim
      | ty _ => exact he.elim
      | _ => cases a; cases b; simp [PyData.eqv] at h <;> first | rfl | rw [h]
section
variable {m : M} {Q : PQ} {d e : D} {ds es : List D} {n : Nat} {a b : Addr}
theorem eqA_tt {k : Bool → Prop} (hd : okQ n (.tup ds)) (he : okQ n (.tup es)) (hn : n ≤ 60) (q : ∀ p q, D.py (.tup ds) = some p → D.py (.tup es) = some q → p.canLay0 = true → k (PyData.eqv p q)) : eqA (.tup ds) (.tup es) m k := by
  obtain ⟨p, a1, a2, a3⟩ := py_of hd
  obtain ⟨p', b1, b2, b3⟩ := py_of he
  show (match D.pyM m (.tup ds), D.pyM m (.tup es) with
    | some p, some q => (SeqAt.shaped p = true ∧ SeqAt.shaped q = true) ∧ k (PyData.eqv p q)
    | _, _ => False)
  rw [show D.pyM m (.tup ds) = some p from a1, show D.pyM m (.tup es) = some p' from b1]
  exact ⟨⟨shaped_of a2 a3 (by omega), shaped_of b2 b3 (by omega)⟩, q p p' a1 b1 a2⟩
theorem eqSelf (h : okQ n (.tup ds)) (hn : n ≤ 60) (q : Q (.bl true) m) : rEqA (.tup ds) (.tup ds) m Q :=
  eqA_tt h h hn fun p p' a b c => by
    rw [a] at b; cases b
    rw [SeqAt.eqv_refl p c]; exact q
theorem neSelf (h : okQ n (.tup ds)) (hn : n ≤ 60) (q : Q (.bl false) m) : rNeA (.tup ds) (.tup ds) m Q :=
  eqA_tt h h hn fun p p' a b c => by
    rw [a] at b; cases b
    rw [SeqAt.eqv_refl p c]; exact q
theorem eqOther (h : okN n (.tup ds)) (h2 : okN n (.tup es)) (hne : ds ≠ es) (hn : n ≤ 60) (q : Q (.bl false) m) : rEqA (.tup ds) (.tup es) m Q :=
  eqA_tt (okN_Q h) (okN_Q h2) hn fun p p' a b c => by
    cases z : PyData.eqv p p' with
    | false => exact q
    | true => exact absurd (by injection eqv_iff n h h2 a b z) hne
theorem neOther (h : okN n (.tup ds)) (h2 : okN n (.tup es)) (hne : ds ≠ es) (hn : n ≤ 60) (q : Q (.bl true) m) : rNeA (.tup ds) (.tup es) m Q :=
  eqA_tt (okN_Q h) (okN_Q h2) hn fun p p' a b c => by
    cases z : PyData.eqv p p' with
    | false => exact q
    | true => exact absurd (by injection eqv_iff n h h2 a b z) hne
theorem eqA_ll {k : Bool → Prop} (ha : m.l a = some ds) (hb : m.l b = some es) (hd : ∀ d ∈ ds, okQ n d) (he : ∀ d ∈ es, okQ n d) (hn : n ≤ 60) (q : ∀ ps qs, D.pys ds = some ps → D.pys es = some qs → PyData.canLayAll0 ps = true → k (PyData.eqvAll ps qs)) : eqA (.ref a) (.ref b) m k := by
  obtain ⟨ps, a1, a2, a3⟩ := pys_of (n := n + 1) (ds := ds) fun d hd' => py_of (hd d hd')
  obtain ⟨qs, b1, b2, b3⟩ := pys_of (n := n + 1) (ds := es) fun d hd' => py_of (he d hd')
  have e : ∀ c ds ps, m.l c = some ds → D.pys ds = some ps → D.pyM m (.ref c) = some (.list ps) := fun c ds ps h1 h2 => by
    show (match m.l c with | some ds => (D.pys ds).map PyData.list | none => none) = _
    rw [h1]
    simp only [h2, Option.map_some]
  show (match D.pyM m (.ref a), D.pyM m (.ref b) with
    | some p, some q => (SeqAt.shaped p = true ∧ SeqAt.shaped q = true) ∧ k (PyData.eqv p q)
    | _, _ => False)
  rw [e a ds ps ha a1, e b es qs hb b1]
  have sh : ∀ ps : List PyData, PyData.canLayAll0 ps = true → PyData.depthAll ps ≤ n + 1 → SeqAt.shaped (.list ps) = true := fun ps h1 h2 =>
    shaped_of (n := n + 2) (by simpa [PyData.canLay0] using h1) (by simp only [PyData.depth]; omega) (by omega)
  refine ⟨⟨sh _ a2 a3, sh _ b2 b3⟩, ?_⟩
  have := q ps qs a1 b1 a2
  simpa only [PyData.eqv] using this
theorem eqvAll_refl : ∀ ps : List PyData, PyData.canLayAll0 ps = true → PyData.eqvAll ps ps = true
  | [], _ => by simp [PyData.eqvAll]
  | p :: ps, h => by
    simp only [PyData.canLayAll0, Bool.and_eq_true] at h
    simp only [PyData.eqvAll, SeqAt.eqv_refl p h.1, eqvAll_refl ps h.2, Bool.and_self]
theorem eqLL (ha : m.l a = some ds) (hb : m.l b = some ds) (hd : ∀ d ∈ ds, okQ n d) (hn : n ≤ 60) (q : Q (.bl true) m) : rEqA (.ref a) (.ref b) m Q :=
  eqA_ll ha hb hd hd hn fun ps qs x y c => by
    rw [x] at y; cases y
    rw [eqvAll_refl ps c]; exact q
theorem neLL (ha : m.l a = some ds) (hb : m.l b = some ds) (hd : ∀ d ∈ ds, okQ n d) (hn : n ≤ 60) (q : Q (.bl false) m) : rNeA (.ref a) (.ref b) m Q :=
  eqA_ll ha hb hd hd hn fun ps qs x y c => by
    rw [x] at y; cases y
    rw [eqvAll_refl ps c]; exact q
theorem eqLO (ha : m.l a = some ds) (hb : m.l b = some es) (hd : ∀ d ∈ ds, okN n d) (he : ∀ d ∈ es, okN n d) (hne : ds ≠ es) (hn : n ≤ 60) (q : Q (.bl false) m) : rEqA (.ref a) (.ref b) m Q :=
  eqA_ll ha hb (fun d h => okN_Q (hd d h)) (fun d h => okN_Q (he d h)) hn fun ps qs x y c => by
    cases z : PyData.eqvAll ps qs with
    | false => exact q
    | true => exact absurd (eqvs_iff (P := okN n) (F := fun hd he a b h => eqv_iff n hd he a b h) hd he x y z) hne
theorem neLO (ha : m.l a = some ds) (hb : m.l b = some es) (hd : ∀ d ∈ ds, okN n d) (he : ∀ d ∈ es, okN n d) (hne : ds ≠ es) (hn : n ≤ 60) (q : Q (.bl true) m) : rNeA (.ref a) (.ref b) m Q :=
  eqA_ll ha hb (fun d h => okN_Q (hd d h)) (fun d h => okN_Q (he d h)) hn fun ps qs x y c => by
    cases z : PyData.eqvAll ps qs with
    | false => exact q
    | true => exact absurd (eqvs_iff (P := okN n) (F := fun hd he a b h => eqv_iff n hd he a b h) hd he x y z) hne
/-! enumerate, as a list made item by item -/
def enL : Nat → List D → List D
  | _, [] => []
  | i, d :: ds => .tup [.int (i : Nat), d] :: enL (i + 1) ds
theorem enL_get : ∀ (ds : List D) (i j : Nat), (enL i ds)[j]? = (ds[j]?).map fun d => .tup [.int ((i + j : Nat) : Int), d]
  | [], i, j => by simp [enL]
  | d :: ds, i, 0 => by simp [enL]
  | d :: ds, i, j + 1 => by
    rw [enL, List.getElem?_cons_succ, List.getElem?_cons_succ, enL_get ds (i + 1) j, show i + 1 + j = i + (j + 1) by omega]
theorem enL_len : ∀ (ds : List D) (i : Nat), (enL i ds).length = ds.length
  | [], _ => rfl
  | d :: ds, i => by rw [enL, List.length_cons, List.length_cons, enL_len ds]
theorem enD_enL (ds : List D) : enD ds = enL 0 ds := by
  apply List.ext_getElem?
  intro j
  rw [enL_get]
  unfold enD
  rw [List.getElem?_map, Nat.zero_add]
  by_cases h : j < ds.length
  · rw [List.getElem?_range h, List.getElem?_eq_getElem h]
    show some (D.tup [_, ds.getD j .non]) = some _
    rw [List.getD_eq_getElem?_getD, List.getElem?_eq_getElem h]
    rfl
  · rw [List.getElem?_eq_none (by simpa using h), List.getElem?_eq_none (by omega)]
    rfl
theorem enTI {te : AE} {e : En} {m : M} {P : List D → (M → Prop) → M → Prop} {R : PX} (h : te e m (fun d m1 => match d with
  | .tup ds => P (enL 0 ds) (fun _ => True) m1
  | .fls ds => P (enL 0 ds) (fun _ => True) m1
  | .ref a => (match m1 a with
    | some (.lst ds) => P (enL 0 ds) (fun m2 => m2 a = some (.lst ds)) m1
    | _ => False)
  | _ => False) R) : aIEnum te e m P R := by
  unfold aIEnum
  simp only [enD_enL]
  exact h
/-- int in ints -/
theorem inInts {i : Nat} {S : List Nat} (m : M) (Q : PQ) (ds : List D) (hds : ds = S.map fun n : Nat => D.int (n : Int)) : (flatD (D.int (i : Int)) = true ∧ ds.all flatD = true) ∧ inF (.int (i : Int)) ds = S.contains i := by
  subst hds
  refine ⟨⟨rfl, ?_⟩, ?_⟩
  · rw [List.all_map]; exact List.all_eq_true.mpr fun _ _ => rfl
  · unfold inF
    rw [List.any_map]
    induction S with
    | nil => rfl
    | cons s S ih =>
      rw [List.any_cons, List.contains_cons, ih]
      congr 1
      show decide ((s : Int) = (i : Int)) = _
      rw [Bool.eq_iff_iff]; simp; omega
end
end Ab

set_option Elab.async false
set_option linter.all false
set_option maxRecDepth 100000
set_option maxHeartbeats 4000000
namespace K32
open PySem PySem.Spec PyProof.Rows L2 Ab
/-- slots: 0 row | 1 many | 2 found | 3 cell -/
def b_f_law_taken : AS := aSeq (aIfS (aTest (aOp rGtA (aOp rIxA (aVar 0) (aC (.int 3))) (aC (.int 0)))) (aSeq (aAsg (aOp rModA (aCB rIntA (aCons (aOp rIxA (aVar 0) (aC (.int 3))) (aNil))) (aVar 1)) (aN 2)) (aSeq (aAsg (aOp rFdivA (aOp rIxA (aVar 0) (aC (.int 3))) (aVar 1)) (aSubL (aVar 0) (aC (.int 3)))) (aRet (aVar 2)))) (aNext)) (aSeq (aAsg (aOp rAddA (aOp rIxA (aVar 0) (aC (.int 1))) (aC (.int 1))) (aSubL (aVar 0) (aC (.int 1)))) (aSeq (aIfS (aTest (aOp rGtA (aOp rIxA (aVar 0) (aC (.int 1))) (aCB rLenA (aCons (aOp rIxA (aVar 0) (aC (.int 0))) (aNil))))) (aSeq (aAsg (aOp rModA (aCB rIntA (aCons (aOp rAddA (aOp rMulA (aOp rIxA (aVar 0) (aC (.int 2))) (aC (.int 48271))) (aC (.int 11))) (aNil))) (aC (.int 2147483647))) (aSubL (aVar 0) (aC (.int 2)))) (aRet (aOp rModA (aCB rIntA (aCons (aOp rFdivA (aOp rIxA (aVar 0) (aC (.int 2))) (aC (.int 7))) (aNil))) (aVar 1)))) (aNext)) (aSeq (aAsg (aOp rIxA (aOp rIxA (aVar 0) (aC (.int 0))) (aOp rSubA (aOp rIxA (aVar 0) (aC (.int 1))) (aC (.int 1)))) (aN 3)) (aSeq (aAsg (aOp rModA (aCB rIntA (aCons (aOp rAddA (aOp rAddA (aOp rMulA (aOp rIxA (aVar 0) (aC (.int 2))) (aC (.int 48271))) (aVar 3)) (aC (.int 11))) (aNil))) (aC (.int 2147483647))) (aSubL (aVar 0) (aC (.int 2)))) (aSeq (aIfS (aTest (aOp rGeA (aVar 3) (aOp rPowA (aC (.int 10)) (aC (.int 18))))) (aAsg (aOp rFdivA (aVar 3) (aVar 1)) (aSubL (aVar 0) (aC (.int 3)))) (aNext)) (aRet (aOp rModA (aCB rIntA (aCons (aVar 3) (aNil))) (aVar 1))))))))
def s_f_law_taken : ASp := aDef 4 (b_f_law_taken)
/-- slots: 0 row | 1 things -/
def b_f_law_pick : AS := aRet (aOp rIxA (aVar 1) (aCall 2 s_f_law_taken (aCons (aVar 0) (aCons (aCB rLenA (aCons (aVar 1) (aNil))) (aNil)))))
def s_f_law_pick : ASp := aDef 2 (b_f_law_pick)
/-- slots: 0 row | 1 many | 2 found | 3 at -/
def b_f_law_page : AS := aSeq (aAsg (aOp rIxA (aLst (aCons (aC (.int 0)) (aCons (aC (.int 1)) (aCons (aC (.int 1)) (aCons (aC (.int 2)) (aCons (aC (.int 3)) (aCons (aC (.int 17)) (aCons (aC (.int 96)) (aNil))))))))) (aCall 2 s_f_law_taken (aCons (aVar 0) (aCons (aC (.int 7)) (aNil))))) (aN 1)) (aSeq (aAsg (aLc (aIR1 (aCons (aCB rMinA (aCons (aVar 1) (aCons (aC (.int 3)) (aNil)))) (aNil))) (aN 3) (aYes) (aCall 2 s_f_law_pick (aCons (aVar 0) (aCons (aLst (aCons (aC (.int 0)) (aCons (aC (.int 1)) (aCons (aC (.int 255)) (aCons (aCall 2 s_f_law_taken (aCons (aVar 0) (aCons (aC (.int 256)) (aNil)))) (aNil)))))) (aNil)))) [3]) (aN 2)) (aRet (aCB rTupleA (aCons (aOp rAddA (aVar 2) (aOp rMulA (aLst (aCons (aC (.int 7)) (aNil))) (aCB rMaxA (aCons (aC (.int 0)) (aCons (aOp rSubA (aVar 1) (aC (.int 3))) (aNil)))))) (aNil)))))
def s_f_law_page : ASp := aDef 4 (b_f_law_page)
def bl_f_law_batch_0 : AS := aDrop (aApp (aVar 4) (aPopAt (aVar 3) (aCall 2 s_f_law_taken (aCons (aVar 0) (aCons (aCB rLenA (aCons (aVar 3) (aNil))) (aNil))))))
/-- slots: 0 row | 1 pages | 2 most | 3 rest | 4 found | 5 turn | 6 number -/
def b_f_law_batch : AS := aSeq (aPar 3 4 (aCons (aLstRg (aVar 1)) (aCons (aLst (aNil)) (aNil)))) (aSeq (aFor (aIR1 (aCons (aOp rAddA (aC (.int 1)) (aCall 2 s_f_law_taken (aCons (aVar 0) (aCons (aCB rMinA (aCons (aVar 1) (aCons (aVar 2) (aNil)))) (aNil))))) (aNil))) (aN 5) (bl_f_law_batch_0)) (aRet (aCB rTupleA (aCons (aLc (aILst (aCB rSortedA (aCons (aVar 4) (aNil)))) (aN 6) (aYes) (aTup (aCons (aVar 6) (aCons (aCall 1 s_f_law_page (aCons (aVar 0) (aNil))) (aNil)))) [6]) (aNil)))))
def s_f_law_batch : ASp := aDef 7 (b_f_law_batch)
/-- slots: 0 row | 1 shape | 2 most | 3 some | 4 turn | 5 number | 6 page | 7 batch -/
def b_f_law_batches : AS := aSeq (aAsg (aLc (aIR1 (aCons (aCall 2 s_f_law_taken (aCons (aVar 0) (aCons (aOp rAddA (aVar 2) (aC (.int 1))) (aNil)))) (aNil))) (aN 4) (aYes) (aCall 3 s_f_law_batch (aCons (aVar 0) (aCons (aOp rIxA (aVar 1) (aC (.int 0))) (aCons (aCB rMinA (aCons (aC (.int 3)) (aCons (aOp rIxA (aVar 1) (aC (.int 1))) (aNil)))) (aNil))))) [4]) (aN 3)) (aRet (aCB rTupleA (aCons (aLc (aILst (aVar 3)) (aN 7) (aYes) (aCB rTupleA (aCons (aLc (aITup (aVar 7)) (aTT 2 (aGCons (aN 5) (aGCons (aN 6) (aGNil)))) (aYes) (aTup (aCons (aVar 5) (aCons (aSl rSlA (aVar 6) (aNoP) (aPt (aC (.int 3)))) (aNil)))) [5, 6]) (aNil))) [7]) (aNil))))
def s_f_law_batches : ASp := aDef 8 (b_f_law_batches)
def bl_f_law_ways_0 : AS := aAsg (aOp rAddA (aVar 1) (aLc (aILst (aVar 1)) (aN 3) (aYes) (aOp rAddA (aVar 3) (aTup (aCons (aVar 2) (aNil)))) [3])) (aN 1)
/-- slots: 0 many | 1 found | 2 spot | 3 spots -/
def b_f_law_ways : AS := aSeq (aAsg (aLst (aCons (aTup (aNil)) (aNil))) (aN 1)) (aSeq (aFor (aIR2 (aCons (aC (.int 1)) (aCons (aOp rAddA (aVar 0) (aC (.int 1))) (aNil)))) (aN 2) (bl_f_law_ways_0)) (aRet (aVar 1)))
def s_f_law_ways : ASp := aDef 4 (b_f_law_ways)
def bl_f_law_with_checks_0 : AS := aAsg (aOp rAddA (aOp rAddA (aVar 2) (aIf (aTest (aOp rInXA (aVar 3) (aVar 1))) (aTup (aCons (aTup (aCons (aC (.str ("check" : Str))) (aNil))) (aNil))) (aTup (aNil)))) (aTup (aCons (aTup (aCons (aC (.str ("write" : Str))) (aCons (aVar 4) (aNil)))) (aNil)))) (aN 2)
/-- slots: 0 batches | 1 spots | 2 found | 3 at | 4 batch -/
def b_f_law_with_checks : AS := aSeq (aAsg (aTup (aNil)) (aN 2)) (aSeq (aFor (aIEnum (aVar 0)) (aTT 2 (aGCons (aN 3) (aGCons (aN 4) (aGNil)))) (bl_f_law_with_checks_0)) (aRet (aOp rAddA (aVar 2) (aIf (aAnd (aTest (aOp rInXA (aCB rLenA (aCons (aVar 0) (aNil))) (aVar 1))) (aTest (aOp rNeA (aVar 0) (aTup (aNil))))) (aTup (aCons (aTup (aCons (aC (.str ("check" : Str))) (aNil))) (aNil))) (aTup (aNil))))))
def s_f_law_with_checks : ASp := aDef 5 (b_f_law_with_checks)
def bl_f_law_fits_0 : AS := aSeq (aAsg (aIf (aTest (aOp rEqA (aOp rIxA (aVar 3) (aC (.int 0))) (aC (.str ("write" : Str))))) (aOp rAddA (aVar 2) (aCB rLenA (aCons (aOp rIxA (aVar 3) (aC (.int 1))) (aNil)))) (aC (.int 0))) (aN 2)) (aIfS (aTest (aOp rGtA (aVar 2) (aOp rIxA (aVar 0) (aC (.int 1))))) (aRet (aC (.bl false))) (aNext))
/-- slots: 0 shape | 1 deeds | 2 used | 3 deed -/
def b_f_law_fits : AS := aSeq (aAsg (aC (.int 0)) (aN 2)) (aSeq (aFor (aITup (aVar 1)) (aN 3) (bl_f_law_fits_0)) (aRet (aC (.bl true))))
def s_f_law_fits : ASp := aDef 4 (b_f_law_fits)
/-- slots: 0 value | 1 least | 2 most -/
def b_is_tuple_of : AS := aRet (aAndV (aIsi .tuple (aVar 0)) (aChain rLeA rLeA (aVar 1) (aCB rLenA (aCons (aVar 0) (aNil))) (aVar 2)))
def s_is_tuple_of : ASp := aDef 3 (b_is_tuple_of)
/-- slots: 0 value | 1 low | 2 high -/
def b_is_integer : AS := aRet (aAndV (aIsi .int (aVar 0)) (aAndV (aNotV (aIsi .bool (aVar 0))) (aChain rLeA rLeA (aVar 1) (aVar 0) (aVar 2))))
def s_is_integer : ASp := aDef 3 (b_is_integer)
/-- slots: 0 shape | 1 pages | 2 ring -/
def b_check_shape : AS := aSeq (aIfS (aNot (aTest (aCall 3 s_is_tuple_of (aCons (aVar 0) (aCons (aC (.int 2)) (aCons (aC (.int 2)) (aNil))))))) (aNever) (aNext)) (aSeq (aAsg (aVar 0) (aTT 2 (aGCons (aN 1) (aGCons (aN 2) (aGNil))))) (aIfS (aOr (aNot (aTest (aCall 3 s_is_integer (aCons (aVar 1) (aCons (aC (.int 1)) (aCons (aC (.int 64)) (aNil))))))) (aNot (aTest (aCall 3 s_is_integer (aCons (aVar 2) (aCons (aC (.int 2)) (aCons (aC (.int 64)) (aNil)))))))) (aNever) (aNext)))
def s_check_shape : ASp := aDef 3 (b_check_shape)
def bl_are_bytes_0 : AS := aIfS (aOr (aNot (aTest (aIsi .int (aVar 3)))) (aOr (aTest (aIsi .bool (aVar 3))) (aOr (aTest (aOp rLtA (aVar 3) (aC (.int 0)))) (aTest (aOp rGtA (aVar 3) (aC (.int 255))))))) (aRet (aC (.bl false))) (aNext)
/-- slots: 0 value | 1 least | 2 most | 3 byte -/
def b_are_bytes : AS := aSeq (aIfS (aNot (aTest (aCall 3 s_is_tuple_of (aCons (aVar 0) (aCons (aVar 1) (aCons (aVar 2) (aNil))))))) (aRet (aC (.bl false))) (aNext)) (aSeq (aFor (aITup (aVar 0)) (aN 3) (bl_are_bytes_0)) (aRet (aC (.bl true))))
def s_are_bytes : ASp := aDef 4 (b_are_bytes)
/-- slots: 0 value -/
def b_is_page : AS := aRet (aCall 3 s_are_bytes (aCons (aVar 0) (aCons (aC (.int 0)) (aCons (aC (.int 96)) (aNil)))))
def s_is_page : ASp := aDef 1 (b_is_page)
def bl_check_batch_0 : AS := aAsg (aOp rAddA (aVar 4) (aC (.int 1))) (aN 1)
def bl_check_batch_1 : AS := aSeq (aIfS (aOr (aNot (aTest (aCall 3 s_is_integer (aCons (aVar 4) (aCons (aVar 1) (aCons (aOp rSubA (aC (.int 64)) (aC (.int 1))) (aNil))))))) (aNot (aTru (aCall 1 s_is_page (aCons (aVar 5) (aNil)))))) (aNever) (aNext)) (bl_check_batch_0)
def bl_check_batch_2 : AS := aSeq (aAsg (aVar 3) (aTT 2 (aGCons (aN 4) (aGCons (aN 5) (aGNil))))) (bl_check_batch_1)
def bl_check_batch_3 : AS := aSeq (aIfS (aNot (aTest (aCall 3 s_is_tuple_of (aCons (aVar 3) (aCons (aC (.int 2)) (aCons (aC (.int 2)) (aNil))))))) (aNever) (aNext)) (bl_check_batch_2)
def bl_check_batch_4 : AS := aFor (aIEnum (aVar 0)) (aTT 2 (aGCons (aN 2) (aGCons (aN 3) (aGNil)))) (bl_check_batch_3)
def bl_check_batch_5 : AS := aSeq (aAsg (aC (.int 0)) (aN 1)) (bl_check_batch_4)
/-- slots: 0 batch | 1 least | 2 index | 3 pair | 4 number | 5 page -/
def b_check_batch : AS := aSeq (aIfS (aNot (aTest (aCall 3 s_is_tuple_of (aCons (aVar 0) (aCons (aC (.int 1)) (aCons (aC (.int 64)) (aNil))))))) (aNever) (aNext)) (bl_check_batch_5)
def s_check_batch : ASp := aDef 6 (b_check_batch)
def bl_check_batch_of_0 : AS := aIfS (aTest (aOp rGeA (aVar 3) (aVar 1))) (aNever) (aNext)
/-- slots: 0 batch | 1 pages | 2 index | 3 number | 4 _ -/
def b_check_batch_of : AS := aSeq (aDrop (aCall 1 s_check_batch (aCons (aVar 0) (aNil)))) (aFor (aIEnum (aVar 0)) (aTT 2 (aGCons (aN 2) (aGCons (aTT 2 (aGCons (aN 3) (aGCons (aN 4) (aGNil)))) (aGNil)))) (bl_check_batch_of_0))
def s_check_batch_of : ASp := aDef 5 (b_check_batch_of)
def bl_check_batches_0 : AS := aTryN (aDrop (aCall 2 s_check_batch_of (aCons (aVar 3) (aCons (aOp rIxA (aVar 0) (aC (.int 0))) (aNil)))))
def bl_check_batches_1 : AS := aIfS (aTest (aOp rGtA (aCB rLenA (aCons (aVar 3) (aNil))) (aOp rIxA (aVar 0) (aC (.int 1))))) (aNever) (aNext)
def bl_check_batches_2 : AS := aFor (aIEnum (aVar 1)) (aTT 2 (aGCons (aN 2) (aGCons (aN 3) (aGNil)))) (bl_check_batches_1)
def bl_check_batches_3 : AS := aSeq (aFor (aIEnum (aVar 1)) (aTT 2 (aGCons (aN 2) (aGCons (aN 3) (aGNil)))) (bl_check_batches_0)) (bl_check_batches_2)
def bl_check_batches_4 : AS := aSeq (aIfS (aNot (aTest (aCall 3 s_is_tuple_of (aCons (aVar 1) (aCons (aC (.int 0)) (aCons (aC (.int 20)) (aNil))))))) (aNever) (aNext)) (bl_check_batches_3)
/-- slots: 0 shape | 1 batches | 2 index | 3 batch -/
def b_check_batches : AS := aSeq (aDrop (aCall 1 s_check_shape (aCons (aVar 0) (aNil)))) (bl_check_batches_4)
def s_check_batches : ASp := aDef 4 (b_check_batches)
def bl_deeds_with_checks_0 : AS := aSeq (aIfS (aTest (aOp rInXA (aVar 3) (aVar 1))) (aDrop (aApp (aVar 2) (aC (.tup [.str ("check" : Str)])))) (aNext)) (aDrop (aApp (aVar 2) (aTup (aCons (aC (.str ("write" : Str))) (aCons (aVar 4) (aNil))))))
/-- slots: 0 batches | 1 checked | 2 deeds | 3 many | 4 batch -/
def b_deeds_with_checks : AS := aSeq (aAsg (aLst (aNil)) (aN 2)) (aSeq (aFor (aIEnum (aVar 0)) (aTT 2 (aGCons (aN 3) (aGCons (aN 4) (aGNil)))) (bl_deeds_with_checks_0)) (aRet (aCB rTupleA (aCons (aVar 2) (aNil)))))
def s_deeds_with_checks : ASp := aDef 5 (b_deeds_with_checks)
def bl_fewest_checks_0 : AS := aAsg (aOp rIxA (aVar 0) (aC (.int 1))) (aN 3)
def bl_fewest_checks_1 : AS := aAug (fun i j => i - j) 3 (aCB rLenA (aCons (aVar 5) (aNil)))
def bl_fewest_checks_2 : AS := aSeq (aIfS (aTest (aOp rGtA (aCB rLenA (aCons (aVar 5) (aNil))) (aVar 3))) (aSeq (aDrop (aApp (aVar 2) (aVar 4))) (bl_fewest_checks_0)) (aNext)) (bl_fewest_checks_1)
def bl_fewest_checks_3 : AS := aRet (aCall 2 s_deeds_with_checks (aCons (aVar 1) (aCons (aVar 2) (aNil))))
def bl_fewest_checks_4 : AS := aSeq (aFor (aIEnum (aVar 1)) (aTT 2 (aGCons (aN 4) (aGCons (aN 5) (aGNil)))) (bl_fewest_checks_2)) (bl_fewest_checks_3)
def bl_fewest_checks_5 : AS := aSeq (aAsg (aOp rIxA (aVar 0) (aC (.int 1))) (aN 3)) (bl_fewest_checks_4)
def bl_fewest_checks_6 : AS := aSeq (aAsg (aLst (aNil)) (aN 2)) (bl_fewest_checks_5)
/-- slots: 0 shape | 1 batches | 2 checked | 3 room | 4 many | 5 batch -/
def b_fewest_checks : AS := aSeq (aDrop (aCall 2 s_check_batches (aCons (aVar 0) (aCons (aVar 1) (aNil))))) (bl_fewest_checks_6)
def s_fewest_checks : ASp := aDef 6 (b_fewest_checks)
/-- slots: 0 found | 1 due | 2 k -/
def b_f_law_alike (r : ASp) : AS := aSeq (aIfS (aTest (aIsi2 .tuple .list (aVar 1))) (aSeq (aIfS (aOr (aNot (aTest (aIsi2 .tuple .list (aVar 0)))) (aTest (aOp rNeA (aIsi .list (aVar 0)) (aIsi .list (aVar 1))))) (aRet (aC (.bl false))) (aNext)) (aSeq (aIfS (aTest (aOp rNeA (aCB rLenA (aCons (aVar 0) (aNil))) (aCB rLenA (aCons (aVar 1) (aNil))))) (aRet (aC (.bl false))) (aNext)) (aRet (aOp rEqA (aLc (aIR1 (aCons (aCB rLenA (aCons (aVar 1) (aNil))) (aNil))) (aN 2) (aNot (aTest (aCall 2 r (aCons (aOp rIxA (aVar 0) (aVar 2)) (aCons (aOp rIxA (aVar 1) (aVar 2)) (aNil)))))) (aVar 2) [2]) (aLst (aNil)))))) (aNext)) (aSeq (aIfS (aOr (aTest (aOp rIsA (aVar 1) (aC .non))) (aTest (aIsi .str (aVar 1)))) (aRet (aAndV (aOp rEqA (aVar 0) (aVar 1)) (aOp rEqA (aIsi .str (aVar 0)) (aIsi .str (aVar 1))))) (aNext)) (aRet (aAndV (aIsi .int (aVar 0)) (aAndV (aOp rEqA (aIsi .bool (aVar 0)) (aIsi .bool (aVar 1))) (aOp rEqA (aVar 0) (aVar 1))))))
def s_f_law_alike : Nat → ASp
  | 0 => noSp
  | n + 1 => aDef 3 (b_f_law_alike (s_f_law_alike n))
def bl_law_0 : AS := aIfS (aTru (aCall 2 s_f_law_fits (aCons (aVar 2) (aCons (aVar 6) (aNil))))) (aDrop (aApp (aVar 4) (aTup (aCons (aCB rLenA (aCons (aVar 5) (aNil))) (aCons (aCB rTupleA (aCons (aLc (aITup (aVar 5)) (aN 7) (aYes) (aOp rSubA (aC (.int 0)) (aVar 7)) [7]) (aNil))) (aCons (aVar 6) (aNil))))))) (aNext)
def bl_law_1 : AS := aSeq (aAsg (aCall 2 s_f_law_with_checks (aCons (aVar 3) (aCons (aVar 5) (aNil)))) (aN 6)) (bl_law_0)
def bl_law_2 : AS := aRet (aAndV (aOp rEqA (aVar 10) (aOp rIxA (aVar 9) (aC (.int 0)))) (aOp rEqA (aLc (aITup (aVar 8)) (aN 11) (aTest (aOp rEqA (aOp rIxA (aVar 11) (aC (.int 0))) (aC (.str ("write" : Str))))) (aOp rIxA (aVar 11) (aC (.int 1))) [11]) (aCB rListA (aCons (aVar 3) (aNil)))))
def bl_law_3 : AS := aSeq (aIfS (aTest (aOp rNeA (aCB rLenA (aCons (aLc (aITup (aVar 13)) (aN 11) (aTest (aOp rEqA (aVar 11) (aTup (aCons (aC (.str ("check" : Str))) (aNil))))) (aVar 11) [11]) (aNil))) (aOp rFdivA (aC (.int 19)) (aOp rIxA (aVar 2) (aC (.int 1)))))) (aRet (aC (.bl false))) (aNext)) (bl_law_2)
def bl_law_4 : AS := aSeq (aAsg (aCall 2 s_fewest_checks (aCons (aVar 2) (aCons (aVar 12) (aNil)))) (aN 13)) (bl_law_3)
def bl_law_5 : AS := aSeq (aAsg (aOp rMulA (aTup (aCons (aTup (aCons (aTup (aCons (aC (.int 0)) (aCons (aTup (aCons (aC (.int 1)) (aNil))) (aNil)))) (aNil))) (aNil))) (aC (.int 20))) (aN 12)) (bl_law_4)
def bl_law_6 : AS := aSeq (aAsg (aCB rLenA (aCons (aLc (aITup (aVar 8)) (aN 11) (aTest (aOp rEqA (aVar 11) (aTup (aCons (aC (.str ("check" : Str))) (aNil))))) (aVar 11) [11]) (aNil))) (aN 10)) (bl_law_5)
def bl_law_7 : AS := aSeq (aIfS (aNot (aTest (aCall 2 (s_f_law_alike 7) (aCons (aVar 8) (aCons (aOp rIxA (aVar 9) (aC (.int 2))) (aNil)))))) (aRet (aC (.bl false))) (aNext)) (bl_law_6)
def bl_law_8 : AS := aSeq (aAsg (aCB rMinLA (aCons (aVar 4) (aNil))) (aN 9)) (bl_law_7)
def bl_law_9 : AS := aSeq (aAsg (aCall 2 s_fewest_checks (aCons (aVar 2) (aCons (aVar 3) (aNil)))) (aN 8)) (bl_law_8)
def bl_law_10 : AS := aSeq (aFor (aILst (aCall 1 s_f_law_ways (aCons (aCB rLenA (aCons (aVar 3) (aNil))) (aNil)))) (aN 5) (bl_law_1)) (bl_law_9)
def bl_law_11 : AS := aSeq (aPar 3 4 (aCons (aCall 3 s_f_law_batches (aCons (aVar 1) (aCons (aVar 2) (aCons (aC (.int 6)) (aNil))))) (aCons (aLst (aNil)) (aNil)))) (bl_law_10)
def bl_law_12 : AS := aSeq (aAsg (aTup (aCons (aOp rAddA (aC (.int 1)) (aCall 2 s_f_law_taken (aCons (aVar 1) (aCons (aC (.int 4)) (aNil))))) (aCons (aOp rAddA (aC (.int 2)) (aCall 2 s_f_law_taken (aCons (aVar 1) (aCons (aC (.int 4)) (aNil))))) (aNil)))) (aN 2)) (bl_law_11)
/-- slots: 0 script | 1 row | 2 shape | 3 batches | 4 good | 5 spots | 6 deeds | 7 spot | 8 found | 9 least | 10 many | 11 deed | 12 long | 13 told -/
def b_law : AS := aSeq (aAsg (aLst (aCons (aVar 0) (aCons (aC (.int 0)) (aCons (aC (.int 9032)) (aCons (aC (.int 0)) (aNil)))))) (aN 1)) (bl_law_12)
def s_law : ASp := aDef 14 (b_law)
theorem ent_f_law_taken {a0 a1 : D} {m : M} {Q : PQ} {R : PX} (h : b_f_law_taken { nx := fun _ m' => ∃ m2, Sub m2 m' ∧ Q .non m2, rt := fun d m' => ∃ m2, Sub m2 m' ∧ Q d m2, xe := fun _ x m' => ∃ m2, Sub m2 m' ∧ R x m2 } [some a0, some a1, none, none] m) : s_f_law_taken [a0, a1] m Q R := h
theorem ent_f_law_pick {a0 a1 : D} {m : M} {Q : PQ} {R : PX} (h : b_f_law_pick { nx := fun _ m' => ∃ m2, Sub m2 m' ∧ Q .non m2, rt := fun d m' => ∃ m2, Sub m2 m' ∧ Q d m2, xe := fun _ x m' => ∃ m2, Sub m2 m' ∧ R x m2 } [some a0, some a1] m) : s_f_law_pick [a0, a1] m Q R := h
theorem ent_f_law_page {a0 : D} {m : M} {Q : PQ} {R : PX} (h : b_f_law_page { nx := fun _ m' => ∃ m2, Sub m2 m' ∧ Q .non m2, rt := fun d m' => ∃ m2, Sub m2 m' ∧ Q d m2, xe := fun _ x m' => ∃ m2, Sub m2 m' ∧ R x m2 } [some a0, none, none, none] m) : s_f_law_page [a0] m Q R := h
theorem ent_f_law_batch {a0 a1 a2 : D} {m : M} {Q : PQ} {R : PX} (h : b_f_law_batch { nx := fun _ m' => ∃ m2, Sub m2 m' ∧ Q .non m2, rt := fun d m' => ∃ m2, Sub m2 m' ∧ Q d m2, xe := fun _ x m' => ∃ m2, Sub m2 m' ∧ R x m2 } [some a0, some a1, some a2, none, none, none, none] m) : s_f_law_batch [a0, a1, a2] m Q R := h
theorem ent_f_law_batches {a0 a1 a2 : D} {m : M} {Q : PQ} {R : PX} (h : b_f_law_batches { nx := fun _ m' => ∃ m2, Sub m2 m' ∧ Q .non m2, rt := fun d m' => ∃ m2, Sub m2 m' ∧ Q d m2, xe := fun _ x m' => ∃ m2, Sub m2 m' ∧ R x m2 } [some a0, some a1, some a2, none, none, none, none, none] m) : s_f_law_batches [a0, a1, a2] m Q R := h
theorem ent_f_law_ways {a0 : D} {m : M} {Q : PQ} {R : PX} (h : b_f_law_ways { nx := fun _ m' => ∃ m2, Sub m2 m' ∧ Q .non m2, rt := fun d m' => ∃ m2, Sub m2 m' ∧ Q d m2, xe := fun _ x m' => ∃ m2, Sub m2 m' ∧ R x m2 } [some a0, none, none, none] m) : s_f_law_ways [a0] m Q R := h
theorem ent_f_law_with_checks {a0 a1 : D} {m : M} {Q : PQ} {R : PX} (h : b_f_law_with_checks { nx := fun _ m' => ∃ m2, Sub m2 m' ∧ Q .non m2, rt := fun d m' => ∃ m2, Sub m2 m' ∧ Q d m2, xe := fun _ x m' => ∃ m2, Sub m2 m' ∧ R x m2 } [some a0, some a1, none, none, none] m) : s_f_law_with_checks [a0, a1] m Q R := h
theorem ent_f_law_fits {a0 a1 : D} {m : M} {Q : PQ} {R : PX} (h : b_f_law_fits { nx := fun _ m' => ∃ m2, Sub m2 m' ∧ Q .non m2, rt := fun d m' => ∃ m2, Sub m2 m' ∧ Q d m2, xe := fun _ x m' => ∃ m2, Sub m2 m' ∧ R x m2 } [some a0, some a1, none, none] m) : s_f_law_fits [a0, a1] m Q R := h
theorem ent_is_tuple_of {a0 a1 a2 : D} {m : M} {Q : PQ} {R : PX} (h : b_is_tuple_of { nx := fun _ m' => ∃ m2, Sub m2 m' ∧ Q .non m2, rt := fun d m' => ∃ m2, Sub m2 m' ∧ Q d m2, xe := fun _ x m' => ∃ m2, Sub m2 m' ∧ R x m2 } [some a0, some a1, some a2] m) : s_is_tuple_of [a0, a1, a2] m Q R := h
theorem ent_is_integer {a0 a1 a2 : D} {m : M} {Q : PQ} {R : PX} (h : b_is_integer { nx := fun _ m' => ∃ m2, Sub m2 m' ∧ Q .non m2, rt := fun d m' => ∃ m2, Sub m2 m' ∧ Q d m2, xe := fun _ x m' => ∃ m2, Sub m2 m' ∧ R x m2 } [some a0, some a1, some a2] m) : s_is_integer [a0, a1, a2] m Q R := h
theorem ent_check_shape {a0 : D} {m : M} {Q : PQ} {R : PX} (h : b_check_shape { nx := fun _ m' => ∃ m2, Sub m2 m' ∧ Q .non m2, rt := fun d m' => ∃ m2, Sub m2 m' ∧ Q d m2, xe := fun _ x m' => ∃ m2, Sub m2 m' ∧ R x m2 } [some a0, none, none] m) : s_check_shape [a0] m Q R := h
theorem ent_are_bytes {a0 a1 a2 : D} {m : M} {Q : PQ} {R : PX} (h : b_are_bytes { nx := fun _ m' => ∃ m2, Sub m2 m' ∧ Q .non m2, rt := fun d m' => ∃ m2, Sub m2 m' ∧ Q d m2, xe := fun _ x m' => ∃ m2, Sub m2 m' ∧ R x m2 } [some a0, some a1, some a2, none] m) : s_are_bytes [a0, a1, a2] m Q R := h
theorem ent_is_page {a0 : D} {m : M} {Q : PQ} {R : PX} (h : b_is_page { nx := fun _ m' => ∃ m2, Sub m2 m' ∧ Q .non m2, rt := fun d m' => ∃ m2, Sub m2 m' ∧ Q d m2, xe := fun _ x m' => ∃ m2, Sub m2 m' ∧ R x m2 } [some a0] m) : s_is_page [a0] m Q R := h
theorem ent_check_batch {a0 : D} {m : M} {Q : PQ} {R : PX} (h : b_check_batch { nx := fun _ m' => ∃ m2, Sub m2 m' ∧ Q .non m2, rt := fun d m' => ∃ m2, Sub m2 m' ∧ Q d m2, xe := fun _ x m' => ∃ m2, Sub m2 m' ∧ R x m2 } [some a0, none, none, none, none, none] m) : s_check_batch [a0] m Q R := h
theorem ent_check_batch_of {a0 a1 : D} {m : M} {Q : PQ} {R : PX} (h : b_check_batch_of { nx := fun _ m' => ∃ m2, Sub m2 m' ∧ Q .non m2, rt := fun d m' => ∃ m2, Sub m2 m' ∧ Q d m2, xe := fun _ x m' => ∃ m2, Sub m2 m' ∧ R x m2 } [some a0, some a1, none, none, none] m) : s_check_batch_of [a0, a1] m Q R := h
theorem ent_check_batches {a0 a1 : D} {m : M} {Q : PQ} {R : PX} (h : b_check_batches { nx := fun _ m' => ∃ m2, Sub m2 m' ∧ Q .non m2, rt := fun d m' => ∃ m2, Sub m2 m' ∧ Q d m2, xe := fun _ x m' => ∃ m2, Sub m2 m' ∧ R x m2 } [some a0, some a1, none, none] m) : s_check_batches [a0, a1] m Q R := h
theorem ent_deeds_with_checks {a0 a1 : D} {m : M} {Q : PQ} {R : PX} (h : b_deeds_with_checks { nx := fun _ m' => ∃ m2, Sub m2 m' ∧ Q .non m2, rt := fun d m' => ∃ m2, Sub m2 m' ∧ Q d m2, xe := fun _ x m' => ∃ m2, Sub m2 m' ∧ R x m2 } [some a0, some a1, none, none, none] m) : s_deeds_with_checks [a0, a1] m Q R := h
theorem ent_fewest_checks {a0 a1 : D} {m : M} {Q : PQ} {R : PX} (h : b_fewest_checks { nx := fun _ m' => ∃ m2, Sub m2 m' ∧ Q .non m2, rt := fun d m' => ∃ m2, Sub m2 m' ∧ Q d m2, xe := fun _ x m' => ∃ m2, Sub m2 m' ∧ R x m2 } [some a0, some a1, none, none, none, none] m) : s_fewest_checks [a0, a1] m Q R := h
theorem ent_f_law_alike {j : Nat} {a0 a1 : D} {m : M} {Q : PQ} {R : PX} (h : b_f_law_alike (s_f_law_alike j) { nx := fun _ m' => ∃ m2, Sub m2 m' ∧ Q .non m2, rt := fun d m' => ∃ m2, Sub m2 m' ∧ Q d m2, xe := fun _ x m' => ∃ m2, Sub m2 m' ∧ R x m2 } [some a0, some a1, none] m) : s_f_law_alike (j + 1) [a0, a1] m Q R := h
theorem ent_law {a0 : D} {m : M} {Q : PQ} {R : PX} (h : b_law { nx := fun _ m' => ∃ m2, Sub m2 m' ∧ Q .non m2, rt := fun d m' => ∃ m2, Sub m2 m' ∧ Q d m2, xe := fun _ x m' => ∃ m2, Sub m2 m' ∧ R x m2 } [some a0, none, none, none, none, none, none, none, none, none, none, none, none, none] m) : s_law [a0] m Q R := h
end K32

set_option linter.all false
set_option maxRecDepth 100000
namespace K32
open PySem PySem.Spec PyProof.Rows L2 Ab
def RowAt (ns : List Int) (m : M) (r : Addr) : Prop := ∃ i s k : Int, 0 ≤ i ∧ 0 ≤ s ∧ s < 2147483647 ∧ 0 ≤ k ∧ m r = some (.lst [.fls (ns.map .int), .int i, .int s, .int k])
def Ev (r : Addr) (m m' : M) : Prop := ∀ a o, a ≠ r → m a = some o → m' a = some o
theorem Ev.refl {r : Addr} (m : M) : Ev r m m := fun _ _ _ h => h
theorem Ev.trans {r : Addr} {m m1 m2 : M} (a : Ev r m m1) (b : Ev r m1 m2) : Ev r m m2 := fun x o n h => b x o n (a x o n h)
theorem Ev.set {r : Addr} {m : M} {o : O} : Ev r m (mset m r o) := fun x u n h => by rw [mset_ne n]; exact h
theorem Ev.new {r p : Addr} {m : M} {o : O} (h : m p = none) : Ev r m (mset m p o) := fun x u n e => by
  rw [mset_ne fun z => by rw [z, h] at e; cases e]; exact e
theorem RowAt.ne {ns : List Int} {m : M} {r p : Addr} (h : RowAt ns m r) (hp : m p = none) : p ≠ r := fun z => by
  obtain ⟨_, _, _, _, _, _, _, e⟩ := h
  rw [z, e] at hp
  cases hp
theorem RowAt.new {ns : List Int} {m : M} {r p : Addr} {o : O} (h : RowAt ns m r) (hp : m p = none) : RowAt ns (mset m p o) r := by
  have n := h.ne hp
  obtain ⟨i, s, k, a, b, c, d, e⟩ := h
  exact ⟨i, s, k, a, b, c, d, by rw [mset_ne (Ne.symm n)]; exact e⟩
theorem RowAt.put {ns : List Int} {m : M} {r p : Addr} {o : O} (h : RowAt ns m r) (n : p ≠ r) : RowAt ns (mset m p o) r := by
  obtain ⟨i, s, k, a, b, c, d, e⟩ := h
  exact ⟨i, s, k, a, b, c, d, by rw [mset_ne (Ne.symm n)]; exact e⟩
theorem rowAt_set {ns : List Int} {m : M} {r : Addr} {i s k : Int} (hi : 0 ≤ i) (hs : 0 ≤ s) (hs2 : s < 2147483647) (hk : 0 ≤ k) : RowAt ns (mset m r (.lst [.fls (ns.map .int), .int i, .int s, .int k])) r := ⟨i, s, k, hi, hs, hs2, hk, mset_same⟩
theorem atI_map {ns : List Int} {i : Int} (h0 : 0 ≤ i) (h1 : i < ns.length) : ∃ z, z ∈ ns ∧ atI (ns.map D.int) i = some (.int z) := by
  rw [atI_nat h0 (by rw [List.length_map]; exact h1), List.getElem?_map]
  have hl : i.toNat < ns.length := by omega
  rw [List.getElem?_eq_getElem hl]
  exact ⟨_, List.getElem_mem hl, rfl⟩
theorem log_le {a : Int} {n : Nat} (h : a.natAbs < 2 ^ n) : a.natAbs.log2 < n ∨ n = 0 := by
  rcases Nat.eq_zero_or_pos a.natAbs with e | e
  · rw [e]
    rcases Nat.eq_zero_or_pos n with z | z
    · exact .inr z
    · exact .inl z
  · exact .inl ((Nat.log2_lt (by omega)).mpr h)
theorem log_small {a : Int} (h : a.natAbs < 2 ^ 63) : a.natAbs.log2 < 63 := by
  rcases log_le h with h | h
  · exact h
  · omega
theorem cdiv {a b : Int} (h0 : 0 < b) (h : b < 2 ^ 63) : CDivW a b := ⟨h0, Nat.lt_trans (log_small (by omega)) (by decide)⟩
theorem cmul {a b : Int} (h : a.natAbs < 2 ^ 63) (h' : b.natAbs < 2 ^ 63) : CMulW a b := by
  have h1 := log_small h
  have h2 := log_small h'
  unfold CMulW
  omega
theorem taken {ns : List Int} {m : M} {r : Addr} {many : Int} {Q : PQ} {R : PX} (h : RowAt ns m r) (h0 : 0 < many) (hb : many < 2 ^ 63) (q : ∀ x m', 0 ≤ x → x < many → RowAt ns m' r → Ev r m m' → Q (.int x) m') : s_f_law_taken [.ref r, .int many] m Q R := by
  obtain ⟨i, s, k, hi, hs, hs2, hk, hm⟩ := h
  have h18 : (10 : Int) ^ (Int.toNat 18) = 1000000000000000000 := by decide
  refine ent_f_law_taken ?_
  unfold b_f_law_taken
  simp (config := {failIfUnchanged := false}) only [aSeq, aIfS, aTest, aTru, aOp, aUn, aCB, aVar, aC, aCons, aNil, aStar, aAsg, aN, aSubL, aRet, aRetN, aNext, aNever, aDrop, aApp, aTup, aLst, aPar, aAnd, aOr, aNot, aAndV, aOrV, aNotV, aIf, aChain, aCall, aIsi, aIsi2, aSl, aNoP, aPt, aTupRev, aAll, aFor, aITup, aILst, aIR1, aIR2, aTT, aGCons, aGNil, aLc, aYes, aBrk, aCnt, aWhile, En.g, En.s, rIxA, itemsD, rLenA, lenD, rIntA, rTupleA, rListA, rMinA, rMaxA, rAddA, rSubA, rMulA, rFdivA, rModA, rPowA, rShlA, rShrA, rAndA, rOrA, rXorA, rLtA, rLeA, rGtA, rGeA, rNegA, rInt0, rIntC, rIsA, rIsNotA, rEqA, rNeA, eqA, D.isNon, Ab.rSlA, wipeE, En.x, l_same, mset_same, mset_mset, Option.map_some, List.length_cons, List.length_nil, Nat.zero_add, Nat.reduceAdd, true_and, and_true, decide_eq_true_eq, ite_true, ite_false, Bool.not_true, Bool.not_false, Bool.false_eq_true, if_true, if_false, List.append_assoc, List.cons_append, List.nil_append, at0, at1, at2, at3, at4, at5, ix0, ix1, ix2, ix3, List.set_cons_zero, List.set_cons_succ,l_of hm]
  refine imp_pos (fun c => ?_) (fun c => ?_)
  · exact ⟨h0, cdiv h0 hb, _, Sub.refl _, q _ _ (Int.emod_nonneg _ (by omega)) (Int.emod_lt_of_pos _ h0) (rowAt_set hi hs hs2 (Int.ediv_nonneg hk (by omega))) Ev.set⟩
  · refine imp_pos (fun c2 => ?_) (fun c2 => ?_)
    · exact ⟨cmul (by omega) (by decide), by decide, cdiv (by decide) (by decide), h0, _, Sub.refl _, q _ _ (Int.emod_nonneg _ (by omega)) (Int.emod_lt_of_pos _ h0) (rowAt_set (by omega) (by omega) (by omega) hk) Ev.set⟩
    · rw [List.length_map] at c2
      obtain ⟨z, hz, e⟩ := atI_map (ns := ns) (i := i + 1 - 1) (by omega) (by omega)
      rw [e]
      simp (config := {failIfUnchanged := false}) only [aSeq, aIfS, aTest, aTru, aOp, aUn, aCB, aVar, aC, aCons, aNil, aStar, aAsg, aN, aSubL, aRet, aRetN, aNext, aNever, aDrop, aApp, aTup, aLst, aPar, aAnd, aOr, aNot, aAndV, aOrV, aNotV, aIf, aChain, aCall, aIsi, aIsi2, aSl, aNoP, aPt, aTupRev, aAll, aFor, aITup, aILst, aIR1, aIR2, aTT, aGCons, aGNil, aLc, aYes, aBrk, aCnt, aWhile, En.g, En.s, rIxA, itemsD, rLenA, lenD, rIntA, rTupleA, rListA, rMinA, rMaxA, rAddA, rSubA, rMulA, rFdivA, rModA, rPowA, rShlA, rShrA, rAndA, rOrA, rXorA, rLtA, rLeA, rGtA, rGeA, rNegA, rInt0, rIntC, rIsA, rIsNotA, rEqA, rNeA, eqA, D.isNon, Ab.rSlA, wipeE, En.x, l_same, mset_same, mset_mset, Option.map_some, List.length_cons, List.length_nil, Nat.zero_add, Nat.reduceAdd, true_and, and_true, decide_eq_true_eq, ite_true, ite_false, Bool.not_true, Bool.not_false, Bool.false_eq_true, if_true, if_false, List.append_assoc, List.cons_append, List.nil_append, at0, at1, at2, at3, at4, at5, ix0, ix1, ix2, ix3, List.set_cons_zero, List.set_cons_succ,true_and]
      refine ⟨cmul (by omega) (by decide), by decide, by unfold CPow; decide, imp_pos (fun c3 => ⟨cdiv h0 hb, h0, _, Sub.refl _, ?_⟩) (fun c3 => ⟨h0, _, Sub.refl _, ?_⟩)⟩
      · exact q _ _ (Int.emod_nonneg _ (by omega)) (Int.emod_lt_of_pos _ h0) (rowAt_set (by omega) (by omega) (by omega) (Int.ediv_nonneg (by omega) (by omega))) Ev.set
      · exact q _ _ (Int.emod_nonneg _ (by omega)) (Int.emod_lt_of_pos _ h0) (rowAt_set (by omega) (by omega) (by omega) hk) Ev.set
theorem pick {ns : List Int} {m : M} {r p : Addr} {ds : List D} {Q : PQ} {R : PX} (h : RowAt ns m r) (hp : m p = some (.lst ds)) (hn : p ≠ r) (h0 : 0 < ds.length) (hb : ds.length < 2 ^ 62) (q : ∀ d m', d ∈ ds → RowAt ns m' r → Ev r m m' → Q d m') : s_f_law_pick [.ref r, .ref p] m Q R := by
  refine ent_f_law_pick ?_
  unfold b_f_law_pick
  simp (config := {failIfUnchanged := false}) only [aSeq, aIfS, aTest, aTru, aOp, aUn, aCB, aVar, aC, aCons, aNil, aStar, aAsg, aN, aSubL, aRet, aRetN, aNext, aNever, aDrop, aApp, aTup, aLst, aPar, aAnd, aOr, aNot, aAndV, aOrV, aNotV, aIf, aChain, aCall, aIsi, aIsi2, aSl, aNoP, aPt, aTupRev, aAll, aFor, aITup, aILst, aIR1, aIR2, aTT, aGCons, aGNil, aLc, aYes, aBrk, aCnt, aWhile, En.g, En.s, rIxA, itemsD, rLenA, lenD, rIntA, rTupleA, rListA, rMinA, rMaxA, rAddA, rSubA, rMulA, rFdivA, rModA, rPowA, rShlA, rShrA, rAndA, rOrA, rXorA, rLtA, rLeA, rGtA, rGeA, rNegA, rInt0, rIntC, rIsA, rIsNotA, rEqA, rNeA, eqA, D.isNon, Ab.rSlA, wipeE, En.x, l_same, mset_same, mset_mset, Option.map_some, List.length_cons, List.length_nil, Nat.zero_add, Nat.reduceAdd, true_and, and_true, decide_eq_true_eq, ite_true, ite_false, Bool.not_true, Bool.not_false, Bool.false_eq_true, if_true, if_false, List.append_assoc, List.cons_append, List.nil_append, at0, at1, at2, at3, at4, at5, ix0, ix1, ix2, ix3, List.set_cons_zero, List.set_cons_succ,l_of hp]
  refine taken h (by omega) (by omega) fun x m' h1 h2 h3 h4 => ?_
  rw [l_of (h4 p _ hn hp)]
  simp (config := {failIfUnchanged := false}) only [aSeq, aIfS, aTest, aTru, aOp, aUn, aCB, aVar, aC, aCons, aNil, aStar, aAsg, aN, aSubL, aRet, aRetN, aNext, aNever, aDrop, aApp, aTup, aLst, aPar, aAnd, aOr, aNot, aAndV, aOrV, aNotV, aIf, aChain, aCall, aIsi, aIsi2, aSl, aNoP, aPt, aTupRev, aAll, aFor, aITup, aILst, aIR1, aIR2, aTT, aGCons, aGNil, aLc, aYes, aBrk, aCnt, aWhile, En.g, En.s, rIxA, itemsD, rLenA, lenD, rIntA, rTupleA, rListA, rMinA, rMaxA, rAddA, rSubA, rMulA, rFdivA, rModA, rPowA, rShlA, rShrA, rAndA, rOrA, rXorA, rLtA, rLeA, rGtA, rGeA, rNegA, rInt0, rIntC, rIsA, rIsNotA, rEqA, rNeA, eqA, D.isNon, Ab.rSlA, wipeE, En.x, l_same, mset_same, mset_mset, Option.map_some, List.length_cons, List.length_nil, Nat.zero_add, Nat.reduceAdd, true_and, and_true, decide_eq_true_eq, ite_true, ite_false, Bool.not_true, Bool.not_false, Bool.false_eq_true, if_true, if_false, List.append_assoc, List.cons_append, List.nil_append, at0, at1, at2, at3, at4, at5, ix0, ix1, ix2, ix3, List.set_cons_zero, List.set_cons_succ,true_and]
  rw [atI_nat h1 h2, List.getElem?_eq_getElem (show x.toNat < ds.length by omega)]
  exact ⟨_, Sub.refl _, q _ _ (List.getElem_mem _) h3 h4⟩
theorem isInt {m : M} {v lo hi : Int} {Q : PQ} {R : PX} (q : Q (.bl (decide (lo ≤ v) && decide (v ≤ hi))) m) : s_is_integer [.int v, .int lo, .int hi] m Q R := by
  refine ent_is_integer ?_
  unfold b_is_integer
  simp (config := {failIfUnchanged := false}) only [aSeq, aIfS, aTest, aTru, aOp, aUn, aCB, aVar, aC, aCons, aNil, aStar, aAsg, aN, aSubL, aRet, aRetN, aNext, aNever, aDrop, aApp, aTup, aLst, aPar, aAnd, aOr, aNot, aAndV, aOrV, aNotV, aIf, aChain, aCall, aIsi, aIsi2, aSl, aNoP, aPt, aTupRev, aAll, aFor, aITup, aILst, aIR1, aIR2, aTT, aGCons, aGNil, aLc, aYes, aBrk, aCnt, aWhile, En.g, En.s, rIxA, itemsD, rLenA, lenD, rIntA, rTupleA, rListA, rMinA, rMaxA, rAddA, rSubA, rMulA, rFdivA, rModA, rPowA, rShlA, rShrA, rAndA, rOrA, rXorA, rLtA, rLeA, rGtA, rGeA, rNegA, rInt0, rIntC, rIsA, rIsNotA, rEqA, rNeA, eqA, D.isNon, Ab.rSlA, wipeE, En.x, l_same, mset_same, mset_mset, Option.map_some, List.length_cons, List.length_nil, Nat.zero_add, Nat.reduceAdd, true_and, and_true, decide_eq_true_eq, ite_true, ite_false, Bool.not_true, Bool.not_false, Bool.false_eq_true, if_true, if_false, List.append_assoc, List.cons_append, List.nil_append, at0, at1, at2, at3, at4, at5, ix0, ix1, ix2, ix3, List.set_cons_zero, List.set_cons_succ,tyD, show Ty.sub .int .int = true from rfl, show Ty.sub .int .bool = false from rfl]
  by_cases h : lo ≤ v
  · rw [if_pos h]
    exact ⟨_, Sub.refl _, by simpa [h] using q⟩
  · rw [if_neg h]
    exact ⟨_, Sub.refl _, by simpa [h] using q⟩
theorem isInt_t {m : M} {v lo hi : Int} {Q : PQ} {R : PX} (h1 : lo ≤ v) (h2 : v ≤ hi) (q : Q (.bl true) m) : s_is_integer [.int v, .int lo, .int hi] m Q R := isInt (by simpa [h1, h2] using q)
def iD (l : List Nat) : List D := l.map fun n : Nat => D.int (n : Int)
theorem iD_len (l : List Nat) : (iD l).length = l.length := List.length_map ..
theorem iD_app (l k : List Nat) : iD (l ++ k) = iD l ++ iD k := List.map_append ..
theorem rngD_zero {lo : Int} : rngD lo 0 = [] := rfl
theorem rngD_succ {lo : Int} {n : Nat} : rngD lo (n + 1) = .int lo :: rngD (lo + 1) n := by
  unfold rngD
  rw [List.range_succ_eq_map, List.map_cons, List.map_map]
  congr 1
  · simp
  · apply List.map_congr_left
    intro a _
    simp only [Function.comp]
    congr 1
    omega
def okD : Nat → D → Prop
  | n + 1, .tup ds => ds.length ≤ 1000000 ∧ ∀ d ∈ ds, okD n d
  | _, .int _ => True
  | _, .bl _ => True
  | _, .str _ => True
  | _, .non => True
  | _, _ => False
theorem alike_lc {r : ASp} {ds : List D} {p : Addr} {m : M} {Q : PQ} {gd : M → Prop} (hg : gd (mset m p (.lst []))) (h : ∀ d ∈ ds, ∀ (m' : M) (Q' : PQ) (R' : PX), Q' (.bl true) m' → r [d, d] m' Q' R') (q : Q (.ref p) (mset m p (.lst []))) :
    ∀ (n : Nat) (lo : Nat), lo + n ≤ ds.length → lcL (aN 2) (aNot (aTest (aCall 2 r (aCons (aOp rIxA (aVar 0) (aVar 2)) (aCons (aOp rIxA (aVar 1) (aVar 2)) (aNil)))))) (aVar 2) [some (.tup ds), some (.tup ds), none] p gd (rngD (lo : Int) n) Q (mset m p (.lst []))
  | 0, lo, hl => by
    rw [rngD_zero]
    exact ⟨hg, q⟩
  | n + 1, lo, hl => by
    have ih := alike_lc hg h q n (lo + 1) (by omega)
    rw [rngD_succ]
    unfold lcL
    refine ⟨hg, ?_⟩
    have e : atI ds (lo : Int) = some (ds[lo]'(by omega)) := by
      rw [atI_nat (by omega) (by omega), Int.toNat_natCast]
      exact List.getElem?_eq_getElem _
    simp (config := {failIfUnchanged := false}) only [aSeq, aIfS, aTest, aTru, aOp, aUn, aCB, aVar, aC, aCons, aNil, aStar, aAsg, aN, aSubL, aRet, aRetN, aNext, aNever, aDrop, aApp, aTup, aLst, aPar, aAnd, aOr, aNot, aAndV, aOrV, aNotV, aIf, aChain, aCall, aIsi, aIsi2, aSl, aNoP, aPt, aTupRev, aAll, aFor, aITup, aILst, aIR1, aIR2, aTT, aGCons, aGNil, aLc, aYes, aBrk, aCnt, aWhile, En.g, En.s, rIxA, itemsD, rLenA, lenD, rIntA, rTupleA, rListA, rMinA, rMaxA, rAddA, rSubA, rMulA, rFdivA, rModA, rPowA, rShlA, rShrA, rAndA, rOrA, rXorA, rLtA, rLeA, rGtA, rGeA, rNegA, rInt0, rIntC, rIsA, rIsNotA, rEqA, rNeA, eqA, D.isNon, Ab.rSlA, wipeE, En.x, l_same, mset_same, mset_mset, Option.map_some, List.length_cons, List.length_nil, Nat.zero_add, Nat.reduceAdd, true_and, and_true, decide_eq_true_eq, ite_true, ite_false, Bool.not_true, Bool.not_false, Bool.false_eq_true, if_true, if_false, List.append_assoc, List.cons_append, List.nil_append, at0, at1, at2, at3, at4, at5, ix0, ix1, ix2, ix3, List.set_cons_zero, List.set_cons_succ,e]
    exact h _ (List.getElem_mem _) _ _ _ ih
theorem alike : ∀ (j : Nat) {d : D} {m : M} {Q : PQ} {R : PX}, okD j d → Q (.bl true) m → s_f_law_alike (j + 1) [d, d] m Q R
  | j, d, m, Q, R, h, q => by
    refine ent_f_law_alike ?_
    unfold b_f_law_alike
    cases d with
    | int i =>
      simp (config := {failIfUnchanged := false}) only [aSeq, aIfS, aTest, aTru, aOp, aUn, aCB, aVar, aC, aCons, aNil, aStar, aAsg, aN, aSubL, aRet, aRetN, aNext, aNever, aDrop, aApp, aTup, aLst, aPar, aAnd, aOr, aNot, aAndV, aOrV, aNotV, aIf, aChain, aCall, aIsi, aIsi2, aSl, aNoP, aPt, aTupRev, aAll, aFor, aITup, aILst, aIR1, aIR2, aTT, aGCons, aGNil, aLc, aYes, aBrk, aCnt, aWhile, En.g, En.s, rIxA, itemsD, rLenA, lenD, rIntA, rTupleA, rListA, rMinA, rMaxA, rAddA, rSubA, rMulA, rFdivA, rModA, rPowA, rShlA, rShrA, rAndA, rOrA, rXorA, rLtA, rLeA, rGtA, rGeA, rNegA, rInt0, rIntC, rIsA, rIsNotA, rEqA, rNeA, eqA, D.isNon, Ab.rSlA, wipeE, En.x, l_same, mset_same, mset_mset, Option.map_some, List.length_cons, List.length_nil, Nat.zero_add, Nat.reduceAdd, true_and, and_true, decide_eq_true_eq, ite_true, ite_false, Bool.not_true, Bool.not_false, Bool.false_eq_true, if_true, if_false, List.append_assoc, List.cons_append, List.nil_append, at0, at1, at2, at3, at4, at5, ix0, ix1, ix2, ix3, List.set_cons_zero, List.set_cons_succ,tyD, show (Ty.sub .int .tuple || Ty.sub .int .list) = false from rfl, show Ty.sub .int .str = false from rfl, show Ty.sub .int .int = true from rfl, show Ty.sub .int .bool = false from rfl, decide_true]
      exact ⟨_, Sub.refl _, q⟩
    | bl b =>
      simp (config := {failIfUnchanged := false}) only [aSeq, aIfS, aTest, aTru, aOp, aUn, aCB, aVar, aC, aCons, aNil, aStar, aAsg, aN, aSubL, aRet, aRetN, aNext, aNever, aDrop, aApp, aTup, aLst, aPar, aAnd, aOr, aNot, aAndV, aOrV, aNotV, aIf, aChain, aCall, aIsi, aIsi2, aSl, aNoP, aPt, aTupRev, aAll, aFor, aITup, aILst, aIR1, aIR2, aTT, aGCons, aGNil, aLc, aYes, aBrk, aCnt, aWhile, En.g, En.s, rIxA, itemsD, rLenA, lenD, rIntA, rTupleA, rListA, rMinA, rMaxA, rAddA, rSubA, rMulA, rFdivA, rModA, rPowA, rShlA, rShrA, rAndA, rOrA, rXorA, rLtA, rLeA, rGtA, rGeA, rNegA, rInt0, rIntC, rIsA, rIsNotA, rEqA, rNeA, eqA, D.isNon, Ab.rSlA, wipeE, En.x, l_same, mset_same, mset_mset, Option.map_some, List.length_cons, List.length_nil, Nat.zero_add, Nat.reduceAdd, true_and, and_true, decide_eq_true_eq, ite_true, ite_false, Bool.not_true, Bool.not_false, Bool.false_eq_true, if_true, if_false, List.append_assoc, List.cons_append, List.nil_append, at0, at1, at2, at3, at4, at5, ix0, ix1, ix2, ix3, List.set_cons_zero, List.set_cons_succ,tyD, show (Ty.sub .bool .tuple || Ty.sub .bool .list) = false from rfl, show Ty.sub .bool .str = false from rfl, show Ty.sub .bool .int = true from rfl, show Ty.sub .bool .bool = true from rfl, decide_true]
      exact ⟨_, Sub.refl _, q⟩
    | str x =>
      simp (config := {failIfUnchanged := false}) only [aSeq, aIfS, aTest, aTru, aOp, aUn, aCB, aVar, aC, aCons, aNil, aStar, aAsg, aN, aSubL, aRet, aRetN, aNext, aNever, aDrop, aApp, aTup, aLst, aPar, aAnd, aOr, aNot, aAndV, aOrV, aNotV, aIf, aChain, aCall, aIsi, aIsi2, aSl, aNoP, aPt, aTupRev, aAll, aFor, aITup, aILst, aIR1, aIR2, aTT, aGCons, aGNil, aLc, aYes, aBrk, aCnt, aWhile, En.g, En.s, rIxA, itemsD, rLenA, lenD, rIntA, rTupleA, rListA, rMinA, rMaxA, rAddA, rSubA, rMulA, rFdivA, rModA, rPowA, rShlA, rShrA, rAndA, rOrA, rXorA, rLtA, rLeA, rGtA, rGeA, rNegA, rInt0, rIntC, rIsA, rIsNotA, rEqA, rNeA, eqA, D.isNon, Ab.rSlA, wipeE, En.x, l_same, mset_same, mset_mset, Option.map_some, List.length_cons, List.length_nil, Nat.zero_add, Nat.reduceAdd, true_and, and_true, decide_eq_true_eq, ite_true, ite_false, Bool.not_true, Bool.not_false, Bool.false_eq_true, if_true, if_false, List.append_assoc, List.cons_append, List.nil_append, at0, at1, at2, at3, at4, at5, ix0, ix1, ix2, ix3, List.set_cons_zero, List.set_cons_succ,tyD, show (Ty.sub .str .tuple || Ty.sub .str .list) = false from rfl, show Ty.sub .str .str = true from rfl, decide_true]
      exact ⟨_, Sub.refl _, q⟩
    | non =>
      simp (config := {failIfUnchanged := false}) only [aSeq, aIfS, aTest, aTru, aOp, aUn, aCB, aVar, aC, aCons, aNil, aStar, aAsg, aN, aSubL, aRet, aRetN, aNext, aNever, aDrop, aApp, aTup, aLst, aPar, aAnd, aOr, aNot, aAndV, aOrV, aNotV, aIf, aChain, aCall, aIsi, aIsi2, aSl, aNoP, aPt, aTupRev, aAll, aFor, aITup, aILst, aIR1, aIR2, aTT, aGCons, aGNil, aLc, aYes, aBrk, aCnt, aWhile, En.g, En.s, rIxA, itemsD, rLenA, lenD, rIntA, rTupleA, rListA, rMinA, rMaxA, rAddA, rSubA, rMulA, rFdivA, rModA, rPowA, rShlA, rShrA, rAndA, rOrA, rXorA, rLtA, rLeA, rGtA, rGeA, rNegA, rInt0, rIntC, rIsA, rIsNotA, rEqA, rNeA, eqA, D.isNon, Ab.rSlA, wipeE, En.x, l_same, mset_same, mset_mset, Option.map_some, List.length_cons, List.length_nil, Nat.zero_add, Nat.reduceAdd, true_and, and_true, decide_eq_true_eq, ite_true, ite_false, Bool.not_true, Bool.not_false, Bool.false_eq_true, if_true, if_false, List.append_assoc, List.cons_append, List.nil_append, at0, at1, at2, at3, at4, at5, ix0, ix1, ix2, ix3, List.set_cons_zero, List.set_cons_succ,tyD, show (Ty.sub .non .tuple || Ty.sub .non .list) = false from rfl, show Ty.sub .non .str = false from rfl, decide_true]
      exact ⟨_, Sub.refl _, q⟩
    | tup ds =>
      cases j with
      | zero => exact h.elim
      | succ j =>
        have h' : ds.length ≤ 1000000 ∧ ∀ d ∈ ds, okD j d := h
        simp (config := {failIfUnchanged := false}) only [aSeq, aIfS, aTest, aTru, aOp, aUn, aCB, aVar, aC, aCons, aNil, aStar, aAsg, aN, aSubL, aRet, aRetN, aNext, aNever, aDrop, aApp, aTup, aLst, aPar, aAnd, aOr, aNot, aAndV, aOrV, aNotV, aIf, aChain, aCall, aIsi, aIsi2, aSl, aNoP, aPt, aTupRev, aAll, aFor, aITup, aILst, aIR1, aIR2, aTT, aGCons, aGNil, aLc, aYes, aBrk, aCnt, aWhile, En.g, En.s, rIxA, itemsD, rLenA, lenD, rIntA, rTupleA, rListA, rMinA, rMaxA, rAddA, rSubA, rMulA, rFdivA, rModA, rPowA, rShlA, rShrA, rAndA, rOrA, rXorA, rLtA, rLeA, rGtA, rGeA, rNegA, rInt0, rIntC, rIsA, rIsNotA, rEqA, rNeA, eqA, D.isNon, Ab.rSlA, wipeE, En.x, l_same, mset_same, mset_mset, Option.map_some, List.length_cons, List.length_nil, Nat.zero_add, Nat.reduceAdd, true_and, and_true, decide_eq_true_eq, ite_true, ite_false, Bool.not_true, Bool.not_false, Bool.false_eq_true, if_true, if_false, List.append_assoc, List.cons_append, List.nil_append, at0, at1, at2, at3, at4, at5, ix0, ix1, ix2, ix3, List.set_cons_zero, List.set_cons_succ,tyD, show (Ty.sub .tuple .tuple || Ty.sub .tuple .list) = true from rfl, show Ty.sub .tuple .list = false from rfl, decide_true]
        refine ⟨by omega, fun p hp => ?_⟩
        rw [Int.toNat_natCast]
        refine alike_lc (ds := ds) trivial (fun d hd m' Q' R' q' => alike j (h'.2 d hd) q') ?_ ds.length 0 (by omega)
        refine ⟨by unfold big; decide, fun p2 hp2 => ?_⟩
        have n2 : p ≠ p2 := fun z => by rw [← z, mset_same] at hp2; cases hp2
        simp (config := {failIfUnchanged := false}) only [aSeq, aIfS, aTest, aTru, aOp, aUn, aCB, aVar, aC, aCons, aNil, aStar, aAsg, aN, aSubL, aRet, aRetN, aNext, aNever, aDrop, aApp, aTup, aLst, aPar, aAnd, aOr, aNot, aAndV, aOrV, aNotV, aIf, aChain, aCall, aIsi, aIsi2, aSl, aNoP, aPt, aTupRev, aAll, aFor, aITup, aILst, aIR1, aIR2, aTT, aGCons, aGNil, aLc, aYes, aBrk, aCnt, aWhile, En.g, En.s, rIxA, itemsD, rLenA, lenD, rIntA, rTupleA, rListA, rMinA, rMaxA, rAddA, rSubA, rMulA, rFdivA, rModA, rPowA, rShlA, rShrA, rAndA, rOrA, rXorA, rLtA, rLeA, rGtA, rGeA, rNegA, rInt0, rIntC, rIsA, rIsNotA, rEqA, rNeA, eqA, D.isNon, Ab.rSlA, wipeE, En.x, l_same, mset_same, mset_mset, Option.map_some, List.length_cons, List.length_nil, Nat.zero_add, Nat.reduceAdd, true_and, and_true, decide_eq_true_eq, ite_true, ite_false, Bool.not_true, Bool.not_false, Bool.false_eq_true, if_true, if_false, List.append_assoc, List.cons_append, List.nil_append, at0, at1, at2, at3, at4, at5, ix0, ix1, ix2, ix3, List.set_cons_zero, List.set_cons_succ,D.pyM, l_ne n2, D.pys]
        exact ⟨⟨rfl, rfl⟩, _, (Sub.new hp).trans (Sub.new hp2), q⟩
    | _ => cases j <;> exact h.elim
theorem tupOf {m : M} {ds : List D} {lo hi : Int} {Q : PQ} {R : PX} (h1 : lo ≤ ds.length) (h2 : ds.length ≤ hi) (q : Q (.bl true) m) : s_is_tuple_of [.tup ds, .int lo, .int hi] m Q R := by
  refine ent_is_tuple_of ?_
  unfold b_is_tuple_of
  simp (config := {failIfUnchanged := false}) only [aSeq, aIfS, aTest, aTru, aOp, aUn, aCB, aVar, aC, aCons, aNil, aStar, aAsg, aN, aSubL, aRet, aRetN, aNext, aNever, aDrop, aApp, aTup, aLst, aPar, aAnd, aOr, aNot, aAndV, aOrV, aNotV, aIf, aChain, aCall, aIsi, aIsi2, aSl, aNoP, aPt, aTupRev, aAll, aFor, aITup, aILst, aIR1, aIR2, aTT, aGCons, aGNil, aLc, aYes, aBrk, aCnt, aWhile, En.g, En.s, rIxA, itemsD, rLenA, lenD, rIntA, rTupleA, rListA, rMinA, rMaxA, rAddA, rSubA, rMulA, rFdivA, rModA, rPowA, rShlA, rShrA, rAndA, rOrA, rXorA, rLtA, rLeA, rGtA, rGeA, rNegA, rInt0, rIntC, rIsA, rIsNotA, rEqA, rNeA, eqA, D.isNon, Ab.rSlA, wipeE, En.x, l_same, mset_same, mset_mset, Option.map_some, List.length_cons, List.length_nil, Nat.zero_add, Nat.reduceAdd, true_and, and_true, decide_eq_true_eq, ite_true, ite_false, Bool.not_true, Bool.not_false, Bool.false_eq_true, if_true, if_false, List.append_assoc, List.cons_append, List.nil_append, at0, at1, at2, at3, at4, at5, ix0, ix1, ix2, ix3, List.set_cons_zero, List.set_cons_succ,tyD, show Ty.sub .tuple .tuple = true from rfl]
  rw [if_pos h1]
  exact ⟨_, Sub.refl _, by simpa [h2] using q⟩
def Bytes (ds : List D) : Prop := ∀ d ∈ ds, ∃ n : Nat, d = .int (n : Int) ∧ n < 256
theorem Bytes.app {a b : List D} (ha : Bytes a) (hb : Bytes b) : Bytes (a ++ b) := fun d h => by
  rcases List.mem_append.mp h with h | h
  · exact ha d h
  · exact hb d h
theorem bytes_iD {l : List Nat} (h : ∀ b ∈ l, b < 256) : Bytes (iD l) := fun d hd => by
  obtain ⟨n, hn, e⟩ := List.mem_map.mp hd
  exact ⟨n, e.symm, h n hn⟩
theorem ab_loop {A : AEnds} {x0 x1 x2 : Option D} {m : M} {gd : M → Prop} (hgd : ∀ m, gd m) : ∀ (ds : List D) (x3 : Option D), Bytes ds → (∀ y3, A.nx [x0, x1, x2, y3] m) → forL (aN 3) bl_are_bytes_0 gd ds A [x0, x1, x2, x3] m
  | [], x3, hb, q => ⟨hgd _, q _⟩
  | d :: ds, x3, hb, q => by
    obtain ⟨n, rfl, hn⟩ := hb d (by simp)
    have ih := ab_loop hgd (A := A) (x0 := x0) (x1 := x1) (x2 := x2) (m := m) ds (some (.int (n : Int))) (fun d hd => hb d (by simp [hd])) q
    unfold forL
    refine ⟨hgd _, ?_⟩
    generalize forL (aN 3) bl_are_bytes_0 gd ds A = X at ih ⊢
    unfold bl_are_bytes_0
    simp (config := {failIfUnchanged := false}) only [aSeq, aIfS, aTest, aTru, aOp, aUn, aCB, aVar, aC, aCons, aNil, aStar, aAsg, aN, aSubL, aRet, aRetN, aNext, aNever, aDrop, aApp, aTup, aLst, aPar, aAnd, aOr, aNot, aAndV, aOrV, aNotV, aIf, aChain, aCall, aIsi, aIsi2, aSl, aNoP, aPt, aTupRev, aAll, aFor, aITup, aILst, aIR1, aIR2, aTT, aGCons, aGNil, aLc, aYes, aBrk, aCnt, aWhile, En.g, En.s, rIxA, itemsD, rLenA, lenD, rIntA, rTupleA, rListA, rMinA, rMaxA, rAddA, rSubA, rMulA, rFdivA, rModA, rPowA, rShlA, rShrA, rAndA, rOrA, rXorA, rLtA, rLeA, rGtA, rGeA, rNegA, rInt0, rIntC, rIsA, rIsNotA, rEqA, rNeA, eqA, D.isNon, Ab.rSlA, wipeE, En.x, l_same, mset_same, mset_mset, Option.map_some, List.length_cons, List.length_nil, Nat.zero_add, Nat.reduceAdd, true_and, and_true, decide_eq_true_eq, ite_true, ite_false, Bool.not_true, Bool.not_false, Bool.false_eq_true, if_true, if_false, List.append_assoc, List.cons_append, List.nil_append, at0, at1, at2, at3, at4, at5, ix0, ix1, ix2, ix3, List.set_cons_zero, List.set_cons_succ,tyD, show Ty.sub .int .int = true from rfl, show Ty.sub .int .bool = false from rfl]
    have e1 : decide ((n : Int) < 0) = false := decide_eq_false (by omega)
    have e2 : decide ((255 : Int) < (n : Int)) = false := decide_eq_false (by omega)
    simpa [e1, e2, show ¬ ((n : Int) < 0) by omega, show ¬ ((255 : Int) < (n : Int)) by omega] using ih
theorem areBytes {m : M} {ds : List D} {lo hi : Int} {Q : PQ} {R : PX} (h1 : lo ≤ ds.length) (h2 : ds.length ≤ hi) (hb : Bytes ds) (q : Q (.bl true) m) : s_are_bytes [.tup ds, .int lo, .int hi] m Q R := by
  refine ent_are_bytes ?_
  unfold b_are_bytes
  simp (config := {failIfUnchanged := false}) only [aSeq, aIfS, aTest, aTru, aOp, aUn, aCB, aVar, aC, aCons, aNil, aStar, aAsg, aN, aSubL, aRet, aRetN, aNext, aNever, aDrop, aApp, aTup, aLst, aPar, aAnd, aOr, aNot, aAndV, aOrV, aNotV, aIf, aChain, aCall, aIsi, aIsi2, aSl, aNoP, aPt, aTupRev, aAll, aFor, aITup, aILst, aIR1, aIR2, aTT, aGCons, aGNil, aLc, aYes, aBrk, aCnt, aWhile, En.g, En.s, rIxA, itemsD, rLenA, lenD, rIntA, rTupleA, rListA, rMinA, rMaxA, rAddA, rSubA, rMulA, rFdivA, rModA, rPowA, rShlA, rShrA, rAndA, rOrA, rXorA, rLtA, rLeA, rGtA, rGeA, rNegA, rInt0, rIntC, rIsA, rIsNotA, rEqA, rNeA, eqA, D.isNon, Ab.rSlA, wipeE, En.x, l_same, mset_same, mset_mset, Option.map_some, List.length_cons, List.length_nil, Nat.zero_add, Nat.reduceAdd, true_and, and_true, decide_eq_true_eq, ite_true, ite_false, Bool.not_true, Bool.not_false, Bool.false_eq_true, if_true, if_false, List.append_assoc, List.cons_append, List.nil_append, at0, at1, at2, at3, at4, at5, ix0, ix1, ix2, ix3, List.set_cons_zero, List.set_cons_succ,true_and]
  refine tupOf h1 h2 ?_
  simp (config := {failIfUnchanged := false}) only [aSeq, aIfS, aTest, aTru, aOp, aUn, aCB, aVar, aC, aCons, aNil, aStar, aAsg, aN, aSubL, aRet, aRetN, aNext, aNever, aDrop, aApp, aTup, aLst, aPar, aAnd, aOr, aNot, aAndV, aOrV, aNotV, aIf, aChain, aCall, aIsi, aIsi2, aSl, aNoP, aPt, aTupRev, aAll, aFor, aITup, aILst, aIR1, aIR2, aTT, aGCons, aGNil, aLc, aYes, aBrk, aCnt, aWhile, En.g, En.s, rIxA, itemsD, rLenA, lenD, rIntA, rTupleA, rListA, rMinA, rMaxA, rAddA, rSubA, rMulA, rFdivA, rModA, rPowA, rShlA, rShrA, rAndA, rOrA, rXorA, rLtA, rLeA, rGtA, rGeA, rNegA, rInt0, rIntC, rIsA, rIsNotA, rEqA, rNeA, eqA, D.isNon, Ab.rSlA, wipeE, En.x, l_same, mset_same, mset_mset, Option.map_some, List.length_cons, List.length_nil, Nat.zero_add, Nat.reduceAdd, true_and, and_true, decide_eq_true_eq, ite_true, ite_false, Bool.not_true, Bool.not_false, Bool.false_eq_true, if_true, if_false, List.append_assoc, List.cons_append, List.nil_append, at0, at1, at2, at3, at4, at5, ix0, ix1, ix2, ix3, List.set_cons_zero, List.set_cons_succ,true_and]
  refine ab_loop (fun _ => trivial) ds _ hb fun y3 => ?_
  simp (config := {failIfUnchanged := false}) only [aSeq, aIfS, aTest, aTru, aOp, aUn, aCB, aVar, aC, aCons, aNil, aStar, aAsg, aN, aSubL, aRet, aRetN, aNext, aNever, aDrop, aApp, aTup, aLst, aPar, aAnd, aOr, aNot, aAndV, aOrV, aNotV, aIf, aChain, aCall, aIsi, aIsi2, aSl, aNoP, aPt, aTupRev, aAll, aFor, aITup, aILst, aIR1, aIR2, aTT, aGCons, aGNil, aLc, aYes, aBrk, aCnt, aWhile, En.g, En.s, rIxA, itemsD, rLenA, lenD, rIntA, rTupleA, rListA, rMinA, rMaxA, rAddA, rSubA, rMulA, rFdivA, rModA, rPowA, rShlA, rShrA, rAndA, rOrA, rXorA, rLtA, rLeA, rGtA, rGeA, rNegA, rInt0, rIntC, rIsA, rIsNotA, rEqA, rNeA, eqA, D.isNon, Ab.rSlA, wipeE, En.x, l_same, mset_same, mset_mset, Option.map_some, List.length_cons, List.length_nil, Nat.zero_add, Nat.reduceAdd, true_and, and_true, decide_eq_true_eq, ite_true, ite_false, Bool.not_true, Bool.not_false, Bool.false_eq_true, if_true, if_false, List.append_assoc, List.cons_append, List.nil_append, at0, at1, at2, at3, at4, at5, ix0, ix1, ix2, ix3, List.set_cons_zero, List.set_cons_succ,true_and]
  exact ⟨_, Sub.refl _, q⟩
end K32

set_option linter.all false
set_option maxRecDepth 100000
namespace K32
/-! ### the greedy plan against every plan -/
def fitc (ring : Nat) (c : Nat → Bool) : Nat → Nat → List Nat → Bool
  | _, _, [] => true
  | i, u, b :: bs => let u' := (if c i then 0 else u) + b; decide (u' ≤ ring) && fitc ring c (i + 1) u' bs
def gr (ring : Nat) : Nat → Nat → List Nat → List Nat
  | _, _, [] => []
  | i, u, b :: bs => if ring < u + b then i :: gr ring (i + 1) b bs else gr ring (i + 1) (u + b) bs
def Dom : List Nat → List Nat → Prop
  | [], _ => True
  | a :: A, b :: B => b ≤ a ∧ Dom A B
  | _ :: _, [] => False
def Asc (l : List Nat) : Prop := l.Pairwise (· < ·)
theorem dom_cons : ∀ {A B : List Nat} {t : Nat}, Asc (t :: B) → Dom A B → Dom A (t :: B)
  | [], _, _, _, _ => trivial
  | a :: A, [], _, _, h => h.elim
  | a :: A, b :: B, t, hs, h => by
    have hb : t < b := (List.pairwise_cons.mp hs).1 b (by simp)
    exact ⟨by have := h.1; omega, dom_cons (List.pairwise_cons.mp hs).2 h.2⟩
abbrev suf (i : Nat) (S : List Nat) : List Nat := S.filter fun j => decide (i ≤ j)
theorem suf_in : ∀ {S : List Nat} {i : Nat}, Asc S → i ∈ S → suf i S = i :: suf (i + 1) S
  | t :: S, i, hs, h => by
    have h1 := (List.pairwise_cons.mp hs).1
    have h2 := (List.pairwise_cons.mp hs).2
    rcases List.mem_cons.mp h with e | e
    · subst e
      have e1 : suf i S = S := List.filter_eq_self.mpr fun j hj => decide_eq_true (Nat.le_of_lt (h1 j hj))
      have e2 : suf (i + 1) S = S := List.filter_eq_self.mpr fun j hj => decide_eq_true (h1 j hj)
      unfold suf at e1 e2 ⊢
      rw [List.filter_cons_of_pos (by simp), List.filter_cons_of_neg (by simp), e1, e2]
    · have hlt := h1 i e
      have ih := suf_in h2 e
      unfold suf at ih ⊢
      rw [List.filter_cons_of_neg (by simp; omega), List.filter_cons_of_neg (by simp; omega)]
      exact ih
theorem suf_out {S : List Nat} {i : Nat} (h : i ∉ S) : suf i S = suf (i + 1) S := by
  apply List.filter_congr
  intro j hj
  have : j ≠ i := fun z => h (z ▸ hj)
  rw [decide_eq_decide]; omega
theorem suf_asc {S : List Nat} {i : Nat} (h : Asc S) : Asc (suf i S) := h.sublist List.filter_sublist
theorem suf_ge {S : List Nat} {i j : Nat} (h : j ∈ suf i S) : i ≤ j := by simpa using (List.mem_filter.mp h).2
theorem dom_both (ring : Nat) {S : List Nat} (hs : Asc S) : ∀ (bs : List Nat) (i uG uS : Nat), (∀ b ∈ bs, b ≤ ring) → fitc ring (fun j => S.contains j) i uS bs = true →
    (uG ≤ uS → Dom (gr ring i uG bs) (suf i S)) ∧ (∀ t, t < i → Dom (gr ring i uG bs) (t :: suf i S))
  | [], i, uG, uS, _, _ => ⟨fun _ => trivial, fun _ _ => trivial⟩
  | b :: bs, i, uG, uS, hb, h => by
    have hbr := hb b (by simp)
    have hbs : ∀ b ∈ bs, b ≤ ring := fun b h => hb b (by simp [h])
    unfold fitc at h
    simp only [Bool.and_eq_true, decide_eq_true_eq] at h
    obtain ⟨hu, hf⟩ := h
    have go : ∀ t, t < i → Dom (gr ring i uG (b :: bs)) (t :: suf i S) := by
      intro t ht
      unfold gr
      by_cases hi : i ∈ S
      · rw [suf_in hs hi]
        have hc : S.contains i = true := by simpa using hi
        rw [hc] at hf hu
        simp only [if_true] at hf hu
        rw [Nat.zero_add] at hf
        have asc : Asc (t :: i :: suf (i + 1) S) := by
          have a1 : Asc (i :: suf (i + 1) S) := by rw [← suf_in hs hi]; exact suf_asc hs
          refine List.pairwise_cons.mpr ⟨fun x hx => ?_, a1⟩
          rcases List.mem_cons.mp hx with e | e
          · omega
          · have := suf_ge e; omega
        by_cases ho : ring < uG + b
        · rw [if_pos ho]
          exact ⟨Nat.le_of_lt ht, (dom_both ring hs bs (i + 1) b b hbs hf).2 i (Nat.lt_succ_self i)⟩
        · rw [if_neg ho]
          exact dom_cons asc ((dom_both ring hs bs (i + 1) (uG + b) b hbs hf).2 i (Nat.lt_succ_self i))
      · rw [suf_out hi]
        have hc : S.contains i = false := by simpa using hi
        rw [hc] at hf hu
        simp only [Bool.false_eq_true, if_false] at hf hu
        by_cases ho : ring < uG + b
        · rw [if_pos ho]
          exact ⟨Nat.le_of_lt ht, (dom_both ring hs bs (i + 1) b (uS + b) hbs hf).1 (by omega)⟩
        · rw [if_neg ho]
          exact (dom_both ring hs bs (i + 1) (uG + b) (uS + b) hbs hf).2 t (by omega)
    refine ⟨fun hle => ?_, go⟩
    unfold gr
    by_cases hi : i ∈ S
    · rw [suf_in hs hi]
      have hc : S.contains i = true := by simpa using hi
      rw [hc] at hf hu
      simp only [if_true] at hf hu
      rw [Nat.zero_add] at hf
      by_cases ho : ring < uG + b
      · rw [if_pos ho]
        exact ⟨Nat.le_refl _, (dom_both ring hs bs (i + 1) b b hbs hf).1 (Nat.le_refl _)⟩
      · rw [if_neg ho]
        exact (dom_both ring hs bs (i + 1) (uG + b) b hbs hf).2 i (Nat.lt_succ_self i)
    · rw [suf_out hi]
      have hc : S.contains i = false := by simpa using hi
      rw [hc] at hf hu
      simp only [Bool.false_eq_true, if_false] at hf hu
      rw [if_neg (by omega)]
      exact (dom_both ring hs bs (i + 1) (uG + b) (uS + b) hbs hf).1 (by omega)
/-! ### the greedy plan fits, and stands among the ways -/
theorem gr_ge (ring : Nat) : ∀ (bs : List Nat) (i u j : Nat), j ∈ gr ring i u bs → i ≤ j ∧ j < i + bs.length
  | [], i, u, j, h => by simp [gr] at h
  | b :: bs, i, u, j, h => by
    unfold gr at h
    rw [List.length_cons]
    by_cases ho : ring < u + b
    · rw [if_pos ho] at h
      rcases List.mem_cons.mp h with e | e
      · omega
      · have := gr_ge ring bs (i + 1) b j e; omega
    · rw [if_neg ho] at h
      have := gr_ge ring bs (i + 1) (u + b) j h; omega
theorem gr_asc (ring : Nat) : ∀ (bs : List Nat) (i u : Nat), Asc (gr ring i u bs)
  | [], i, u => List.Pairwise.nil
  | b :: bs, i, u => by
    unfold gr
    by_cases ho : ring < u + b
    · rw [if_pos ho]
      exact List.pairwise_cons.mpr ⟨fun j hj => (gr_ge ring bs (i + 1) b j hj).1, gr_asc ring bs (i + 1) b⟩
    · rw [if_neg ho]
      exact gr_asc ring bs (i + 1) (u + b)
theorem fitc_congr (ring : Nat) {c c' : Nat → Bool} : ∀ (bs : List Nat) (i u : Nat), (∀ j, i ≤ j → j < i + bs.length → c j = c' j) → fitc ring c i u bs = fitc ring c' i u bs
  | [], i, u, _ => rfl
  | b :: bs, i, u, h => by
    unfold fitc
    dsimp only
    rw [h i (Nat.le_refl _) (by simp), fitc_congr ring bs (i + 1) _ fun j h1 h2 => h j (by omega) (by simp; omega)]
theorem gr_fit (ring : Nat) : ∀ (bs : List Nat) (i u : Nat), (∀ b ∈ bs, b ≤ ring) → fitc ring (fun j => (gr ring i u bs).contains j) i u bs = true
  | [], i, u, _ => rfl
  | b :: bs, i, u, hb => by
    have hbr := hb b (by simp)
    have hbs : ∀ b ∈ bs, b ≤ ring := fun b h => hb b (by simp [h])
    unfold gr fitc
    by_cases ho : ring < u + b
    · rw [if_pos ho]
      have e : (i :: gr ring (i + 1) b bs).contains i = true := by simp
      dsimp only
      rw [e, if_pos rfl, Nat.zero_add, Bool.and_eq_true]
      refine ⟨decide_eq_true hbr, ?_⟩
      rw [fitc_congr ring (c' := fun j => (gr ring (i + 1) b bs).contains j) bs (i + 1) b fun j h1 h2 => ?_]
      · exact gr_fit ring bs (i + 1) b hbs
      · have : ¬ j = i := by omega
        simp [this]
    · rw [if_neg ho]
      have e : (gr ring (i + 1) (u + b) bs).contains i = false := by
        rw [← Bool.not_eq_true]
        intro h
        have := (gr_ge ring bs (i + 1) (u + b) i (by simpa using h)).1
        omega
      dsimp only
      rw [e, if_neg Bool.false_ne_true, Bool.and_eq_true]
      exact ⟨decide_eq_true (by omega), gr_fit ring bs (i + 1) (u + b) hbs⟩
def ways : Nat → List (List Nat)
  | 0 => [[]]
  | n + 1 => ways n ++ (ways n).map (· ++ [n + 1])
theorem ways_len : ∀ n, (ways n).length = 2 ^ n
  | 0 => rfl
  | n + 1 => by rw [ways, List.length_append, List.length_map, ways_len n, Nat.pow_succ]; omega
theorem ways_in : ∀ (n : Nat) {S : List Nat}, S ∈ ways n → Asc S ∧ (∀ j ∈ S, 1 ≤ j ∧ j ≤ n) ∧ S.length ≤ n
  | 0, S, h => by
    have e : S = [] := by simpa [ways] using h
    subst e
    exact ⟨List.Pairwise.nil, by simp, by simp⟩
  | n + 1, S, h => by
    rw [ways] at h
    rcases List.mem_append.mp h with h | h
    · obtain ⟨a, b, c⟩ := ways_in n h
      exact ⟨a, fun j hj => ⟨(b j hj).1, by have := (b j hj).2; omega⟩, by omega⟩
    · obtain ⟨T, hT, rfl⟩ := List.mem_map.mp h
      obtain ⟨a, b, c⟩ := ways_in n hT
      refine ⟨?_, fun j hj => ?_, by simp; omega⟩
      · refine List.pairwise_append.mpr ⟨a, List.pairwise_singleton _ _, fun x hx y hy => ?_⟩
        have := (b x hx).2
        simp at hy
        omega
      · rcases List.mem_append.mp hj with h | h
        · exact ⟨(b j h).1, by have := (b j h).2; omega⟩
        · simp at h; omega
theorem in_ways : ∀ (n : Nat) {S : List Nat}, Asc S → (∀ j ∈ S, 1 ≤ j ∧ j ≤ n) → S ∈ ways n
  | 0, S, _, h => by
    cases S with
    | nil => simp [ways]
    | cons t S => have := h t (by simp); omega
  | n + 1, S, hs, h => by
    rw [ways]
    by_cases hn : n + 1 ∈ S
    · obtain ⟨T, U, e⟩ := List.append_of_mem hn
      have hp := List.pairwise_append.mp (show (T ++ (n + 1) :: U).Pairwise (· < ·) from e ▸ hs)
      have hU : U = [] := by
        cases U with
        | nil => rfl
        | cons y U =>
          have h1 := (List.pairwise_cons.mp hp.2.1).1 y (by simp)
          have h2 := (h y (by rw [e]; simp)).2
          omega
      subst hU
      refine List.mem_append.mpr (.inr (List.mem_map.mpr ⟨T, in_ways n hp.1 fun j hj => ?_, e.symm⟩))
      have h1 := h j (by rw [e]; simp [hj])
      have h2 := hp.2.2 j hj (n + 1) (by simp)
      omega
    · refine List.mem_append.mpr (.inl (in_ways n hs fun j hj => ?_))
      have h1 := h j hj
      have : j ≠ n + 1 := fun z => hn (z ▸ hj)
      omega
theorem dom_len : ∀ {A B : List Nat}, Dom A B → A.length ≤ B.length
  | [], _, _ => by simp
  | a :: A, [], h => h.elim
  | a :: A, b :: B, h => by have := dom_len h.2; simp; exact this
end K32

set_option linter.all false
set_option maxRecDepth 100000
namespace K32
open PySem PySem.W
/-! ### which of the plans is the least -/
def neg (S : List Nat) : List Int := S.map fun s : Nat => (0 : Int) - (s : Int)
def itP (S : List Nat) (ds : List PyData) : PyData := .tuple [.int (S.length : Nat), .tuple ((neg S).map .int), .tuple ds]
theorem neg_inj : ∀ {A B : List Nat}, neg A = neg B → A = B
  | [], [], _ => rfl
  | [], _ :: _, h => by simp [neg] at h
  | _ :: _, [], h => by simp [neg] at h
  | a :: A, b :: B, h => by
    unfold neg at h
    rw [List.map_cons, List.map_cons] at h
    injection h with h1 h2
    rw [neg_inj (A := A) (B := B) h2, show a = b by omega]
theorem dom_lt : ∀ {A B : List Nat}, Dom A B → A.length = B.length → A ≠ B → listLt (neg A) (neg B) = true ∧ listLt (neg B) (neg A) = false
  | [], [], _, _, n => absurd rfl n
  | [], _ :: _, _, h, _ => by simp at h
  | a :: A, [], h, _, _ => h.elim
  | a :: A, b :: B, h, hl, n => by
    unfold neg
    rw [List.map_cons, List.map_cons, listLt, listLt]
    by_cases e : a = b
    · subst e
      rw [if_pos rfl, if_pos rfl]
      exact dom_lt h.2 (by simpa using hl) fun z => n (by rw [z])
    · have := h.1
      rw [if_neg (by omega), if_neg (by omega)]
      exact ⟨decide_eq_true (by omega), decide_eq_false (by omega)⟩
theorem tup_ne {A B : List Int} (h : A ≠ B) : PyData.eqv (.tuple (A.map .int)) (.tuple (B.map .int)) = false := by
  have e := Datum.eqv (⟨A⟩ : Tup Int) (⟨B⟩ : Tup Int)
  have : decide ((⟨A⟩ : Tup Int) = ⟨B⟩) = false := decide_eq_false fun z => h (by injection z)
  rw [this] at e
  exact e
theorem tup_lt (A B : List Int) : dataLt (.tuple (A.map .int)) (.tuple (B.map .int)) = listLt A B := (dataLt_tuple _ _).trans (lexAll_map A B)
theorem al_int (a b : Int) : PySem.W.alike (.int a) (.int b) = true := by simp only [PySem.W.alike]
theorem al_tup (A B : List Int) : PySem.W.alike (.tuple (A.map .int)) (.tuple (B.map .int)) = true := by
  show PySem.W.alike (.tuple _) (.tuple _) = true
  simp only [PySem.W.alike]
  exact alikeAll_map A B
theorem eqv_int (a b : Int) : PyData.eqv (.int a) (.int b) = decide (a = b) := Datum.eqv a b
theorem it_lt {A B : List Nat} {ds es : List PyData} (h : Dom A B) (n : A ≠ B) : dataLt (itP A ds) (itP B es) = true ∧ dataLt (itP B es) (itP A ds) = false := by
  unfold itP
  rw [dataLt_tuple, dataLt_tuple]
  have hl := dom_len h
  by_cases e : A.length = B.length
  · have h1 : PyData.eqv (.int (A.length : Nat)) (.int (B.length : Nat)) = true := by rw [eqv_int]; exact decide_eq_true (by omega)
    have h2 : PyData.eqv (.int (B.length : Nat)) (.int (A.length : Nat)) = true := by rw [eqv_int]; exact decide_eq_true (by omega)
    rw [dataLt_all_yes (al_int _ _) h1, dataLt_all_yes (al_int _ _) h2]
    have nn : neg A ≠ neg B := fun z => n (neg_inj z)
    rw [dataLt_all_no (al_tup _ _) (tup_ne nn), dataLt_all_no (al_tup _ _) (tup_ne (Ne.symm nn)), tup_lt, tup_lt]
    exact dom_lt h e n
  · have h1 : PyData.eqv (.int (A.length : Nat)) (.int (B.length : Nat)) = false := by rw [eqv_int]; exact decide_eq_false (by omega)
    have h2 : PyData.eqv (.int (B.length : Nat)) (.int (A.length : Nat)) = false := by rw [eqv_int]; exact decide_eq_false (by omega)
    rw [dataLt_all_no (al_int _ _) h1, dataLt_all_no (al_int _ _) h2, dataLt_int, dataLt_int]
    exact ⟨decide_eq_true (by omega), decide_eq_false (by omega)⟩
theorem minD_is {g : PyData} : ∀ (xs : List PyData) (a : PyData), (∀ y ∈ a :: xs, dataLt y g = false) → (∀ y ∈ a :: xs, y ≠ g → dataLt g y = true) → g ∈ a :: xs → minD a xs = g
  | [], a, _, _, h => by simp at h; exact h.symm
  | x :: xs, a, h1, h2, h => by
    show minD (if dataLt x a then x else a) xs = g
    by_cases e : a = g
    · subst e
      rw [h1 x (by simp), if_neg Bool.false_ne_true]
      exact minD_is xs a (fun y hy => h1 y (by rcases List.mem_cons.mp hy with z | z <;> simp [z])) (fun y hy => h2 y (by rcases List.mem_cons.mp hy with z | z <;> simp [z])) (by simp)
    · by_cases ex : x = g
      · subst ex
        rw [h2 a (by simp) e, if_pos rfl]
        exact minD_is xs x (fun y hy => h1 y (by simp only [List.mem_cons] at hy ⊢; rcases hy with z | z <;> simp [z])) (fun y hy => h2 y (by simp only [List.mem_cons] at hy ⊢; rcases hy with z | z <;> simp [z])) (by simp)
      · have hg : g ∈ xs := by
          simp only [List.mem_cons] at h
          rcases h with z | z | z
          · exact absurd z.symm e
          · exact absurd z.symm ex
          · exact z
        refine minD_is xs _ (fun y hy => ?_) (fun y hy => ?_) (by simp [hg])
        · refine h1 y ?_
          rcases List.mem_cons.mp hy with z | z
          · rw [z]; split <;> simp
          · simp [z]
        · refine h2 y ?_
          rcases List.mem_cons.mp hy with z | z
          · rw [z]; split <;> simp
          · simp [z]
end K32

set_option linter.all false
set_option maxRecDepth 100000
set_option maxHeartbeats 2000000
namespace K32
open PySem PySem.Spec PyProof.Rows L2 Ab
/-- item by item -/
def F2 {α β : Type} (P : α → β → Prop) : List α → List β → Prop
  | [], [] => True
  | a :: as, b :: bs => P a b ∧ F2 P as bs
  | _, _ => False
theorem F2.app {α β : Type} {P : α → β → Prop} : ∀ {as cs : List α} {bs ds : List β}, F2 P as bs → F2 P cs ds → F2 P (as ++ cs) (bs ++ ds)
  | [], _, [], _, _, h => h
  | a :: as, _, b :: bs, _, h, k => ⟨h.1, F2.app h.2 k⟩
  | [], _, _ :: _, _, h, _ => h.elim
  | _ :: _, _, [], _, h, _ => h.elim
theorem F2.len {α β : Type} {P : α → β → Prop} : ∀ {as : List α} {bs : List β}, F2 P as bs → as.length = bs.length
  | [], [], _ => rfl
  | a :: as, b :: bs, h => by simp [F2.len h.2]
  | [], _ :: _, h => h.elim
  | _ :: _, [], h => h.elim
/-- a comprehension -/
theorem lc_inv {e : En} {i : Nat} {te : AE} {p : Addr} {gd : M → Prop} {Q : PQ} {J : M → Prop} {Pd : D → D → Prop} {its0 : List D} (hJ : ∀ m o, J m → J (mset m p o)) (hgd : ∀ m, J m → gd m)
    (hte : ∀ x ∈ its0, ∀ (m1 : M) (Q' : PQ), J m1 → (∀ y m2, Pd x y → J m2 → (∀ o, m1 p = some o → m2 p = some o) → Q' y m2) → te (e.s i x) m1 Q' (fun _ _ => False))
    (q : ∀ l m', F2 Pd its0 l → J m' → m' p = some (.lst l) → Q (.ref p) m') : ∀ (its done : List D) (acc : List D) (m : M), its0 = done ++ its → F2 Pd done acc → J m → m p = some (.lst acc) → its0.length ≤ 1000 → lcL (aN i) aYes te e p gd its Q m
  | [], done, acc, m, hd, ha, hj, hm, hl => ⟨hgd _ hj, q acc m (by rw [hd, List.append_nil]; exact ha) hj hm⟩
  | x :: its, done, acc, m, hd, ha, hj, hm, hl => by
    refine ⟨hgd _ hj, ?_⟩
    refine hte x (by rw [hd]; simp) m _ hj fun y m2 hy hj2 k => ?_
    show (match m2 p with | some (.lst acc) => acc.length < big ∧ _ | _ => False)
    rw [k _ hm]
    have hlen := ha.len
    have : done.length ≤ 1000 := by rw [hd] at hl; simp at hl; omega
    refine ⟨Nat.lt_of_le_of_lt (show acc.length ≤ 1000 by omega) (by unfold big; decide), ?_⟩
    refine lc_inv hJ hgd hte q its (done ++ [x]) (acc ++ [y]) _ (by rw [hd]; simp) (ha.app ⟨hy, trivial⟩) (hJ _ _ hj2) mset_same hl
abbrev JR (ns : List Int) (r : Addr) (m0 : M) : M → Prop := fun m => RowAt ns m r ∧ Ev r m0 m
theorem JR.set {ns : List Int} {r p : Addr} {m0 : M} (h0 : RowAt ns m0 r) (hp : m0 p = none) : ∀ m o, JR ns r m0 m → JR ns r m0 (mset m p o) := fun m o h => by
  refine ⟨h.1.put (h0.ne hp), fun a u n e => ?_⟩
  rw [mset_ne fun z => by rw [z, hp] at e; cases e]
  exact h.2 a u n e
theorem lc_r {e : En} {i : Nat} {te : AE} {ns : List Int} {r p : Addr} {m0 : M} {gd : M → Prop} {Q : PQ} {Pd : D → D → Prop} {its : List D} (h0 : RowAt ns m0 r) (hp : m0 p = none) (hgd : ∀ m, JR ns r m0 m → gd m)
    (hte : ∀ x ∈ its, ∀ (m1 : M) (Q' : PQ), JR ns r m0 m1 → (∀ y m2, Pd x y → RowAt ns m2 r → Ev r m1 m2 → Q' y m2) → te (e.s i x) m1 Q' (fun _ _ => False))
    (q : ∀ l m', F2 Pd its l → RowAt ns m' r → Ev r m0 m' → m' p = some (.lst l) → Q (.ref p) m') (hl : its.length ≤ 1000) : lcL (aN i) aYes te e p gd its Q (mset m0 p (.lst [])) := by
  refine lc_inv (J := JR ns r m0) (Pd := Pd) (its0 := its) (JR.set h0 hp) hgd (fun x hx m1 Q' hj q' => hte x hx m1 Q' hj fun y m2 hy a b => q' y m2 hy ⟨a, hj.2.trans b⟩ fun o k => b p o (h0.ne hp) k) (fun l m' a b c => q l m' a b.1 b.2 c) its [] [] _ rfl trivial ⟨h0.new hp, Ev.new hp⟩ mset_same hl
theorem lc_s {e : En} {i : Nat} {te : AE} {p : Addr} {m0 : M} {gd : M → Prop} {Q : PQ} {Pd : D → D → Prop} {its : List D} (hp : m0 p = none) (hgd : ∀ m, Ab.Sub m0 m → gd m)
    (hte : ∀ x ∈ its, ∀ (m1 : M) (Q' : PQ), Ab.Sub m0 m1 → (∀ y m2, Pd x y → Ab.Sub m1 m2 → Q' y m2) → te (e.s i x) m1 Q' (fun _ _ => False))
    (q : ∀ l m', F2 Pd its l → Ab.Sub m0 m' → m' p = some (.lst l) → Q (.ref p) m') (hl : its.length ≤ 1000) : lcL (aN i) aYes te e p gd its Q (mset m0 p (.lst [])) := by
  refine lc_inv (J := Ab.Sub m0) (Pd := Pd) (its0 := its) (fun m o s => s.mut hp) hgd (fun x hx m1 Q' hj q' => hte x hx m1 Q' hj fun y m2 hy b => q' y m2 hy (hj.trans b) fun o k => b p o k) (fun l m' a b c => q l m' a b c) its [] [] _ rfl trivial (Ab.Sub.new hp) mset_same hl
def By (l : List Nat) : Prop := ∀ b ∈ l, b < 256
theorem F2_by : ∀ {l k : List D}, F2 (fun _ d => ∃ n : Nat, d = .int (n : Int) ∧ n < 256) l k → ∃ j, k = iD j ∧ By j ∧ j.length = l.length
  | [], [], _ => ⟨[], rfl, by simp [By], rfl⟩
  | a :: l, b :: k, h => by
    obtain ⟨n, rfl, hn⟩ := h.1
    obtain ⟨j, rfl, hj, hl⟩ := F2_by h.2
    refine ⟨n :: j, rfl, fun b hb => ?_, by simp [hl]⟩
    rcases List.mem_cons.mp hb with e | e
    · omega
    · exact hj b e
  | [], _ :: _, h => h.elim
  | _ :: _, [], h => h.elim
theorem flat1 {x : D} : ∀ n : Nat, (List.replicate n [x]).flatten = List.replicate n x
  | 0 => rfl
  | n + 1 => by rw [List.replicate_succ, List.flatten_cons, flat1 n]; rfl
theorem mulRI {a : Addr} {x : D} {k : Int} {n : Nat} {m : M} {Q : PQ} (hl : m.l a = some [x]) (hk : k.toNat = n) (h1 : -(2 ^ 62) ≤ k ∧ k < 2 ^ 62) (h3 : n ≤ 1000) (q : ∀ p, m p = none → Q (.ref p) (mset m p (.lst (List.replicate n x)))) : rMulA (.ref a) (.int k) m Q := by
  subst hk
  rw [mulR, hl]
  refine ⟨⟨h1.1, h1.2, ?_⟩, fun p hp => ?_⟩
  · exact Nat.le_trans (show _ ≤ 1000 by simpa using h3) (show 1000 ≤ big by decide)
  · rw [flat1]
    exact q p hp
theorem addRI {a b : Addr} {xs ys : List D} {m : M} {Q : PQ} (ha : m.l a = some xs) (hb : m.l b = some ys) (h : xs.length + ys.length ≤ 100000) (q : ∀ p, m p = none → Q (.ref p) (mset m p (.lst (xs ++ ys)))) : rAddA (.ref a) (.ref b) m Q := by
  rw [addR, ha, hb]
  exact ⟨h, q⟩
theorem iD_rep (n v : Nat) : List.replicate n (D.int (v : Int)) = iD (List.replicate n v) := by unfold iD; rw [List.map_replicate]
section
variable {ns : List Int} {r : Addr} {m : M}
theorem pickF {p : Addr} {ds : List D} {Q : PQ} {R : PX} (h : RowAt ns m r) (hp : m p = none) (h0 : 0 < ds.length) (hb : ds.length < 2 ^ 62) (q : ∀ d m', d ∈ ds → RowAt ns m' r → Ev r m m' → Q d m') : s_f_law_pick [.ref r, .ref p] (mset m p (.lst ds)) Q R :=
  pick (h.new hp) mset_same (h.ne hp) h0 hb fun d m' hd hr ev => q d m' hd hr ((Ev.new hp).trans ev)
theorem isB {n : Nat} (h : n < 256) : ∃ k : Nat, D.int (n : Int) = .int (k : Int) ∧ k < 256 := ⟨n, rfl, h⟩
theorem lawPage {Q : PQ} {R : PX} (hr : RowAt ns m r) (q : ∀ l m', By l → l.length ≤ 96 → RowAt ns m' r → Ev r m m' → Q (.tup (iD l)) m') : s_f_law_page [.ref r] m Q R := by
  refine ent_f_law_page ?_
  unfold b_f_law_page
  (repeat (first | with_reducible refine seqI ?_ | with_reducible refine setI ?_ | with_reducible refine asgI ?_ | with_reducible refine retI ?_ | with_reducible refine opI ?_ | with_reducible refine callI ?_ | with_reducible refine consI ?_ | with_reducible refine cI ?_ | with_reducible refine nilI ?_ | ((with_reducible apply varI); exact rfl) | with_reducible refine cbI ?_ | with_reducible refine ifI ?_ | with_reducible refine tstI ?_ | with_reducible refine notTI ?_ | with_reducible refine andTI ?_ | with_reducible refine orTI ?_ | with_reducible refine dropI ?_ | with_reducible refine nextI ?_ | with_reducible refine tupI ?_ | with_reducible refine lstI ?_ | with_reducible refine starI ?_ | with_reducible refine starTT ?_ | with_reducible refine andI ?_ | with_reducible refine orVI ?_ | with_reducible refine notI ?_ | with_reducible refine ifEI ?_ | with_reducible refine forI ?_ | with_reducible refine r1I ?_ | with_reducible refine ir2I ?_ | with_reducible refine iTupI ?_ | with_reducible refine truI ?_ | with_reducible refine chainI ?_ | with_reducible refine lcI ?_ | with_reducible refine slI ?_ | with_reducible refine noPI ?_ | with_reducible refine ptI ?_ | with_reducible refine unI ?_ | with_reducible refine brkI ?_ | with_reducible refine cntI ?_ | with_reducible refine retNI ?_ | with_reducible refine addII ?_ | with_reducible refine rI0 ?_ | with_reducible refine rIC ?_ ?_ | with_reducible refine mulII ?_ ?_ | with_reducible refine addTT ?_ ?_ | with_reducible refine addSS ?_ ?_ | with_reducible refine negII ?_ | with_reducible refine eqII ?_ | with_reducible refine eqSS ?_ | with_reducible refine eqBB ?_ | with_reducible refine neII ?_ | with_reducible refine neSS ?_ | with_reducible refine neBB ?_ | with_reducible refine isNN ?_ | with_reducible refine isNotNN ?_ | with_reducible refine isBB ?_ | with_reducible refine isNotBB ?_ | with_reducible refine lenTI ?_ | with_reducible refine lenFI ?_ | with_reducible refine intII ?_ | with_reducible refine intBI ?_ | with_reducible refine tupTI ?_ | with_reducible refine minII ?_ | with_reducible refine maxII ?_ | with_reducible refine slTI ?_ | with_reducible refine gcI ?_ | with_reducible refine gnI ?_ | with_reducible refine aNI ?_ | ((with_reducible refine ttI ?_ ?_); exact rfl) | ((with_reducible refine And.intro ?_ ?_); exact rfl) | ((with_reducible refine And.intro ?_ ?_); exact lenOk rfl) | dsimp only [En.s]))
  intro p1 hp1
  have e1 : (mset m p1 (.lst [.int 0, .int 1, .int 1, .int 2, .int 3, .int 17, .int 96])) p1 = some (.lst [.int 0, .int 1, .int 1, .int 2, .int 3, .int 17, .int 96]) := mset_same
  have hr1 := hr.new (o := .lst [.int 0, .int 1, .int 1, .int 2, .int 3, .int 17, .int 96]) hp1
  have v1 := Ev.new (r := r) (o := .lst [.int 0, .int 1, .int 1, .int 2, .int 3, .int 17, .int 96]) hp1
  have n1 := hr.ne hp1
  generalize mset m p1 (.lst [.int 0, .int 1, .int 1, .int 2, .int 3, .int 17, .int 96]) = m1 at e1 hr1 v1 ⊢
  (repeat (first | with_reducible refine seqI ?_ | with_reducible refine setI ?_ | with_reducible refine asgI ?_ | with_reducible refine retI ?_ | with_reducible refine opI ?_ | with_reducible refine callI ?_ | with_reducible refine consI ?_ | with_reducible refine cI ?_ | with_reducible refine nilI ?_ | ((with_reducible apply varI); exact rfl) | with_reducible refine cbI ?_ | with_reducible refine ifI ?_ | with_reducible refine tstI ?_ | with_reducible refine notTI ?_ | with_reducible refine andTI ?_ | with_reducible refine orTI ?_ | with_reducible refine dropI ?_ | with_reducible refine nextI ?_ | with_reducible refine tupI ?_ | with_reducible refine lstI ?_ | with_reducible refine starI ?_ | with_reducible refine starTT ?_ | with_reducible refine andI ?_ | with_reducible refine orVI ?_ | with_reducible refine notI ?_ | with_reducible refine ifEI ?_ | with_reducible refine forI ?_ | with_reducible refine r1I ?_ | with_reducible refine ir2I ?_ | with_reducible refine iTupI ?_ | with_reducible refine truI ?_ | with_reducible refine chainI ?_ | with_reducible refine lcI ?_ | with_reducible refine slI ?_ | with_reducible refine noPI ?_ | with_reducible refine ptI ?_ | with_reducible refine unI ?_ | with_reducible refine brkI ?_ | with_reducible refine cntI ?_ | with_reducible refine retNI ?_ | with_reducible refine addII ?_ | with_reducible refine rI0 ?_ | with_reducible refine rIC ?_ ?_ | with_reducible refine mulII ?_ ?_ | with_reducible refine addTT ?_ ?_ | with_reducible refine addSS ?_ ?_ | with_reducible refine negII ?_ | with_reducible refine eqII ?_ | with_reducible refine eqSS ?_ | with_reducible refine eqBB ?_ | with_reducible refine neII ?_ | with_reducible refine neSS ?_ | with_reducible refine neBB ?_ | with_reducible refine isNN ?_ | with_reducible refine isNotNN ?_ | with_reducible refine isBB ?_ | with_reducible refine isNotBB ?_ | with_reducible refine lenTI ?_ | with_reducible refine lenFI ?_ | with_reducible refine intII ?_ | with_reducible refine intBI ?_ | with_reducible refine tupTI ?_ | with_reducible refine minII ?_ | with_reducible refine maxII ?_ | with_reducible refine slTI ?_ | with_reducible refine gcI ?_ | with_reducible refine gnI ?_ | with_reducible refine aNI ?_ | ((with_reducible refine ttI ?_ ?_); exact rfl) | ((with_reducible refine And.intro ?_ ?_); exact rfl) | ((with_reducible refine And.intro ?_ ?_); exact lenOk rfl) | dsimp only [En.s]))
  refine taken hr1 (by decide) (by decide) fun x m2 a2 b2 hr2 v2 => ?_
  obtain ⟨xn, rfl⟩ := Int.eq_ofNat_of_zero_le a2
  have e2 := v2 _ _ n1 e1
  have hx : xn < 7 := by omega
  obtain ⟨many, hm, hat⟩ : ∃ many : Nat, many ≤ 96 ∧ atI [D.int 0, .int 1, .int 1, .int 2, .int 3, .int 17, .int 96] (xn : Int) = some (.int (many : Int)) := by
    rw [atI_nat (by omega) (by simp only [List.length_cons, List.length_nil]; omega), Int.toNat_natCast]
    match xn, hx with
    | 0, _ => exact ⟨0, by omega, rfl⟩
    | 1, _ => exact ⟨1, by omega, rfl⟩
    | 2, _ => exact ⟨1, by omega, rfl⟩
    | 3, _ => exact ⟨2, by omega, rfl⟩
    | 4, _ => exact ⟨3, by omega, rfl⟩
    | 5, _ => exact ⟨17, by omega, rfl⟩
    | 6, _ => exact ⟨96, by omega, rfl⟩
  refine ixRI (l_of e2) hat ?_
  (repeat (first | with_reducible refine seqI ?_ | with_reducible refine setI ?_ | with_reducible refine asgI ?_ | with_reducible refine retI ?_ | with_reducible refine opI ?_ | with_reducible refine callI ?_ | with_reducible refine consI ?_ | with_reducible refine cI ?_ | with_reducible refine nilI ?_ | ((with_reducible apply varI); exact rfl) | with_reducible refine cbI ?_ | with_reducible refine ifI ?_ | with_reducible refine tstI ?_ | with_reducible refine notTI ?_ | with_reducible refine andTI ?_ | with_reducible refine orTI ?_ | with_reducible refine dropI ?_ | with_reducible refine nextI ?_ | with_reducible refine tupI ?_ | with_reducible refine lstI ?_ | with_reducible refine starI ?_ | with_reducible refine starTT ?_ | with_reducible refine andI ?_ | with_reducible refine orVI ?_ | with_reducible refine notI ?_ | with_reducible refine ifEI ?_ | with_reducible refine forI ?_ | with_reducible refine r1I ?_ | with_reducible refine ir2I ?_ | with_reducible refine iTupI ?_ | with_reducible refine truI ?_ | with_reducible refine chainI ?_ | with_reducible refine lcI ?_ | with_reducible refine slI ?_ | with_reducible refine noPI ?_ | with_reducible refine ptI ?_ | with_reducible refine unI ?_ | with_reducible refine brkI ?_ | with_reducible refine cntI ?_ | with_reducible refine retNI ?_ | with_reducible refine addII ?_ | with_reducible refine rI0 ?_ | with_reducible refine rIC ?_ ?_ | with_reducible refine mulII ?_ ?_ | with_reducible refine addTT ?_ ?_ | with_reducible refine addSS ?_ ?_ | with_reducible refine negII ?_ | with_reducible refine eqII ?_ | with_reducible refine eqSS ?_ | with_reducible refine eqBB ?_ | with_reducible refine neII ?_ | with_reducible refine neSS ?_ | with_reducible refine neBB ?_ | with_reducible refine isNN ?_ | with_reducible refine isNotNN ?_ | with_reducible refine isBB ?_ | with_reducible refine isNotBB ?_ | with_reducible refine lenTI ?_ | with_reducible refine lenFI ?_ | with_reducible refine intII ?_ | with_reducible refine intBI ?_ | with_reducible refine tupTI ?_ | with_reducible refine minII ?_ | with_reducible refine maxII ?_ | with_reducible refine slTI ?_ | with_reducible refine gcI ?_ | with_reducible refine gnI ?_ | with_reducible refine aNI ?_ | ((with_reducible refine ttI ?_ ?_); exact rfl) | ((with_reducible refine And.intro ?_ ?_); exact rfl) | ((with_reducible refine And.intro ?_ ?_); exact lenOk rfl) | dsimp only [En.s]))
  have hk : (if (3 : Int) < (many : Int) then (3 : Int) else (many : Int)) = ((min many 3 : Nat) : Int) := by
    split <;> omega
  rw [hk]
  refine ⟨⟨by omega, by omega⟩, fun p hp => ?_⟩
  rw [Int.toNat_natCast]
  have v02 := v1.trans v2
  refine lc_r (Pd := fun _ d => ∃ n : Nat, d = .int (n : Int) ∧ n < 256) hr2 hp (fun _ _ => trivial) (fun x hx m3 Q' hj q' => ?_) (fun l m3 hf hr3 ev3 hm3 => ?_) (by simp [rngD]; omega)
  · (repeat (first | with_reducible refine seqI ?_ | with_reducible refine setI ?_ | with_reducible refine asgI ?_ | with_reducible refine retI ?_ | with_reducible refine opI ?_ | with_reducible refine callI ?_ | with_reducible refine consI ?_ | with_reducible refine cI ?_ | with_reducible refine nilI ?_ | ((with_reducible apply varI); exact rfl) | with_reducible refine cbI ?_ | with_reducible refine ifI ?_ | with_reducible refine tstI ?_ | with_reducible refine notTI ?_ | with_reducible refine andTI ?_ | with_reducible refine orTI ?_ | with_reducible refine dropI ?_ | with_reducible refine nextI ?_ | with_reducible refine tupI ?_ | with_reducible refine lstI ?_ | with_reducible refine starI ?_ | with_reducible refine starTT ?_ | with_reducible refine andI ?_ | with_reducible refine orVI ?_ | with_reducible refine notI ?_ | with_reducible refine ifEI ?_ | with_reducible refine forI ?_ | with_reducible refine r1I ?_ | with_reducible refine ir2I ?_ | with_reducible refine iTupI ?_ | with_reducible refine truI ?_ | with_reducible refine chainI ?_ | with_reducible refine lcI ?_ | with_reducible refine slI ?_ | with_reducible refine noPI ?_ | with_reducible refine ptI ?_ | with_reducible refine unI ?_ | with_reducible refine brkI ?_ | with_reducible refine cntI ?_ | with_reducible refine retNI ?_ | with_reducible refine addII ?_ | with_reducible refine rI0 ?_ | with_reducible refine rIC ?_ ?_ | with_reducible refine mulII ?_ ?_ | with_reducible refine addTT ?_ ?_ | with_reducible refine addSS ?_ ?_ | with_reducible refine negII ?_ | with_reducible refine eqII ?_ | with_reducible refine eqSS ?_ | with_reducible refine eqBB ?_ | with_reducible refine neII ?_ | with_reducible refine neSS ?_ | with_reducible refine neBB ?_ | with_reducible refine isNN ?_ | with_reducible refine isNotNN ?_ | with_reducible refine isBB ?_ | with_reducible refine isNotBB ?_ | with_reducible refine lenTI ?_ | with_reducible refine lenFI ?_ | with_reducible refine intII ?_ | with_reducible refine intBI ?_ | with_reducible refine tupTI ?_ | with_reducible refine minII ?_ | with_reducible refine maxII ?_ | with_reducible refine slTI ?_ | with_reducible refine gcI ?_ | with_reducible refine gnI ?_ | with_reducible refine aNI ?_ | ((with_reducible refine ttI ?_ ?_); exact rfl) | ((with_reducible refine And.intro ?_ ?_); exact rfl) | ((with_reducible refine And.intro ?_ ?_); exact lenOk rfl) | dsimp only [En.s]))
    refine taken hj.1 (by decide) (by decide) fun y m4 a4 b4 hr4 v4 => ?_
    (repeat (first | with_reducible refine seqI ?_ | with_reducible refine setI ?_ | with_reducible refine asgI ?_ | with_reducible refine retI ?_ | with_reducible refine opI ?_ | with_reducible refine callI ?_ | with_reducible refine consI ?_ | with_reducible refine cI ?_ | with_reducible refine nilI ?_ | ((with_reducible apply varI); exact rfl) | with_reducible refine cbI ?_ | with_reducible refine ifI ?_ | with_reducible refine tstI ?_ | with_reducible refine notTI ?_ | with_reducible refine andTI ?_ | with_reducible refine orTI ?_ | with_reducible refine dropI ?_ | with_reducible refine nextI ?_ | with_reducible refine tupI ?_ | with_reducible refine lstI ?_ | with_reducible refine starI ?_ | with_reducible refine starTT ?_ | with_reducible refine andI ?_ | with_reducible refine orVI ?_ | with_reducible refine notI ?_ | with_reducible refine ifEI ?_ | with_reducible refine forI ?_ | with_reducible refine r1I ?_ | with_reducible refine ir2I ?_ | with_reducible refine iTupI ?_ | with_reducible refine truI ?_ | with_reducible refine chainI ?_ | with_reducible refine lcI ?_ | with_reducible refine slI ?_ | with_reducible refine noPI ?_ | with_reducible refine ptI ?_ | with_reducible refine unI ?_ | with_reducible refine brkI ?_ | with_reducible refine cntI ?_ | with_reducible refine retNI ?_ | with_reducible refine addII ?_ | with_reducible refine rI0 ?_ | with_reducible refine rIC ?_ ?_ | with_reducible refine mulII ?_ ?_ | with_reducible refine addTT ?_ ?_ | with_reducible refine addSS ?_ ?_ | with_reducible refine negII ?_ | with_reducible refine eqII ?_ | with_reducible refine eqSS ?_ | with_reducible refine eqBB ?_ | with_reducible refine neII ?_ | with_reducible refine neSS ?_ | with_reducible refine neBB ?_ | with_reducible refine isNN ?_ | with_reducible refine isNotNN ?_ | with_reducible refine isBB ?_ | with_reducible refine isNotBB ?_ | with_reducible refine lenTI ?_ | with_reducible refine lenFI ?_ | with_reducible refine intII ?_ | with_reducible refine intBI ?_ | with_reducible refine tupTI ?_ | with_reducible refine minII ?_ | with_reducible refine maxII ?_ | with_reducible refine slTI ?_ | with_reducible refine gcI ?_ | with_reducible refine gnI ?_ | with_reducible refine aNI ?_ | ((with_reducible refine ttI ?_ ?_); exact rfl) | ((with_reducible refine And.intro ?_ ?_); exact rfl) | ((with_reducible refine And.intro ?_ ?_); exact lenOk rfl) | dsimp only [En.s]))
    intro p5 hp5
    (repeat (first | with_reducible refine seqI ?_ | with_reducible refine setI ?_ | with_reducible refine asgI ?_ | with_reducible refine retI ?_ | with_reducible refine opI ?_ | with_reducible refine callI ?_ | with_reducible refine consI ?_ | with_reducible refine cI ?_ | with_reducible refine nilI ?_ | ((with_reducible apply varI); exact rfl) | with_reducible refine cbI ?_ | with_reducible refine ifI ?_ | with_reducible refine tstI ?_ | with_reducible refine notTI ?_ | with_reducible refine andTI ?_ | with_reducible refine orTI ?_ | with_reducible refine dropI ?_ | with_reducible refine nextI ?_ | with_reducible refine tupI ?_ | with_reducible refine lstI ?_ | with_reducible refine starI ?_ | with_reducible refine starTT ?_ | with_reducible refine andI ?_ | with_reducible refine orVI ?_ | with_reducible refine notI ?_ | with_reducible refine ifEI ?_ | with_reducible refine forI ?_ | with_reducible refine r1I ?_ | with_reducible refine ir2I ?_ | with_reducible refine iTupI ?_ | with_reducible refine truI ?_ | with_reducible refine chainI ?_ | with_reducible refine lcI ?_ | with_reducible refine slI ?_ | with_reducible refine noPI ?_ | with_reducible refine ptI ?_ | with_reducible refine unI ?_ | with_reducible refine brkI ?_ | with_reducible refine cntI ?_ | with_reducible refine retNI ?_ | with_reducible refine addII ?_ | with_reducible refine rI0 ?_ | with_reducible refine rIC ?_ ?_ | with_reducible refine mulII ?_ ?_ | with_reducible refine addTT ?_ ?_ | with_reducible refine addSS ?_ ?_ | with_reducible refine negII ?_ | with_reducible refine eqII ?_ | with_reducible refine eqSS ?_ | with_reducible refine eqBB ?_ | with_reducible refine neII ?_ | with_reducible refine neSS ?_ | with_reducible refine neBB ?_ | with_reducible refine isNN ?_ | with_reducible refine isNotNN ?_ | with_reducible refine isBB ?_ | with_reducible refine isNotBB ?_ | with_reducible refine lenTI ?_ | with_reducible refine lenFI ?_ | with_reducible refine intII ?_ | with_reducible refine intBI ?_ | with_reducible refine tupTI ?_ | with_reducible refine minII ?_ | with_reducible refine maxII ?_ | with_reducible refine slTI ?_ | with_reducible refine gcI ?_ | with_reducible refine gnI ?_ | with_reducible refine aNI ?_ | ((with_reducible refine ttI ?_ ?_); exact rfl) | ((with_reducible refine And.intro ?_ ?_); exact rfl) | ((with_reducible refine And.intro ?_ ?_); exact lenOk rfl) | dsimp only [En.s]))
    refine pickF hr4 hp5 (by simp) (by simp) fun d m5 hd hr5 v5 => ?_
    refine q' d m5 ?_ hr5 (v4.trans v5)
    simp only [List.mem_cons, List.not_mem_nil, or_false] at hd
    obtain ⟨yn, rfl⟩ := Int.eq_ofNat_of_zero_le a4
    rcases hd with e | e | e | e <;> subst e
    · exact ⟨0, rfl, by decide⟩
    · exact ⟨1, rfl, by decide⟩
    · exact ⟨255, rfl, by decide⟩
    · exact ⟨yn, rfl, by omega⟩
  · obtain ⟨j, rfl, hj, hjl⟩ := F2_by hf
    (repeat (first | with_reducible refine seqI ?_ | with_reducible refine setI ?_ | with_reducible refine asgI ?_ | with_reducible refine retI ?_ | with_reducible refine opI ?_ | with_reducible refine callI ?_ | with_reducible refine consI ?_ | with_reducible refine cI ?_ | with_reducible refine nilI ?_ | ((with_reducible apply varI); exact rfl) | with_reducible refine cbI ?_ | with_reducible refine ifI ?_ | with_reducible refine tstI ?_ | with_reducible refine notTI ?_ | with_reducible refine andTI ?_ | with_reducible refine orTI ?_ | with_reducible refine dropI ?_ | with_reducible refine nextI ?_ | with_reducible refine tupI ?_ | with_reducible refine lstI ?_ | with_reducible refine starI ?_ | with_reducible refine starTT ?_ | with_reducible refine andI ?_ | with_reducible refine orVI ?_ | with_reducible refine notI ?_ | with_reducible refine ifEI ?_ | with_reducible refine forI ?_ | with_reducible refine r1I ?_ | with_reducible refine ir2I ?_ | with_reducible refine iTupI ?_ | with_reducible refine truI ?_ | with_reducible refine chainI ?_ | with_reducible refine lcI ?_ | with_reducible refine slI ?_ | with_reducible refine noPI ?_ | with_reducible refine ptI ?_ | with_reducible refine unI ?_ | with_reducible refine brkI ?_ | with_reducible refine cntI ?_ | with_reducible refine retNI ?_ | with_reducible refine addII ?_ | with_reducible refine rI0 ?_ | with_reducible refine rIC ?_ ?_ | with_reducible refine mulII ?_ ?_ | with_reducible refine addTT ?_ ?_ | with_reducible refine addSS ?_ ?_ | with_reducible refine negII ?_ | with_reducible refine eqII ?_ | with_reducible refine eqSS ?_ | with_reducible refine eqBB ?_ | with_reducible refine neII ?_ | with_reducible refine neSS ?_ | with_reducible refine neBB ?_ | with_reducible refine isNN ?_ | with_reducible refine isNotNN ?_ | with_reducible refine isBB ?_ | with_reducible refine isNotBB ?_ | with_reducible refine lenTI ?_ | with_reducible refine lenFI ?_ | with_reducible refine intII ?_ | with_reducible refine intBI ?_ | with_reducible refine tupTI ?_ | with_reducible refine minII ?_ | with_reducible refine maxII ?_ | with_reducible refine slTI ?_ | with_reducible refine gcI ?_ | with_reducible refine gnI ?_ | with_reducible refine aNI ?_ | ((with_reducible refine ttI ?_ ?_); exact rfl) | ((with_reducible refine And.intro ?_ ?_); exact rfl) | ((with_reducible refine And.intro ?_ ?_); exact lenOk rfl) | dsimp only [En.s]))
    intro p6 hp6
    have n6 : p ≠ p6 := fun z => by rw [← z, hm3] at hp6; cases hp6
    (repeat (first | with_reducible refine seqI ?_ | with_reducible refine setI ?_ | with_reducible refine asgI ?_ | with_reducible refine retI ?_ | with_reducible refine opI ?_ | with_reducible refine callI ?_ | with_reducible refine consI ?_ | with_reducible refine cI ?_ | with_reducible refine nilI ?_ | ((with_reducible apply varI); exact rfl) | with_reducible refine cbI ?_ | with_reducible refine ifI ?_ | with_reducible refine tstI ?_ | with_reducible refine notTI ?_ | with_reducible refine andTI ?_ | with_reducible refine orTI ?_ | with_reducible refine dropI ?_ | with_reducible refine nextI ?_ | with_reducible refine tupI ?_ | with_reducible refine lstI ?_ | with_reducible refine starI ?_ | with_reducible refine starTT ?_ | with_reducible refine andI ?_ | with_reducible refine orVI ?_ | with_reducible refine notI ?_ | with_reducible refine ifEI ?_ | with_reducible refine forI ?_ | with_reducible refine r1I ?_ | with_reducible refine ir2I ?_ | with_reducible refine iTupI ?_ | with_reducible refine truI ?_ | with_reducible refine chainI ?_ | with_reducible refine lcI ?_ | with_reducible refine slI ?_ | with_reducible refine noPI ?_ | with_reducible refine ptI ?_ | with_reducible refine unI ?_ | with_reducible refine brkI ?_ | with_reducible refine cntI ?_ | with_reducible refine retNI ?_ | with_reducible refine addII ?_ | with_reducible refine rI0 ?_ | with_reducible refine rIC ?_ ?_ | with_reducible refine mulII ?_ ?_ | with_reducible refine addTT ?_ ?_ | with_reducible refine addSS ?_ ?_ | with_reducible refine negII ?_ | with_reducible refine eqII ?_ | with_reducible refine eqSS ?_ | with_reducible refine eqBB ?_ | with_reducible refine neII ?_ | with_reducible refine neSS ?_ | with_reducible refine neBB ?_ | with_reducible refine isNN ?_ | with_reducible refine isNotNN ?_ | with_reducible refine isBB ?_ | with_reducible refine isNotBB ?_ | with_reducible refine lenTI ?_ | with_reducible refine lenFI ?_ | with_reducible refine intII ?_ | with_reducible refine intBI ?_ | with_reducible refine tupTI ?_ | with_reducible refine minII ?_ | with_reducible refine maxII ?_ | with_reducible refine slTI ?_ | with_reducible refine gcI ?_ | with_reducible refine gnI ?_ | with_reducible refine aNI ?_ | ((with_reducible refine ttI ?_ ?_); exact rfl) | ((with_reducible refine And.intro ?_ ?_); exact rfl) | ((with_reducible refine And.intro ?_ ?_); exact lenOk rfl) | dsimp only [En.s]))
    refine mulRI (n := many - 3) (l_same (ds := [.int 7])) (by split <;> omega) (by split <;> omega) (by omega) fun p7 hp7 => ?_
    have n7 : p ≠ p7 := fun z => by rw [← z, mset_ne n6, hm3] at hp7; cases hp7
    refine addRI (by rw [l_ne n7, l_ne n6]; exact l_of hm3) l_same (by simp [iD_len, hjl, rngD]; omega) fun p8 hp8 => ?_
    rw [show (7 : Int) = ((7 : Nat) : Int) from rfl, iD_rep] at hp8 ⊢
    rw [← iD_app]
    refine nilI (tupRI l_same ?_)
    refine ⟨_, Ab.Sub.refl _, q _ _ (fun b hb => ?_) ?_ (((hr3.new hp6).new hp7).new hp8) (v02.trans (ev3.trans ((Ev.new hp6).trans ((Ev.new hp7).trans (Ev.new hp8)))))⟩
    · rcases List.mem_append.mp hb with h | h
      · exact hj b h
      · have := (List.mem_replicate.mp h).2; omega
    · rw [List.length_append, hjl, List.length_replicate]; simp [rngD]; omega
end
end K32

set_option linter.all false
set_option maxRecDepth 100000
set_option maxHeartbeats 2000000
namespace K32
open PySem PySem.Spec PyProof.Rows L2 Ab
theorem appI {i : Nat} {a : Addr} {te : AE} {e : En} {m : M} {Q : PQ} {R : PX} {ds0 : List D} (g : e.g i = some (.ref a)) (h0 : m.l a = some ds0) (h : te e m (fun d m2 => match m2.l a with
      | some ds => ds.length < big ∧ Q .non (mset m2 a (.lst (ds ++ [d])))
      | none => False) R) : aApp (aVar i) te e m Q R := by
  unfold aApp aVar
  rw [g]
  show (match m.l a with | some _ => _ | none => False)
  rw [h0]
  exact h
theorem popI {i : Nat} {a : Addr} {te : AE} {e : En} {m : M} {Q : PQ} {R : PX} {ds0 : List D} (g : e.g i = some (.ref a)) (h0 : m.l a = some ds0) (h : te e m (fun d m2 => match d, m2.l a with
      | .int i, some ds => (-(2 ^ 63) ≤ i ∧ i < 2 ^ 63) ∧ (match seqIndex? i ds.length with
        | some k => (match ds[k]? with
          | some y => Q y (mset m2 a (.lst (ds.eraseIdx k)))
          | none => False)
        | none => False)
      | _, _ => False) R) : aPopAt (aVar i) te e m Q R := by
  unfold aPopAt aVar
  rw [g]
  show (match m.l a with | some _ => _ | none => False)
  rw [h0]
  exact h
theorem six {x n : Nat} (h : x < n) : seqIndex? (x : Int) n = some x := by
  unfold seqIndex?
  have h1 : ¬ ((x : Int) < 0) := by omega
  simp only [h1, if_false]
  have h2 : (decide (0 ≤ (x : Int)) && decide ((x : Int) < (n : Int))) = true := by simp; omega
  rw [if_pos h2, Int.toNat_natCast]
theorem iD_erase : ∀ (R : List Nat) (i : Nat), (iD R).eraseIdx i = iD (R.eraseIdx i)
  | [], _ => rfl
  | _ :: _, 0 => rfl
  | x :: R, i + 1 => by
    show D.int (x : Int) :: (iD R).eraseIdx i = _
    rw [iD_erase R i]
    rfl
theorem nodup_move {R F : List Nat} {x : Nat} (hx : x < R.length) (h : (R ++ F).Nodup) : (R.eraseIdx x ++ (F ++ [R[x]])).Nodup := by
  have e1 : R = R.take x ++ R[x] :: R.drop (x + 1) := by rw [List.getElem_cons_drop, List.take_append_drop]
  have p : List.Perm (R ++ F) (R.eraseIdx x ++ (F ++ [R[x]])) := by
    rw [List.eraseIdx_eq_take_drop_succ]
    have a : List.Perm (R ++ F) (R[x] :: (R.take x ++ R.drop (x + 1) ++ F)) := by
      conv => lhs; rw [e1]
      rw [List.append_assoc, List.cons_append, List.append_assoc]
      exact List.perm_middle
    refine a.trans ?_
    have b : List.Perm (R[x] :: (R.take x ++ R.drop (x + 1) ++ F)) ((R.take x ++ R.drop (x + 1) ++ F) ++ [R[x]]) := List.perm_append_comm (l₁ := [R[x]])
    refine b.trans ?_
    rw [List.append_assoc]
  exact (List.Perm.pairwise_iff (fun hxy => Ne.symm hxy) p).mp h
section
variable {ns : List Int} {r : Addr} {m : M}
theorem pb_loop {A : AEnds} {m0 : M} {pr pf : Addr} {pages : Nat} {x1 x2 x6 : Option D} {gd : M → Prop} (hgd : ∀ m, gd m) (h0 : RowAt ns m0 r) (n1 : pr ≠ r) (n2 : pf ≠ r) (n3 : pr ≠ pf) (k1 : m0 pr = none) (k2 : m0 pf = none) (hpg : pages ≤ 1000) :
    ∀ (k : Nat) (lo : Int) (R F : List Nat) (m : M) (x5 : Option D), JR ns r m0 m → m pr = some (.lst (iD R)) → m pf = some (.lst (iD F)) → k ≤ R.length → (R ++ F).Nodup → (∀ x ∈ R ++ F, x < pages) → R.length + F.length ≤ pages →
      (∀ F' m' y5, F'.length = F.length + k → F'.Nodup → (∀ x ∈ F', x < pages) → JR ns r m0 m' → m' pf = some (.lst (iD F')) → A.nx [some (.ref r), x1, x2, some (.ref pr), some (.ref pf), y5, x6] m') →
      forL (aN 5) bl_f_law_batch_0 gd (rngD lo k) A [some (.ref r), x1, x2, some (.ref pr), some (.ref pf), x5, x6] m
  | 0, lo, R, F, m, x5, hj, hR, hF, hk, hn, hl, hs, q => by
    rw [rngD_zero]
    exact ⟨hgd _, q F m x5 rfl (List.nodup_append.mp hn).2.1 (fun x hx => hl x (by simp [hx])) hj hF⟩
  | k + 1, lo, R, F, m, x5, hj, hR, hF, hk, hn, hl, hs, q => by
    have ih := fun m' R' F' x5' => pb_loop (A := A) (x1 := x1) (x2 := x2) (x6 := x6) hgd h0 n1 n2 n3 k1 k2 hpg k (lo + 1) R' F' m' x5'
    rw [rngD_succ]
    unfold forL
    refine ⟨hgd _, ?_⟩
    generalize forL (aN 5) bl_f_law_batch_0 gd (rngD (lo + 1) k) A = X at ih ⊢
    unfold bl_f_law_batch_0
    (repeat (first | with_reducible refine seqI ?_ | with_reducible refine setI ?_ | with_reducible refine asgI ?_ | with_reducible refine retI ?_ | with_reducible refine opI ?_ | with_reducible refine callI ?_ | with_reducible refine consI ?_ | with_reducible refine cI ?_ | with_reducible refine nilI ?_ | ((with_reducible apply varI); exact rfl) | with_reducible refine cbI ?_ | with_reducible refine ifI ?_ | with_reducible refine tstI ?_ | with_reducible refine notTI ?_ | with_reducible refine andTI ?_ | with_reducible refine orTI ?_ | with_reducible refine dropI ?_ | with_reducible refine nextI ?_ | with_reducible refine tupI ?_ | with_reducible refine lstI ?_ | with_reducible refine starI ?_ | with_reducible refine starTT ?_ | with_reducible refine andI ?_ | with_reducible refine orVI ?_ | with_reducible refine notI ?_ | with_reducible refine ifEI ?_ | with_reducible refine forI ?_ | with_reducible refine r1I ?_ | with_reducible refine ir2I ?_ | with_reducible refine iTupI ?_ | with_reducible refine truI ?_ | with_reducible refine chainI ?_ | with_reducible refine lcI ?_ | with_reducible refine slI ?_ | with_reducible refine noPI ?_ | with_reducible refine ptI ?_ | with_reducible refine unI ?_ | with_reducible refine brkI ?_ | with_reducible refine cntI ?_ | with_reducible refine retNI ?_ | with_reducible refine addII ?_ | with_reducible refine rI0 ?_ | with_reducible refine rIC ?_ ?_ | with_reducible refine mulII ?_ ?_ | with_reducible refine addTT ?_ ?_ | with_reducible refine addSS ?_ ?_ | with_reducible refine negII ?_ | with_reducible refine eqII ?_ | with_reducible refine eqSS ?_ | with_reducible refine eqBB ?_ | with_reducible refine neII ?_ | with_reducible refine neSS ?_ | with_reducible refine neBB ?_ | with_reducible refine isNN ?_ | with_reducible refine isNotNN ?_ | with_reducible refine isBB ?_ | with_reducible refine isNotBB ?_ | with_reducible refine lenTI ?_ | with_reducible refine lenFI ?_ | with_reducible refine intII ?_ | with_reducible refine intBI ?_ | with_reducible refine tupTI ?_ | with_reducible refine minII ?_ | with_reducible refine maxII ?_ | with_reducible refine slTI ?_ | with_reducible refine gcI ?_ | with_reducible refine gnI ?_ | with_reducible refine aNI ?_ | ((with_reducible refine ttI ?_ ?_); exact rfl) | ((with_reducible refine And.intro ?_ ?_); exact rfl) | ((with_reducible refine And.intro ?_ ?_); exact lenOk rfl) | dsimp only [En.s]))
    refine appI rfl (l_of hF) (popI rfl (l_of hR) ?_)
    (repeat (first | with_reducible refine seqI ?_ | with_reducible refine setI ?_ | with_reducible refine asgI ?_ | with_reducible refine retI ?_ | with_reducible refine opI ?_ | with_reducible refine callI ?_ | with_reducible refine consI ?_ | with_reducible refine cI ?_ | with_reducible refine nilI ?_ | ((with_reducible apply varI); exact rfl) | with_reducible refine cbI ?_ | with_reducible refine ifI ?_ | with_reducible refine tstI ?_ | with_reducible refine notTI ?_ | with_reducible refine andTI ?_ | with_reducible refine orTI ?_ | with_reducible refine dropI ?_ | with_reducible refine nextI ?_ | with_reducible refine tupI ?_ | with_reducible refine lstI ?_ | with_reducible refine starI ?_ | with_reducible refine starTT ?_ | with_reducible refine andI ?_ | with_reducible refine orVI ?_ | with_reducible refine notI ?_ | with_reducible refine ifEI ?_ | with_reducible refine forI ?_ | with_reducible refine r1I ?_ | with_reducible refine ir2I ?_ | with_reducible refine iTupI ?_ | with_reducible refine truI ?_ | with_reducible refine chainI ?_ | with_reducible refine lcI ?_ | with_reducible refine slI ?_ | with_reducible refine noPI ?_ | with_reducible refine ptI ?_ | with_reducible refine unI ?_ | with_reducible refine brkI ?_ | with_reducible refine cntI ?_ | with_reducible refine retNI ?_ | with_reducible refine addII ?_ | with_reducible refine rI0 ?_ | with_reducible refine rIC ?_ ?_ | with_reducible refine mulII ?_ ?_ | with_reducible refine addTT ?_ ?_ | with_reducible refine addSS ?_ ?_ | with_reducible refine negII ?_ | with_reducible refine eqII ?_ | with_reducible refine eqSS ?_ | with_reducible refine eqBB ?_ | with_reducible refine neII ?_ | with_reducible refine neSS ?_ | with_reducible refine neBB ?_ | with_reducible refine isNN ?_ | with_reducible refine isNotNN ?_ | with_reducible refine isBB ?_ | with_reducible refine isNotBB ?_ | with_reducible refine lenTI ?_ | with_reducible refine lenFI ?_ | with_reducible refine intII ?_ | with_reducible refine intBI ?_ | with_reducible refine tupTI ?_ | with_reducible refine minII ?_ | with_reducible refine maxII ?_ | with_reducible refine slTI ?_ | with_reducible refine gcI ?_ | with_reducible refine gnI ?_ | with_reducible refine aNI ?_ | ((with_reducible refine ttI ?_ ?_); exact rfl) | ((with_reducible refine And.intro ?_ ?_); exact rfl) | ((with_reducible refine And.intro ?_ ?_); exact lenOk rfl) | dsimp only [En.s]))
    refine lenRI (l_of hR) ?_
    (repeat (first | with_reducible refine seqI ?_ | with_reducible refine setI ?_ | with_reducible refine asgI ?_ | with_reducible refine retI ?_ | with_reducible refine opI ?_ | with_reducible refine callI ?_ | with_reducible refine consI ?_ | with_reducible refine cI ?_ | with_reducible refine nilI ?_ | ((with_reducible apply varI); exact rfl) | with_reducible refine cbI ?_ | with_reducible refine ifI ?_ | with_reducible refine tstI ?_ | with_reducible refine notTI ?_ | with_reducible refine andTI ?_ | with_reducible refine orTI ?_ | with_reducible refine dropI ?_ | with_reducible refine nextI ?_ | with_reducible refine tupI ?_ | with_reducible refine lstI ?_ | with_reducible refine starI ?_ | with_reducible refine starTT ?_ | with_reducible refine andI ?_ | with_reducible refine orVI ?_ | with_reducible refine notI ?_ | with_reducible refine ifEI ?_ | with_reducible refine forI ?_ | with_reducible refine r1I ?_ | with_reducible refine ir2I ?_ | with_reducible refine iTupI ?_ | with_reducible refine truI ?_ | with_reducible refine chainI ?_ | with_reducible refine lcI ?_ | with_reducible refine slI ?_ | with_reducible refine noPI ?_ | with_reducible refine ptI ?_ | with_reducible refine unI ?_ | with_reducible refine brkI ?_ | with_reducible refine cntI ?_ | with_reducible refine retNI ?_ | with_reducible refine addII ?_ | with_reducible refine rI0 ?_ | with_reducible refine rIC ?_ ?_ | with_reducible refine mulII ?_ ?_ | with_reducible refine addTT ?_ ?_ | with_reducible refine addSS ?_ ?_ | with_reducible refine negII ?_ | with_reducible refine eqII ?_ | with_reducible refine eqSS ?_ | with_reducible refine eqBB ?_ | with_reducible refine neII ?_ | with_reducible refine neSS ?_ | with_reducible refine neBB ?_ | with_reducible refine isNN ?_ | with_reducible refine isNotNN ?_ | with_reducible refine isBB ?_ | with_reducible refine isNotBB ?_ | with_reducible refine lenTI ?_ | with_reducible refine lenFI ?_ | with_reducible refine intII ?_ | with_reducible refine intBI ?_ | with_reducible refine tupTI ?_ | with_reducible refine minII ?_ | with_reducible refine maxII ?_ | with_reducible refine slTI ?_ | with_reducible refine gcI ?_ | with_reducible refine gnI ?_ | with_reducible refine aNI ?_ | ((with_reducible refine ttI ?_ ?_); exact rfl) | ((with_reducible refine And.intro ?_ ?_); exact rfl) | ((with_reducible refine And.intro ?_ ?_); exact lenOk rfl) | dsimp only [En.s]))
    rw [iD_len]
    refine taken hj.1 (by omega) (by omega) fun x m1 a1 b1 hr1 v1 => ?_
    obtain ⟨xn, rfl⟩ := Int.eq_ofNat_of_zero_le a1
    have hx : xn < R.length := by omega
    have hR1 := v1 _ _ n1 hR
    have hF1 := v1 _ _ n2 hF
    rw [l_of hR1]
    refine ⟨by omega, ?_⟩
    rw [iD_len, six hx]
    have e1 : (iD R)[xn]? = some (.int ((R[xn] : Nat) : Int)) := by unfold iD; rw [List.getElem?_map, List.getElem?_eq_getElem hx]; rfl
    dsimp only
    rw [e1]
    dsimp only
    rw [l_ne (Ne.symm n3), l_of hF1]
    refine ⟨Nat.lt_of_le_of_lt (show (iD F).length ≤ 1000 by rw [iD_len]; omega) (by unfold big; decide), ?_⟩
    have e2 : (iD R).eraseIdx xn = iD (R.eraseIdx xn) := iD_erase R xn
    have e3 : iD F ++ [.int ((R[xn] : Nat) : Int)] = iD (F ++ [R[xn]]) := by rw [iD_app]; rfl
    rw [e2, e3]
    have hl2 : (R.eraseIdx xn).length = R.length - 1 := by rw [List.length_eraseIdx, if_pos hx]
    refine ih _ (R.eraseIdx xn) (F ++ [R[xn]]) _ ?_ ?_ mset_same (by omega) (nodup_move hx hn) (fun y hy => ?_) (by simp; omega) fun F' m' y5 a b c d e => q F' m' y5 (by simp at a; omega) b c d e
    · exact JR.set h0 k2 _ _ (JR.set h0 k1 _ _ ⟨hr1, hj.2.trans v1⟩)
    · rw [mset_ne n3, mset_same]
    · rcases List.mem_append.mp hy with z | z
      · exact hl y (by simp [List.mem_of_mem_eraseIdx z])
      · rcases List.mem_append.mp z with z | z
        · exact hl y (by simp [z])
        · simp at z; subst z; exact hl _ (by simp)
end
end K32

set_option linter.all false
set_option maxRecDepth 100000
set_option maxHeartbeats 2000000
namespace K32
open PySem PySem.Spec PyProof.Rows L2 Ab
theorem iLstN {te : AE} {e : En} {m : M} {P : List D → (M → Prop) → M → Prop} {R : PX} (h : te e m (fun d m1 => match d with
  | .fls ds => P ds (fun _ => True) m1
  | .ref a => (match m1 a with
    | some (.lst ds) => P ds (fun m2 => m2 a = some (.lst ds)) m1
    | _ => False)
  | _ => False) R) : aILst te e m P R := h
theorem iLstV {m : M} {a : Addr} {ds : List D} {P : List D → (M → Prop) → M → Prop} (h : m a = some (.lst ds)) (q : P ds (fun m2 => m2 a = some (.lst ds)) m) : (match D.ref a with
  | .fls ds => P ds (fun _ => True) m
  | .ref a => (match m a with
    | some (.lst ds) => P ds (fun m2 => m2 a = some (.lst ds)) m
    | _ => False)
  | _ => False) := by
  show (match m a with | some (.lst ds) => _ | _ => False)
  rw [h]
  exact q
theorem nats_of_perm {ns : List Int} {F : List Nat} (h : ns.Perm (F.map fun n : Nat => (n : Int))) (hs : ns.Pairwise (· ≤ ·)) (hn : F.Nodup) : ∃ G : List Nat, ns = G.map (fun n : Nat => (n : Int)) ∧ G.Pairwise (· < ·) ∧ (∀ x, x ∈ G ↔ x ∈ F) ∧ G.length = F.length := by
  refine ⟨ns.map Int.toNat, ?_, ?_, fun x => ?_, ?_⟩
  · rw [List.map_map]
    conv => lhs; rw [← List.map_id ns]
    apply List.map_congr_left
    intro z hz
    have := h.mem_iff.mp hz
    obtain ⟨n, _, rfl⟩ := List.mem_map.mp this
    simp
  · have nd : ns.Pairwise (· ≠ ·) := by
      refine (List.Perm.pairwise_iff (fun hxy => Ne.symm hxy) h).mpr ?_
      rw [List.pairwise_map]
      exact List.Pairwise.imp (fun hxy z => hxy (by omega)) hn
    rw [List.pairwise_map]
    have both := List.Pairwise.and hs nd
    refine List.Pairwise.imp_of_mem (fun {a b} ha hb hab => ?_) both
    obtain ⟨x, _, rfl⟩ := List.mem_map.mp (h.mem_iff.mp ha)
    obtain ⟨y, _, rfl⟩ := List.mem_map.mp (h.mem_iff.mp hb)
    obtain ⟨h1, h2⟩ := hab
    omega
  · rw [List.mem_map]
    constructor
    · rintro ⟨z, hz, rfl⟩
      obtain ⟨n, hn, rfl⟩ := List.mem_map.mp (h.mem_iff.mp hz)
      simpa using hn
    · intro hx
      exact ⟨(x : Int), h.mem_iff.mpr (List.mem_map.mpr ⟨x, hx, rfl⟩), by simp⟩
  · rw [List.length_map, h.length_eq, List.length_map]
theorem lrgI {i n : Nat} {e : En} {m : M} {Q : PQ} {R : PX} (g : e.g i = some (.int (n : Nat))) (hn : n ≤ 16777216) (h : ∀ p, m p = none → Q (.ref p) (mset m p (.lst (rngD 0 n)))) : aLstRg (aVar i) e m Q R := by
  unfold aLstRg aVar
  rw [g]
  refine ⟨⟨by omega, by omega⟩, fun p hp => ?_⟩
  rw [Int.toNat_natCast]
  exact h p hp
abbrev Bt := List (Nat × List Nat)
def prD (p : Nat × List Nat) : D := .tup [.int (p.1 : Nat), .tup (iD p.2)]
def btD (b : Bt) : D := .tup (b.map prD)
structure BtOk (pages most L : Nat) (b : Bt) : Prop where
  pos : 0 < b.length
  len : b.length ≤ most
  asc : (b.map (·.1)).Pairwise (· < ·)
  lt : ∀ p ∈ b, p.1 < pages
  by_ : ∀ p ∈ b, By p.2
  ln : ∀ p ∈ b, p.2.length ≤ L
theorem F2_bt : ∀ {G : List Nat} {k : List D}, F2 (fun x d => ∃ n l, x = D.int (n : Nat) ∧ d = prD (n, l) ∧ By l ∧ l.length ≤ 96) (iD G) k → ∃ b : Bt, k = b.map prD ∧ b.map (·.1) = G ∧ (∀ p ∈ b, By p.2) ∧ ∀ p ∈ b, p.2.length ≤ 96
  | [], [], _ => ⟨[], rfl, rfl, by simp, by simp⟩
  | g :: G, d :: k, h => by
    obtain ⟨n, l, e1, rfl, hb, hl⟩ := h.1
    obtain ⟨b, rfl, e2, h3, h4⟩ := F2_bt h.2
    have e : n = g := by injection e1 with e; omega
    refine ⟨(n, l) :: b, rfl, by rw [List.map_cons, e2, e], fun p hp => ?_, fun p hp => ?_⟩
    · rcases List.mem_cons.mp hp with z | z
      · rw [z]; exact hb
      · exact h3 p z
    · rcases List.mem_cons.mp hp with z | z
      · rw [z]; exact hl
      · exact h4 p z
  | [], _ :: _, h => h.elim
  | _ :: _, [], h => h.elim
theorem sorI {a : Addr} {F : List Nat} {m : M} {Q : PQ} (hl : m.l a = some (iD F)) (hn : F.Nodup) (q : ∀ G p, m p = none → G.Pairwise (· < ·) → (∀ x, x ∈ G ↔ x ∈ F) → G.length = F.length → Q (.ref p) (mset m p (.lst (iD G)))) : rSortedA [.ref a] m Q := by
  have e : ∀ F : List Nat, iD F = (F.map fun n : Nat => (n : Int)).map D.int := fun F => by unfold iD; rw [List.map_map]; rfl
  refine ⟨F.map fun n : Nat => (n : Int), by rw [hl, e], fun ns' p hp hs hm => ?_⟩
  obtain ⟨G, rfl, h1, h2, h3⟩ := nats_of_perm hp hs hn
  rw [← e]
  exact q G p hm h1 h2 h3
section
variable {ns : List Int} {r : Addr} {m : M}
theorem rng_iD (n : Nat) : rngD 0 n = iD (List.range n) := by
  unfold rngD iD
  apply List.map_congr_left
  intro i _
  simp
theorem lawBatch {pages most : Nat} {Q : PQ} {R : PX} (hr : RowAt ns m r) (hp1 : 1 ≤ pages) (hp2 : pages ≤ 100) (hm1 : 1 ≤ most) (hm2 : most ≤ 100) (q : ∀ b m', BtOk pages (min pages most) 96 b → RowAt ns m' r → Ev r m m' → Q (btD b) m') : s_f_law_batch [.ref r, .int (pages : Nat), .int (most : Nat)] m Q R := by
  refine ent_f_law_batch ?_
  unfold b_f_law_batch
  refine seqI (parII (consI (lrgI (n := pages) rfl (by omega) fun pr hpr => ?_)))
  rw [rng_iD]
  (repeat (first | with_reducible refine seqI ?_ | with_reducible refine setI ?_ | with_reducible refine asgI ?_ | with_reducible refine retI ?_ | with_reducible refine opI ?_ | with_reducible refine callI ?_ | with_reducible refine consI ?_ | with_reducible refine cI ?_ | with_reducible refine nilI ?_ | ((with_reducible apply varI); exact rfl) | with_reducible refine cbI ?_ | with_reducible refine ifI ?_ | with_reducible refine tstI ?_ | with_reducible refine notTI ?_ | with_reducible refine andTI ?_ | with_reducible refine orTI ?_ | with_reducible refine dropI ?_ | with_reducible refine nextI ?_ | with_reducible refine tupI ?_ | with_reducible refine lstI ?_ | with_reducible refine starI ?_ | with_reducible refine starTT ?_ | with_reducible refine andI ?_ | with_reducible refine orVI ?_ | with_reducible refine notI ?_ | with_reducible refine ifEI ?_ | with_reducible refine forI ?_ | with_reducible refine r1I ?_ | with_reducible refine ir2I ?_ | with_reducible refine iTupI ?_ | with_reducible refine truI ?_ | with_reducible refine chainI ?_ | with_reducible refine lcI ?_ | with_reducible refine slI ?_ | with_reducible refine noPI ?_ | with_reducible refine ptI ?_ | with_reducible refine unI ?_ | with_reducible refine brkI ?_ | with_reducible refine cntI ?_ | with_reducible refine retNI ?_ | with_reducible refine addII ?_ | with_reducible refine rI0 ?_ | with_reducible refine rIC ?_ ?_ | with_reducible refine mulII ?_ ?_ | with_reducible refine addTT ?_ ?_ | with_reducible refine addSS ?_ ?_ | with_reducible refine negII ?_ | with_reducible refine eqII ?_ | with_reducible refine eqSS ?_ | with_reducible refine eqBB ?_ | with_reducible refine neII ?_ | with_reducible refine neSS ?_ | with_reducible refine neBB ?_ | with_reducible refine isNN ?_ | with_reducible refine isNotNN ?_ | with_reducible refine isBB ?_ | with_reducible refine isNotBB ?_ | with_reducible refine lenTI ?_ | with_reducible refine lenFI ?_ | with_reducible refine intII ?_ | with_reducible refine intBI ?_ | with_reducible refine tupTI ?_ | with_reducible refine minII ?_ | with_reducible refine maxII ?_ | with_reducible refine slTI ?_ | with_reducible refine gcI ?_ | with_reducible refine gnI ?_ | with_reducible refine aNI ?_ | ((with_reducible refine ttI ?_ ?_); exact rfl) | ((with_reducible refine And.intro ?_ ?_); exact rfl) | ((with_reducible refine And.intro ?_ ?_); exact lenOk rfl) | dsimp only [En.s]))
  intro pf hpf
  have n3 : pr ≠ pf := fun z => by rw [← z, mset_same] at hpf; cases hpf
  (repeat (first | with_reducible refine seqI ?_ | with_reducible refine setI ?_ | with_reducible refine asgI ?_ | with_reducible refine retI ?_ | with_reducible refine opI ?_ | with_reducible refine callI ?_ | with_reducible refine consI ?_ | with_reducible refine cI ?_ | with_reducible refine nilI ?_ | ((with_reducible apply varI); exact rfl) | with_reducible refine cbI ?_ | with_reducible refine ifI ?_ | with_reducible refine tstI ?_ | with_reducible refine notTI ?_ | with_reducible refine andTI ?_ | with_reducible refine orTI ?_ | with_reducible refine dropI ?_ | with_reducible refine nextI ?_ | with_reducible refine tupI ?_ | with_reducible refine lstI ?_ | with_reducible refine starI ?_ | with_reducible refine starTT ?_ | with_reducible refine andI ?_ | with_reducible refine orVI ?_ | with_reducible refine notI ?_ | with_reducible refine ifEI ?_ | with_reducible refine forI ?_ | with_reducible refine r1I ?_ | with_reducible refine ir2I ?_ | with_reducible refine iTupI ?_ | with_reducible refine truI ?_ | with_reducible refine chainI ?_ | with_reducible refine lcI ?_ | with_reducible refine slI ?_ | with_reducible refine noPI ?_ | with_reducible refine ptI ?_ | with_reducible refine unI ?_ | with_reducible refine brkI ?_ | with_reducible refine cntI ?_ | with_reducible refine retNI ?_ | with_reducible refine addII ?_ | with_reducible refine rI0 ?_ | with_reducible refine rIC ?_ ?_ | with_reducible refine mulII ?_ ?_ | with_reducible refine addTT ?_ ?_ | with_reducible refine addSS ?_ ?_ | with_reducible refine negII ?_ | with_reducible refine eqII ?_ | with_reducible refine eqSS ?_ | with_reducible refine eqBB ?_ | with_reducible refine neII ?_ | with_reducible refine neSS ?_ | with_reducible refine neBB ?_ | with_reducible refine isNN ?_ | with_reducible refine isNotNN ?_ | with_reducible refine isBB ?_ | with_reducible refine isNotBB ?_ | with_reducible refine lenTI ?_ | with_reducible refine lenFI ?_ | with_reducible refine intII ?_ | with_reducible refine intBI ?_ | with_reducible refine tupTI ?_ | with_reducible refine minII ?_ | with_reducible refine maxII ?_ | with_reducible refine slTI ?_ | with_reducible refine gcI ?_ | with_reducible refine gnI ?_ | with_reducible refine aNI ?_ | ((with_reducible refine ttI ?_ ?_); exact rfl) | ((with_reducible refine And.intro ?_ ?_); exact rfl) | ((with_reducible refine And.intro ?_ ?_); exact lenOk rfl) | dsimp only [En.s]))
  have hk : (if (most : Int) < (pages : Int) then (most : Int) else (pages : Int)) = ((min pages most : Nat) : Int) := by
    split <;> omega
  rw [hk]
  have kpf : m pf = none := by rw [mset_ne (Ne.symm n3)] at hpf; exact hpf
  have hj0 : JR ns r m (mset (mset m pr (.lst (iD (List.range pages)))) pf (.lst [])) := JR.set hr kpf _ _ (JR.set hr hpr _ _ ⟨hr, Ev.refl m⟩)
  refine taken hj0.1 (by omega) (by omega) fun x m1 a1 b1 hr1 v1 => ?_
  obtain ⟨xn, rfl⟩ := Int.eq_ofNat_of_zero_le a1
  have hx : xn < min pages most := by omega
  (repeat (first | with_reducible refine seqI ?_ | with_reducible refine setI ?_ | with_reducible refine asgI ?_ | with_reducible refine retI ?_ | with_reducible refine opI ?_ | with_reducible refine callI ?_ | with_reducible refine consI ?_ | with_reducible refine cI ?_ | with_reducible refine nilI ?_ | ((with_reducible apply varI); exact rfl) | with_reducible refine cbI ?_ | with_reducible refine ifI ?_ | with_reducible refine tstI ?_ | with_reducible refine notTI ?_ | with_reducible refine andTI ?_ | with_reducible refine orTI ?_ | with_reducible refine dropI ?_ | with_reducible refine nextI ?_ | with_reducible refine tupI ?_ | with_reducible refine lstI ?_ | with_reducible refine starI ?_ | with_reducible refine starTT ?_ | with_reducible refine andI ?_ | with_reducible refine orVI ?_ | with_reducible refine notI ?_ | with_reducible refine ifEI ?_ | with_reducible refine forI ?_ | with_reducible refine r1I ?_ | with_reducible refine ir2I ?_ | with_reducible refine iTupI ?_ | with_reducible refine truI ?_ | with_reducible refine chainI ?_ | with_reducible refine lcI ?_ | with_reducible refine slI ?_ | with_reducible refine noPI ?_ | with_reducible refine ptI ?_ | with_reducible refine unI ?_ | with_reducible refine brkI ?_ | with_reducible refine cntI ?_ | with_reducible refine retNI ?_ | with_reducible refine addII ?_ | with_reducible refine rI0 ?_ | with_reducible refine rIC ?_ ?_ | with_reducible refine mulII ?_ ?_ | with_reducible refine addTT ?_ ?_ | with_reducible refine addSS ?_ ?_ | with_reducible refine negII ?_ | with_reducible refine eqII ?_ | with_reducible refine eqSS ?_ | with_reducible refine eqBB ?_ | with_reducible refine neII ?_ | with_reducible refine neSS ?_ | with_reducible refine neBB ?_ | with_reducible refine isNN ?_ | with_reducible refine isNotNN ?_ | with_reducible refine isBB ?_ | with_reducible refine isNotBB ?_ | with_reducible refine lenTI ?_ | with_reducible refine lenFI ?_ | with_reducible refine intII ?_ | with_reducible refine intBI ?_ | with_reducible refine tupTI ?_ | with_reducible refine minII ?_ | with_reducible refine maxII ?_ | with_reducible refine slTI ?_ | with_reducible refine gcI ?_ | with_reducible refine gnI ?_ | with_reducible refine aNI ?_ | ((with_reducible refine ttI ?_ ?_); exact rfl) | ((with_reducible refine And.intro ?_ ?_); exact rfl) | ((with_reducible refine And.intro ?_ ?_); exact lenOk rfl) | dsimp only [En.s]))
  refine ⟨⟨by omega, by omega⟩, ?_⟩
  have ek : ((1 : Int) + (xn : Int)).toNat = 1 + xn := by omega
  rw [ek]
  have nr := hr.ne hpr
  have nf := hr.ne kpf
  have eR : m1 pr = some (.lst (iD (List.range pages))) := v1 _ _ nr (by rw [mset_ne n3, mset_same])
  have eF : m1 pf = some (.lst (iD [])) := v1 _ _ nf mset_same
  refine pb_loop (pages := pages) (fun _ => trivial) hr nr nf n3 hpr kpf (by omega) (1 + xn) 0 (List.range pages) [] m1 none ⟨hr1, hj0.2.trans v1⟩ eR eF (by rw [List.length_range]; omega) (by rw [List.append_nil]; exact List.nodup_range) (fun y hy => by simpa using hy) (by simp) fun F' m2 y5 hlF hnF hltF hj2 eF2 => ?_
  (repeat (first | with_reducible refine seqI ?_ | with_reducible refine setI ?_ | with_reducible refine asgI ?_ | with_reducible refine retI ?_ | with_reducible refine opI ?_ | with_reducible refine callI ?_ | with_reducible refine consI ?_ | with_reducible refine cI ?_ | with_reducible refine nilI ?_ | ((with_reducible apply varI); exact rfl) | with_reducible refine cbI ?_ | with_reducible refine ifI ?_ | with_reducible refine tstI ?_ | with_reducible refine notTI ?_ | with_reducible refine andTI ?_ | with_reducible refine orTI ?_ | with_reducible refine dropI ?_ | with_reducible refine nextI ?_ | with_reducible refine tupI ?_ | with_reducible refine lstI ?_ | with_reducible refine starI ?_ | with_reducible refine starTT ?_ | with_reducible refine andI ?_ | with_reducible refine orVI ?_ | with_reducible refine notI ?_ | with_reducible refine ifEI ?_ | with_reducible refine forI ?_ | with_reducible refine r1I ?_ | with_reducible refine ir2I ?_ | with_reducible refine iTupI ?_ | with_reducible refine truI ?_ | with_reducible refine chainI ?_ | with_reducible refine lcI ?_ | with_reducible refine slI ?_ | with_reducible refine noPI ?_ | with_reducible refine ptI ?_ | with_reducible refine unI ?_ | with_reducible refine brkI ?_ | with_reducible refine cntI ?_ | with_reducible refine retNI ?_ | with_reducible refine addII ?_ | with_reducible refine rI0 ?_ | with_reducible refine rIC ?_ ?_ | with_reducible refine mulII ?_ ?_ | with_reducible refine addTT ?_ ?_ | with_reducible refine addSS ?_ ?_ | with_reducible refine negII ?_ | with_reducible refine eqII ?_ | with_reducible refine eqSS ?_ | with_reducible refine eqBB ?_ | with_reducible refine neII ?_ | with_reducible refine neSS ?_ | with_reducible refine neBB ?_ | with_reducible refine isNN ?_ | with_reducible refine isNotNN ?_ | with_reducible refine isBB ?_ | with_reducible refine isNotBB ?_ | with_reducible refine lenTI ?_ | with_reducible refine lenFI ?_ | with_reducible refine intII ?_ | with_reducible refine intBI ?_ | with_reducible refine tupTI ?_ | with_reducible refine minII ?_ | with_reducible refine maxII ?_ | with_reducible refine slTI ?_ | with_reducible refine gcI ?_ | with_reducible refine gnI ?_ | with_reducible refine aNI ?_ | ((with_reducible refine ttI ?_ ?_); exact rfl) | ((with_reducible refine And.intro ?_ ?_); exact rfl) | ((with_reducible refine And.intro ?_ ?_); exact lenOk rfl) | dsimp only [En.s]))
  refine iLstN ?_
  (repeat (first | with_reducible refine seqI ?_ | with_reducible refine setI ?_ | with_reducible refine asgI ?_ | with_reducible refine retI ?_ | with_reducible refine opI ?_ | with_reducible refine callI ?_ | with_reducible refine consI ?_ | with_reducible refine cI ?_ | with_reducible refine nilI ?_ | ((with_reducible apply varI); exact rfl) | with_reducible refine cbI ?_ | with_reducible refine ifI ?_ | with_reducible refine tstI ?_ | with_reducible refine notTI ?_ | with_reducible refine andTI ?_ | with_reducible refine orTI ?_ | with_reducible refine dropI ?_ | with_reducible refine nextI ?_ | with_reducible refine tupI ?_ | with_reducible refine lstI ?_ | with_reducible refine starI ?_ | with_reducible refine starTT ?_ | with_reducible refine andI ?_ | with_reducible refine orVI ?_ | with_reducible refine notI ?_ | with_reducible refine ifEI ?_ | with_reducible refine forI ?_ | with_reducible refine r1I ?_ | with_reducible refine ir2I ?_ | with_reducible refine iTupI ?_ | with_reducible refine truI ?_ | with_reducible refine chainI ?_ | with_reducible refine lcI ?_ | with_reducible refine slI ?_ | with_reducible refine noPI ?_ | with_reducible refine ptI ?_ | with_reducible refine unI ?_ | with_reducible refine brkI ?_ | with_reducible refine cntI ?_ | with_reducible refine retNI ?_ | with_reducible refine addII ?_ | with_reducible refine rI0 ?_ | with_reducible refine rIC ?_ ?_ | with_reducible refine mulII ?_ ?_ | with_reducible refine addTT ?_ ?_ | with_reducible refine addSS ?_ ?_ | with_reducible refine negII ?_ | with_reducible refine eqII ?_ | with_reducible refine eqSS ?_ | with_reducible refine eqBB ?_ | with_reducible refine neII ?_ | with_reducible refine neSS ?_ | with_reducible refine neBB ?_ | with_reducible refine isNN ?_ | with_reducible refine isNotNN ?_ | with_reducible refine isBB ?_ | with_reducible refine isNotBB ?_ | with_reducible refine lenTI ?_ | with_reducible refine lenFI ?_ | with_reducible refine intII ?_ | with_reducible refine intBI ?_ | with_reducible refine tupTI ?_ | with_reducible refine minII ?_ | with_reducible refine maxII ?_ | with_reducible refine slTI ?_ | with_reducible refine gcI ?_ | with_reducible refine gnI ?_ | with_reducible refine aNI ?_ | ((with_reducible refine ttI ?_ ?_); exact rfl) | ((with_reducible refine And.intro ?_ ?_); exact rfl) | ((with_reducible refine And.intro ?_ ?_); exact lenOk rfl) | dsimp only [En.s]))
  refine sorI (l_of eF2) hnF fun G p hp hG hGF hGl => ?_
  show (match (mset m2 p (.lst (iD G))) p with | some (.lst ds) => _ | _ => False)
  rw [mset_same]
  intro p2 hp2
  have hj3 : RowAt ns (mset m2 p (.lst (iD G))) r := hj2.1.new hp
  refine lc_r (Pd := fun x d => ∃ n l, x = D.int (n : Nat) ∧ d = prD (n, l) ∧ By l ∧ l.length ≤ 96) hj3 hp2 (fun m3 hj => hj.2 _ _ (hj2.1.ne hp) mset_same) (fun y hy m3 Q' hj q' => ?_) (fun l m3 hf hr3 ev3 hm3 => ?_) (by rw [iD_len, hGl, hlF]; simp; omega)
  · obtain ⟨n, hn, rfl⟩ := List.mem_map.mp hy
    (repeat (first | with_reducible refine seqI ?_ | with_reducible refine setI ?_ | with_reducible refine asgI ?_ | with_reducible refine retI ?_ | with_reducible refine opI ?_ | with_reducible refine callI ?_ | with_reducible refine consI ?_ | with_reducible refine cI ?_ | with_reducible refine nilI ?_ | ((with_reducible apply varI); exact rfl) | with_reducible refine cbI ?_ | with_reducible refine ifI ?_ | with_reducible refine tstI ?_ | with_reducible refine notTI ?_ | with_reducible refine andTI ?_ | with_reducible refine orTI ?_ | with_reducible refine dropI ?_ | with_reducible refine nextI ?_ | with_reducible refine tupI ?_ | with_reducible refine lstI ?_ | with_reducible refine starI ?_ | with_reducible refine starTT ?_ | with_reducible refine andI ?_ | with_reducible refine orVI ?_ | with_reducible refine notI ?_ | with_reducible refine ifEI ?_ | with_reducible refine forI ?_ | with_reducible refine r1I ?_ | with_reducible refine ir2I ?_ | with_reducible refine iTupI ?_ | with_reducible refine truI ?_ | with_reducible refine chainI ?_ | with_reducible refine lcI ?_ | with_reducible refine slI ?_ | with_reducible refine noPI ?_ | with_reducible refine ptI ?_ | with_reducible refine unI ?_ | with_reducible refine brkI ?_ | with_reducible refine cntI ?_ | with_reducible refine retNI ?_ | with_reducible refine addII ?_ | with_reducible refine rI0 ?_ | with_reducible refine rIC ?_ ?_ | with_reducible refine mulII ?_ ?_ | with_reducible refine addTT ?_ ?_ | with_reducible refine addSS ?_ ?_ | with_reducible refine negII ?_ | with_reducible refine eqII ?_ | with_reducible refine eqSS ?_ | with_reducible refine eqBB ?_ | with_reducible refine neII ?_ | with_reducible refine neSS ?_ | with_reducible refine neBB ?_ | with_reducible refine isNN ?_ | with_reducible refine isNotNN ?_ | with_reducible refine isBB ?_ | with_reducible refine isNotBB ?_ | with_reducible refine lenTI ?_ | with_reducible refine lenFI ?_ | with_reducible refine intII ?_ | with_reducible refine intBI ?_ | with_reducible refine tupTI ?_ | with_reducible refine minII ?_ | with_reducible refine maxII ?_ | with_reducible refine slTI ?_ | with_reducible refine gcI ?_ | with_reducible refine gnI ?_ | with_reducible refine aNI ?_ | ((with_reducible refine ttI ?_ ?_); exact rfl) | ((with_reducible refine And.intro ?_ ?_); exact rfl) | ((with_reducible refine And.intro ?_ ?_); exact lenOk rfl) | dsimp only [En.s]))
    refine lawPage hj.1 fun l m4 hb hl hr4 v4 => ?_
    (repeat (first | with_reducible refine seqI ?_ | with_reducible refine setI ?_ | with_reducible refine asgI ?_ | with_reducible refine retI ?_ | with_reducible refine opI ?_ | with_reducible refine callI ?_ | with_reducible refine consI ?_ | with_reducible refine cI ?_ | with_reducible refine nilI ?_ | ((with_reducible apply varI); exact rfl) | with_reducible refine cbI ?_ | with_reducible refine ifI ?_ | with_reducible refine tstI ?_ | with_reducible refine notTI ?_ | with_reducible refine andTI ?_ | with_reducible refine orTI ?_ | with_reducible refine dropI ?_ | with_reducible refine nextI ?_ | with_reducible refine tupI ?_ | with_reducible refine lstI ?_ | with_reducible refine starI ?_ | with_reducible refine starTT ?_ | with_reducible refine andI ?_ | with_reducible refine orVI ?_ | with_reducible refine notI ?_ | with_reducible refine ifEI ?_ | with_reducible refine forI ?_ | with_reducible refine r1I ?_ | with_reducible refine ir2I ?_ | with_reducible refine iTupI ?_ | with_reducible refine truI ?_ | with_reducible refine chainI ?_ | with_reducible refine lcI ?_ | with_reducible refine slI ?_ | with_reducible refine noPI ?_ | with_reducible refine ptI ?_ | with_reducible refine unI ?_ | with_reducible refine brkI ?_ | with_reducible refine cntI ?_ | with_reducible refine retNI ?_ | with_reducible refine addII ?_ | with_reducible refine rI0 ?_ | with_reducible refine rIC ?_ ?_ | with_reducible refine mulII ?_ ?_ | with_reducible refine addTT ?_ ?_ | with_reducible refine addSS ?_ ?_ | with_reducible refine negII ?_ | with_reducible refine eqII ?_ | with_reducible refine eqSS ?_ | with_reducible refine eqBB ?_ | with_reducible refine neII ?_ | with_reducible refine neSS ?_ | with_reducible refine neBB ?_ | with_reducible refine isNN ?_ | with_reducible refine isNotNN ?_ | with_reducible refine isBB ?_ | with_reducible refine isNotBB ?_ | with_reducible refine lenTI ?_ | with_reducible refine lenFI ?_ | with_reducible refine intII ?_ | with_reducible refine intBI ?_ | with_reducible refine tupTI ?_ | with_reducible refine minII ?_ | with_reducible refine maxII ?_ | with_reducible refine slTI ?_ | with_reducible refine gcI ?_ | with_reducible refine gnI ?_ | with_reducible refine aNI ?_ | ((with_reducible refine ttI ?_ ?_); exact rfl) | ((with_reducible refine And.intro ?_ ?_); exact rfl) | ((with_reducible refine And.intro ?_ ?_); exact lenOk rfl) | dsimp only [En.s]))
    exact q' _ m4 ⟨n, l, rfl, rfl, hb, hl⟩ hr4 v4
  · obtain ⟨b, rfl, hb1, hb2, hb3⟩ := F2_bt hf
    (repeat (first | with_reducible refine seqI ?_ | with_reducible refine setI ?_ | with_reducible refine asgI ?_ | with_reducible refine retI ?_ | with_reducible refine opI ?_ | with_reducible refine callI ?_ | with_reducible refine consI ?_ | with_reducible refine cI ?_ | with_reducible refine nilI ?_ | ((with_reducible apply varI); exact rfl) | with_reducible refine cbI ?_ | with_reducible refine ifI ?_ | with_reducible refine tstI ?_ | with_reducible refine notTI ?_ | with_reducible refine andTI ?_ | with_reducible refine orTI ?_ | with_reducible refine dropI ?_ | with_reducible refine nextI ?_ | with_reducible refine tupI ?_ | with_reducible refine lstI ?_ | with_reducible refine starI ?_ | with_reducible refine starTT ?_ | with_reducible refine andI ?_ | with_reducible refine orVI ?_ | with_reducible refine notI ?_ | with_reducible refine ifEI ?_ | with_reducible refine forI ?_ | with_reducible refine r1I ?_ | with_reducible refine ir2I ?_ | with_reducible refine iTupI ?_ | with_reducible refine truI ?_ | with_reducible refine chainI ?_ | with_reducible refine lcI ?_ | with_reducible refine slI ?_ | with_reducible refine noPI ?_ | with_reducible refine ptI ?_ | with_reducible refine unI ?_ | with_reducible refine brkI ?_ | with_reducible refine cntI ?_ | with_reducible refine retNI ?_ | with_reducible refine addII ?_ | with_reducible refine rI0 ?_ | with_reducible refine rIC ?_ ?_ | with_reducible refine mulII ?_ ?_ | with_reducible refine addTT ?_ ?_ | with_reducible refine addSS ?_ ?_ | with_reducible refine negII ?_ | with_reducible refine eqII ?_ | with_reducible refine eqSS ?_ | with_reducible refine eqBB ?_ | with_reducible refine neII ?_ | with_reducible refine neSS ?_ | with_reducible refine neBB ?_ | with_reducible refine isNN ?_ | with_reducible refine isNotNN ?_ | with_reducible refine isBB ?_ | with_reducible refine isNotBB ?_ | with_reducible refine lenTI ?_ | with_reducible refine lenFI ?_ | with_reducible refine intII ?_ | with_reducible refine intBI ?_ | with_reducible refine tupTI ?_ | with_reducible refine minII ?_ | with_reducible refine maxII ?_ | with_reducible refine slTI ?_ | with_reducible refine gcI ?_ | with_reducible refine gnI ?_ | with_reducible refine aNI ?_ | ((with_reducible refine ttI ?_ ?_); exact rfl) | ((with_reducible refine And.intro ?_ ?_); exact rfl) | ((with_reducible refine And.intro ?_ ?_); exact lenOk rfl) | dsimp only [En.s]))
    refine tupRI (l_of hm3) ?_
    have hbl : b.length = G.length := by rw [← hb1, List.length_map]
    refine ⟨_, Ab.Sub.refl _, q b m3 ⟨by rw [hbl, hGl, hlF]; simp; omega, by rw [hbl, hGl, hlF]; simp; omega, by rw [hb1]; exact hG, fun p hp => ?_, hb2, hb3⟩ hr3 (hj2.2.trans ((Ev.new hp).trans ev3))⟩
    have : p.1 ∈ G := by rw [← hb1]; exact List.mem_map.mpr ⟨p, hp, rfl⟩
    exact hltF _ ((hGF _).mp this)
end
end K32

set_option linter.all false
set_option maxRecDepth 100000
set_option maxHeartbeats 2000000
namespace K32
open PySem PySem.Spec PyProof.Rows L2 Ab
/-- with items left out -/
inductive FS {α β : Type} (Ps : α → Prop) (Pd : α → β → Prop) : List α → List β → Prop
  | nil : FS Ps Pd [] []
  | skip {a as bs} : Ps a → FS Ps Pd as bs → FS Ps Pd (a :: as) bs
  | keep {a b as bs} : Pd a b → FS Ps Pd as bs → FS Ps Pd (a :: as) (b :: bs)
theorem FS.app {α β : Type} {Ps : α → Prop} {Pd : α → β → Prop} {as cs : List α} {bs ds : List β} (h : FS Ps Pd as bs) (k : FS Ps Pd cs ds) : FS Ps Pd (as ++ cs) (bs ++ ds) := by
  induction h with
  | nil => exact k
  | skip a _ ih => exact .skip a ih
  | keep a _ ih => exact .keep a ih
theorem FS.len {α β : Type} {Ps : α → Prop} {Pd : α → β → Prop} {as : List α} {bs : List β} (h : FS Ps Pd as bs) : bs.length ≤ as.length := by
  induction h with
  | nil => simp
  | skip a _ ih => simp; omega
  | keep a _ ih => simp; omega
abbrev FF : PX := fun _ _ => False
theorem lc_all {e : En} {g : AG} {tt : AT} {te : AE} {p : Addr} {gd : M → Prop} {Q : PQ} {J : M → Prop} {Ps : D → Prop} {Pd : D → D → Prop} {its0 : List D} (hJ : ∀ m o, J m → J (mset m p o)) (hgd : ∀ m, J m → gd m)
    (hte : ∀ x ∈ its0, ∀ (m1 : M) (S : M → Prop) (Q' : PQ), J m1 → (∀ m2, Ps x → J m2 → (∀ o, m1 p = some o → m2 p = some o) → S m2) → (∀ y m2, Pd x y → J m2 → (∀ o, m1 p = some o → m2 p = some o) → Q' y m2) →
      g x e m1 fun e1 m2 => tt e1 m2 (fun b m3 => if b = true then te e1 m3 Q' FF else S m3) FF)
    (q : ∀ l m', FS Ps Pd its0 l → J m' → m' p = some (.lst l) → Q (.ref p) m') : ∀ (its done : List D) (acc : List D) (m : M), its0 = done ++ its → FS Ps Pd done acc → J m → m p = some (.lst acc) → its0.length ≤ 1000 → lcL g tt te e p gd its Q m
  | [], done, acc, m, hd, ha, hj, hm, hl => ⟨hgd _ hj, q acc m (by rw [hd, List.append_nil]; exact ha) hj hm⟩
  | x :: its, done, acc, m, hd, ha, hj, hm, hl => by
    refine ⟨hgd _ hj, ?_⟩
    refine hte x (by rw [hd]; simp) m (fun m2 => lcL g tt te e p gd its Q m2) _ hj (fun m2 hs hj2 k => ?_) fun y m2 hy hj2 k => ?_
    · exact lc_all hJ hgd hte q its (done ++ [x]) acc m2 (by rw [hd]; simp) (by have := ha.app (.skip hs .nil); rwa [List.append_nil] at this) hj2 (k _ hm) hl
    · show (match m2 p with | some (.lst acc) => acc.length < big ∧ _ | _ => False)
      rw [k _ hm]
      have hlen := ha.len
      have : done.length ≤ 1000 := by rw [hd] at hl; simp at hl; omega
      refine ⟨Nat.lt_of_le_of_lt (show acc.length ≤ 1000 by omega) (by unfold big; decide), ?_⟩
      exact lc_all hJ hgd hte q its (done ++ [x]) (acc ++ [y]) _ (by rw [hd]; simp) (ha.app (.keep hy .nil)) (hJ _ _ hj2) mset_same hl
/-- the same over a store that only grows -/
theorem lc_as {e : En} {g : AG} {tt : AT} {te : AE} {p : Addr} {m0 : M} {gd : M → Prop} {Q : PQ} {Ps : D → Prop} {Pd : D → D → Prop} {its : List D} (hp : m0 p = none) (hgd : ∀ m, Ab.Sub m0 m → gd m)
    (hte : ∀ x ∈ its, ∀ (m1 : M) (S : M → Prop) (Q' : PQ), Ab.Sub m0 m1 → (∀ m2, Ps x → Ab.Sub m1 m2 → S m2) → (∀ y m2, Pd x y → Ab.Sub m1 m2 → Q' y m2) →
      g x e m1 fun e1 m2 => tt e1 m2 (fun b m3 => if b = true then te e1 m3 Q' FF else S m3) FF)
    (q : ∀ l m', FS Ps Pd its l → Ab.Sub m0 m' → m' p = some (.lst l) → Q (.ref p) m') (hl : its.length ≤ 1000) : lcL g tt te e p gd its Q (mset m0 p (.lst [])) :=
  lc_all (J := Ab.Sub m0) (fun m o s => s.mut hp) hgd (fun x hx m1 S Q' hj q1 q2 => hte x hx m1 S Q' hj (fun m2 h s => q1 m2 h (hj.trans s) fun o k => s p o k) fun y m2 h s => q2 y m2 h (hj.trans s) fun o k => s p o k) q its [] [] _ rfl .nil (Ab.Sub.new hp) mset_same hl
theorem cut3 {l : List Nat} {k : Nat} : Ab.cutD (iD l) none (some (k : Int)) = iD (l.take k) := by
  unfold Ab.cutD
  have e0 : HT.sIx (iD l).length 0 none = 0 := rfl
  rw [e0, HT.sIx_nat, List.drop_zero, Nat.sub_zero, iD_len]
  unfold iD
  rw [← List.map_take]
  congr 1
  rw [List.take_eq_take_iff]
  omega
def tr3 (b : Bt) : Bt := b.map fun p => (p.1, p.2.take 3)
theorem tr3_ok {pages most L : Nat} {b : Bt} (h : BtOk pages most L b) : BtOk pages most 3 (tr3 b) where
  pos := by unfold tr3; rw [List.length_map]; exact h.pos
  len := by unfold tr3; rw [List.length_map]; exact h.len
  asc := by unfold tr3; rw [List.map_map]; exact h.asc
  lt := fun p hp => by
    obtain ⟨z, hz, rfl⟩ := List.mem_map.mp hp
    exact h.lt z hz
  by_ := fun p hp => by
    obtain ⟨z, hz, rfl⟩ := List.mem_map.mp hp
    exact fun b hb => h.by_ z hz b (List.mem_of_mem_take hb)
  ln := fun p hp => by
    obtain ⟨z, hz, rfl⟩ := List.mem_map.mp hp
    show (z.2.take 3).length ≤ 3
    rw [List.length_take]; omega
theorem FS_tr : ∀ {b : Bt} {l : List D}, FS (fun _ : D => False) (fun x y => ∀ p, x = prD p → y = prD (p.1, p.2.take 3)) (b.map prD) l → l = (tr3 b).map prD
  | [], _, h => by cases h; rfl
  | p :: b, _, h => by
    cases h with
    | skip a _ => exact a.elim
    | keep a r => rw [a p rfl, FS_tr r]; rfl
theorem F2_map {α : Type} {f : α → D} {P : α → D → Prop} : ∀ {as : List α} {l : List D}, F2 (fun x y => ∃ a ∈ as, x = f a ∧ P a y) (as.map f) l → True := fun _ => trivial
end K32

set_option linter.all false
set_option maxRecDepth 100000
set_option maxHeartbeats 2000000
namespace K32
open PySem PySem.Spec PyProof.Rows L2 Ab
theorem iD_inj : ∀ {a b : List Nat}, iD a = iD b → a = b
  | [], [], _ => rfl
  | [], _ :: _, h => by cases h
  | _ :: _, [], h => by cases h
  | x :: a, y :: b, h => by
    have h' : D.int (x : Int) :: iD a = D.int (y : Int) :: iD b := h
    injection h' with h1 h2
    injection h1 with h1
    rw [iD_inj h2, show x = y by omega]
theorem prD_inj {p q : Nat × List Nat} (h : prD p = prD q) : p = q := by
  unfold prD at h
  injection h with h
  injection h with h1 h2
  injection h2 with h2 _
  injection h1 with h1
  injection h2 with h2
  exact Prod.ext (by omega) (iD_inj h2)
theorem F2_bts {P : Bt → Prop} : ∀ {a l : List D}, F2 (fun _ y => ∃ b, P b ∧ y = btD b) a l → ∃ bs : List Bt, l = bs.map btD ∧ (∀ b ∈ bs, P b) ∧ bs.length = a.length
  | [], [], _ => ⟨[], rfl, by simp, rfl⟩
  | x :: a, y :: l, h => by
    obtain ⟨b, hb, rfl⟩ := h.1
    obtain ⟨bs, rfl, h2, h3⟩ := F2_bts h.2
    refine ⟨b :: bs, rfl, fun c hc => ?_, by simp [h3]⟩
    rcases List.mem_cons.mp hc with z | z
    · rw [z]; exact hb
    · exact h2 c z
  | [], _ :: _, h => h.elim
  | _ :: _, [], h => h.elim
section
variable {ns : List Int} {r : Addr} {m : M}
theorem lawBatches {pages ring most : Nat} {Q : PQ} {R : PX} (hr : RowAt ns m r) (hp1 : 1 ≤ pages) (hp2 : pages ≤ 100) (hm1 : 1 ≤ ring) (hm2 : ring ≤ 100) (hms : most ≤ 100) (q : ∀ (bs : List Bt) m', bs.length ≤ most → (∀ b ∈ bs, BtOk pages (min pages (min 3 ring)) 3 b) → RowAt ns m' r → Ev r m m' → Q (.tup (bs.map btD)) m') : s_f_law_batches [.ref r, .tup [.int (pages : Nat), .int (ring : Nat)], .int (most : Nat)] m Q R := by
  refine ent_f_law_batches ?_
  unfold b_f_law_batches
  (repeat (first | with_reducible refine seqI ?_ | with_reducible refine setI ?_ | with_reducible refine asgI ?_ | with_reducible refine retI ?_ | with_reducible refine opI ?_ | with_reducible refine callI ?_ | with_reducible refine consI ?_ | with_reducible refine cI ?_ | with_reducible refine nilI ?_ | ((with_reducible apply varI); exact rfl) | with_reducible refine cbI ?_ | with_reducible refine ifI ?_ | with_reducible refine tstI ?_ | with_reducible refine notTI ?_ | with_reducible refine andTI ?_ | with_reducible refine orTI ?_ | with_reducible refine dropI ?_ | with_reducible refine nextI ?_ | with_reducible refine tupI ?_ | with_reducible refine lstI ?_ | with_reducible refine starI ?_ | with_reducible refine starTT ?_ | with_reducible refine andI ?_ | with_reducible refine orVI ?_ | with_reducible refine notI ?_ | with_reducible refine ifEI ?_ | with_reducible refine forI ?_ | with_reducible refine r1I ?_ | with_reducible refine ir2I ?_ | with_reducible refine iTupI ?_ | with_reducible refine truI ?_ | with_reducible refine chainI ?_ | with_reducible refine lcI ?_ | with_reducible refine slI ?_ | with_reducible refine noPI ?_ | with_reducible refine ptI ?_ | with_reducible refine unI ?_ | with_reducible refine brkI ?_ | with_reducible refine cntI ?_ | with_reducible refine retNI ?_ | with_reducible refine addII ?_ | with_reducible refine rI0 ?_ | with_reducible refine rIC ?_ ?_ | with_reducible refine mulII ?_ ?_ | with_reducible refine addTT ?_ ?_ | with_reducible refine addSS ?_ ?_ | with_reducible refine negII ?_ | with_reducible refine eqII ?_ | with_reducible refine eqSS ?_ | with_reducible refine eqBB ?_ | with_reducible refine neII ?_ | with_reducible refine neSS ?_ | with_reducible refine neBB ?_ | with_reducible refine isNN ?_ | with_reducible refine isNotNN ?_ | with_reducible refine isBB ?_ | with_reducible refine isNotBB ?_ | with_reducible refine lenTI ?_ | with_reducible refine lenFI ?_ | with_reducible refine intII ?_ | with_reducible refine intBI ?_ | with_reducible refine tupTI ?_ | with_reducible refine minII ?_ | with_reducible refine maxII ?_ | with_reducible refine slTI ?_ | with_reducible refine gcI ?_ | with_reducible refine gnI ?_ | with_reducible refine aNI ?_ | ((with_reducible refine ttI ?_ ?_); exact rfl) | ((with_reducible refine And.intro ?_ ?_); exact rfl) | ((with_reducible refine And.intro ?_ ?_); exact lenOk rfl) | dsimp only [En.s]))
  refine taken hr (by omega) (by omega) fun x m1 a1 b1 hr1 v1 => ?_
  obtain ⟨xn, rfl⟩ := Int.eq_ofNat_of_zero_le a1
  (repeat (first | with_reducible refine seqI ?_ | with_reducible refine setI ?_ | with_reducible refine asgI ?_ | with_reducible refine retI ?_ | with_reducible refine opI ?_ | with_reducible refine callI ?_ | with_reducible refine consI ?_ | with_reducible refine cI ?_ | with_reducible refine nilI ?_ | ((with_reducible apply varI); exact rfl) | with_reducible refine cbI ?_ | with_reducible refine ifI ?_ | with_reducible refine tstI ?_ | with_reducible refine notTI ?_ | with_reducible refine andTI ?_ | with_reducible refine orTI ?_ | with_reducible refine dropI ?_ | with_reducible refine nextI ?_ | with_reducible refine tupI ?_ | with_reducible refine lstI ?_ | with_reducible refine starI ?_ | with_reducible refine starTT ?_ | with_reducible refine andI ?_ | with_reducible refine orVI ?_ | with_reducible refine notI ?_ | with_reducible refine ifEI ?_ | with_reducible refine forI ?_ | with_reducible refine r1I ?_ | with_reducible refine ir2I ?_ | with_reducible refine iTupI ?_ | with_reducible refine truI ?_ | with_reducible refine chainI ?_ | with_reducible refine lcI ?_ | with_reducible refine slI ?_ | with_reducible refine noPI ?_ | with_reducible refine ptI ?_ | with_reducible refine unI ?_ | with_reducible refine brkI ?_ | with_reducible refine cntI ?_ | with_reducible refine retNI ?_ | with_reducible refine addII ?_ | with_reducible refine rI0 ?_ | with_reducible refine rIC ?_ ?_ | with_reducible refine mulII ?_ ?_ | with_reducible refine addTT ?_ ?_ | with_reducible refine addSS ?_ ?_ | with_reducible refine negII ?_ | with_reducible refine eqII ?_ | with_reducible refine eqSS ?_ | with_reducible refine eqBB ?_ | with_reducible refine neII ?_ | with_reducible refine neSS ?_ | with_reducible refine neBB ?_ | with_reducible refine isNN ?_ | with_reducible refine isNotNN ?_ | with_reducible refine isBB ?_ | with_reducible refine isNotBB ?_ | with_reducible refine lenTI ?_ | with_reducible refine lenFI ?_ | with_reducible refine intII ?_ | with_reducible refine intBI ?_ | with_reducible refine tupTI ?_ | with_reducible refine minII ?_ | with_reducible refine maxII ?_ | with_reducible refine slTI ?_ | with_reducible refine gcI ?_ | with_reducible refine gnI ?_ | with_reducible refine aNI ?_ | ((with_reducible refine ttI ?_ ?_); exact rfl) | ((with_reducible refine And.intro ?_ ?_); exact rfl) | ((with_reducible refine And.intro ?_ ?_); exact lenOk rfl) | dsimp only [En.s]))
  refine ⟨⟨by omega, by omega⟩, fun p hp => ?_⟩
  rw [Int.toNat_natCast]
  refine lc_r (Pd := fun _ y => ∃ b, BtOk pages (min pages (min 3 ring)) 96 b ∧ y = btD b) hr1 hp (fun _ _ => trivial) (fun x hx m2 Q' hj q' => ?_) (fun l m2 hf hr2 ev2 hm2' => ?_) (by simp [rngD]; omega)
  · (repeat (first | with_reducible refine seqI ?_ | with_reducible refine setI ?_ | with_reducible refine asgI ?_ | with_reducible refine retI ?_ | with_reducible refine opI ?_ | with_reducible refine callI ?_ | with_reducible refine consI ?_ | with_reducible refine cI ?_ | with_reducible refine nilI ?_ | ((with_reducible apply varI); exact rfl) | with_reducible refine cbI ?_ | with_reducible refine ifI ?_ | with_reducible refine tstI ?_ | with_reducible refine notTI ?_ | with_reducible refine andTI ?_ | with_reducible refine orTI ?_ | with_reducible refine dropI ?_ | with_reducible refine nextI ?_ | with_reducible refine tupI ?_ | with_reducible refine lstI ?_ | with_reducible refine starI ?_ | with_reducible refine starTT ?_ | with_reducible refine andI ?_ | with_reducible refine orVI ?_ | with_reducible refine notI ?_ | with_reducible refine ifEI ?_ | with_reducible refine forI ?_ | with_reducible refine r1I ?_ | with_reducible refine ir2I ?_ | with_reducible refine iTupI ?_ | with_reducible refine truI ?_ | with_reducible refine chainI ?_ | with_reducible refine lcI ?_ | with_reducible refine slI ?_ | with_reducible refine noPI ?_ | with_reducible refine ptI ?_ | with_reducible refine unI ?_ | with_reducible refine brkI ?_ | with_reducible refine cntI ?_ | with_reducible refine retNI ?_ | with_reducible refine addII ?_ | with_reducible refine rI0 ?_ | with_reducible refine rIC ?_ ?_ | with_reducible refine mulII ?_ ?_ | with_reducible refine addTT ?_ ?_ | with_reducible refine addSS ?_ ?_ | with_reducible refine negII ?_ | with_reducible refine eqII ?_ | with_reducible refine eqSS ?_ | with_reducible refine eqBB ?_ | with_reducible refine neII ?_ | with_reducible refine neSS ?_ | with_reducible refine neBB ?_ | with_reducible refine isNN ?_ | with_reducible refine isNotNN ?_ | with_reducible refine isBB ?_ | with_reducible refine isNotBB ?_ | with_reducible refine lenTI ?_ | with_reducible refine lenFI ?_ | with_reducible refine intII ?_ | with_reducible refine intBI ?_ | with_reducible refine tupTI ?_ | with_reducible refine minII ?_ | with_reducible refine maxII ?_ | with_reducible refine slTI ?_ | with_reducible refine gcI ?_ | with_reducible refine gnI ?_ | with_reducible refine aNI ?_ | ((with_reducible refine ttI ?_ ?_); exact rfl) | ((with_reducible refine And.intro ?_ ?_); exact rfl) | ((with_reducible refine And.intro ?_ ?_); exact lenOk rfl) | dsimp only [En.s]))
    refine ixTI (d := .int (pages : Nat)) rfl ?_
    (repeat (first | with_reducible refine seqI ?_ | with_reducible refine setI ?_ | with_reducible refine asgI ?_ | with_reducible refine retI ?_ | with_reducible refine opI ?_ | with_reducible refine callI ?_ | with_reducible refine consI ?_ | with_reducible refine cI ?_ | with_reducible refine nilI ?_ | ((with_reducible apply varI); exact rfl) | with_reducible refine cbI ?_ | with_reducible refine ifI ?_ | with_reducible refine tstI ?_ | with_reducible refine notTI ?_ | with_reducible refine andTI ?_ | with_reducible refine orTI ?_ | with_reducible refine dropI ?_ | with_reducible refine nextI ?_ | with_reducible refine tupI ?_ | with_reducible refine lstI ?_ | with_reducible refine starI ?_ | with_reducible refine starTT ?_ | with_reducible refine andI ?_ | with_reducible refine orVI ?_ | with_reducible refine notI ?_ | with_reducible refine ifEI ?_ | with_reducible refine forI ?_ | with_reducible refine r1I ?_ | with_reducible refine ir2I ?_ | with_reducible refine iTupI ?_ | with_reducible refine truI ?_ | with_reducible refine chainI ?_ | with_reducible refine lcI ?_ | with_reducible refine slI ?_ | with_reducible refine noPI ?_ | with_reducible refine ptI ?_ | with_reducible refine unI ?_ | with_reducible refine brkI ?_ | with_reducible refine cntI ?_ | with_reducible refine retNI ?_ | with_reducible refine addII ?_ | with_reducible refine rI0 ?_ | with_reducible refine rIC ?_ ?_ | with_reducible refine mulII ?_ ?_ | with_reducible refine addTT ?_ ?_ | with_reducible refine addSS ?_ ?_ | with_reducible refine negII ?_ | with_reducible refine eqII ?_ | with_reducible refine eqSS ?_ | with_reducible refine eqBB ?_ | with_reducible refine neII ?_ | with_reducible refine neSS ?_ | with_reducible refine neBB ?_ | with_reducible refine isNN ?_ | with_reducible refine isNotNN ?_ | with_reducible refine isBB ?_ | with_reducible refine isNotBB ?_ | with_reducible refine lenTI ?_ | with_reducible refine lenFI ?_ | with_reducible refine intII ?_ | with_reducible refine intBI ?_ | with_reducible refine tupTI ?_ | with_reducible refine minII ?_ | with_reducible refine maxII ?_ | with_reducible refine slTI ?_ | with_reducible refine gcI ?_ | with_reducible refine gnI ?_ | with_reducible refine aNI ?_ | ((with_reducible refine ttI ?_ ?_); exact rfl) | ((with_reducible refine And.intro ?_ ?_); exact rfl) | ((with_reducible refine And.intro ?_ ?_); exact lenOk rfl) | dsimp only [En.s]))
    refine ixTI (d := .int (ring : Nat)) rfl ?_
    (repeat (first | with_reducible refine seqI ?_ | with_reducible refine setI ?_ | with_reducible refine asgI ?_ | with_reducible refine retI ?_ | with_reducible refine opI ?_ | with_reducible refine callI ?_ | with_reducible refine consI ?_ | with_reducible refine cI ?_ | with_reducible refine nilI ?_ | ((with_reducible apply varI); exact rfl) | with_reducible refine cbI ?_ | with_reducible refine ifI ?_ | with_reducible refine tstI ?_ | with_reducible refine notTI ?_ | with_reducible refine andTI ?_ | with_reducible refine orTI ?_ | with_reducible refine dropI ?_ | with_reducible refine nextI ?_ | with_reducible refine tupI ?_ | with_reducible refine lstI ?_ | with_reducible refine starI ?_ | with_reducible refine starTT ?_ | with_reducible refine andI ?_ | with_reducible refine orVI ?_ | with_reducible refine notI ?_ | with_reducible refine ifEI ?_ | with_reducible refine forI ?_ | with_reducible refine r1I ?_ | with_reducible refine ir2I ?_ | with_reducible refine iTupI ?_ | with_reducible refine truI ?_ | with_reducible refine chainI ?_ | with_reducible refine lcI ?_ | with_reducible refine slI ?_ | with_reducible refine noPI ?_ | with_reducible refine ptI ?_ | with_reducible refine unI ?_ | with_reducible refine brkI ?_ | with_reducible refine cntI ?_ | with_reducible refine retNI ?_ | with_reducible refine addII ?_ | with_reducible refine rI0 ?_ | with_reducible refine rIC ?_ ?_ | with_reducible refine mulII ?_ ?_ | with_reducible refine addTT ?_ ?_ | with_reducible refine addSS ?_ ?_ | with_reducible refine negII ?_ | with_reducible refine eqII ?_ | with_reducible refine eqSS ?_ | with_reducible refine eqBB ?_ | with_reducible refine neII ?_ | with_reducible refine neSS ?_ | with_reducible refine neBB ?_ | with_reducible refine isNN ?_ | with_reducible refine isNotNN ?_ | with_reducible refine isBB ?_ | with_reducible refine isNotBB ?_ | with_reducible refine lenTI ?_ | with_reducible refine lenFI ?_ | with_reducible refine intII ?_ | with_reducible refine intBI ?_ | with_reducible refine tupTI ?_ | with_reducible refine minII ?_ | with_reducible refine maxII ?_ | with_reducible refine slTI ?_ | with_reducible refine gcI ?_ | with_reducible refine gnI ?_ | with_reducible refine aNI ?_ | ((with_reducible refine ttI ?_ ?_); exact rfl) | ((with_reducible refine And.intro ?_ ?_); exact rfl) | ((with_reducible refine And.intro ?_ ?_); exact lenOk rfl) | dsimp only [En.s]))
    have hk : (if (ring : Int) < 3 then (ring : Int) else 3) = ((min 3 ring : Nat) : Int) := by split <;> omega
    rw [hk]
    exact lawBatch hj.1 hp1 hp2 (by omega) (by omega) fun b m3 hb hr3 v3 => q' _ m3 ⟨b, hb, rfl⟩ hr3 v3
  · obtain ⟨bs, rfl, hbs, hbl⟩ := F2_bts hf
    have hbl' : bs.length ≤ most := by rw [hbl]; simp [rngD]; omega
    (repeat (first | with_reducible refine seqI ?_ | with_reducible refine setI ?_ | with_reducible refine asgI ?_ | with_reducible refine retI ?_ | with_reducible refine opI ?_ | with_reducible refine callI ?_ | with_reducible refine consI ?_ | with_reducible refine cI ?_ | with_reducible refine nilI ?_ | ((with_reducible apply varI); exact rfl) | with_reducible refine cbI ?_ | with_reducible refine ifI ?_ | with_reducible refine tstI ?_ | with_reducible refine notTI ?_ | with_reducible refine andTI ?_ | with_reducible refine orTI ?_ | with_reducible refine dropI ?_ | with_reducible refine nextI ?_ | with_reducible refine tupI ?_ | with_reducible refine lstI ?_ | with_reducible refine starI ?_ | with_reducible refine starTT ?_ | with_reducible refine andI ?_ | with_reducible refine orVI ?_ | with_reducible refine notI ?_ | with_reducible refine ifEI ?_ | with_reducible refine forI ?_ | with_reducible refine r1I ?_ | with_reducible refine ir2I ?_ | with_reducible refine iTupI ?_ | with_reducible refine truI ?_ | with_reducible refine chainI ?_ | with_reducible refine lcI ?_ | with_reducible refine slI ?_ | with_reducible refine noPI ?_ | with_reducible refine ptI ?_ | with_reducible refine unI ?_ | with_reducible refine brkI ?_ | with_reducible refine cntI ?_ | with_reducible refine retNI ?_ | with_reducible refine addII ?_ | with_reducible refine rI0 ?_ | with_reducible refine rIC ?_ ?_ | with_reducible refine mulII ?_ ?_ | with_reducible refine addTT ?_ ?_ | with_reducible refine addSS ?_ ?_ | with_reducible refine negII ?_ | with_reducible refine eqII ?_ | with_reducible refine eqSS ?_ | with_reducible refine eqBB ?_ | with_reducible refine neII ?_ | with_reducible refine neSS ?_ | with_reducible refine neBB ?_ | with_reducible refine isNN ?_ | with_reducible refine isNotNN ?_ | with_reducible refine isBB ?_ | with_reducible refine isNotBB ?_ | with_reducible refine lenTI ?_ | with_reducible refine lenFI ?_ | with_reducible refine intII ?_ | with_reducible refine intBI ?_ | with_reducible refine tupTI ?_ | with_reducible refine minII ?_ | with_reducible refine maxII ?_ | with_reducible refine slTI ?_ | with_reducible refine gcI ?_ | with_reducible refine gnI ?_ | with_reducible refine aNI ?_ | ((with_reducible refine ttI ?_ ?_); exact rfl) | ((with_reducible refine And.intro ?_ ?_); exact rfl) | ((with_reducible refine And.intro ?_ ?_); exact lenOk rfl) | dsimp only [En.s]))
    refine iLstI rfl hm2' ?_
    intro p3 hp3
    refine lc_s (Pd := fun x y => ∃ b, BtOk pages (min pages (min 3 ring)) 3 b ∧ y = btD b) hp3 (fun m' s => s _ _ hm2') (fun x hx m3 Q' s3 q' => ?_) (fun l m3 hf hs3 hm3 => ?_) (by simp; omega)
    · obtain ⟨b, hb, rfl⟩ := List.mem_map.mp hx
      have hb0 := hbs b hb
      unfold btD
      (repeat (first | with_reducible refine seqI ?_ | with_reducible refine setI ?_ | with_reducible refine asgI ?_ | with_reducible refine retI ?_ | with_reducible refine opI ?_ | with_reducible refine callI ?_ | with_reducible refine consI ?_ | with_reducible refine cI ?_ | with_reducible refine nilI ?_ | ((with_reducible apply varI); exact rfl) | with_reducible refine cbI ?_ | with_reducible refine ifI ?_ | with_reducible refine tstI ?_ | with_reducible refine notTI ?_ | with_reducible refine andTI ?_ | with_reducible refine orTI ?_ | with_reducible refine dropI ?_ | with_reducible refine nextI ?_ | with_reducible refine tupI ?_ | with_reducible refine lstI ?_ | with_reducible refine starI ?_ | with_reducible refine starTT ?_ | with_reducible refine andI ?_ | with_reducible refine orVI ?_ | with_reducible refine notI ?_ | with_reducible refine ifEI ?_ | with_reducible refine forI ?_ | with_reducible refine r1I ?_ | with_reducible refine ir2I ?_ | with_reducible refine iTupI ?_ | with_reducible refine truI ?_ | with_reducible refine chainI ?_ | with_reducible refine lcI ?_ | with_reducible refine slI ?_ | with_reducible refine noPI ?_ | with_reducible refine ptI ?_ | with_reducible refine unI ?_ | with_reducible refine brkI ?_ | with_reducible refine cntI ?_ | with_reducible refine retNI ?_ | with_reducible refine addII ?_ | with_reducible refine rI0 ?_ | with_reducible refine rIC ?_ ?_ | with_reducible refine mulII ?_ ?_ | with_reducible refine addTT ?_ ?_ | with_reducible refine addSS ?_ ?_ | with_reducible refine negII ?_ | with_reducible refine eqII ?_ | with_reducible refine eqSS ?_ | with_reducible refine eqBB ?_ | with_reducible refine neII ?_ | with_reducible refine neSS ?_ | with_reducible refine neBB ?_ | with_reducible refine isNN ?_ | with_reducible refine isNotNN ?_ | with_reducible refine isBB ?_ | with_reducible refine isNotBB ?_ | with_reducible refine lenTI ?_ | with_reducible refine lenFI ?_ | with_reducible refine intII ?_ | with_reducible refine intBI ?_ | with_reducible refine tupTI ?_ | with_reducible refine minII ?_ | with_reducible refine maxII ?_ | with_reducible refine slTI ?_ | with_reducible refine gcI ?_ | with_reducible refine gnI ?_ | with_reducible refine aNI ?_ | ((with_reducible refine ttI ?_ ?_); exact rfl) | ((with_reducible refine And.intro ?_ ?_); exact rfl) | ((with_reducible refine And.intro ?_ ?_); exact lenOk rfl) | dsimp only [En.s]))
      intro p4 hp4
      refine lc_as (Ps := fun _ => False) (Pd := fun x y => ∀ p, x = prD p → y = prD (p.1, p.2.take 3)) hp4 (fun _ _ => trivial) (fun x hx m4 S Q'' s4 _ q2 => ?_) (fun l m4 hf hs4 hm4 => ?_) (by have := hb0.len; simp; omega)
      · obtain ⟨pp, hpp, rfl⟩ := List.mem_map.mp hx
        unfold prD
        refine ⟨rfl, ?_⟩
        (repeat (first | with_reducible refine seqI ?_ | with_reducible refine setI ?_ | with_reducible refine asgI ?_ | with_reducible refine retI ?_ | with_reducible refine opI ?_ | with_reducible refine callI ?_ | with_reducible refine consI ?_ | with_reducible refine cI ?_ | with_reducible refine nilI ?_ | ((with_reducible apply varI); exact rfl) | with_reducible refine cbI ?_ | with_reducible refine ifI ?_ | with_reducible refine tstI ?_ | with_reducible refine notTI ?_ | with_reducible refine andTI ?_ | with_reducible refine orTI ?_ | with_reducible refine dropI ?_ | with_reducible refine nextI ?_ | with_reducible refine tupI ?_ | with_reducible refine lstI ?_ | with_reducible refine starI ?_ | with_reducible refine starTT ?_ | with_reducible refine andI ?_ | with_reducible refine orVI ?_ | with_reducible refine notI ?_ | with_reducible refine ifEI ?_ | with_reducible refine forI ?_ | with_reducible refine r1I ?_ | with_reducible refine ir2I ?_ | with_reducible refine iTupI ?_ | with_reducible refine truI ?_ | with_reducible refine chainI ?_ | with_reducible refine lcI ?_ | with_reducible refine slI ?_ | with_reducible refine noPI ?_ | with_reducible refine ptI ?_ | with_reducible refine unI ?_ | with_reducible refine brkI ?_ | with_reducible refine cntI ?_ | with_reducible refine retNI ?_ | with_reducible refine addII ?_ | with_reducible refine rI0 ?_ | with_reducible refine rIC ?_ ?_ | with_reducible refine mulII ?_ ?_ | with_reducible refine addTT ?_ ?_ | with_reducible refine addSS ?_ ?_ | with_reducible refine negII ?_ | with_reducible refine eqII ?_ | with_reducible refine eqSS ?_ | with_reducible refine eqBB ?_ | with_reducible refine neII ?_ | with_reducible refine neSS ?_ | with_reducible refine neBB ?_ | with_reducible refine isNN ?_ | with_reducible refine isNotNN ?_ | with_reducible refine isBB ?_ | with_reducible refine isNotBB ?_ | with_reducible refine lenTI ?_ | with_reducible refine lenFI ?_ | with_reducible refine intII ?_ | with_reducible refine intBI ?_ | with_reducible refine tupTI ?_ | with_reducible refine minII ?_ | with_reducible refine maxII ?_ | with_reducible refine slTI ?_ | with_reducible refine gcI ?_ | with_reducible refine gnI ?_ | with_reducible refine aNI ?_ | ((with_reducible refine ttI ?_ ?_); exact rfl) | ((with_reducible refine And.intro ?_ ?_); exact rfl) | ((with_reducible refine And.intro ?_ ?_); exact lenOk rfl) | dsimp only [En.s]))
        refine yesI ?_
        rw [if_pos rfl]
        (repeat (first | with_reducible refine seqI ?_ | with_reducible refine setI ?_ | with_reducible refine asgI ?_ | with_reducible refine retI ?_ | with_reducible refine opI ?_ | with_reducible refine callI ?_ | with_reducible refine consI ?_ | with_reducible refine cI ?_ | with_reducible refine nilI ?_ | ((with_reducible apply varI); exact rfl) | with_reducible refine cbI ?_ | with_reducible refine ifI ?_ | with_reducible refine tstI ?_ | with_reducible refine notTI ?_ | with_reducible refine andTI ?_ | with_reducible refine orTI ?_ | with_reducible refine dropI ?_ | with_reducible refine nextI ?_ | with_reducible refine tupI ?_ | with_reducible refine lstI ?_ | with_reducible refine starI ?_ | with_reducible refine starTT ?_ | with_reducible refine andI ?_ | with_reducible refine orVI ?_ | with_reducible refine notI ?_ | with_reducible refine ifEI ?_ | with_reducible refine forI ?_ | with_reducible refine r1I ?_ | with_reducible refine ir2I ?_ | with_reducible refine iTupI ?_ | with_reducible refine truI ?_ | with_reducible refine chainI ?_ | with_reducible refine lcI ?_ | with_reducible refine slI ?_ | with_reducible refine noPI ?_ | with_reducible refine ptI ?_ | with_reducible refine unI ?_ | with_reducible refine brkI ?_ | with_reducible refine cntI ?_ | with_reducible refine retNI ?_ | with_reducible refine addII ?_ | with_reducible refine rI0 ?_ | with_reducible refine rIC ?_ ?_ | with_reducible refine mulII ?_ ?_ | with_reducible refine addTT ?_ ?_ | with_reducible refine addSS ?_ ?_ | with_reducible refine negII ?_ | with_reducible refine eqII ?_ | with_reducible refine eqSS ?_ | with_reducible refine eqBB ?_ | with_reducible refine neII ?_ | with_reducible refine neSS ?_ | with_reducible refine neBB ?_ | with_reducible refine isNN ?_ | with_reducible refine isNotNN ?_ | with_reducible refine isBB ?_ | with_reducible refine isNotBB ?_ | with_reducible refine lenTI ?_ | with_reducible refine lenFI ?_ | with_reducible refine intII ?_ | with_reducible refine intBI ?_ | with_reducible refine tupTI ?_ | with_reducible refine minII ?_ | with_reducible refine maxII ?_ | with_reducible refine slTI ?_ | with_reducible refine gcI ?_ | with_reducible refine gnI ?_ | with_reducible refine aNI ?_ | ((with_reducible refine ttI ?_ ?_); exact rfl) | ((with_reducible refine And.intro ?_ ?_); exact rfl) | ((with_reducible refine And.intro ?_ ?_); exact lenOk rfl) | dsimp only [En.s]))
        refine q2 _ _ (fun p' hp' => ?_) (Ab.Sub.refl _)
        rw [← prD_inj (show prD pp = prD p' from hp')]
        unfold prD
        rw [show (3 : Int) = ((3 : Nat) : Int) from rfl, cut3]
      · have e := FS_tr hf
        subst e
        (repeat (first | with_reducible refine seqI ?_ | with_reducible refine setI ?_ | with_reducible refine asgI ?_ | with_reducible refine retI ?_ | with_reducible refine opI ?_ | with_reducible refine callI ?_ | with_reducible refine consI ?_ | with_reducible refine cI ?_ | with_reducible refine nilI ?_ | ((with_reducible apply varI); exact rfl) | with_reducible refine cbI ?_ | with_reducible refine ifI ?_ | with_reducible refine tstI ?_ | with_reducible refine notTI ?_ | with_reducible refine andTI ?_ | with_reducible refine orTI ?_ | with_reducible refine dropI ?_ | with_reducible refine nextI ?_ | with_reducible refine tupI ?_ | with_reducible refine lstI ?_ | with_reducible refine starI ?_ | with_reducible refine starTT ?_ | with_reducible refine andI ?_ | with_reducible refine orVI ?_ | with_reducible refine notI ?_ | with_reducible refine ifEI ?_ | with_reducible refine forI ?_ | with_reducible refine r1I ?_ | with_reducible refine ir2I ?_ | with_reducible refine iTupI ?_ | with_reducible refine truI ?_ | with_reducible refine chainI ?_ | with_reducible refine lcI ?_ | with_reducible refine slI ?_ | with_reducible refine noPI ?_ | with_reducible refine ptI ?_ | with_reducible refine unI ?_ | with_reducible refine brkI ?_ | with_reducible refine cntI ?_ | with_reducible refine retNI ?_ | with_reducible refine addII ?_ | with_reducible refine rI0 ?_ | with_reducible refine rIC ?_ ?_ | with_reducible refine mulII ?_ ?_ | with_reducible refine addTT ?_ ?_ | with_reducible refine addSS ?_ ?_ | with_reducible refine negII ?_ | with_reducible refine eqII ?_ | with_reducible refine eqSS ?_ | with_reducible refine eqBB ?_ | with_reducible refine neII ?_ | with_reducible refine neSS ?_ | with_reducible refine neBB ?_ | with_reducible refine isNN ?_ | with_reducible refine isNotNN ?_ | with_reducible refine isBB ?_ | with_reducible refine isNotBB ?_ | with_reducible refine lenTI ?_ | with_reducible refine lenFI ?_ | with_reducible refine intII ?_ | with_reducible refine intBI ?_ | with_reducible refine tupTI ?_ | with_reducible refine minII ?_ | with_reducible refine maxII ?_ | with_reducible refine slTI ?_ | with_reducible refine gcI ?_ | with_reducible refine gnI ?_ | with_reducible refine aNI ?_ | ((with_reducible refine ttI ?_ ?_); exact rfl) | ((with_reducible refine And.intro ?_ ?_); exact rfl) | ((with_reducible refine And.intro ?_ ?_); exact lenOk rfl) | dsimp only [En.s]))
        refine tupRI (l_of hm4) ?_
        exact q' _ m4 ⟨tr3 b, tr3_ok hb0, rfl⟩ hs4
    · obtain ⟨cs, rfl, hcs, hcl⟩ := F2_bts hf
      (repeat (first | with_reducible refine seqI ?_ | with_reducible refine setI ?_ | with_reducible refine asgI ?_ | with_reducible refine retI ?_ | with_reducible refine opI ?_ | with_reducible refine callI ?_ | with_reducible refine consI ?_ | with_reducible refine cI ?_ | with_reducible refine nilI ?_ | ((with_reducible apply varI); exact rfl) | with_reducible refine cbI ?_ | with_reducible refine ifI ?_ | with_reducible refine tstI ?_ | with_reducible refine notTI ?_ | with_reducible refine andTI ?_ | with_reducible refine orTI ?_ | with_reducible refine dropI ?_ | with_reducible refine nextI ?_ | with_reducible refine tupI ?_ | with_reducible refine lstI ?_ | with_reducible refine starI ?_ | with_reducible refine starTT ?_ | with_reducible refine andI ?_ | with_reducible refine orVI ?_ | with_reducible refine notI ?_ | with_reducible refine ifEI ?_ | with_reducible refine forI ?_ | with_reducible refine r1I ?_ | with_reducible refine ir2I ?_ | with_reducible refine iTupI ?_ | with_reducible refine truI ?_ | with_reducible refine chainI ?_ | with_reducible refine lcI ?_ | with_reducible refine slI ?_ | with_reducible refine noPI ?_ | with_reducible refine ptI ?_ | with_reducible refine unI ?_ | with_reducible refine brkI ?_ | with_reducible refine cntI ?_ | with_reducible refine retNI ?_ | with_reducible refine addII ?_ | with_reducible refine rI0 ?_ | with_reducible refine rIC ?_ ?_ | with_reducible refine mulII ?_ ?_ | with_reducible refine addTT ?_ ?_ | with_reducible refine addSS ?_ ?_ | with_reducible refine negII ?_ | with_reducible refine eqII ?_ | with_reducible refine eqSS ?_ | with_reducible refine eqBB ?_ | with_reducible refine neII ?_ | with_reducible refine neSS ?_ | with_reducible refine neBB ?_ | with_reducible refine isNN ?_ | with_reducible refine isNotNN ?_ | with_reducible refine isBB ?_ | with_reducible refine isNotBB ?_ | with_reducible refine lenTI ?_ | with_reducible refine lenFI ?_ | with_reducible refine intII ?_ | with_reducible refine intBI ?_ | with_reducible refine tupTI ?_ | with_reducible refine minII ?_ | with_reducible refine maxII ?_ | with_reducible refine slTI ?_ | with_reducible refine gcI ?_ | with_reducible refine gnI ?_ | with_reducible refine aNI ?_ | ((with_reducible refine ttI ?_ ?_); exact rfl) | ((with_reducible refine And.intro ?_ ?_); exact rfl) | ((with_reducible refine And.intro ?_ ?_); exact lenOk rfl) | dsimp only [En.s]))
      refine tupRI (l_of hm3) ?_
      refine ⟨_, Ab.Sub.refl _, q cs m3 (by rw [hcl]; simpa using hbl') hcs ?_ ?_⟩
      · obtain ⟨i, s', k, a, b, c, d, e⟩ := hr2
        exact ⟨i, s', k, a, b, c, d, hs3 _ _ e⟩
      · exact v1.trans (ev2.trans fun a o _ h => hs3 a o h)
end
end K32

set_option linter.all false
set_option maxRecDepth 100000
set_option maxHeartbeats 2000000
namespace K32
open PySem PySem.Spec PyProof.Rows L2 Ab
def spD (S : List Nat) : D := .tup (iD S)
theorem addTTn {ds es : List D} {m : M} {Q : PQ} (c : ds.length + es.length ≤ 100000) (h : Q (.tup (ds ++ es)) m) : rAddA (.tup ds) (.tup es) m Q := ⟨c, h⟩
section
variable {m : M}
theorem inS {i : Nat} {S : List Nat} {Q : PQ} (h : Q (.bl (S.contains i)) m) : rInXA (.int (i : Nat)) (.tup (iD S)) m Q := by
  obtain ⟨a, b⟩ := inInts (i := i) (S := S) m Q (iD S) rfl
  exact .inl ⟨a, by rw [b]; exact h⟩
theorem inSl {i : Nat} {S : List Nat} {a : Addr} {Q : PQ} (hl : m.l a = some (iD S)) (h : Q (.bl (S.contains i)) m) : rInXA (.int (i : Nat)) (.ref a) m Q := by
  obtain ⟨x, b⟩ := inInts (i := i) (S := S) m Q (iD S) rfl
  show (match m.l a with | some ds => _ | none => False)
  rw [hl]
  exact .inl ⟨x, by rw [b]; exact h⟩
theorem FS_all {α : Type} {f : α → D} {g : α → D} (hf : ∀ a b, f a = f b → a = b) : ∀ {as : List α} {l : List D}, FS (fun _ : D => False) (fun x y => ∀ a, x = f a → y = g a) (as.map f) l → l = as.map g
  | [], _, h => by cases h; rfl
  | a :: as, _, h => by
    cases h with
    | skip a _ => exact a.elim
    | keep z r => rw [z a rfl, FS_all hf r]; rfl
theorem spD_inj (a b : List Nat) (h : spD a = spD b) : a = b := by
  unfold spD at h
  injection h with h
  exact iD_inj h
theorem ways_loop {A : AEnds} {n : D} {gd : M → Prop} {m0 : M} (hgd : ∀ m, gd m) : ∀ (k lo : Nat) (m : M) (pf : Addr) (x2 x3 : Option D), lo + k ≤ 8 → Ab.Sub m0 m → m pf = some (.lst ((ways lo).map spD)) →
    (∀ m' p y2, Ab.Sub m0 m' → m' p = some (.lst ((ways (lo + k)).map spD)) → A.nx [some n, some (.ref p), y2, x3] m') →
    forL (aN 2) bl_f_law_ways_0 gd (rngD ((lo : Int) + 1) k) A [some n, some (.ref pf), x2, x3] m
  | 0, lo, m, pf, x2, x3, hl, hs, hm, q => by
    rw [rngD_zero]
    exact ⟨hgd _, q m pf x2 hs hm⟩
  | k + 1, lo, m, pf, x2, x3, hl, hs, hm, q => by
    have ih := fun m pf x2 x3 => ways_loop (A := A) (n := n) (gd := gd) (m0 := m0) hgd k (lo + 1) m pf x2 x3
    rw [rngD_succ]
    unfold forL
    refine ⟨hgd _, ?_⟩
    rw [show (lo : Int) + 1 + 1 = ((lo + 1 : Nat) : Int) + 1 by omega]
    generalize forL (aN 2) bl_f_law_ways_0 gd (rngD (((lo + 1 : Nat) : Int) + 1) k) A = X at ih ⊢
    unfold bl_f_law_ways_0
    (repeat (first | with_reducible refine seqI ?_ | with_reducible refine setI ?_ | with_reducible refine asgI ?_ | with_reducible refine retI ?_ | with_reducible refine opI ?_ | with_reducible refine callI ?_ | with_reducible refine consI ?_ | with_reducible refine cI ?_ | with_reducible refine nilI ?_ | ((with_reducible apply varI); exact rfl) | with_reducible refine cbI ?_ | with_reducible refine ifI ?_ | with_reducible refine tstI ?_ | with_reducible refine notTI ?_ | with_reducible refine andTI ?_ | with_reducible refine orTI ?_ | with_reducible refine dropI ?_ | with_reducible refine nextI ?_ | with_reducible refine tupI ?_ | with_reducible refine lstI ?_ | with_reducible refine starI ?_ | with_reducible refine starTT ?_ | with_reducible refine andI ?_ | with_reducible refine orVI ?_ | with_reducible refine notI ?_ | with_reducible refine ifEI ?_ | with_reducible refine forI ?_ | with_reducible refine r1I ?_ | with_reducible refine ir2I ?_ | with_reducible refine iTupI ?_ | with_reducible refine truI ?_ | with_reducible refine chainI ?_ | with_reducible refine lcI ?_ | with_reducible refine slI ?_ | with_reducible refine noPI ?_ | with_reducible refine ptI ?_ | with_reducible refine unI ?_ | with_reducible refine brkI ?_ | with_reducible refine cntI ?_ | with_reducible refine retNI ?_ | with_reducible refine addII ?_ | with_reducible refine rI0 ?_ | with_reducible refine rIC ?_ ?_ | with_reducible refine mulII ?_ ?_ | with_reducible refine addTT ?_ ?_ | with_reducible refine addSS ?_ ?_ | with_reducible refine negII ?_ | with_reducible refine eqII ?_ | with_reducible refine eqSS ?_ | with_reducible refine eqBB ?_ | with_reducible refine neII ?_ | with_reducible refine neSS ?_ | with_reducible refine neBB ?_ | with_reducible refine isNN ?_ | with_reducible refine isNotNN ?_ | with_reducible refine isBB ?_ | with_reducible refine isNotBB ?_ | with_reducible refine lenTI ?_ | with_reducible refine lenFI ?_ | with_reducible refine intII ?_ | with_reducible refine intBI ?_ | with_reducible refine tupTI ?_ | with_reducible refine minII ?_ | with_reducible refine maxII ?_ | with_reducible refine slTI ?_ | with_reducible refine gcI ?_ | with_reducible refine gnI ?_ | with_reducible refine aNI ?_ | ((with_reducible refine ttI ?_ ?_); exact rfl) | ((with_reducible refine And.intro ?_ ?_); exact rfl) | ((with_reducible refine And.intro ?_ ?_); exact lenOk rfl) | dsimp only [En.s]))
    refine iLstI rfl hm ?_
    intro p hp
    refine lc_as (Ps := fun _ => False) (Pd := fun x y => ∀ S, x = spD S → y = spD (S ++ [lo + 1])) hp (fun m' s => s _ _ hm) (fun x hx m1 S Q' s1 _ q2 => ?_) (fun l m1 hf hs1 hm1 => ?_) (by
      rw [List.length_map, ways_len]
      exact Nat.le_trans (Nat.pow_le_pow_right (by decide) (show lo ≤ 8 by omega)) (by decide))
    · obtain ⟨T, hT, rfl⟩ := List.mem_map.mp hx
      have hlen := (ways_in lo hT).2.2
      unfold spD
      (repeat (first | with_reducible refine seqI ?_ | with_reducible refine setI ?_ | with_reducible refine asgI ?_ | with_reducible refine retI ?_ | with_reducible refine opI ?_ | with_reducible refine callI ?_ | with_reducible refine consI ?_ | with_reducible refine cI ?_ | with_reducible refine nilI ?_ | ((with_reducible apply varI); exact rfl) | with_reducible refine cbI ?_ | with_reducible refine ifI ?_ | with_reducible refine tstI ?_ | with_reducible refine notTI ?_ | with_reducible refine andTI ?_ | with_reducible refine orTI ?_ | with_reducible refine dropI ?_ | with_reducible refine nextI ?_ | with_reducible refine tupI ?_ | with_reducible refine lstI ?_ | with_reducible refine starI ?_ | with_reducible refine starTT ?_ | with_reducible refine andI ?_ | with_reducible refine orVI ?_ | with_reducible refine notI ?_ | with_reducible refine ifEI ?_ | with_reducible refine forI ?_ | with_reducible refine r1I ?_ | with_reducible refine ir2I ?_ | with_reducible refine iTupI ?_ | with_reducible refine truI ?_ | with_reducible refine chainI ?_ | with_reducible refine lcI ?_ | with_reducible refine slI ?_ | with_reducible refine noPI ?_ | with_reducible refine ptI ?_ | with_reducible refine unI ?_ | with_reducible refine brkI ?_ | with_reducible refine cntI ?_ | with_reducible refine retNI ?_ | with_reducible refine addII ?_ | with_reducible refine rI0 ?_ | with_reducible refine rIC ?_ ?_ | with_reducible refine mulII ?_ ?_ | with_reducible refine addTT ?_ ?_ | with_reducible refine addSS ?_ ?_ | with_reducible refine negII ?_ | with_reducible refine eqII ?_ | with_reducible refine eqSS ?_ | with_reducible refine eqBB ?_ | with_reducible refine neII ?_ | with_reducible refine neSS ?_ | with_reducible refine neBB ?_ | with_reducible refine isNN ?_ | with_reducible refine isNotNN ?_ | with_reducible refine isBB ?_ | with_reducible refine isNotBB ?_ | with_reducible refine lenTI ?_ | with_reducible refine lenFI ?_ | with_reducible refine intII ?_ | with_reducible refine intBI ?_ | with_reducible refine tupTI ?_ | with_reducible refine minII ?_ | with_reducible refine maxII ?_ | with_reducible refine slTI ?_ | with_reducible refine gcI ?_ | with_reducible refine gnI ?_ | with_reducible refine aNI ?_ | ((with_reducible refine ttI ?_ ?_); exact rfl) | ((with_reducible refine And.intro ?_ ?_); exact rfl) | ((with_reducible refine And.intro ?_ ?_); exact lenOk rfl) | dsimp only [En.s]))
      refine yesI ?_
      rw [if_pos rfl]
      (repeat (first | with_reducible refine seqI ?_ | with_reducible refine setI ?_ | with_reducible refine asgI ?_ | with_reducible refine retI ?_ | with_reducible refine opI ?_ | with_reducible refine callI ?_ | with_reducible refine consI ?_ | with_reducible refine cI ?_ | with_reducible refine nilI ?_ | ((with_reducible apply varI); exact rfl) | with_reducible refine cbI ?_ | with_reducible refine ifI ?_ | with_reducible refine tstI ?_ | with_reducible refine notTI ?_ | with_reducible refine andTI ?_ | with_reducible refine orTI ?_ | with_reducible refine dropI ?_ | with_reducible refine nextI ?_ | with_reducible refine tupI ?_ | with_reducible refine lstI ?_ | with_reducible refine starI ?_ | with_reducible refine starTT ?_ | with_reducible refine andI ?_ | with_reducible refine orVI ?_ | with_reducible refine notI ?_ | with_reducible refine ifEI ?_ | with_reducible refine forI ?_ | with_reducible refine r1I ?_ | with_reducible refine ir2I ?_ | with_reducible refine iTupI ?_ | with_reducible refine truI ?_ | with_reducible refine chainI ?_ | with_reducible refine lcI ?_ | with_reducible refine slI ?_ | with_reducible refine noPI ?_ | with_reducible refine ptI ?_ | with_reducible refine unI ?_ | with_reducible refine brkI ?_ | with_reducible refine cntI ?_ | with_reducible refine retNI ?_ | with_reducible refine addII ?_ | with_reducible refine rI0 ?_ | with_reducible refine rIC ?_ ?_ | with_reducible refine mulII ?_ ?_ | with_reducible refine addTT ?_ ?_ | with_reducible refine addSS ?_ ?_ | with_reducible refine negII ?_ | with_reducible refine eqII ?_ | with_reducible refine eqSS ?_ | with_reducible refine eqBB ?_ | with_reducible refine neII ?_ | with_reducible refine neSS ?_ | with_reducible refine neBB ?_ | with_reducible refine isNN ?_ | with_reducible refine isNotNN ?_ | with_reducible refine isBB ?_ | with_reducible refine isNotBB ?_ | with_reducible refine lenTI ?_ | with_reducible refine lenFI ?_ | with_reducible refine intII ?_ | with_reducible refine intBI ?_ | with_reducible refine tupTI ?_ | with_reducible refine minII ?_ | with_reducible refine maxII ?_ | with_reducible refine slTI ?_ | with_reducible refine gcI ?_ | with_reducible refine gnI ?_ | with_reducible refine aNI ?_ | ((with_reducible refine ttI ?_ ?_); exact rfl) | ((with_reducible refine And.intro ?_ ?_); exact rfl) | ((with_reducible refine And.intro ?_ ?_); exact lenOk rfl) | dsimp only [En.s]))
      · refine q2 _ _ (fun T' h' => ?_) (Ab.Sub.refl _)
        rw [← spD_inj T T' h']
        show D.tup _ = D.tup _
        rw [iD_app]
        rfl
      · show (iD T).length + 1 ≤ 100000
        rw [iD_len]; omega
    · have e := FS_all (f := spD) (g := fun S => spD (S ++ [lo + 1])) spD_inj hf
      subst e
      have hmf := hs1 _ _ hm
      have e2 : (ways lo).map spD ++ (ways lo).map (fun S => spD (S ++ [lo + 1])) = (ways (lo + 1)).map spD := by
        rw [ways, List.map_append, List.map_map]; rfl
      refine addRI (l_of hmf) (l_of hm1) (by
        rw [List.length_map, List.length_map, ways_len]
        have : 2 ^ lo ≤ 2 ^ 8 := Nat.pow_le_pow_right (by decide) (by omega)
        omega) fun p3 hp3 => ?_
      rw [e2]
      refine ih _ p3 _ _ (by omega) ((hs.trans hs1).trans (Ab.Sub.new hp3)) (by rw [mset_same]) fun m' p y2 a b => q m' p y2 a (by rw [show lo + (k + 1) = lo + 1 + k by omega]; exact b)
theorem lawWays {n : Nat} {Q : PQ} {R : PX} (hn : n ≤ 6) (q : ∀ p m', Ab.Sub m m' → m' p = some (.lst ((ways n).map spD)) → Q (.ref p) m') : s_f_law_ways [.int (n : Nat)] m Q R := by
  refine ent_f_law_ways ?_
  unfold b_f_law_ways
  (repeat (first | with_reducible refine seqI ?_ | with_reducible refine setI ?_ | with_reducible refine asgI ?_ | with_reducible refine retI ?_ | with_reducible refine opI ?_ | with_reducible refine callI ?_ | with_reducible refine consI ?_ | with_reducible refine cI ?_ | with_reducible refine nilI ?_ | ((with_reducible apply varI); exact rfl) | with_reducible refine cbI ?_ | with_reducible refine ifI ?_ | with_reducible refine tstI ?_ | with_reducible refine notTI ?_ | with_reducible refine andTI ?_ | with_reducible refine orTI ?_ | with_reducible refine dropI ?_ | with_reducible refine nextI ?_ | with_reducible refine tupI ?_ | with_reducible refine lstI ?_ | with_reducible refine starI ?_ | with_reducible refine starTT ?_ | with_reducible refine andI ?_ | with_reducible refine orVI ?_ | with_reducible refine notI ?_ | with_reducible refine ifEI ?_ | with_reducible refine forI ?_ | with_reducible refine r1I ?_ | with_reducible refine ir2I ?_ | with_reducible refine iTupI ?_ | with_reducible refine truI ?_ | with_reducible refine chainI ?_ | with_reducible refine lcI ?_ | with_reducible refine slI ?_ | with_reducible refine noPI ?_ | with_reducible refine ptI ?_ | with_reducible refine unI ?_ | with_reducible refine brkI ?_ | with_reducible refine cntI ?_ | with_reducible refine retNI ?_ | with_reducible refine addII ?_ | with_reducible refine rI0 ?_ | with_reducible refine rIC ?_ ?_ | with_reducible refine mulII ?_ ?_ | with_reducible refine addTT ?_ ?_ | with_reducible refine addSS ?_ ?_ | with_reducible refine negII ?_ | with_reducible refine eqII ?_ | with_reducible refine eqSS ?_ | with_reducible refine eqBB ?_ | with_reducible refine neII ?_ | with_reducible refine neSS ?_ | with_reducible refine neBB ?_ | with_reducible refine isNN ?_ | with_reducible refine isNotNN ?_ | with_reducible refine isBB ?_ | with_reducible refine isNotBB ?_ | with_reducible refine lenTI ?_ | with_reducible refine lenFI ?_ | with_reducible refine intII ?_ | with_reducible refine intBI ?_ | with_reducible refine tupTI ?_ | with_reducible refine minII ?_ | with_reducible refine maxII ?_ | with_reducible refine slTI ?_ | with_reducible refine gcI ?_ | with_reducible refine gnI ?_ | with_reducible refine aNI ?_ | ((with_reducible refine ttI ?_ ?_); exact rfl) | ((with_reducible refine And.intro ?_ ?_); exact rfl) | ((with_reducible refine And.intro ?_ ?_); exact lenOk rfl) | dsimp only [En.s]))
  intro p hp
  (repeat (first | with_reducible refine seqI ?_ | with_reducible refine setI ?_ | with_reducible refine asgI ?_ | with_reducible refine retI ?_ | with_reducible refine opI ?_ | with_reducible refine callI ?_ | with_reducible refine consI ?_ | with_reducible refine cI ?_ | with_reducible refine nilI ?_ | ((with_reducible apply varI); exact rfl) | with_reducible refine cbI ?_ | with_reducible refine ifI ?_ | with_reducible refine tstI ?_ | with_reducible refine notTI ?_ | with_reducible refine andTI ?_ | with_reducible refine orTI ?_ | with_reducible refine dropI ?_ | with_reducible refine nextI ?_ | with_reducible refine tupI ?_ | with_reducible refine lstI ?_ | with_reducible refine starI ?_ | with_reducible refine starTT ?_ | with_reducible refine andI ?_ | with_reducible refine orVI ?_ | with_reducible refine notI ?_ | with_reducible refine ifEI ?_ | with_reducible refine forI ?_ | with_reducible refine r1I ?_ | with_reducible refine ir2I ?_ | with_reducible refine iTupI ?_ | with_reducible refine truI ?_ | with_reducible refine chainI ?_ | with_reducible refine lcI ?_ | with_reducible refine slI ?_ | with_reducible refine noPI ?_ | with_reducible refine ptI ?_ | with_reducible refine unI ?_ | with_reducible refine brkI ?_ | with_reducible refine cntI ?_ | with_reducible refine retNI ?_ | with_reducible refine addII ?_ | with_reducible refine rI0 ?_ | with_reducible refine rIC ?_ ?_ | with_reducible refine mulII ?_ ?_ | with_reducible refine addTT ?_ ?_ | with_reducible refine addSS ?_ ?_ | with_reducible refine negII ?_ | with_reducible refine eqII ?_ | with_reducible refine eqSS ?_ | with_reducible refine eqBB ?_ | with_reducible refine neII ?_ | with_reducible refine neSS ?_ | with_reducible refine neBB ?_ | with_reducible refine isNN ?_ | with_reducible refine isNotNN ?_ | with_reducible refine isBB ?_ | with_reducible refine isNotBB ?_ | with_reducible refine lenTI ?_ | with_reducible refine lenFI ?_ | with_reducible refine intII ?_ | with_reducible refine intBI ?_ | with_reducible refine tupTI ?_ | with_reducible refine minII ?_ | with_reducible refine maxII ?_ | with_reducible refine slTI ?_ | with_reducible refine gcI ?_ | with_reducible refine gnI ?_ | with_reducible refine aNI ?_ | ((with_reducible refine ttI ?_ ?_); exact rfl) | ((with_reducible refine And.intro ?_ ?_); exact rfl) | ((with_reducible refine And.intro ?_ ?_); exact lenOk rfl) | dsimp only [En.s]))
  refine ⟨by omega, ?_⟩
  rw [show ((n : Int) + 1 - 1).toNat = n by omega]
  refine ways_loop (m0 := m) (fun _ => trivial) n 0 _ p none none (by omega) (Ab.Sub.new hp) mset_same fun m' p' y2 hs hm => ?_
  (repeat (first | with_reducible refine seqI ?_ | with_reducible refine setI ?_ | with_reducible refine asgI ?_ | with_reducible refine retI ?_ | with_reducible refine opI ?_ | with_reducible refine callI ?_ | with_reducible refine consI ?_ | with_reducible refine cI ?_ | with_reducible refine nilI ?_ | ((with_reducible apply varI); exact rfl) | with_reducible refine cbI ?_ | with_reducible refine ifI ?_ | with_reducible refine tstI ?_ | with_reducible refine notTI ?_ | with_reducible refine andTI ?_ | with_reducible refine orTI ?_ | with_reducible refine dropI ?_ | with_reducible refine nextI ?_ | with_reducible refine tupI ?_ | with_reducible refine lstI ?_ | with_reducible refine starI ?_ | with_reducible refine starTT ?_ | with_reducible refine andI ?_ | with_reducible refine orVI ?_ | with_reducible refine notI ?_ | with_reducible refine ifEI ?_ | with_reducible refine forI ?_ | with_reducible refine r1I ?_ | with_reducible refine ir2I ?_ | with_reducible refine iTupI ?_ | with_reducible refine truI ?_ | with_reducible refine chainI ?_ | with_reducible refine lcI ?_ | with_reducible refine slI ?_ | with_reducible refine noPI ?_ | with_reducible refine ptI ?_ | with_reducible refine unI ?_ | with_reducible refine brkI ?_ | with_reducible refine cntI ?_ | with_reducible refine retNI ?_ | with_reducible refine addII ?_ | with_reducible refine rI0 ?_ | with_reducible refine rIC ?_ ?_ | with_reducible refine mulII ?_ ?_ | with_reducible refine addTT ?_ ?_ | with_reducible refine addSS ?_ ?_ | with_reducible refine negII ?_ | with_reducible refine eqII ?_ | with_reducible refine eqSS ?_ | with_reducible refine eqBB ?_ | with_reducible refine neII ?_ | with_reducible refine neSS ?_ | with_reducible refine neBB ?_ | with_reducible refine isNN ?_ | with_reducible refine isNotNN ?_ | with_reducible refine isBB ?_ | with_reducible refine isNotBB ?_ | with_reducible refine lenTI ?_ | with_reducible refine lenFI ?_ | with_reducible refine intII ?_ | with_reducible refine intBI ?_ | with_reducible refine tupTI ?_ | with_reducible refine minII ?_ | with_reducible refine maxII ?_ | with_reducible refine slTI ?_ | with_reducible refine gcI ?_ | with_reducible refine gnI ?_ | with_reducible refine aNI ?_ | ((with_reducible refine ttI ?_ ?_); exact rfl) | ((with_reducible refine And.intro ?_ ?_); exact rfl) | ((with_reducible refine And.intro ?_ ?_); exact lenOk rfl) | dsimp only [En.s]))
  refine ⟨_, Ab.Sub.refl _, q p' m' hs (by rw [Nat.zero_add] at hm; exact hm)⟩
end
end K32

set_option linter.all false
set_option maxRecDepth 100000
set_option maxHeartbeats 2000000
namespace K32
open PySem PySem.Spec PyProof.Rows L2 Ab
def ckD : D := .tup [.str "check"]
def wrD (b : Bt) : D := .tup [.str "write", btD b]
def dl (c : Nat → Bool) : Nat → List Bt → List D
  | _, [] => []
  | i, b :: bs => (if c i = true then [ckD] else []) ++ (wrD b :: dl c (i + 1) bs)
theorem dl_len (c : Nat → Bool) : ∀ (bs : List Bt) (i : Nat), (dl c i bs).length ≤ 2 * bs.length
  | [], _ => by simp [dl]
  | b :: bs, i => by
    have := dl_len c bs (i + 1)
    rw [dl]
    split <;> simp <;> omega
def endD (S : List Nat) (bs : List Bt) : List D := if S.contains bs.length = true ∧ bs ≠ [] then [ckD] else []
section
variable {m : M}
theorem okP (p : Nat × List Nat) : okN 2 (prD p) := fun d hd => by
  simp only [List.mem_cons, List.not_mem_nil, or_false] at hd
  rcases hd with e | e <;> subst e
  · trivial
  · intro d hd
    obtain ⟨n, _, rfl⟩ := List.mem_map.mp hd
    trivial
theorem okB (b : Bt) : okN 3 (btD b) := fun d hd => by
  obtain ⟨p, _, rfl⟩ := List.mem_map.mp hd
  exact okP p
theorem okC : okN 4 ckD := fun d hd => by
  simp only [List.mem_cons, List.not_mem_nil, or_false] at hd
  subst hd
  show PyData.strOk _ = true
  decide +kernel
theorem okW (b : Bt) : okN 4 (wrD b) := fun d hd => by
  simp only [List.mem_cons, List.not_mem_nil, or_false] at hd
  rcases hd with e | e <;> subst e
  · show PyData.strOk _ = true
    decide +kernel
  · exact okB b
theorem okDl (c : Nat → Bool) : ∀ (bs : List Bt) (i : Nat), ∀ d ∈ dl c i bs, okN 4 d
  | [], _, d, h => by simp [dl] at h
  | b :: bs, i, d, h => by
    rw [dl] at h
    rcases List.mem_append.mp h with h | h
    · split at h
      · simp at h; subst h; exact okC
      · simp at h
    · rcases List.mem_cons.mp h with h | h
      · subst h; exact okW b
      · exact okDl c bs (i + 1) d h
theorem wc_loop {A : AEnds} {x0 : Option D} {S : List Nat} {gd : M → Prop} (hgd : ∀ m, gd m) : ∀ (bs : List Bt) (i : Nat) (acc : List D) (x3 x4 : Option D), acc.length + 2 * bs.length ≤ 1000 →
    (∀ y3 y4, A.nx [x0, some (spD S), some (.tup (acc ++ dl (fun j => S.contains j) i bs)), y3, y4] m) →
    forL (aTT 2 (aGCons (aN 3) (aGCons (aN 4) (aGNil)))) bl_f_law_with_checks_0 gd (enL i (bs.map btD)) A [x0, some (spD S), some (.tup acc), x3, x4] m
  | [], i, acc, x3, x4, hl, q => ⟨hgd _, by have := q x3 x4; rwa [dl, List.append_nil] at this⟩
  | b :: bs, i, acc, x3, x4, hl, q => by
    have ih := fun acc x3 x4 => wc_loop (A := A) (x0 := x0) (S := S) (gd := gd) hgd bs (i + 1) acc x3 x4
    rw [List.map_cons, enL]
    unfold forL
    refine ⟨hgd _, rfl, ?_⟩
    generalize forL (aTT 2 (aGCons (aN 3) (aGCons (aN 4) (aGNil)))) bl_f_law_with_checks_0 gd (enL (i + 1) (bs.map btD)) A = X at ih ⊢
    unfold bl_f_law_with_checks_0
    (repeat (first | with_reducible refine seqI ?_ | with_reducible refine setI ?_ | with_reducible refine asgI ?_ | with_reducible refine retI ?_ | with_reducible refine opI ?_ | with_reducible refine callI ?_ | with_reducible refine consI ?_ | with_reducible refine cI ?_ | with_reducible refine nilI ?_ | ((with_reducible apply varI); exact rfl) | with_reducible refine cbI ?_ | with_reducible refine ifI ?_ | with_reducible refine tstI ?_ | with_reducible refine notTI ?_ | with_reducible refine andTI ?_ | with_reducible refine orTI ?_ | with_reducible refine dropI ?_ | with_reducible refine nextI ?_ | with_reducible refine tupI ?_ | with_reducible refine lstI ?_ | with_reducible refine starI ?_ | with_reducible refine starTT ?_ | with_reducible refine andI ?_ | with_reducible refine orVI ?_ | with_reducible refine notI ?_ | with_reducible refine ifEI ?_ | with_reducible refine forI ?_ | with_reducible refine r1I ?_ | with_reducible refine ir2I ?_ | with_reducible refine iTupI ?_ | with_reducible refine truI ?_ | with_reducible refine chainI ?_ | with_reducible refine lcI ?_ | with_reducible refine slI ?_ | with_reducible refine noPI ?_ | with_reducible refine ptI ?_ | with_reducible refine unI ?_ | with_reducible refine brkI ?_ | with_reducible refine cntI ?_ | with_reducible refine retNI ?_ | with_reducible refine addII ?_ | with_reducible refine rI0 ?_ | with_reducible refine rIC ?_ ?_ | with_reducible refine mulII ?_ ?_ | with_reducible refine addTT ?_ ?_ | with_reducible refine addSS ?_ ?_ | with_reducible refine negII ?_ | with_reducible refine eqII ?_ | with_reducible refine eqSS ?_ | with_reducible refine eqBB ?_ | with_reducible refine neII ?_ | with_reducible refine neSS ?_ | with_reducible refine neBB ?_ | with_reducible refine isNN ?_ | with_reducible refine isNotNN ?_ | with_reducible refine isBB ?_ | with_reducible refine isNotBB ?_ | with_reducible refine lenTI ?_ | with_reducible refine lenFI ?_ | with_reducible refine intII ?_ | with_reducible refine intBI ?_ | with_reducible refine tupTI ?_ | with_reducible refine minII ?_ | with_reducible refine maxII ?_ | with_reducible refine slTI ?_ | with_reducible refine gcI ?_ | with_reducible refine gnI ?_ | with_reducible refine aNI ?_ | ((with_reducible refine ttI ?_ ?_); exact rfl) | ((with_reducible refine And.intro ?_ ?_); exact rfl) | ((with_reducible refine And.intro ?_ ?_); exact lenOk rfl) | dsimp only [En.s]))
    unfold spD
    (repeat (first | with_reducible refine seqI ?_ | with_reducible refine setI ?_ | with_reducible refine asgI ?_ | with_reducible refine retI ?_ | with_reducible refine opI ?_ | with_reducible refine callI ?_ | with_reducible refine consI ?_ | with_reducible refine cI ?_ | with_reducible refine nilI ?_ | ((with_reducible apply varI); exact rfl) | with_reducible refine cbI ?_ | with_reducible refine ifI ?_ | with_reducible refine tstI ?_ | with_reducible refine notTI ?_ | with_reducible refine andTI ?_ | with_reducible refine orTI ?_ | with_reducible refine dropI ?_ | with_reducible refine nextI ?_ | with_reducible refine tupI ?_ | with_reducible refine lstI ?_ | with_reducible refine starI ?_ | with_reducible refine starTT ?_ | with_reducible refine andI ?_ | with_reducible refine orVI ?_ | with_reducible refine notI ?_ | with_reducible refine ifEI ?_ | with_reducible refine forI ?_ | with_reducible refine r1I ?_ | with_reducible refine ir2I ?_ | with_reducible refine iTupI ?_ | with_reducible refine truI ?_ | with_reducible refine chainI ?_ | with_reducible refine lcI ?_ | with_reducible refine slI ?_ | with_reducible refine noPI ?_ | with_reducible refine ptI ?_ | with_reducible refine unI ?_ | with_reducible refine brkI ?_ | with_reducible refine cntI ?_ | with_reducible refine retNI ?_ | with_reducible refine addII ?_ | with_reducible refine rI0 ?_ | with_reducible refine rIC ?_ ?_ | with_reducible refine mulII ?_ ?_ | with_reducible refine addTT ?_ ?_ | with_reducible refine addSS ?_ ?_ | with_reducible refine negII ?_ | with_reducible refine eqII ?_ | with_reducible refine eqSS ?_ | with_reducible refine eqBB ?_ | with_reducible refine neII ?_ | with_reducible refine neSS ?_ | with_reducible refine neBB ?_ | with_reducible refine isNN ?_ | with_reducible refine isNotNN ?_ | with_reducible refine isBB ?_ | with_reducible refine isNotBB ?_ | with_reducible refine lenTI ?_ | with_reducible refine lenFI ?_ | with_reducible refine intII ?_ | with_reducible refine intBI ?_ | with_reducible refine tupTI ?_ | with_reducible refine minII ?_ | with_reducible refine maxII ?_ | with_reducible refine slTI ?_ | with_reducible refine gcI ?_ | with_reducible refine gnI ?_ | with_reducible refine aNI ?_ | ((with_reducible refine ttI ?_ ?_); exact rfl) | ((with_reducible refine And.intro ?_ ?_); exact rfl) | ((with_reducible refine And.intro ?_ ?_); exact lenOk rfl) | dsimp only [En.s]))
    refine inS ?_
    rw [List.length_cons] at hl
    by_cases hc : S.contains i = true
    · refine bl_t hc ?_
      (repeat (first | with_reducible refine seqI ?_ | with_reducible refine setI ?_ | with_reducible refine asgI ?_ | with_reducible refine retI ?_ | with_reducible refine opI ?_ | with_reducible refine callI ?_ | with_reducible refine consI ?_ | with_reducible refine cI ?_ | with_reducible refine nilI ?_ | ((with_reducible apply varI); exact rfl) | with_reducible refine cbI ?_ | with_reducible refine ifI ?_ | with_reducible refine tstI ?_ | with_reducible refine notTI ?_ | with_reducible refine andTI ?_ | with_reducible refine orTI ?_ | with_reducible refine dropI ?_ | with_reducible refine nextI ?_ | with_reducible refine tupI ?_ | with_reducible refine lstI ?_ | with_reducible refine starI ?_ | with_reducible refine starTT ?_ | with_reducible refine andI ?_ | with_reducible refine orVI ?_ | with_reducible refine notI ?_ | with_reducible refine ifEI ?_ | with_reducible refine forI ?_ | with_reducible refine r1I ?_ | with_reducible refine ir2I ?_ | with_reducible refine iTupI ?_ | with_reducible refine truI ?_ | with_reducible refine chainI ?_ | with_reducible refine lcI ?_ | with_reducible refine slI ?_ | with_reducible refine noPI ?_ | with_reducible refine ptI ?_ | with_reducible refine unI ?_ | with_reducible refine brkI ?_ | with_reducible refine cntI ?_ | with_reducible refine retNI ?_ | with_reducible refine addII ?_ | with_reducible refine rI0 ?_ | with_reducible refine rIC ?_ ?_ | with_reducible refine mulII ?_ ?_ | with_reducible refine addTT ?_ ?_ | with_reducible refine addSS ?_ ?_ | with_reducible refine negII ?_ | with_reducible refine eqII ?_ | with_reducible refine eqSS ?_ | with_reducible refine eqBB ?_ | with_reducible refine neII ?_ | with_reducible refine neSS ?_ | with_reducible refine neBB ?_ | with_reducible refine isNN ?_ | with_reducible refine isNotNN ?_ | with_reducible refine isBB ?_ | with_reducible refine isNotBB ?_ | with_reducible refine lenTI ?_ | with_reducible refine lenFI ?_ | with_reducible refine intII ?_ | with_reducible refine intBI ?_ | with_reducible refine tupTI ?_ | with_reducible refine minII ?_ | with_reducible refine maxII ?_ | with_reducible refine slTI ?_ | with_reducible refine gcI ?_ | with_reducible refine gnI ?_ | with_reducible refine aNI ?_ | ((with_reducible refine ttI ?_ ?_); exact rfl) | ((with_reducible refine And.intro ?_ ?_); exact rfl) | ((with_reducible refine And.intro ?_ ?_); exact lenOk rfl) | dsimp only [En.s]))
      · refine ih _ _ _ (by simp; omega) fun y3 y4 => ?_
        have := q y3 y4
        rw [dl, if_pos hc] at this
        simpa [List.append_assoc, spD, ckD, wrD] using this
      all_goals (refine Nat.le_trans ?_ (show 1000 ≤ big by decide); simp; omega)
    · refine bl_f (by simpa using hc) ?_
      (repeat (first | with_reducible refine seqI ?_ | with_reducible refine setI ?_ | with_reducible refine asgI ?_ | with_reducible refine retI ?_ | with_reducible refine opI ?_ | with_reducible refine callI ?_ | with_reducible refine consI ?_ | with_reducible refine cI ?_ | with_reducible refine nilI ?_ | ((with_reducible apply varI); exact rfl) | with_reducible refine cbI ?_ | with_reducible refine ifI ?_ | with_reducible refine tstI ?_ | with_reducible refine notTI ?_ | with_reducible refine andTI ?_ | with_reducible refine orTI ?_ | with_reducible refine dropI ?_ | with_reducible refine nextI ?_ | with_reducible refine tupI ?_ | with_reducible refine lstI ?_ | with_reducible refine starI ?_ | with_reducible refine starTT ?_ | with_reducible refine andI ?_ | with_reducible refine orVI ?_ | with_reducible refine notI ?_ | with_reducible refine ifEI ?_ | with_reducible refine forI ?_ | with_reducible refine r1I ?_ | with_reducible refine ir2I ?_ | with_reducible refine iTupI ?_ | with_reducible refine truI ?_ | with_reducible refine chainI ?_ | with_reducible refine lcI ?_ | with_reducible refine slI ?_ | with_reducible refine noPI ?_ | with_reducible refine ptI ?_ | with_reducible refine unI ?_ | with_reducible refine brkI ?_ | with_reducible refine cntI ?_ | with_reducible refine retNI ?_ | with_reducible refine addII ?_ | with_reducible refine rI0 ?_ | with_reducible refine rIC ?_ ?_ | with_reducible refine mulII ?_ ?_ | with_reducible refine addTT ?_ ?_ | with_reducible refine addSS ?_ ?_ | with_reducible refine negII ?_ | with_reducible refine eqII ?_ | with_reducible refine eqSS ?_ | with_reducible refine eqBB ?_ | with_reducible refine neII ?_ | with_reducible refine neSS ?_ | with_reducible refine neBB ?_ | with_reducible refine isNN ?_ | with_reducible refine isNotNN ?_ | with_reducible refine isBB ?_ | with_reducible refine isNotBB ?_ | with_reducible refine lenTI ?_ | with_reducible refine lenFI ?_ | with_reducible refine intII ?_ | with_reducible refine intBI ?_ | with_reducible refine tupTI ?_ | with_reducible refine minII ?_ | with_reducible refine maxII ?_ | with_reducible refine slTI ?_ | with_reducible refine gcI ?_ | with_reducible refine gnI ?_ | with_reducible refine aNI ?_ | ((with_reducible refine ttI ?_ ?_); exact rfl) | ((with_reducible refine And.intro ?_ ?_); exact rfl) | ((with_reducible refine And.intro ?_ ?_); exact lenOk rfl) | dsimp only [En.s]))
      · refine ih _ _ _ (by simp; omega) fun y3 y4 => ?_
        have := q y3 y4
        rw [dl, if_neg hc] at this
        simpa [List.append_assoc, spD, ckD, wrD] using this
      all_goals (refine Nat.le_trans ?_ (show 1000 ≤ big by decide); simp; omega)
theorem withChecks {bs : List Bt} {S : List Nat} {Q : PQ} {R : PX} (hb : bs.length ≤ 100) (q : Q (.tup (dl (fun j => S.contains j) 0 bs ++ endD S bs)) m) : s_f_law_with_checks [.tup (bs.map btD), spD S] m Q R := by
  refine ent_f_law_with_checks ?_
  unfold b_f_law_with_checks
  (repeat (first | with_reducible refine seqI ?_ | with_reducible refine setI ?_ | with_reducible refine asgI ?_ | with_reducible refine retI ?_ | with_reducible refine opI ?_ | with_reducible refine callI ?_ | with_reducible refine consI ?_ | with_reducible refine cI ?_ | with_reducible refine nilI ?_ | ((with_reducible apply varI); exact rfl) | with_reducible refine cbI ?_ | with_reducible refine ifI ?_ | with_reducible refine tstI ?_ | with_reducible refine notTI ?_ | with_reducible refine andTI ?_ | with_reducible refine orTI ?_ | with_reducible refine dropI ?_ | with_reducible refine nextI ?_ | with_reducible refine tupI ?_ | with_reducible refine lstI ?_ | with_reducible refine starI ?_ | with_reducible refine starTT ?_ | with_reducible refine andI ?_ | with_reducible refine orVI ?_ | with_reducible refine notI ?_ | with_reducible refine ifEI ?_ | with_reducible refine forI ?_ | with_reducible refine r1I ?_ | with_reducible refine ir2I ?_ | with_reducible refine iTupI ?_ | with_reducible refine truI ?_ | with_reducible refine chainI ?_ | with_reducible refine lcI ?_ | with_reducible refine slI ?_ | with_reducible refine noPI ?_ | with_reducible refine ptI ?_ | with_reducible refine unI ?_ | with_reducible refine brkI ?_ | with_reducible refine cntI ?_ | with_reducible refine retNI ?_ | with_reducible refine addII ?_ | with_reducible refine rI0 ?_ | with_reducible refine rIC ?_ ?_ | with_reducible refine mulII ?_ ?_ | with_reducible refine addTT ?_ ?_ | with_reducible refine addSS ?_ ?_ | with_reducible refine negII ?_ | with_reducible refine eqII ?_ | with_reducible refine eqSS ?_ | with_reducible refine eqBB ?_ | with_reducible refine neII ?_ | with_reducible refine neSS ?_ | with_reducible refine neBB ?_ | with_reducible refine isNN ?_ | with_reducible refine isNotNN ?_ | with_reducible refine isBB ?_ | with_reducible refine isNotBB ?_ | with_reducible refine lenTI ?_ | with_reducible refine lenFI ?_ | with_reducible refine intII ?_ | with_reducible refine intBI ?_ | with_reducible refine tupTI ?_ | with_reducible refine minII ?_ | with_reducible refine maxII ?_ | with_reducible refine slTI ?_ | with_reducible refine gcI ?_ | with_reducible refine gnI ?_ | with_reducible refine aNI ?_ | ((with_reducible refine ttI ?_ ?_); exact rfl) | ((with_reducible refine And.intro ?_ ?_); exact rfl) | ((with_reducible refine And.intro ?_ ?_); exact lenOk rfl) | dsimp only [En.s]))
  refine enTI ?_
  (repeat (first | with_reducible refine seqI ?_ | with_reducible refine setI ?_ | with_reducible refine asgI ?_ | with_reducible refine retI ?_ | with_reducible refine opI ?_ | with_reducible refine callI ?_ | with_reducible refine consI ?_ | with_reducible refine cI ?_ | with_reducible refine nilI ?_ | ((with_reducible apply varI); exact rfl) | with_reducible refine cbI ?_ | with_reducible refine ifI ?_ | with_reducible refine tstI ?_ | with_reducible refine notTI ?_ | with_reducible refine andTI ?_ | with_reducible refine orTI ?_ | with_reducible refine dropI ?_ | with_reducible refine nextI ?_ | with_reducible refine tupI ?_ | with_reducible refine lstI ?_ | with_reducible refine starI ?_ | with_reducible refine starTT ?_ | with_reducible refine andI ?_ | with_reducible refine orVI ?_ | with_reducible refine notI ?_ | with_reducible refine ifEI ?_ | with_reducible refine forI ?_ | with_reducible refine r1I ?_ | with_reducible refine ir2I ?_ | with_reducible refine iTupI ?_ | with_reducible refine truI ?_ | with_reducible refine chainI ?_ | with_reducible refine lcI ?_ | with_reducible refine slI ?_ | with_reducible refine noPI ?_ | with_reducible refine ptI ?_ | with_reducible refine unI ?_ | with_reducible refine brkI ?_ | with_reducible refine cntI ?_ | with_reducible refine retNI ?_ | with_reducible refine addII ?_ | with_reducible refine rI0 ?_ | with_reducible refine rIC ?_ ?_ | with_reducible refine mulII ?_ ?_ | with_reducible refine addTT ?_ ?_ | with_reducible refine addSS ?_ ?_ | with_reducible refine negII ?_ | with_reducible refine eqII ?_ | with_reducible refine eqSS ?_ | with_reducible refine eqBB ?_ | with_reducible refine neII ?_ | with_reducible refine neSS ?_ | with_reducible refine neBB ?_ | with_reducible refine isNN ?_ | with_reducible refine isNotNN ?_ | with_reducible refine isBB ?_ | with_reducible refine isNotBB ?_ | with_reducible refine lenTI ?_ | with_reducible refine lenFI ?_ | with_reducible refine intII ?_ | with_reducible refine intBI ?_ | with_reducible refine tupTI ?_ | with_reducible refine minII ?_ | with_reducible refine maxII ?_ | with_reducible refine slTI ?_ | with_reducible refine gcI ?_ | with_reducible refine gnI ?_ | with_reducible refine aNI ?_ | ((with_reducible refine ttI ?_ ?_); exact rfl) | ((with_reducible refine And.intro ?_ ?_); exact rfl) | ((with_reducible refine And.intro ?_ ?_); exact lenOk rfl) | dsimp only [En.s]))
  refine wc_loop (S := S) (fun _ => trivial) bs 0 [] none none (by simp; omega) fun y3 y4 => ?_
  rw [List.nil_append]
  (repeat (first | with_reducible refine seqI ?_ | with_reducible refine setI ?_ | with_reducible refine asgI ?_ | with_reducible refine retI ?_ | with_reducible refine opI ?_ | with_reducible refine callI ?_ | with_reducible refine consI ?_ | with_reducible refine cI ?_ | with_reducible refine nilI ?_ | ((with_reducible apply varI); exact rfl) | with_reducible refine cbI ?_ | with_reducible refine ifI ?_ | with_reducible refine tstI ?_ | with_reducible refine notTI ?_ | with_reducible refine andTI ?_ | with_reducible refine orTI ?_ | with_reducible refine dropI ?_ | with_reducible refine nextI ?_ | with_reducible refine tupI ?_ | with_reducible refine lstI ?_ | with_reducible refine starI ?_ | with_reducible refine starTT ?_ | with_reducible refine andI ?_ | with_reducible refine orVI ?_ | with_reducible refine notI ?_ | with_reducible refine ifEI ?_ | with_reducible refine forI ?_ | with_reducible refine r1I ?_ | with_reducible refine ir2I ?_ | with_reducible refine iTupI ?_ | with_reducible refine truI ?_ | with_reducible refine chainI ?_ | with_reducible refine lcI ?_ | with_reducible refine slI ?_ | with_reducible refine noPI ?_ | with_reducible refine ptI ?_ | with_reducible refine unI ?_ | with_reducible refine brkI ?_ | with_reducible refine cntI ?_ | with_reducible refine retNI ?_ | with_reducible refine addII ?_ | with_reducible refine rI0 ?_ | with_reducible refine rIC ?_ ?_ | with_reducible refine mulII ?_ ?_ | with_reducible refine addTT ?_ ?_ | with_reducible refine addSS ?_ ?_ | with_reducible refine negII ?_ | with_reducible refine eqII ?_ | with_reducible refine eqSS ?_ | with_reducible refine eqBB ?_ | with_reducible refine neII ?_ | with_reducible refine neSS ?_ | with_reducible refine neBB ?_ | with_reducible refine isNN ?_ | with_reducible refine isNotNN ?_ | with_reducible refine isBB ?_ | with_reducible refine isNotBB ?_ | with_reducible refine lenTI ?_ | with_reducible refine lenFI ?_ | with_reducible refine intII ?_ | with_reducible refine intBI ?_ | with_reducible refine tupTI ?_ | with_reducible refine minII ?_ | with_reducible refine maxII ?_ | with_reducible refine slTI ?_ | with_reducible refine gcI ?_ | with_reducible refine gnI ?_ | with_reducible refine aNI ?_ | ((with_reducible refine ttI ?_ ?_); exact rfl) | ((with_reducible refine And.intro ?_ ?_); exact rfl) | ((with_reducible refine And.intro ?_ ?_); exact lenOk rfl) | dsimp only [En.s]))
  unfold spD
  (repeat (first | with_reducible refine seqI ?_ | with_reducible refine setI ?_ | with_reducible refine asgI ?_ | with_reducible refine retI ?_ | with_reducible refine opI ?_ | with_reducible refine callI ?_ | with_reducible refine consI ?_ | with_reducible refine cI ?_ | with_reducible refine nilI ?_ | ((with_reducible apply varI); exact rfl) | with_reducible refine cbI ?_ | with_reducible refine ifI ?_ | with_reducible refine tstI ?_ | with_reducible refine notTI ?_ | with_reducible refine andTI ?_ | with_reducible refine orTI ?_ | with_reducible refine dropI ?_ | with_reducible refine nextI ?_ | with_reducible refine tupI ?_ | with_reducible refine lstI ?_ | with_reducible refine starI ?_ | with_reducible refine starTT ?_ | with_reducible refine andI ?_ | with_reducible refine orVI ?_ | with_reducible refine notI ?_ | with_reducible refine ifEI ?_ | with_reducible refine forI ?_ | with_reducible refine r1I ?_ | with_reducible refine ir2I ?_ | with_reducible refine iTupI ?_ | with_reducible refine truI ?_ | with_reducible refine chainI ?_ | with_reducible refine lcI ?_ | with_reducible refine slI ?_ | with_reducible refine noPI ?_ | with_reducible refine ptI ?_ | with_reducible refine unI ?_ | with_reducible refine brkI ?_ | with_reducible refine cntI ?_ | with_reducible refine retNI ?_ | with_reducible refine addII ?_ | with_reducible refine rI0 ?_ | with_reducible refine rIC ?_ ?_ | with_reducible refine mulII ?_ ?_ | with_reducible refine addTT ?_ ?_ | with_reducible refine addSS ?_ ?_ | with_reducible refine negII ?_ | with_reducible refine eqII ?_ | with_reducible refine eqSS ?_ | with_reducible refine eqBB ?_ | with_reducible refine neII ?_ | with_reducible refine neSS ?_ | with_reducible refine neBB ?_ | with_reducible refine isNN ?_ | with_reducible refine isNotNN ?_ | with_reducible refine isBB ?_ | with_reducible refine isNotBB ?_ | with_reducible refine lenTI ?_ | with_reducible refine lenFI ?_ | with_reducible refine intII ?_ | with_reducible refine intBI ?_ | with_reducible refine tupTI ?_ | with_reducible refine minII ?_ | with_reducible refine maxII ?_ | with_reducible refine slTI ?_ | with_reducible refine gcI ?_ | with_reducible refine gnI ?_ | with_reducible refine aNI ?_ | ((with_reducible refine ttI ?_ ?_); exact rfl) | ((with_reducible refine And.intro ?_ ?_); exact rfl) | ((with_reducible refine And.intro ?_ ?_); exact lenOk rfl) | dsimp only [En.s]))
  rw [List.length_map]
  refine inS ?_
  have hd := dl_len (fun j => S.contains j) bs 0
  generalize dl (fun j => S.contains j) 0 bs = Dl at q hd ⊢
  by_cases hc : S.contains bs.length = true
  · refine bl_t hc ?_
    (repeat (first | with_reducible refine seqI ?_ | with_reducible refine setI ?_ | with_reducible refine asgI ?_ | with_reducible refine retI ?_ | with_reducible refine opI ?_ | with_reducible refine callI ?_ | with_reducible refine consI ?_ | with_reducible refine cI ?_ | with_reducible refine nilI ?_ | ((with_reducible apply varI); exact rfl) | with_reducible refine cbI ?_ | with_reducible refine ifI ?_ | with_reducible refine tstI ?_ | with_reducible refine notTI ?_ | with_reducible refine andTI ?_ | with_reducible refine orTI ?_ | with_reducible refine dropI ?_ | with_reducible refine nextI ?_ | with_reducible refine tupI ?_ | with_reducible refine lstI ?_ | with_reducible refine starI ?_ | with_reducible refine starTT ?_ | with_reducible refine andI ?_ | with_reducible refine orVI ?_ | with_reducible refine notI ?_ | with_reducible refine ifEI ?_ | with_reducible refine forI ?_ | with_reducible refine r1I ?_ | with_reducible refine ir2I ?_ | with_reducible refine iTupI ?_ | with_reducible refine truI ?_ | with_reducible refine chainI ?_ | with_reducible refine lcI ?_ | with_reducible refine slI ?_ | with_reducible refine noPI ?_ | with_reducible refine ptI ?_ | with_reducible refine unI ?_ | with_reducible refine brkI ?_ | with_reducible refine cntI ?_ | with_reducible refine retNI ?_ | with_reducible refine addII ?_ | with_reducible refine rI0 ?_ | with_reducible refine rIC ?_ ?_ | with_reducible refine mulII ?_ ?_ | with_reducible refine addTT ?_ ?_ | with_reducible refine addSS ?_ ?_ | with_reducible refine negII ?_ | with_reducible refine eqII ?_ | with_reducible refine eqSS ?_ | with_reducible refine eqBB ?_ | with_reducible refine neII ?_ | with_reducible refine neSS ?_ | with_reducible refine neBB ?_ | with_reducible refine isNN ?_ | with_reducible refine isNotNN ?_ | with_reducible refine isBB ?_ | with_reducible refine isNotBB ?_ | with_reducible refine lenTI ?_ | with_reducible refine lenFI ?_ | with_reducible refine intII ?_ | with_reducible refine intBI ?_ | with_reducible refine tupTI ?_ | with_reducible refine minII ?_ | with_reducible refine maxII ?_ | with_reducible refine slTI ?_ | with_reducible refine gcI ?_ | with_reducible refine gnI ?_ | with_reducible refine aNI ?_ | ((with_reducible refine ttI ?_ ?_); exact rfl) | ((with_reducible refine And.intro ?_ ?_); exact rfl) | ((with_reducible refine And.intro ?_ ?_); exact lenOk rfl) | dsimp only [En.s]))
    by_cases hn : bs = []
    · subst hn
      refine neSelf (n := 1) (fun _ h => by simp at h) (by decide) ?_
      refine bl_f rfl ?_
      (repeat (first | with_reducible refine seqI ?_ | with_reducible refine setI ?_ | with_reducible refine asgI ?_ | with_reducible refine retI ?_ | with_reducible refine opI ?_ | with_reducible refine callI ?_ | with_reducible refine consI ?_ | with_reducible refine cI ?_ | with_reducible refine nilI ?_ | ((with_reducible apply varI); exact rfl) | with_reducible refine cbI ?_ | with_reducible refine ifI ?_ | with_reducible refine tstI ?_ | with_reducible refine notTI ?_ | with_reducible refine andTI ?_ | with_reducible refine orTI ?_ | with_reducible refine dropI ?_ | with_reducible refine nextI ?_ | with_reducible refine tupI ?_ | with_reducible refine lstI ?_ | with_reducible refine starI ?_ | with_reducible refine starTT ?_ | with_reducible refine andI ?_ | with_reducible refine orVI ?_ | with_reducible refine notI ?_ | with_reducible refine ifEI ?_ | with_reducible refine forI ?_ | with_reducible refine r1I ?_ | with_reducible refine ir2I ?_ | with_reducible refine iTupI ?_ | with_reducible refine truI ?_ | with_reducible refine chainI ?_ | with_reducible refine lcI ?_ | with_reducible refine slI ?_ | with_reducible refine noPI ?_ | with_reducible refine ptI ?_ | with_reducible refine unI ?_ | with_reducible refine brkI ?_ | with_reducible refine cntI ?_ | with_reducible refine retNI ?_ | with_reducible refine addII ?_ | with_reducible refine rI0 ?_ | with_reducible refine rIC ?_ ?_ | with_reducible refine mulII ?_ ?_ | with_reducible refine addTT ?_ ?_ | with_reducible refine addSS ?_ ?_ | with_reducible refine negII ?_ | with_reducible refine eqII ?_ | with_reducible refine eqSS ?_ | with_reducible refine eqBB ?_ | with_reducible refine neII ?_ | with_reducible refine neSS ?_ | with_reducible refine neBB ?_ | with_reducible refine isNN ?_ | with_reducible refine isNotNN ?_ | with_reducible refine isBB ?_ | with_reducible refine isNotBB ?_ | with_reducible refine lenTI ?_ | with_reducible refine lenFI ?_ | with_reducible refine intII ?_ | with_reducible refine intBI ?_ | with_reducible refine tupTI ?_ | with_reducible refine minII ?_ | with_reducible refine maxII ?_ | with_reducible refine slTI ?_ | with_reducible refine gcI ?_ | with_reducible refine gnI ?_ | with_reducible refine aNI ?_ | ((with_reducible refine ttI ?_ ?_); exact rfl) | ((with_reducible refine And.intro ?_ ?_); exact rfl) | ((with_reducible refine And.intro ?_ ?_); exact lenOk rfl) | dsimp only [En.s]))
      · refine ⟨_, Ab.Sub.refl _, ?_⟩
        have : endD S [] = [] := by unfold endD; rw [if_neg (fun z => z.2 rfl)]
        rwa [this] at q
      all_goals (refine Nat.le_trans ?_ (show 1000 ≤ big by decide); simp; omega)
    · refine neOther (n := 4) (fun d h => ?_) (fun _ h => by simp at h) (fun z => hn (by simpa using z)) (by decide) ?_
      · obtain ⟨b, _, rfl⟩ := List.mem_map.mp h
        exact okB b
      · refine bl_t rfl ?_
        (repeat (first | with_reducible refine seqI ?_ | with_reducible refine setI ?_ | with_reducible refine asgI ?_ | with_reducible refine retI ?_ | with_reducible refine opI ?_ | with_reducible refine callI ?_ | with_reducible refine consI ?_ | with_reducible refine cI ?_ | with_reducible refine nilI ?_ | ((with_reducible apply varI); exact rfl) | with_reducible refine cbI ?_ | with_reducible refine ifI ?_ | with_reducible refine tstI ?_ | with_reducible refine notTI ?_ | with_reducible refine andTI ?_ | with_reducible refine orTI ?_ | with_reducible refine dropI ?_ | with_reducible refine nextI ?_ | with_reducible refine tupI ?_ | with_reducible refine lstI ?_ | with_reducible refine starI ?_ | with_reducible refine starTT ?_ | with_reducible refine andI ?_ | with_reducible refine orVI ?_ | with_reducible refine notI ?_ | with_reducible refine ifEI ?_ | with_reducible refine forI ?_ | with_reducible refine r1I ?_ | with_reducible refine ir2I ?_ | with_reducible refine iTupI ?_ | with_reducible refine truI ?_ | with_reducible refine chainI ?_ | with_reducible refine lcI ?_ | with_reducible refine slI ?_ | with_reducible refine noPI ?_ | with_reducible refine ptI ?_ | with_reducible refine unI ?_ | with_reducible refine brkI ?_ | with_reducible refine cntI ?_ | with_reducible refine retNI ?_ | with_reducible refine addII ?_ | with_reducible refine rI0 ?_ | with_reducible refine rIC ?_ ?_ | with_reducible refine mulII ?_ ?_ | with_reducible refine addTT ?_ ?_ | with_reducible refine addSS ?_ ?_ | with_reducible refine negII ?_ | with_reducible refine eqII ?_ | with_reducible refine eqSS ?_ | with_reducible refine eqBB ?_ | with_reducible refine neII ?_ | with_reducible refine neSS ?_ | with_reducible refine neBB ?_ | with_reducible refine isNN ?_ | with_reducible refine isNotNN ?_ | with_reducible refine isBB ?_ | with_reducible refine isNotBB ?_ | with_reducible refine lenTI ?_ | with_reducible refine lenFI ?_ | with_reducible refine intII ?_ | with_reducible refine intBI ?_ | with_reducible refine tupTI ?_ | with_reducible refine minII ?_ | with_reducible refine maxII ?_ | with_reducible refine slTI ?_ | with_reducible refine gcI ?_ | with_reducible refine gnI ?_ | with_reducible refine aNI ?_ | ((with_reducible refine ttI ?_ ?_); exact rfl) | ((with_reducible refine And.intro ?_ ?_); exact rfl) | ((with_reducible refine And.intro ?_ ?_); exact lenOk rfl) | dsimp only [En.s]))
        · refine ⟨_, Ab.Sub.refl _, ?_⟩
          have : endD S bs = [ckD] := by unfold endD; rw [if_pos ⟨hc, hn⟩]
          rwa [this] at q
        all_goals (refine Nat.le_trans ?_ (show 1000 ≤ big by decide); simp; omega)
  · refine bl_f (by simpa using hc) ?_
    (repeat (first | with_reducible refine seqI ?_ | with_reducible refine setI ?_ | with_reducible refine asgI ?_ | with_reducible refine retI ?_ | with_reducible refine opI ?_ | with_reducible refine callI ?_ | with_reducible refine consI ?_ | with_reducible refine cI ?_ | with_reducible refine nilI ?_ | ((with_reducible apply varI); exact rfl) | with_reducible refine cbI ?_ | with_reducible refine ifI ?_ | with_reducible refine tstI ?_ | with_reducible refine notTI ?_ | with_reducible refine andTI ?_ | with_reducible refine orTI ?_ | with_reducible refine dropI ?_ | with_reducible refine nextI ?_ | with_reducible refine tupI ?_ | with_reducible refine lstI ?_ | with_reducible refine starI ?_ | with_reducible refine starTT ?_ | with_reducible refine andI ?_ | with_reducible refine orVI ?_ | with_reducible refine notI ?_ | with_reducible refine ifEI ?_ | with_reducible refine forI ?_ | with_reducible refine r1I ?_ | with_reducible refine ir2I ?_ | with_reducible refine iTupI ?_ | with_reducible refine truI ?_ | with_reducible refine chainI ?_ | with_reducible refine lcI ?_ | with_reducible refine slI ?_ | with_reducible refine noPI ?_ | with_reducible refine ptI ?_ | with_reducible refine unI ?_ | with_reducible refine brkI ?_ | with_reducible refine cntI ?_ | with_reducible refine retNI ?_ | with_reducible refine addII ?_ | with_reducible refine rI0 ?_ | with_reducible refine rIC ?_ ?_ | with_reducible refine mulII ?_ ?_ | with_reducible refine addTT ?_ ?_ | with_reducible refine addSS ?_ ?_ | with_reducible refine negII ?_ | with_reducible refine eqII ?_ | with_reducible refine eqSS ?_ | with_reducible refine eqBB ?_ | with_reducible refine neII ?_ | with_reducible refine neSS ?_ | with_reducible refine neBB ?_ | with_reducible refine isNN ?_ | with_reducible refine isNotNN ?_ | with_reducible refine isBB ?_ | with_reducible refine isNotBB ?_ | with_reducible refine lenTI ?_ | with_reducible refine lenFI ?_ | with_reducible refine intII ?_ | with_reducible refine intBI ?_ | with_reducible refine tupTI ?_ | with_reducible refine minII ?_ | with_reducible refine maxII ?_ | with_reducible refine slTI ?_ | with_reducible refine gcI ?_ | with_reducible refine gnI ?_ | with_reducible refine aNI ?_ | ((with_reducible refine ttI ?_ ?_); exact rfl) | ((with_reducible refine And.intro ?_ ?_); exact rfl) | ((with_reducible refine And.intro ?_ ?_); exact lenOk rfl) | dsimp only [En.s]))
    refine bl_f rfl ?_
    refine tupI (nilI ⟨Nat.zero_le _, ?_⟩)
    refine addTT ⟨_, Ab.Sub.refl _, ?_⟩ (Nat.le_trans ?_ (show 1000 ≤ big by decide))
    · have : endD S bs = [] := by unfold endD; rw [if_neg (fun z => hc z.1)]
      rwa [this] at q
    · simp; omega
end
end K32

set_option linter.all false
set_option maxRecDepth 100000
set_option maxHeartbeats 2000000
namespace K32
open PySem PySem.Spec PyProof.Rows L2 Ab
section
variable {m : M}
def szs (bs : List Bt) : List Nat := bs.map List.length
abbrev shD (pages ring : Nat) : D := .tup [.int (pages : Nat), .int (ring : Nat)]
theorem fits_w {A : AEnds} {ring : Nat} {gd : M → Prop} {b : Bt} {rest : List D} {pages : Nat} {x1 x3 : Option D} {u : Nat} (hgd : gd m) (h : u + b.length ≤ ring) (q : forL (aN 3) bl_f_law_fits_0 gd rest A [some (shD pages ring), x1, some (.int ((u + b.length : Nat) : Int)), some (wrD b)] m) :
    forL (aN 3) bl_f_law_fits_0 gd (wrD b :: rest) A [some (shD pages ring), x1, some (.int (u : Nat)), x3] m := by
  unfold forL
  refine ⟨hgd, ?_⟩
  generalize forL (aN 3) bl_f_law_fits_0 gd rest A = X at q ⊢
  unfold bl_f_law_fits_0 wrD at *
  (repeat (first | with_reducible refine seqI ?_ | with_reducible refine setI ?_ | with_reducible refine asgI ?_ | with_reducible refine retI ?_ | with_reducible refine opI ?_ | with_reducible refine callI ?_ | with_reducible refine consI ?_ | with_reducible refine cI ?_ | with_reducible refine nilI ?_ | ((with_reducible apply varI); exact rfl) | with_reducible refine cbI ?_ | with_reducible refine ifI ?_ | with_reducible refine tstI ?_ | with_reducible refine notTI ?_ | with_reducible refine andTI ?_ | with_reducible refine orTI ?_ | with_reducible refine dropI ?_ | with_reducible refine nextI ?_ | with_reducible refine tupI ?_ | with_reducible refine lstI ?_ | with_reducible refine starI ?_ | with_reducible refine starTT ?_ | with_reducible refine andI ?_ | with_reducible refine orVI ?_ | with_reducible refine notI ?_ | with_reducible refine ifEI ?_ | with_reducible refine forI ?_ | with_reducible refine r1I ?_ | with_reducible refine ir2I ?_ | with_reducible refine iTupI ?_ | with_reducible refine truI ?_ | with_reducible refine chainI ?_ | with_reducible refine lcI ?_ | with_reducible refine slI ?_ | with_reducible refine noPI ?_ | with_reducible refine ptI ?_ | with_reducible refine unI ?_ | with_reducible refine brkI ?_ | with_reducible refine cntI ?_ | with_reducible refine retNI ?_ | with_reducible refine addII ?_ | with_reducible refine rI0 ?_ | with_reducible refine rIC ?_ ?_ | with_reducible refine mulII ?_ ?_ | with_reducible refine addTT ?_ ?_ | with_reducible refine addSS ?_ ?_ | with_reducible refine negII ?_ | with_reducible refine eqII ?_ | with_reducible refine eqSS ?_ | with_reducible refine eqBB ?_ | with_reducible refine neII ?_ | with_reducible refine neSS ?_ | with_reducible refine neBB ?_ | with_reducible refine isNN ?_ | with_reducible refine isNotNN ?_ | with_reducible refine isBB ?_ | with_reducible refine isNotBB ?_ | with_reducible refine lenTI ?_ | with_reducible refine lenFI ?_ | with_reducible refine intII ?_ | with_reducible refine intBI ?_ | with_reducible refine tupTI ?_ | with_reducible refine minII ?_ | with_reducible refine maxII ?_ | with_reducible refine slTI ?_ | with_reducible refine gcI ?_ | with_reducible refine gnI ?_ | with_reducible refine aNI ?_ | ((with_reducible refine ttI ?_ ?_); exact rfl) | ((with_reducible refine And.intro ?_ ?_); exact rfl) | ((with_reducible refine And.intro ?_ ?_); exact lenOk rfl) | dsimp only [En.s]))
  refine ixTI (d := .str "write") rfl ?_
  (repeat (first | with_reducible refine seqI ?_ | with_reducible refine setI ?_ | with_reducible refine asgI ?_ | with_reducible refine retI ?_ | with_reducible refine opI ?_ | with_reducible refine callI ?_ | with_reducible refine consI ?_ | with_reducible refine cI ?_ | with_reducible refine nilI ?_ | ((with_reducible apply varI); exact rfl) | with_reducible refine cbI ?_ | with_reducible refine ifI ?_ | with_reducible refine tstI ?_ | with_reducible refine notTI ?_ | with_reducible refine andTI ?_ | with_reducible refine orTI ?_ | with_reducible refine dropI ?_ | with_reducible refine nextI ?_ | with_reducible refine tupI ?_ | with_reducible refine lstI ?_ | with_reducible refine starI ?_ | with_reducible refine starTT ?_ | with_reducible refine andI ?_ | with_reducible refine orVI ?_ | with_reducible refine notI ?_ | with_reducible refine ifEI ?_ | with_reducible refine forI ?_ | with_reducible refine r1I ?_ | with_reducible refine ir2I ?_ | with_reducible refine iTupI ?_ | with_reducible refine truI ?_ | with_reducible refine chainI ?_ | with_reducible refine lcI ?_ | with_reducible refine slI ?_ | with_reducible refine noPI ?_ | with_reducible refine ptI ?_ | with_reducible refine unI ?_ | with_reducible refine brkI ?_ | with_reducible refine cntI ?_ | with_reducible refine retNI ?_ | with_reducible refine addII ?_ | with_reducible refine rI0 ?_ | with_reducible refine rIC ?_ ?_ | with_reducible refine mulII ?_ ?_ | with_reducible refine addTT ?_ ?_ | with_reducible refine addSS ?_ ?_ | with_reducible refine negII ?_ | with_reducible refine eqII ?_ | with_reducible refine eqSS ?_ | with_reducible refine eqBB ?_ | with_reducible refine neII ?_ | with_reducible refine neSS ?_ | with_reducible refine neBB ?_ | with_reducible refine isNN ?_ | with_reducible refine isNotNN ?_ | with_reducible refine isBB ?_ | with_reducible refine isNotBB ?_ | with_reducible refine lenTI ?_ | with_reducible refine lenFI ?_ | with_reducible refine intII ?_ | with_reducible refine intBI ?_ | with_reducible refine tupTI ?_ | with_reducible refine minII ?_ | with_reducible refine maxII ?_ | with_reducible refine slTI ?_ | with_reducible refine gcI ?_ | with_reducible refine gnI ?_ | with_reducible refine aNI ?_ | ((with_reducible refine ttI ?_ ?_); exact rfl) | ((with_reducible refine And.intro ?_ ?_); exact rfl) | ((with_reducible refine And.intro ?_ ?_); exact lenOk rfl) | dsimp only [En.s]))
  refine bl_t (by decide +kernel) ?_
  (repeat (first | with_reducible refine seqI ?_ | with_reducible refine setI ?_ | with_reducible refine asgI ?_ | with_reducible refine retI ?_ | with_reducible refine opI ?_ | with_reducible refine callI ?_ | with_reducible refine consI ?_ | with_reducible refine cI ?_ | with_reducible refine nilI ?_ | ((with_reducible apply varI); exact rfl) | with_reducible refine cbI ?_ | with_reducible refine ifI ?_ | with_reducible refine tstI ?_ | with_reducible refine notTI ?_ | with_reducible refine andTI ?_ | with_reducible refine orTI ?_ | with_reducible refine dropI ?_ | with_reducible refine nextI ?_ | with_reducible refine tupI ?_ | with_reducible refine lstI ?_ | with_reducible refine starI ?_ | with_reducible refine starTT ?_ | with_reducible refine andI ?_ | with_reducible refine orVI ?_ | with_reducible refine notI ?_ | with_reducible refine ifEI ?_ | with_reducible refine forI ?_ | with_reducible refine r1I ?_ | with_reducible refine ir2I ?_ | with_reducible refine iTupI ?_ | with_reducible refine truI ?_ | with_reducible refine chainI ?_ | with_reducible refine lcI ?_ | with_reducible refine slI ?_ | with_reducible refine noPI ?_ | with_reducible refine ptI ?_ | with_reducible refine unI ?_ | with_reducible refine brkI ?_ | with_reducible refine cntI ?_ | with_reducible refine retNI ?_ | with_reducible refine addII ?_ | with_reducible refine rI0 ?_ | with_reducible refine rIC ?_ ?_ | with_reducible refine mulII ?_ ?_ | with_reducible refine addTT ?_ ?_ | with_reducible refine addSS ?_ ?_ | with_reducible refine negII ?_ | with_reducible refine eqII ?_ | with_reducible refine eqSS ?_ | with_reducible refine eqBB ?_ | with_reducible refine neII ?_ | with_reducible refine neSS ?_ | with_reducible refine neBB ?_ | with_reducible refine isNN ?_ | with_reducible refine isNotNN ?_ | with_reducible refine isBB ?_ | with_reducible refine isNotBB ?_ | with_reducible refine lenTI ?_ | with_reducible refine lenFI ?_ | with_reducible refine intII ?_ | with_reducible refine intBI ?_ | with_reducible refine tupTI ?_ | with_reducible refine minII ?_ | with_reducible refine maxII ?_ | with_reducible refine slTI ?_ | with_reducible refine gcI ?_ | with_reducible refine gnI ?_ | with_reducible refine aNI ?_ | ((with_reducible refine ttI ?_ ?_); exact rfl) | ((with_reducible refine And.intro ?_ ?_); exact rfl) | ((with_reducible refine And.intro ?_ ?_); exact lenOk rfl) | dsimp only [En.s]))
  refine ixTI (d := btD b) rfl ?_
  unfold btD at *
  (repeat (first | with_reducible refine seqI ?_ | with_reducible refine setI ?_ | with_reducible refine asgI ?_ | with_reducible refine retI ?_ | with_reducible refine opI ?_ | with_reducible refine callI ?_ | with_reducible refine consI ?_ | with_reducible refine cI ?_ | with_reducible refine nilI ?_ | ((with_reducible apply varI); exact rfl) | with_reducible refine cbI ?_ | with_reducible refine ifI ?_ | with_reducible refine tstI ?_ | with_reducible refine notTI ?_ | with_reducible refine andTI ?_ | with_reducible refine orTI ?_ | with_reducible refine dropI ?_ | with_reducible refine nextI ?_ | with_reducible refine tupI ?_ | with_reducible refine lstI ?_ | with_reducible refine starI ?_ | with_reducible refine starTT ?_ | with_reducible refine andI ?_ | with_reducible refine orVI ?_ | with_reducible refine notI ?_ | with_reducible refine ifEI ?_ | with_reducible refine forI ?_ | with_reducible refine r1I ?_ | with_reducible refine ir2I ?_ | with_reducible refine iTupI ?_ | with_reducible refine truI ?_ | with_reducible refine chainI ?_ | with_reducible refine lcI ?_ | with_reducible refine slI ?_ | with_reducible refine noPI ?_ | with_reducible refine ptI ?_ | with_reducible refine unI ?_ | with_reducible refine brkI ?_ | with_reducible refine cntI ?_ | with_reducible refine retNI ?_ | with_reducible refine addII ?_ | with_reducible refine rI0 ?_ | with_reducible refine rIC ?_ ?_ | with_reducible refine mulII ?_ ?_ | with_reducible refine addTT ?_ ?_ | with_reducible refine addSS ?_ ?_ | with_reducible refine negII ?_ | with_reducible refine eqII ?_ | with_reducible refine eqSS ?_ | with_reducible refine eqBB ?_ | with_reducible refine neII ?_ | with_reducible refine neSS ?_ | with_reducible refine neBB ?_ | with_reducible refine isNN ?_ | with_reducible refine isNotNN ?_ | with_reducible refine isBB ?_ | with_reducible refine isNotBB ?_ | with_reducible refine lenTI ?_ | with_reducible refine lenFI ?_ | with_reducible refine intII ?_ | with_reducible refine intBI ?_ | with_reducible refine tupTI ?_ | with_reducible refine minII ?_ | with_reducible refine maxII ?_ | with_reducible refine slTI ?_ | with_reducible refine gcI ?_ | with_reducible refine gnI ?_ | with_reducible refine aNI ?_ | ((with_reducible refine ttI ?_ ?_); exact rfl) | ((with_reducible refine And.intro ?_ ?_); exact rfl) | ((with_reducible refine And.intro ?_ ?_); exact lenOk rfl) | dsimp only [En.s]))
  refine ixTI (d := .int (ring : Nat)) rfl ?_
  (repeat (first | with_reducible refine seqI ?_ | with_reducible refine setI ?_ | with_reducible refine asgI ?_ | with_reducible refine retI ?_ | with_reducible refine opI ?_ | with_reducible refine callI ?_ | with_reducible refine consI ?_ | with_reducible refine cI ?_ | with_reducible refine nilI ?_ | ((with_reducible apply varI); exact rfl) | with_reducible refine cbI ?_ | with_reducible refine ifI ?_ | with_reducible refine tstI ?_ | with_reducible refine notTI ?_ | with_reducible refine andTI ?_ | with_reducible refine orTI ?_ | with_reducible refine dropI ?_ | with_reducible refine nextI ?_ | with_reducible refine tupI ?_ | with_reducible refine lstI ?_ | with_reducible refine starI ?_ | with_reducible refine starTT ?_ | with_reducible refine andI ?_ | with_reducible refine orVI ?_ | with_reducible refine notI ?_ | with_reducible refine ifEI ?_ | with_reducible refine forI ?_ | with_reducible refine r1I ?_ | with_reducible refine ir2I ?_ | with_reducible refine iTupI ?_ | with_reducible refine truI ?_ | with_reducible refine chainI ?_ | with_reducible refine lcI ?_ | with_reducible refine slI ?_ | with_reducible refine noPI ?_ | with_reducible refine ptI ?_ | with_reducible refine unI ?_ | with_reducible refine brkI ?_ | with_reducible refine cntI ?_ | with_reducible refine retNI ?_ | with_reducible refine addII ?_ | with_reducible refine rI0 ?_ | with_reducible refine rIC ?_ ?_ | with_reducible refine mulII ?_ ?_ | with_reducible refine addTT ?_ ?_ | with_reducible refine addSS ?_ ?_ | with_reducible refine negII ?_ | with_reducible refine eqII ?_ | with_reducible refine eqSS ?_ | with_reducible refine eqBB ?_ | with_reducible refine neII ?_ | with_reducible refine neSS ?_ | with_reducible refine neBB ?_ | with_reducible refine isNN ?_ | with_reducible refine isNotNN ?_ | with_reducible refine isBB ?_ | with_reducible refine isNotBB ?_ | with_reducible refine lenTI ?_ | with_reducible refine lenFI ?_ | with_reducible refine intII ?_ | with_reducible refine intBI ?_ | with_reducible refine tupTI ?_ | with_reducible refine minII ?_ | with_reducible refine maxII ?_ | with_reducible refine slTI ?_ | with_reducible refine gcI ?_ | with_reducible refine gnI ?_ | with_reducible refine aNI ?_ | ((with_reducible refine ttI ?_ ?_); exact rfl) | ((with_reducible refine And.intro ?_ ?_); exact rfl) | ((with_reducible refine And.intro ?_ ?_); exact lenOk rfl) | dsimp only [En.s]))
  rw [List.length_map]
  refine bl_f (decide_eq_false (by omega)) ?_
  (repeat (first | with_reducible refine seqI ?_ | with_reducible refine setI ?_ | with_reducible refine asgI ?_ | with_reducible refine retI ?_ | with_reducible refine opI ?_ | with_reducible refine callI ?_ | with_reducible refine consI ?_ | with_reducible refine cI ?_ | with_reducible refine nilI ?_ | ((with_reducible apply varI); exact rfl) | with_reducible refine cbI ?_ | with_reducible refine ifI ?_ | with_reducible refine tstI ?_ | with_reducible refine notTI ?_ | with_reducible refine andTI ?_ | with_reducible refine orTI ?_ | with_reducible refine dropI ?_ | with_reducible refine nextI ?_ | with_reducible refine tupI ?_ | with_reducible refine lstI ?_ | with_reducible refine starI ?_ | with_reducible refine starTT ?_ | with_reducible refine andI ?_ | with_reducible refine orVI ?_ | with_reducible refine notI ?_ | with_reducible refine ifEI ?_ | with_reducible refine forI ?_ | with_reducible refine r1I ?_ | with_reducible refine ir2I ?_ | with_reducible refine iTupI ?_ | with_reducible refine truI ?_ | with_reducible refine chainI ?_ | with_reducible refine lcI ?_ | with_reducible refine slI ?_ | with_reducible refine noPI ?_ | with_reducible refine ptI ?_ | with_reducible refine unI ?_ | with_reducible refine brkI ?_ | with_reducible refine cntI ?_ | with_reducible refine retNI ?_ | with_reducible refine addII ?_ | with_reducible refine rI0 ?_ | with_reducible refine rIC ?_ ?_ | with_reducible refine mulII ?_ ?_ | with_reducible refine addTT ?_ ?_ | with_reducible refine addSS ?_ ?_ | with_reducible refine negII ?_ | with_reducible refine eqII ?_ | with_reducible refine eqSS ?_ | with_reducible refine eqBB ?_ | with_reducible refine neII ?_ | with_reducible refine neSS ?_ | with_reducible refine neBB ?_ | with_reducible refine isNN ?_ | with_reducible refine isNotNN ?_ | with_reducible refine isBB ?_ | with_reducible refine isNotBB ?_ | with_reducible refine lenTI ?_ | with_reducible refine lenFI ?_ | with_reducible refine intII ?_ | with_reducible refine intBI ?_ | with_reducible refine tupTI ?_ | with_reducible refine minII ?_ | with_reducible refine maxII ?_ | with_reducible refine slTI ?_ | with_reducible refine gcI ?_ | with_reducible refine gnI ?_ | with_reducible refine aNI ?_ | ((with_reducible refine ttI ?_ ?_); exact rfl) | ((with_reducible refine And.intro ?_ ?_); exact rfl) | ((with_reducible refine And.intro ?_ ?_); exact lenOk rfl) | dsimp only [En.s]))
  simpa using q
theorem fits_o {A : AEnds} {ring : Nat} {gd : M → Prop} {b : Bt} {rest : List D} {pages : Nat} {x1 x3 : Option D} {u : Nat} (hgd : gd m) (h : ring < u + b.length) (q : A.rt (.bl false) m) :
    forL (aN 3) bl_f_law_fits_0 gd (wrD b :: rest) A [some (shD pages ring), x1, some (.int (u : Nat)), x3] m := by
  unfold forL
  refine ⟨hgd, ?_⟩
  generalize forL (aN 3) bl_f_law_fits_0 gd rest A = X at ⊢
  unfold bl_f_law_fits_0 wrD
  (repeat (first | with_reducible refine seqI ?_ | with_reducible refine setI ?_ | with_reducible refine asgI ?_ | with_reducible refine retI ?_ | with_reducible refine opI ?_ | with_reducible refine callI ?_ | with_reducible refine consI ?_ | with_reducible refine cI ?_ | with_reducible refine nilI ?_ | ((with_reducible apply varI); exact rfl) | with_reducible refine cbI ?_ | with_reducible refine ifI ?_ | with_reducible refine tstI ?_ | with_reducible refine notTI ?_ | with_reducible refine andTI ?_ | with_reducible refine orTI ?_ | with_reducible refine dropI ?_ | with_reducible refine nextI ?_ | with_reducible refine tupI ?_ | with_reducible refine lstI ?_ | with_reducible refine starI ?_ | with_reducible refine starTT ?_ | with_reducible refine andI ?_ | with_reducible refine orVI ?_ | with_reducible refine notI ?_ | with_reducible refine ifEI ?_ | with_reducible refine forI ?_ | with_reducible refine r1I ?_ | with_reducible refine ir2I ?_ | with_reducible refine iTupI ?_ | with_reducible refine truI ?_ | with_reducible refine chainI ?_ | with_reducible refine lcI ?_ | with_reducible refine slI ?_ | with_reducible refine noPI ?_ | with_reducible refine ptI ?_ | with_reducible refine unI ?_ | with_reducible refine brkI ?_ | with_reducible refine cntI ?_ | with_reducible refine retNI ?_ | with_reducible refine addII ?_ | with_reducible refine rI0 ?_ | with_reducible refine rIC ?_ ?_ | with_reducible refine mulII ?_ ?_ | with_reducible refine addTT ?_ ?_ | with_reducible refine addSS ?_ ?_ | with_reducible refine negII ?_ | with_reducible refine eqII ?_ | with_reducible refine eqSS ?_ | with_reducible refine eqBB ?_ | with_reducible refine neII ?_ | with_reducible refine neSS ?_ | with_reducible refine neBB ?_ | with_reducible refine isNN ?_ | with_reducible refine isNotNN ?_ | with_reducible refine isBB ?_ | with_reducible refine isNotBB ?_ | with_reducible refine lenTI ?_ | with_reducible refine lenFI ?_ | with_reducible refine intII ?_ | with_reducible refine intBI ?_ | with_reducible refine tupTI ?_ | with_reducible refine minII ?_ | with_reducible refine maxII ?_ | with_reducible refine slTI ?_ | with_reducible refine gcI ?_ | with_reducible refine gnI ?_ | with_reducible refine aNI ?_ | ((with_reducible refine ttI ?_ ?_); exact rfl) | ((with_reducible refine And.intro ?_ ?_); exact rfl) | ((with_reducible refine And.intro ?_ ?_); exact lenOk rfl) | dsimp only [En.s]))
  refine ixTI (d := .str "write") rfl ?_
  (repeat (first | with_reducible refine seqI ?_ | with_reducible refine setI ?_ | with_reducible refine asgI ?_ | with_reducible refine retI ?_ | with_reducible refine opI ?_ | with_reducible refine callI ?_ | with_reducible refine consI ?_ | with_reducible refine cI ?_ | with_reducible refine nilI ?_ | ((with_reducible apply varI); exact rfl) | with_reducible refine cbI ?_ | with_reducible refine ifI ?_ | with_reducible refine tstI ?_ | with_reducible refine notTI ?_ | with_reducible refine andTI ?_ | with_reducible refine orTI ?_ | with_reducible refine dropI ?_ | with_reducible refine nextI ?_ | with_reducible refine tupI ?_ | with_reducible refine lstI ?_ | with_reducible refine starI ?_ | with_reducible refine starTT ?_ | with_reducible refine andI ?_ | with_reducible refine orVI ?_ | with_reducible refine notI ?_ | with_reducible refine ifEI ?_ | with_reducible refine forI ?_ | with_reducible refine r1I ?_ | with_reducible refine ir2I ?_ | with_reducible refine iTupI ?_ | with_reducible refine truI ?_ | with_reducible refine chainI ?_ | with_reducible refine lcI ?_ | with_reducible refine slI ?_ | with_reducible refine noPI ?_ | with_reducible refine ptI ?_ | with_reducible refine unI ?_ | with_reducible refine brkI ?_ | with_reducible refine cntI ?_ | with_reducible refine retNI ?_ | with_reducible refine addII ?_ | with_reducible refine rI0 ?_ | with_reducible refine rIC ?_ ?_ | with_reducible refine mulII ?_ ?_ | with_reducible refine addTT ?_ ?_ | with_reducible refine addSS ?_ ?_ | with_reducible refine negII ?_ | with_reducible refine eqII ?_ | with_reducible refine eqSS ?_ | with_reducible refine eqBB ?_ | with_reducible refine neII ?_ | with_reducible refine neSS ?_ | with_reducible refine neBB ?_ | with_reducible refine isNN ?_ | with_reducible refine isNotNN ?_ | with_reducible refine isBB ?_ | with_reducible refine isNotBB ?_ | with_reducible refine lenTI ?_ | with_reducible refine lenFI ?_ | with_reducible refine intII ?_ | with_reducible refine intBI ?_ | with_reducible refine tupTI ?_ | with_reducible refine minII ?_ | with_reducible refine maxII ?_ | with_reducible refine slTI ?_ | with_reducible refine gcI ?_ | with_reducible refine gnI ?_ | with_reducible refine aNI ?_ | ((with_reducible refine ttI ?_ ?_); exact rfl) | ((with_reducible refine And.intro ?_ ?_); exact rfl) | ((with_reducible refine And.intro ?_ ?_); exact lenOk rfl) | dsimp only [En.s]))
  refine bl_t (by decide +kernel) ?_
  (repeat (first | with_reducible refine seqI ?_ | with_reducible refine setI ?_ | with_reducible refine asgI ?_ | with_reducible refine retI ?_ | with_reducible refine opI ?_ | with_reducible refine callI ?_ | with_reducible refine consI ?_ | with_reducible refine cI ?_ | with_reducible refine nilI ?_ | ((with_reducible apply varI); exact rfl) | with_reducible refine cbI ?_ | with_reducible refine ifI ?_ | with_reducible refine tstI ?_ | with_reducible refine notTI ?_ | with_reducible refine andTI ?_ | with_reducible refine orTI ?_ | with_reducible refine dropI ?_ | with_reducible refine nextI ?_ | with_reducible refine tupI ?_ | with_reducible refine lstI ?_ | with_reducible refine starI ?_ | with_reducible refine starTT ?_ | with_reducible refine andI ?_ | with_reducible refine orVI ?_ | with_reducible refine notI ?_ | with_reducible refine ifEI ?_ | with_reducible refine forI ?_ | with_reducible refine r1I ?_ | with_reducible refine ir2I ?_ | with_reducible refine iTupI ?_ | with_reducible refine truI ?_ | with_reducible refine chainI ?_ | with_reducible refine lcI ?_ | with_reducible refine slI ?_ | with_reducible refine noPI ?_ | with_reducible refine ptI ?_ | with_reducible refine unI ?_ | with_reducible refine brkI ?_ | with_reducible refine cntI ?_ | with_reducible refine retNI ?_ | with_reducible refine addII ?_ | with_reducible refine rI0 ?_ | with_reducible refine rIC ?_ ?_ | with_reducible refine mulII ?_ ?_ | with_reducible refine addTT ?_ ?_ | with_reducible refine addSS ?_ ?_ | with_reducible refine negII ?_ | with_reducible refine eqII ?_ | with_reducible refine eqSS ?_ | with_reducible refine eqBB ?_ | with_reducible refine neII ?_ | with_reducible refine neSS ?_ | with_reducible refine neBB ?_ | with_reducible refine isNN ?_ | with_reducible refine isNotNN ?_ | with_reducible refine isBB ?_ | with_reducible refine isNotBB ?_ | with_reducible refine lenTI ?_ | with_reducible refine lenFI ?_ | with_reducible refine intII ?_ | with_reducible refine intBI ?_ | with_reducible refine tupTI ?_ | with_reducible refine minII ?_ | with_reducible refine maxII ?_ | with_reducible refine slTI ?_ | with_reducible refine gcI ?_ | with_reducible refine gnI ?_ | with_reducible refine aNI ?_ | ((with_reducible refine ttI ?_ ?_); exact rfl) | ((with_reducible refine And.intro ?_ ?_); exact rfl) | ((with_reducible refine And.intro ?_ ?_); exact lenOk rfl) | dsimp only [En.s]))
  refine ixTI (d := btD b) rfl ?_
  unfold btD
  (repeat (first | with_reducible refine seqI ?_ | with_reducible refine setI ?_ | with_reducible refine asgI ?_ | with_reducible refine retI ?_ | with_reducible refine opI ?_ | with_reducible refine callI ?_ | with_reducible refine consI ?_ | with_reducible refine cI ?_ | with_reducible refine nilI ?_ | ((with_reducible apply varI); exact rfl) | with_reducible refine cbI ?_ | with_reducible refine ifI ?_ | with_reducible refine tstI ?_ | with_reducible refine notTI ?_ | with_reducible refine andTI ?_ | with_reducible refine orTI ?_ | with_reducible refine dropI ?_ | with_reducible refine nextI ?_ | with_reducible refine tupI ?_ | with_reducible refine lstI ?_ | with_reducible refine starI ?_ | with_reducible refine starTT ?_ | with_reducible refine andI ?_ | with_reducible refine orVI ?_ | with_reducible refine notI ?_ | with_reducible refine ifEI ?_ | with_reducible refine forI ?_ | with_reducible refine r1I ?_ | with_reducible refine ir2I ?_ | with_reducible refine iTupI ?_ | with_reducible refine truI ?_ | with_reducible refine chainI ?_ | with_reducible refine lcI ?_ | with_reducible refine slI ?_ | with_reducible refine noPI ?_ | with_reducible refine ptI ?_ | with_reducible refine unI ?_ | with_reducible refine brkI ?_ | with_reducible refine cntI ?_ | with_reducible refine retNI ?_ | with_reducible refine addII ?_ | with_reducible refine rI0 ?_ | with_reducible refine rIC ?_ ?_ | with_reducible refine mulII ?_ ?_ | with_reducible refine addTT ?_ ?_ | with_reducible refine addSS ?_ ?_ | with_reducible refine negII ?_ | with_reducible refine eqII ?_ | with_reducible refine eqSS ?_ | with_reducible refine eqBB ?_ | with_reducible refine neII ?_ | with_reducible refine neSS ?_ | with_reducible refine neBB ?_ | with_reducible refine isNN ?_ | with_reducible refine isNotNN ?_ | with_reducible refine isBB ?_ | with_reducible refine isNotBB ?_ | with_reducible refine lenTI ?_ | with_reducible refine lenFI ?_ | with_reducible refine intII ?_ | with_reducible refine intBI ?_ | with_reducible refine tupTI ?_ | with_reducible refine minII ?_ | with_reducible refine maxII ?_ | with_reducible refine slTI ?_ | with_reducible refine gcI ?_ | with_reducible refine gnI ?_ | with_reducible refine aNI ?_ | ((with_reducible refine ttI ?_ ?_); exact rfl) | ((with_reducible refine And.intro ?_ ?_); exact rfl) | ((with_reducible refine And.intro ?_ ?_); exact lenOk rfl) | dsimp only [En.s]))
  refine ixTI (d := .int (ring : Nat)) rfl ?_
  (repeat (first | with_reducible refine seqI ?_ | with_reducible refine setI ?_ | with_reducible refine asgI ?_ | with_reducible refine retI ?_ | with_reducible refine opI ?_ | with_reducible refine callI ?_ | with_reducible refine consI ?_ | with_reducible refine cI ?_ | with_reducible refine nilI ?_ | ((with_reducible apply varI); exact rfl) | with_reducible refine cbI ?_ | with_reducible refine ifI ?_ | with_reducible refine tstI ?_ | with_reducible refine notTI ?_ | with_reducible refine andTI ?_ | with_reducible refine orTI ?_ | with_reducible refine dropI ?_ | with_reducible refine nextI ?_ | with_reducible refine tupI ?_ | with_reducible refine lstI ?_ | with_reducible refine starI ?_ | with_reducible refine starTT ?_ | with_reducible refine andI ?_ | with_reducible refine orVI ?_ | with_reducible refine notI ?_ | with_reducible refine ifEI ?_ | with_reducible refine forI ?_ | with_reducible refine r1I ?_ | with_reducible refine ir2I ?_ | with_reducible refine iTupI ?_ | with_reducible refine truI ?_ | with_reducible refine chainI ?_ | with_reducible refine lcI ?_ | with_reducible refine slI ?_ | with_reducible refine noPI ?_ | with_reducible refine ptI ?_ | with_reducible refine unI ?_ | with_reducible refine brkI ?_ | with_reducible refine cntI ?_ | with_reducible refine retNI ?_ | with_reducible refine addII ?_ | with_reducible refine rI0 ?_ | with_reducible refine rIC ?_ ?_ | with_reducible refine mulII ?_ ?_ | with_reducible refine addTT ?_ ?_ | with_reducible refine addSS ?_ ?_ | with_reducible refine negII ?_ | with_reducible refine eqII ?_ | with_reducible refine eqSS ?_ | with_reducible refine eqBB ?_ | with_reducible refine neII ?_ | with_reducible refine neSS ?_ | with_reducible refine neBB ?_ | with_reducible refine isNN ?_ | with_reducible refine isNotNN ?_ | with_reducible refine isBB ?_ | with_reducible refine isNotBB ?_ | with_reducible refine lenTI ?_ | with_reducible refine lenFI ?_ | with_reducible refine intII ?_ | with_reducible refine intBI ?_ | with_reducible refine tupTI ?_ | with_reducible refine minII ?_ | with_reducible refine maxII ?_ | with_reducible refine slTI ?_ | with_reducible refine gcI ?_ | with_reducible refine gnI ?_ | with_reducible refine aNI ?_ | ((with_reducible refine ttI ?_ ?_); exact rfl) | ((with_reducible refine And.intro ?_ ?_); exact rfl) | ((with_reducible refine And.intro ?_ ?_); exact lenOk rfl) | dsimp only [En.s]))
  rw [List.length_map]
  refine bl_t (decide_eq_true (by omega)) ?_
  (repeat (first | with_reducible refine seqI ?_ | with_reducible refine setI ?_ | with_reducible refine asgI ?_ | with_reducible refine retI ?_ | with_reducible refine opI ?_ | with_reducible refine callI ?_ | with_reducible refine consI ?_ | with_reducible refine cI ?_ | with_reducible refine nilI ?_ | ((with_reducible apply varI); exact rfl) | with_reducible refine cbI ?_ | with_reducible refine ifI ?_ | with_reducible refine tstI ?_ | with_reducible refine notTI ?_ | with_reducible refine andTI ?_ | with_reducible refine orTI ?_ | with_reducible refine dropI ?_ | with_reducible refine nextI ?_ | with_reducible refine tupI ?_ | with_reducible refine lstI ?_ | with_reducible refine starI ?_ | with_reducible refine starTT ?_ | with_reducible refine andI ?_ | with_reducible refine orVI ?_ | with_reducible refine notI ?_ | with_reducible refine ifEI ?_ | with_reducible refine forI ?_ | with_reducible refine r1I ?_ | with_reducible refine ir2I ?_ | with_reducible refine iTupI ?_ | with_reducible refine truI ?_ | with_reducible refine chainI ?_ | with_reducible refine lcI ?_ | with_reducible refine slI ?_ | with_reducible refine noPI ?_ | with_reducible refine ptI ?_ | with_reducible refine unI ?_ | with_reducible refine brkI ?_ | with_reducible refine cntI ?_ | with_reducible refine retNI ?_ | with_reducible refine addII ?_ | with_reducible refine rI0 ?_ | with_reducible refine rIC ?_ ?_ | with_reducible refine mulII ?_ ?_ | with_reducible refine addTT ?_ ?_ | with_reducible refine addSS ?_ ?_ | with_reducible refine negII ?_ | with_reducible refine eqII ?_ | with_reducible refine eqSS ?_ | with_reducible refine eqBB ?_ | with_reducible refine neII ?_ | with_reducible refine neSS ?_ | with_reducible refine neBB ?_ | with_reducible refine isNN ?_ | with_reducible refine isNotNN ?_ | with_reducible refine isBB ?_ | with_reducible refine isNotBB ?_ | with_reducible refine lenTI ?_ | with_reducible refine lenFI ?_ | with_reducible refine intII ?_ | with_reducible refine intBI ?_ | with_reducible refine tupTI ?_ | with_reducible refine minII ?_ | with_reducible refine maxII ?_ | with_reducible refine slTI ?_ | with_reducible refine gcI ?_ | with_reducible refine gnI ?_ | with_reducible refine aNI ?_ | ((with_reducible refine ttI ?_ ?_); exact rfl) | ((with_reducible refine And.intro ?_ ?_); exact rfl) | ((with_reducible refine And.intro ?_ ?_); exact lenOk rfl) | dsimp only [En.s]))
  exact q
theorem fits_c {A : AEnds} {ring : Nat} {gd : M → Prop} {rest : List D} {pages : Nat} {x1 x3 : Option D} {u : Nat} (hgd : gd m) (q : forL (aN 3) bl_f_law_fits_0 gd rest A [some (shD pages ring), x1, some (.int ((0 : Nat) : Int)), some ckD] m) :
    forL (aN 3) bl_f_law_fits_0 gd (ckD :: rest) A [some (shD pages ring), x1, some (.int (u : Nat)), x3] m := by
  unfold forL
  refine ⟨hgd, ?_⟩
  generalize forL (aN 3) bl_f_law_fits_0 gd rest A = X at q ⊢
  unfold bl_f_law_fits_0 ckD at *
  (repeat (first | with_reducible refine seqI ?_ | with_reducible refine setI ?_ | with_reducible refine asgI ?_ | with_reducible refine retI ?_ | with_reducible refine opI ?_ | with_reducible refine callI ?_ | with_reducible refine consI ?_ | with_reducible refine cI ?_ | with_reducible refine nilI ?_ | ((with_reducible apply varI); exact rfl) | with_reducible refine cbI ?_ | with_reducible refine ifI ?_ | with_reducible refine tstI ?_ | with_reducible refine notTI ?_ | with_reducible refine andTI ?_ | with_reducible refine orTI ?_ | with_reducible refine dropI ?_ | with_reducible refine nextI ?_ | with_reducible refine tupI ?_ | with_reducible refine lstI ?_ | with_reducible refine starI ?_ | with_reducible refine starTT ?_ | with_reducible refine andI ?_ | with_reducible refine orVI ?_ | with_reducible refine notI ?_ | with_reducible refine ifEI ?_ | with_reducible refine forI ?_ | with_reducible refine r1I ?_ | with_reducible refine ir2I ?_ | with_reducible refine iTupI ?_ | with_reducible refine truI ?_ | with_reducible refine chainI ?_ | with_reducible refine lcI ?_ | with_reducible refine slI ?_ | with_reducible refine noPI ?_ | with_reducible refine ptI ?_ | with_reducible refine unI ?_ | with_reducible refine brkI ?_ | with_reducible refine cntI ?_ | with_reducible refine retNI ?_ | with_reducible refine addII ?_ | with_reducible refine rI0 ?_ | with_reducible refine rIC ?_ ?_ | with_reducible refine mulII ?_ ?_ | with_reducible refine addTT ?_ ?_ | with_reducible refine addSS ?_ ?_ | with_reducible refine negII ?_ | with_reducible refine eqII ?_ | with_reducible refine eqSS ?_ | with_reducible refine eqBB ?_ | with_reducible refine neII ?_ | with_reducible refine neSS ?_ | with_reducible refine neBB ?_ | with_reducible refine isNN ?_ | with_reducible refine isNotNN ?_ | with_reducible refine isBB ?_ | with_reducible refine isNotBB ?_ | with_reducible refine lenTI ?_ | with_reducible refine lenFI ?_ | with_reducible refine intII ?_ | with_reducible refine intBI ?_ | with_reducible refine tupTI ?_ | with_reducible refine minII ?_ | with_reducible refine maxII ?_ | with_reducible refine slTI ?_ | with_reducible refine gcI ?_ | with_reducible refine gnI ?_ | with_reducible refine aNI ?_ | ((with_reducible refine ttI ?_ ?_); exact rfl) | ((with_reducible refine And.intro ?_ ?_); exact rfl) | ((with_reducible refine And.intro ?_ ?_); exact lenOk rfl) | dsimp only [En.s]))
  refine ixTI (d := .str "check") rfl ?_
  (repeat (first | with_reducible refine seqI ?_ | with_reducible refine setI ?_ | with_reducible refine asgI ?_ | with_reducible refine retI ?_ | with_reducible refine opI ?_ | with_reducible refine callI ?_ | with_reducible refine consI ?_ | with_reducible refine cI ?_ | with_reducible refine nilI ?_ | ((with_reducible apply varI); exact rfl) | with_reducible refine cbI ?_ | with_reducible refine ifI ?_ | with_reducible refine tstI ?_ | with_reducible refine notTI ?_ | with_reducible refine andTI ?_ | with_reducible refine orTI ?_ | with_reducible refine dropI ?_ | with_reducible refine nextI ?_ | with_reducible refine tupI ?_ | with_reducible refine lstI ?_ | with_reducible refine starI ?_ | with_reducible refine starTT ?_ | with_reducible refine andI ?_ | with_reducible refine orVI ?_ | with_reducible refine notI ?_ | with_reducible refine ifEI ?_ | with_reducible refine forI ?_ | with_reducible refine r1I ?_ | with_reducible refine ir2I ?_ | with_reducible refine iTupI ?_ | with_reducible refine truI ?_ | with_reducible refine chainI ?_ | with_reducible refine lcI ?_ | with_reducible refine slI ?_ | with_reducible refine noPI ?_ | with_reducible refine ptI ?_ | with_reducible refine unI ?_ | with_reducible refine brkI ?_ | with_reducible refine cntI ?_ | with_reducible refine retNI ?_ | with_reducible refine addII ?_ | with_reducible refine rI0 ?_ | with_reducible refine rIC ?_ ?_ | with_reducible refine mulII ?_ ?_ | with_reducible refine addTT ?_ ?_ | with_reducible refine addSS ?_ ?_ | with_reducible refine negII ?_ | with_reducible refine eqII ?_ | with_reducible refine eqSS ?_ | with_reducible refine eqBB ?_ | with_reducible refine neII ?_ | with_reducible refine neSS ?_ | with_reducible refine neBB ?_ | with_reducible refine isNN ?_ | with_reducible refine isNotNN ?_ | with_reducible refine isBB ?_ | with_reducible refine isNotBB ?_ | with_reducible refine lenTI ?_ | with_reducible refine lenFI ?_ | with_reducible refine intII ?_ | with_reducible refine intBI ?_ | with_reducible refine tupTI ?_ | with_reducible refine minII ?_ | with_reducible refine maxII ?_ | with_reducible refine slTI ?_ | with_reducible refine gcI ?_ | with_reducible refine gnI ?_ | with_reducible refine aNI ?_ | ((with_reducible refine ttI ?_ ?_); exact rfl) | ((with_reducible refine And.intro ?_ ?_); exact rfl) | ((with_reducible refine And.intro ?_ ?_); exact lenOk rfl) | dsimp only [En.s]))
  refine bl_f (by decide +kernel) ?_
  (repeat (first | with_reducible refine seqI ?_ | with_reducible refine setI ?_ | with_reducible refine asgI ?_ | with_reducible refine retI ?_ | with_reducible refine opI ?_ | with_reducible refine callI ?_ | with_reducible refine consI ?_ | with_reducible refine cI ?_ | with_reducible refine nilI ?_ | ((with_reducible apply varI); exact rfl) | with_reducible refine cbI ?_ | with_reducible refine ifI ?_ | with_reducible refine tstI ?_ | with_reducible refine notTI ?_ | with_reducible refine andTI ?_ | with_reducible refine orTI ?_ | with_reducible refine dropI ?_ | with_reducible refine nextI ?_ | with_reducible refine tupI ?_ | with_reducible refine lstI ?_ | with_reducible refine starI ?_ | with_reducible refine starTT ?_ | with_reducible refine andI ?_ | with_reducible refine orVI ?_ | with_reducible refine notI ?_ | with_reducible refine ifEI ?_ | with_reducible refine forI ?_ | with_reducible refine r1I ?_ | with_reducible refine ir2I ?_ | with_reducible refine iTupI ?_ | with_reducible refine truI ?_ | with_reducible refine chainI ?_ | with_reducible refine lcI ?_ | with_reducible refine slI ?_ | with_reducible refine noPI ?_ | with_reducible refine ptI ?_ | with_reducible refine unI ?_ | with_reducible refine brkI ?_ | with_reducible refine cntI ?_ | with_reducible refine retNI ?_ | with_reducible refine addII ?_ | with_reducible refine rI0 ?_ | with_reducible refine rIC ?_ ?_ | with_reducible refine mulII ?_ ?_ | with_reducible refine addTT ?_ ?_ | with_reducible refine addSS ?_ ?_ | with_reducible refine negII ?_ | with_reducible refine eqII ?_ | with_reducible refine eqSS ?_ | with_reducible refine eqBB ?_ | with_reducible refine neII ?_ | with_reducible refine neSS ?_ | with_reducible refine neBB ?_ | with_reducible refine isNN ?_ | with_reducible refine isNotNN ?_ | with_reducible refine isBB ?_ | with_reducible refine isNotBB ?_ | with_reducible refine lenTI ?_ | with_reducible refine lenFI ?_ | with_reducible refine intII ?_ | with_reducible refine intBI ?_ | with_reducible refine tupTI ?_ | with_reducible refine minII ?_ | with_reducible refine maxII ?_ | with_reducible refine slTI ?_ | with_reducible refine gcI ?_ | with_reducible refine gnI ?_ | with_reducible refine aNI ?_ | ((with_reducible refine ttI ?_ ?_); exact rfl) | ((with_reducible refine And.intro ?_ ?_); exact rfl) | ((with_reducible refine And.intro ?_ ?_); exact lenOk rfl) | dsimp only [En.s]))
  refine ixTI (d := .int (ring : Nat)) rfl ?_
  (repeat (first | with_reducible refine seqI ?_ | with_reducible refine setI ?_ | with_reducible refine asgI ?_ | with_reducible refine retI ?_ | with_reducible refine opI ?_ | with_reducible refine callI ?_ | with_reducible refine consI ?_ | with_reducible refine cI ?_ | with_reducible refine nilI ?_ | ((with_reducible apply varI); exact rfl) | with_reducible refine cbI ?_ | with_reducible refine ifI ?_ | with_reducible refine tstI ?_ | with_reducible refine notTI ?_ | with_reducible refine andTI ?_ | with_reducible refine orTI ?_ | with_reducible refine dropI ?_ | with_reducible refine nextI ?_ | with_reducible refine tupI ?_ | with_reducible refine lstI ?_ | with_reducible refine starI ?_ | with_reducible refine starTT ?_ | with_reducible refine andI ?_ | with_reducible refine orVI ?_ | with_reducible refine notI ?_ | with_reducible refine ifEI ?_ | with_reducible refine forI ?_ | with_reducible refine r1I ?_ | with_reducible refine ir2I ?_ | with_reducible refine iTupI ?_ | with_reducible refine truI ?_ | with_reducible refine chainI ?_ | with_reducible refine lcI ?_ | with_reducible refine slI ?_ | with_reducible refine noPI ?_ | with_reducible refine ptI ?_ | with_reducible refine unI ?_ | with_reducible refine brkI ?_ | with_reducible refine cntI ?_ | with_reducible refine retNI ?_ | with_reducible refine addII ?_ | with_reducible refine rI0 ?_ | with_reducible refine rIC ?_ ?_ | with_reducible refine mulII ?_ ?_ | with_reducible refine addTT ?_ ?_ | with_reducible refine addSS ?_ ?_ | with_reducible refine negII ?_ | with_reducible refine eqII ?_ | with_reducible refine eqSS ?_ | with_reducible refine eqBB ?_ | with_reducible refine neII ?_ | with_reducible refine neSS ?_ | with_reducible refine neBB ?_ | with_reducible refine isNN ?_ | with_reducible refine isNotNN ?_ | with_reducible refine isBB ?_ | with_reducible refine isNotBB ?_ | with_reducible refine lenTI ?_ | with_reducible refine lenFI ?_ | with_reducible refine intII ?_ | with_reducible refine intBI ?_ | with_reducible refine tupTI ?_ | with_reducible refine minII ?_ | with_reducible refine maxII ?_ | with_reducible refine slTI ?_ | with_reducible refine gcI ?_ | with_reducible refine gnI ?_ | with_reducible refine aNI ?_ | ((with_reducible refine ttI ?_ ?_); exact rfl) | ((with_reducible refine And.intro ?_ ?_); exact rfl) | ((with_reducible refine And.intro ?_ ?_); exact lenOk rfl) | dsimp only [En.s]))
  refine bl_f (decide_eq_false (by omega)) ?_
  (repeat (first | with_reducible refine seqI ?_ | with_reducible refine setI ?_ | with_reducible refine asgI ?_ | with_reducible refine retI ?_ | with_reducible refine opI ?_ | with_reducible refine callI ?_ | with_reducible refine consI ?_ | with_reducible refine cI ?_ | with_reducible refine nilI ?_ | ((with_reducible apply varI); exact rfl) | with_reducible refine cbI ?_ | with_reducible refine ifI ?_ | with_reducible refine tstI ?_ | with_reducible refine notTI ?_ | with_reducible refine andTI ?_ | with_reducible refine orTI ?_ | with_reducible refine dropI ?_ | with_reducible refine nextI ?_ | with_reducible refine tupI ?_ | with_reducible refine lstI ?_ | with_reducible refine starI ?_ | with_reducible refine starTT ?_ | with_reducible refine andI ?_ | with_reducible refine orVI ?_ | with_reducible refine notI ?_ | with_reducible refine ifEI ?_ | with_reducible refine forI ?_ | with_reducible refine r1I ?_ | with_reducible refine ir2I ?_ | with_reducible refine iTupI ?_ | with_reducible refine truI ?_ | with_reducible refine chainI ?_ | with_reducible refine lcI ?_ | with_reducible refine slI ?_ | with_reducible refine noPI ?_ | with_reducible refine ptI ?_ | with_reducible refine unI ?_ | with_reducible refine brkI ?_ | with_reducible refine cntI ?_ | with_reducible refine retNI ?_ | with_reducible refine addII ?_ | with_reducible refine rI0 ?_ | with_reducible refine rIC ?_ ?_ | with_reducible refine mulII ?_ ?_ | with_reducible refine addTT ?_ ?_ | with_reducible refine addSS ?_ ?_ | with_reducible refine negII ?_ | with_reducible refine eqII ?_ | with_reducible refine eqSS ?_ | with_reducible refine eqBB ?_ | with_reducible refine neII ?_ | with_reducible refine neSS ?_ | with_reducible refine neBB ?_ | with_reducible refine isNN ?_ | with_reducible refine isNotNN ?_ | with_reducible refine isBB ?_ | with_reducible refine isNotBB ?_ | with_reducible refine lenTI ?_ | with_reducible refine lenFI ?_ | with_reducible refine intII ?_ | with_reducible refine intBI ?_ | with_reducible refine tupTI ?_ | with_reducible refine minII ?_ | with_reducible refine maxII ?_ | with_reducible refine slTI ?_ | with_reducible refine gcI ?_ | with_reducible refine gnI ?_ | with_reducible refine aNI ?_ | ((with_reducible refine ttI ?_ ?_); exact rfl) | ((with_reducible refine And.intro ?_ ?_); exact rfl) | ((with_reducible refine And.intro ?_ ?_); exact lenOk rfl) | dsimp only [En.s]))
  exact q
theorem fits_loop {A : AEnds} {ring pages : Nat} {gd : M → Prop} {c : Nat → Bool} {x1 : Option D} {tl : List D} (htl : tl = [] ∨ tl = [ckD]) (hgd : ∀ m, gd m) :
    ∀ (bs : List Bt) (i u : Nat) (x3 : Option D), (fitc ring c i u (szs bs) = true → ∀ u y3, A.nx [some (shD pages ring), x1, some (.int (u : Nat)), y3] m) → (fitc ring c i u (szs bs) = false → A.rt (.bl false) m) →
      forL (aN 3) bl_f_law_fits_0 gd (dl c i bs ++ tl) A [some (shD pages ring), x1, some (.int (u : Nat)), x3] m
  | [], i, u, x3, hq, h => by
    rw [dl, List.nil_append]
    rcases htl with e | e
    · subst e; exact ⟨hgd _, hq rfl _ _⟩
    · subst e
      exact fits_c (hgd _) ⟨hgd _, hq rfl 0 _⟩
  | b :: bs, i, u, x3, hq, h => by
    have key : ∀ u x3, ((decide (u + b.length ≤ ring) && fitc ring c (i + 1) (u + b.length) (szs bs)) = true → ∀ u y3, A.nx [some (shD pages ring), x1, some (.int (u : Nat)), y3] m) → ((decide (u + b.length ≤ ring) && fitc ring c (i + 1) (u + b.length) (szs bs)) = false → A.rt (.bl false) m) →
        forL (aN 3) bl_f_law_fits_0 gd (wrD b :: (dl c (i + 1) bs ++ tl)) A [some (shD pages ring), x1, some (.int (u : Nat)), x3] m := by
      intro u x3 h1 h2
      by_cases ho : u + b.length ≤ ring
      · rw [decide_eq_true ho, Bool.true_and] at h1 h2
        exact fits_w (hgd _) ho (fits_loop htl hgd bs (i + 1) (u + b.length) _ h1 h2)
      · exact fits_o (hgd _) (by omega) (h2 (by simp [ho]))
    have h1 : (decide ((if c i = true then 0 else u) + b.length ≤ ring) && fitc ring c (i + 1) ((if c i = true then 0 else u) + b.length) (szs bs)) = true → ∀ u y3, A.nx [some (shD pages ring), x1, some (.int (u : Nat)), y3] m := hq
    have h2 : (decide ((if c i = true then 0 else u) + b.length ≤ ring) && fitc ring c (i + 1) ((if c i = true then 0 else u) + b.length) (szs bs)) = false → A.rt (.bl false) m := h
    rw [dl, List.append_assoc, List.cons_append]
    by_cases hc : c i = true
    · rw [if_pos hc] at h1 h2 ⊢
      exact fits_c (hgd _) (key 0 _ h1 h2)
    · rw [if_neg hc] at h1 h2 ⊢
      exact key u _ h1 h2
theorem lawFits {ring pages : Nat} {bs : List Bt} {S : List Nat} {Q : PQ} {R : PX} (q : Q (.bl (fitc ring (fun j => S.contains j) 0 0 (szs bs))) m) : s_f_law_fits [shD pages ring, .tup (dl (fun j => S.contains j) 0 bs ++ endD S bs)] m Q R := by
  refine ent_f_law_fits ?_
  unfold b_f_law_fits
  (repeat (first | with_reducible refine seqI ?_ | with_reducible refine setI ?_ | with_reducible refine asgI ?_ | with_reducible refine retI ?_ | with_reducible refine opI ?_ | with_reducible refine callI ?_ | with_reducible refine consI ?_ | with_reducible refine cI ?_ | with_reducible refine nilI ?_ | ((with_reducible apply varI); exact rfl) | with_reducible refine cbI ?_ | with_reducible refine ifI ?_ | with_reducible refine tstI ?_ | with_reducible refine notTI ?_ | with_reducible refine andTI ?_ | with_reducible refine orTI ?_ | with_reducible refine dropI ?_ | with_reducible refine nextI ?_ | with_reducible refine tupI ?_ | with_reducible refine lstI ?_ | with_reducible refine starI ?_ | with_reducible refine starTT ?_ | with_reducible refine andI ?_ | with_reducible refine orVI ?_ | with_reducible refine notI ?_ | with_reducible refine ifEI ?_ | with_reducible refine forI ?_ | with_reducible refine r1I ?_ | with_reducible refine ir2I ?_ | with_reducible refine iTupI ?_ | with_reducible refine truI ?_ | with_reducible refine chainI ?_ | with_reducible refine lcI ?_ | with_reducible refine slI ?_ | with_reducible refine noPI ?_ | with_reducible refine ptI ?_ | with_reducible refine unI ?_ | with_reducible refine brkI ?_ | with_reducible refine cntI ?_ | with_reducible refine retNI ?_ | with_reducible refine addII ?_ | with_reducible refine rI0 ?_ | with_reducible refine rIC ?_ ?_ | with_reducible refine mulII ?_ ?_ | with_reducible refine addTT ?_ ?_ | with_reducible refine addSS ?_ ?_ | with_reducible refine negII ?_ | with_reducible refine eqII ?_ | with_reducible refine eqSS ?_ | with_reducible refine eqBB ?_ | with_reducible refine neII ?_ | with_reducible refine neSS ?_ | with_reducible refine neBB ?_ | with_reducible refine isNN ?_ | with_reducible refine isNotNN ?_ | with_reducible refine isBB ?_ | with_reducible refine isNotBB ?_ | with_reducible refine lenTI ?_ | with_reducible refine lenFI ?_ | with_reducible refine intII ?_ | with_reducible refine intBI ?_ | with_reducible refine tupTI ?_ | with_reducible refine minII ?_ | with_reducible refine maxII ?_ | with_reducible refine slTI ?_ | with_reducible refine gcI ?_ | with_reducible refine gnI ?_ | with_reducible refine aNI ?_ | ((with_reducible refine ttI ?_ ?_); exact rfl) | ((with_reducible refine And.intro ?_ ?_); exact rfl) | ((with_reducible refine And.intro ?_ ?_); exact lenOk rfl) | dsimp only [En.s]))
  have he : endD S bs = [] ∨ endD S bs = [ckD] := by unfold endD; split <;> simp
  refine fits_loop he (fun _ => trivial) bs 0 0 none (fun z u y3 => ?_) (fun z => ?_)
  · rw [z] at q
    (repeat (first | with_reducible refine seqI ?_ | with_reducible refine setI ?_ | with_reducible refine asgI ?_ | with_reducible refine retI ?_ | with_reducible refine opI ?_ | with_reducible refine callI ?_ | with_reducible refine consI ?_ | with_reducible refine cI ?_ | with_reducible refine nilI ?_ | ((with_reducible apply varI); exact rfl) | with_reducible refine cbI ?_ | with_reducible refine ifI ?_ | with_reducible refine tstI ?_ | with_reducible refine notTI ?_ | with_reducible refine andTI ?_ | with_reducible refine orTI ?_ | with_reducible refine dropI ?_ | with_reducible refine nextI ?_ | with_reducible refine tupI ?_ | with_reducible refine lstI ?_ | with_reducible refine starI ?_ | with_reducible refine starTT ?_ | with_reducible refine andI ?_ | with_reducible refine orVI ?_ | with_reducible refine notI ?_ | with_reducible refine ifEI ?_ | with_reducible refine forI ?_ | with_reducible refine r1I ?_ | with_reducible refine ir2I ?_ | with_reducible refine iTupI ?_ | with_reducible refine truI ?_ | with_reducible refine chainI ?_ | with_reducible refine lcI ?_ | with_reducible refine slI ?_ | with_reducible refine noPI ?_ | with_reducible refine ptI ?_ | with_reducible refine unI ?_ | with_reducible refine brkI ?_ | with_reducible refine cntI ?_ | with_reducible refine retNI ?_ | with_reducible refine addII ?_ | with_reducible refine rI0 ?_ | with_reducible refine rIC ?_ ?_ | with_reducible refine mulII ?_ ?_ | with_reducible refine addTT ?_ ?_ | with_reducible refine addSS ?_ ?_ | with_reducible refine negII ?_ | with_reducible refine eqII ?_ | with_reducible refine eqSS ?_ | with_reducible refine eqBB ?_ | with_reducible refine neII ?_ | with_reducible refine neSS ?_ | with_reducible refine neBB ?_ | with_reducible refine isNN ?_ | with_reducible refine isNotNN ?_ | with_reducible refine isBB ?_ | with_reducible refine isNotBB ?_ | with_reducible refine lenTI ?_ | with_reducible refine lenFI ?_ | with_reducible refine intII ?_ | with_reducible refine intBI ?_ | with_reducible refine tupTI ?_ | with_reducible refine minII ?_ | with_reducible refine maxII ?_ | with_reducible refine slTI ?_ | with_reducible refine gcI ?_ | with_reducible refine gnI ?_ | with_reducible refine aNI ?_ | ((with_reducible refine ttI ?_ ?_); exact rfl) | ((with_reducible refine And.intro ?_ ?_); exact rfl) | ((with_reducible refine And.intro ?_ ?_); exact lenOk rfl) | dsimp only [En.s]))
    exact ⟨_, Ab.Sub.refl _, q⟩
  · rw [z] at q
    exact ⟨_, Ab.Sub.refl _, q⟩
end
end K32

set_option linter.all false
set_option maxRecDepth 100000
set_option maxHeartbeats 2000000
namespace K32
open PySem PySem.Spec PyProof.Rows L2 Ab
section
variable {m : M}
theorem checkShape {pages ring : Nat} {Q : PQ} {R : PX} (h1 : 1 ≤ pages) (h2 : pages ≤ 64) (h3 : 2 ≤ ring) (h4 : ring ≤ 64) (q : Q .non m) : s_check_shape [shD pages ring] m Q R := by
  refine ent_check_shape ?_
  unfold b_check_shape
  (repeat (first | with_reducible refine seqI ?_ | with_reducible refine setI ?_ | with_reducible refine asgI ?_ | with_reducible refine retI ?_ | with_reducible refine opI ?_ | with_reducible refine callI ?_ | with_reducible refine consI ?_ | with_reducible refine cI ?_ | with_reducible refine nilI ?_ | ((with_reducible apply varI); exact rfl) | with_reducible refine cbI ?_ | with_reducible refine ifI ?_ | with_reducible refine tstI ?_ | with_reducible refine notTI ?_ | with_reducible refine andTI ?_ | with_reducible refine orTI ?_ | with_reducible refine dropI ?_ | with_reducible refine nextI ?_ | with_reducible refine tupI ?_ | with_reducible refine lstI ?_ | with_reducible refine starI ?_ | with_reducible refine starTT ?_ | with_reducible refine andI ?_ | with_reducible refine orVI ?_ | with_reducible refine notI ?_ | with_reducible refine ifEI ?_ | with_reducible refine forI ?_ | with_reducible refine r1I ?_ | with_reducible refine ir2I ?_ | with_reducible refine iTupI ?_ | with_reducible refine truI ?_ | with_reducible refine chainI ?_ | with_reducible refine lcI ?_ | with_reducible refine slI ?_ | with_reducible refine noPI ?_ | with_reducible refine ptI ?_ | with_reducible refine unI ?_ | with_reducible refine brkI ?_ | with_reducible refine cntI ?_ | with_reducible refine retNI ?_ | with_reducible refine addII ?_ | with_reducible refine rI0 ?_ | with_reducible refine rIC ?_ ?_ | with_reducible refine mulII ?_ ?_ | with_reducible refine addTT ?_ ?_ | with_reducible refine addSS ?_ ?_ | with_reducible refine negII ?_ | with_reducible refine eqII ?_ | with_reducible refine eqSS ?_ | with_reducible refine eqBB ?_ | with_reducible refine neII ?_ | with_reducible refine neSS ?_ | with_reducible refine neBB ?_ | with_reducible refine isNN ?_ | with_reducible refine isNotNN ?_ | with_reducible refine isBB ?_ | with_reducible refine isNotBB ?_ | with_reducible refine lenTI ?_ | with_reducible refine lenFI ?_ | with_reducible refine intII ?_ | with_reducible refine intBI ?_ | with_reducible refine tupTI ?_ | with_reducible refine minII ?_ | with_reducible refine maxII ?_ | with_reducible refine slTI ?_ | with_reducible refine gcI ?_ | with_reducible refine gnI ?_ | with_reducible refine aNI ?_ | ((with_reducible refine ttI ?_ ?_); exact rfl) | ((with_reducible refine And.intro ?_ ?_); exact rfl) | ((with_reducible refine And.intro ?_ ?_); exact lenOk rfl) | dsimp only [En.s]))
  refine tupOf (by simp) (by simp) ?_
  refine bl_f rfl ?_
  (repeat (first | with_reducible refine seqI ?_ | with_reducible refine setI ?_ | with_reducible refine asgI ?_ | with_reducible refine retI ?_ | with_reducible refine opI ?_ | with_reducible refine callI ?_ | with_reducible refine consI ?_ | with_reducible refine cI ?_ | with_reducible refine nilI ?_ | ((with_reducible apply varI); exact rfl) | with_reducible refine cbI ?_ | with_reducible refine ifI ?_ | with_reducible refine tstI ?_ | with_reducible refine notTI ?_ | with_reducible refine andTI ?_ | with_reducible refine orTI ?_ | with_reducible refine dropI ?_ | with_reducible refine nextI ?_ | with_reducible refine tupI ?_ | with_reducible refine lstI ?_ | with_reducible refine starI ?_ | with_reducible refine starTT ?_ | with_reducible refine andI ?_ | with_reducible refine orVI ?_ | with_reducible refine notI ?_ | with_reducible refine ifEI ?_ | with_reducible refine forI ?_ | with_reducible refine r1I ?_ | with_reducible refine ir2I ?_ | with_reducible refine iTupI ?_ | with_reducible refine truI ?_ | with_reducible refine chainI ?_ | with_reducible refine lcI ?_ | with_reducible refine slI ?_ | with_reducible refine noPI ?_ | with_reducible refine ptI ?_ | with_reducible refine unI ?_ | with_reducible refine brkI ?_ | with_reducible refine cntI ?_ | with_reducible refine retNI ?_ | with_reducible refine addII ?_ | with_reducible refine rI0 ?_ | with_reducible refine rIC ?_ ?_ | with_reducible refine mulII ?_ ?_ | with_reducible refine addTT ?_ ?_ | with_reducible refine addSS ?_ ?_ | with_reducible refine negII ?_ | with_reducible refine eqII ?_ | with_reducible refine eqSS ?_ | with_reducible refine eqBB ?_ | with_reducible refine neII ?_ | with_reducible refine neSS ?_ | with_reducible refine neBB ?_ | with_reducible refine isNN ?_ | with_reducible refine isNotNN ?_ | with_reducible refine isBB ?_ | with_reducible refine isNotBB ?_ | with_reducible refine lenTI ?_ | with_reducible refine lenFI ?_ | with_reducible refine intII ?_ | with_reducible refine intBI ?_ | with_reducible refine tupTI ?_ | with_reducible refine minII ?_ | with_reducible refine maxII ?_ | with_reducible refine slTI ?_ | with_reducible refine gcI ?_ | with_reducible refine gnI ?_ | with_reducible refine aNI ?_ | ((with_reducible refine ttI ?_ ?_); exact rfl) | ((with_reducible refine And.intro ?_ ?_); exact rfl) | ((with_reducible refine And.intro ?_ ?_); exact lenOk rfl) | dsimp only [En.s]))
  refine isInt_t (by omega) (by omega) ?_
  refine bl_f rfl ?_
  (repeat (first | with_reducible refine seqI ?_ | with_reducible refine setI ?_ | with_reducible refine asgI ?_ | with_reducible refine retI ?_ | with_reducible refine opI ?_ | with_reducible refine callI ?_ | with_reducible refine consI ?_ | with_reducible refine cI ?_ | with_reducible refine nilI ?_ | ((with_reducible apply varI); exact rfl) | with_reducible refine cbI ?_ | with_reducible refine ifI ?_ | with_reducible refine tstI ?_ | with_reducible refine notTI ?_ | with_reducible refine andTI ?_ | with_reducible refine orTI ?_ | with_reducible refine dropI ?_ | with_reducible refine nextI ?_ | with_reducible refine tupI ?_ | with_reducible refine lstI ?_ | with_reducible refine starI ?_ | with_reducible refine starTT ?_ | with_reducible refine andI ?_ | with_reducible refine orVI ?_ | with_reducible refine notI ?_ | with_reducible refine ifEI ?_ | with_reducible refine forI ?_ | with_reducible refine r1I ?_ | with_reducible refine ir2I ?_ | with_reducible refine iTupI ?_ | with_reducible refine truI ?_ | with_reducible refine chainI ?_ | with_reducible refine lcI ?_ | with_reducible refine slI ?_ | with_reducible refine noPI ?_ | with_reducible refine ptI ?_ | with_reducible refine unI ?_ | with_reducible refine brkI ?_ | with_reducible refine cntI ?_ | with_reducible refine retNI ?_ | with_reducible refine addII ?_ | with_reducible refine rI0 ?_ | with_reducible refine rIC ?_ ?_ | with_reducible refine mulII ?_ ?_ | with_reducible refine addTT ?_ ?_ | with_reducible refine addSS ?_ ?_ | with_reducible refine negII ?_ | with_reducible refine eqII ?_ | with_reducible refine eqSS ?_ | with_reducible refine eqBB ?_ | with_reducible refine neII ?_ | with_reducible refine neSS ?_ | with_reducible refine neBB ?_ | with_reducible refine isNN ?_ | with_reducible refine isNotNN ?_ | with_reducible refine isBB ?_ | with_reducible refine isNotBB ?_ | with_reducible refine lenTI ?_ | with_reducible refine lenFI ?_ | with_reducible refine intII ?_ | with_reducible refine intBI ?_ | with_reducible refine tupTI ?_ | with_reducible refine minII ?_ | with_reducible refine maxII ?_ | with_reducible refine slTI ?_ | with_reducible refine gcI ?_ | with_reducible refine gnI ?_ | with_reducible refine aNI ?_ | ((with_reducible refine ttI ?_ ?_); exact rfl) | ((with_reducible refine And.intro ?_ ?_); exact rfl) | ((with_reducible refine And.intro ?_ ?_); exact lenOk rfl) | dsimp only [En.s]))
  refine isInt_t (by omega) (by omega) ?_
  refine bl_f rfl ?_
  (repeat (first | with_reducible refine seqI ?_ | with_reducible refine setI ?_ | with_reducible refine asgI ?_ | with_reducible refine retI ?_ | with_reducible refine opI ?_ | with_reducible refine callI ?_ | with_reducible refine consI ?_ | with_reducible refine cI ?_ | with_reducible refine nilI ?_ | ((with_reducible apply varI); exact rfl) | with_reducible refine cbI ?_ | with_reducible refine ifI ?_ | with_reducible refine tstI ?_ | with_reducible refine notTI ?_ | with_reducible refine andTI ?_ | with_reducible refine orTI ?_ | with_reducible refine dropI ?_ | with_reducible refine nextI ?_ | with_reducible refine tupI ?_ | with_reducible refine lstI ?_ | with_reducible refine starI ?_ | with_reducible refine starTT ?_ | with_reducible refine andI ?_ | with_reducible refine orVI ?_ | with_reducible refine notI ?_ | with_reducible refine ifEI ?_ | with_reducible refine forI ?_ | with_reducible refine r1I ?_ | with_reducible refine ir2I ?_ | with_reducible refine iTupI ?_ | with_reducible refine truI ?_ | with_reducible refine chainI ?_ | with_reducible refine lcI ?_ | with_reducible refine slI ?_ | with_reducible refine noPI ?_ | with_reducible refine ptI ?_ | with_reducible refine unI ?_ | with_reducible refine brkI ?_ | with_reducible refine cntI ?_ | with_reducible refine retNI ?_ | with_reducible refine addII ?_ | with_reducible refine rI0 ?_ | with_reducible refine rIC ?_ ?_ | with_reducible refine mulII ?_ ?_ | with_reducible refine addTT ?_ ?_ | with_reducible refine addSS ?_ ?_ | with_reducible refine negII ?_ | with_reducible refine eqII ?_ | with_reducible refine eqSS ?_ | with_reducible refine eqBB ?_ | with_reducible refine neII ?_ | with_reducible refine neSS ?_ | with_reducible refine neBB ?_ | with_reducible refine isNN ?_ | with_reducible refine isNotNN ?_ | with_reducible refine isBB ?_ | with_reducible refine isNotBB ?_ | with_reducible refine lenTI ?_ | with_reducible refine lenFI ?_ | with_reducible refine intII ?_ | with_reducible refine intBI ?_ | with_reducible refine tupTI ?_ | with_reducible refine minII ?_ | with_reducible refine maxII ?_ | with_reducible refine slTI ?_ | with_reducible refine gcI ?_ | with_reducible refine gnI ?_ | with_reducible refine aNI ?_ | ((with_reducible refine ttI ?_ ?_); exact rfl) | ((with_reducible refine And.intro ?_ ?_); exact rfl) | ((with_reducible refine And.intro ?_ ?_); exact lenOk rfl) | dsimp only [En.s]))
  exact ⟨_, Ab.Sub.refl _, q⟩
theorem cb_loop {A : AEnds} {x0 : Option D} {gd : M → Prop} (hgd : ∀ m, gd m) : ∀ (b : Bt) (i least : Nat) (x2 x3 x4 x5 : Option D), (∀ p ∈ b, least ≤ p.1 ∧ p.1 < 64 ∧ By p.2 ∧ p.2.length ≤ 96) → (b.map (·.1)).Pairwise (· < ·) →
    (∀ y1 y2 y3 y4 y5, A.nx [x0, y1, y2, y3, y4, y5] m) → forL (aTT 2 (aGCons (aN 2) (aGCons (aN 3) (aGNil)))) bl_check_batch_3 gd (enL i (b.map prD)) A [x0, some (.int (least : Nat)), x2, x3, x4, x5] m
  | [], i, least, x2, x3, x4, x5, h, hs, q => ⟨hgd _, q _ _ _ _ _⟩
  | p :: b, i, least, x2, x3, x4, x5, h, hs, q => by
    have ih := fun least x2 x3 x4 x5 => cb_loop (A := A) (x0 := x0) (gd := gd) hgd b (i + 1) least x2 x3 x4 x5
    obtain ⟨a1, a2, a3, a4⟩ := h p (by simp)
    rw [List.map_cons] at hs
    obtain ⟨hs1, hs2⟩ := List.pairwise_cons.mp hs
    rw [List.map_cons, enL]
    unfold forL
    refine ⟨hgd _, rfl, ?_⟩
    generalize forL (aTT 2 (aGCons (aN 2) (aGCons (aN 3) (aGNil)))) bl_check_batch_3 gd (enL (i + 1) (b.map prD)) A = X at ih ⊢
    unfold bl_check_batch_3 prD
    (repeat (first | with_reducible refine seqI ?_ | with_reducible refine setI ?_ | with_reducible refine asgI ?_ | with_reducible refine retI ?_ | with_reducible refine opI ?_ | with_reducible refine callI ?_ | with_reducible refine consI ?_ | with_reducible refine cI ?_ | with_reducible refine nilI ?_ | ((with_reducible apply varI); exact rfl) | with_reducible refine cbI ?_ | with_reducible refine ifI ?_ | with_reducible refine tstI ?_ | with_reducible refine notTI ?_ | with_reducible refine andTI ?_ | with_reducible refine orTI ?_ | with_reducible refine dropI ?_ | with_reducible refine nextI ?_ | with_reducible refine tupI ?_ | with_reducible refine lstI ?_ | with_reducible refine starI ?_ | with_reducible refine starTT ?_ | with_reducible refine andI ?_ | with_reducible refine orVI ?_ | with_reducible refine notI ?_ | with_reducible refine ifEI ?_ | with_reducible refine forI ?_ | with_reducible refine r1I ?_ | with_reducible refine ir2I ?_ | with_reducible refine iTupI ?_ | with_reducible refine truI ?_ | with_reducible refine chainI ?_ | with_reducible refine lcI ?_ | with_reducible refine slI ?_ | with_reducible refine noPI ?_ | with_reducible refine ptI ?_ | with_reducible refine unI ?_ | with_reducible refine brkI ?_ | with_reducible refine cntI ?_ | with_reducible refine retNI ?_ | with_reducible refine addII ?_ | with_reducible refine rI0 ?_ | with_reducible refine rIC ?_ ?_ | with_reducible refine mulII ?_ ?_ | with_reducible refine addTT ?_ ?_ | with_reducible refine addSS ?_ ?_ | with_reducible refine negII ?_ | with_reducible refine eqII ?_ | with_reducible refine eqSS ?_ | with_reducible refine eqBB ?_ | with_reducible refine neII ?_ | with_reducible refine neSS ?_ | with_reducible refine neBB ?_ | with_reducible refine isNN ?_ | with_reducible refine isNotNN ?_ | with_reducible refine isBB ?_ | with_reducible refine isNotBB ?_ | with_reducible refine lenTI ?_ | with_reducible refine lenFI ?_ | with_reducible refine intII ?_ | with_reducible refine intBI ?_ | with_reducible refine tupTI ?_ | with_reducible refine minII ?_ | with_reducible refine maxII ?_ | with_reducible refine slTI ?_ | with_reducible refine gcI ?_ | with_reducible refine gnI ?_ | with_reducible refine aNI ?_ | ((with_reducible refine ttI ?_ ?_); exact rfl) | ((with_reducible refine And.intro ?_ ?_); exact rfl) | ((with_reducible refine And.intro ?_ ?_); exact lenOk rfl) | dsimp only [En.s]))
    refine tupOf (by simp) (by simp) ?_
    refine bl_f rfl ?_
    (repeat (first | with_reducible refine seqI ?_ | with_reducible refine setI ?_ | with_reducible refine asgI ?_ | with_reducible refine retI ?_ | with_reducible refine opI ?_ | with_reducible refine callI ?_ | with_reducible refine consI ?_ | with_reducible refine cI ?_ | with_reducible refine nilI ?_ | ((with_reducible apply varI); exact rfl) | with_reducible refine cbI ?_ | with_reducible refine ifI ?_ | with_reducible refine tstI ?_ | with_reducible refine notTI ?_ | with_reducible refine andTI ?_ | with_reducible refine orTI ?_ | with_reducible refine dropI ?_ | with_reducible refine nextI ?_ | with_reducible refine tupI ?_ | with_reducible refine lstI ?_ | with_reducible refine starI ?_ | with_reducible refine starTT ?_ | with_reducible refine andI ?_ | with_reducible refine orVI ?_ | with_reducible refine notI ?_ | with_reducible refine ifEI ?_ | with_reducible refine forI ?_ | with_reducible refine r1I ?_ | with_reducible refine ir2I ?_ | with_reducible refine iTupI ?_ | with_reducible refine truI ?_ | with_reducible refine chainI ?_ | with_reducible refine lcI ?_ | with_reducible refine slI ?_ | with_reducible refine noPI ?_ | with_reducible refine ptI ?_ | with_reducible refine unI ?_ | with_reducible refine brkI ?_ | with_reducible refine cntI ?_ | with_reducible refine retNI ?_ | with_reducible refine addII ?_ | with_reducible refine rI0 ?_ | with_reducible refine rIC ?_ ?_ | with_reducible refine mulII ?_ ?_ | with_reducible refine addTT ?_ ?_ | with_reducible refine addSS ?_ ?_ | with_reducible refine negII ?_ | with_reducible refine eqII ?_ | with_reducible refine eqSS ?_ | with_reducible refine eqBB ?_ | with_reducible refine neII ?_ | with_reducible refine neSS ?_ | with_reducible refine neBB ?_ | with_reducible refine isNN ?_ | with_reducible refine isNotNN ?_ | with_reducible refine isBB ?_ | with_reducible refine isNotBB ?_ | with_reducible refine lenTI ?_ | with_reducible refine lenFI ?_ | with_reducible refine intII ?_ | with_reducible refine intBI ?_ | with_reducible refine tupTI ?_ | with_reducible refine minII ?_ | with_reducible refine maxII ?_ | with_reducible refine slTI ?_ | with_reducible refine gcI ?_ | with_reducible refine gnI ?_ | with_reducible refine aNI ?_ | ((with_reducible refine ttI ?_ ?_); exact rfl) | ((with_reducible refine And.intro ?_ ?_); exact rfl) | ((with_reducible refine And.intro ?_ ?_); exact lenOk rfl) | dsimp only [En.s]))
    unfold bl_check_batch_2
    (repeat (first | with_reducible refine seqI ?_ | with_reducible refine setI ?_ | with_reducible refine asgI ?_ | with_reducible refine retI ?_ | with_reducible refine opI ?_ | with_reducible refine callI ?_ | with_reducible refine consI ?_ | with_reducible refine cI ?_ | with_reducible refine nilI ?_ | ((with_reducible apply varI); exact rfl) | with_reducible refine cbI ?_ | with_reducible refine ifI ?_ | with_reducible refine tstI ?_ | with_reducible refine notTI ?_ | with_reducible refine andTI ?_ | with_reducible refine orTI ?_ | with_reducible refine dropI ?_ | with_reducible refine nextI ?_ | with_reducible refine tupI ?_ | with_reducible refine lstI ?_ | with_reducible refine starI ?_ | with_reducible refine starTT ?_ | with_reducible refine andI ?_ | with_reducible refine orVI ?_ | with_reducible refine notI ?_ | with_reducible refine ifEI ?_ | with_reducible refine forI ?_ | with_reducible refine r1I ?_ | with_reducible refine ir2I ?_ | with_reducible refine iTupI ?_ | with_reducible refine truI ?_ | with_reducible refine chainI ?_ | with_reducible refine lcI ?_ | with_reducible refine slI ?_ | with_reducible refine noPI ?_ | with_reducible refine ptI ?_ | with_reducible refine unI ?_ | with_reducible refine brkI ?_ | with_reducible refine cntI ?_ | with_reducible refine retNI ?_ | with_reducible refine addII ?_ | with_reducible refine rI0 ?_ | with_reducible refine rIC ?_ ?_ | with_reducible refine mulII ?_ ?_ | with_reducible refine addTT ?_ ?_ | with_reducible refine addSS ?_ ?_ | with_reducible refine negII ?_ | with_reducible refine eqII ?_ | with_reducible refine eqSS ?_ | with_reducible refine eqBB ?_ | with_reducible refine neII ?_ | with_reducible refine neSS ?_ | with_reducible refine neBB ?_ | with_reducible refine isNN ?_ | with_reducible refine isNotNN ?_ | with_reducible refine isBB ?_ | with_reducible refine isNotBB ?_ | with_reducible refine lenTI ?_ | with_reducible refine lenFI ?_ | with_reducible refine intII ?_ | with_reducible refine intBI ?_ | with_reducible refine tupTI ?_ | with_reducible refine minII ?_ | with_reducible refine maxII ?_ | with_reducible refine slTI ?_ | with_reducible refine gcI ?_ | with_reducible refine gnI ?_ | with_reducible refine aNI ?_ | ((with_reducible refine ttI ?_ ?_); exact rfl) | ((with_reducible refine And.intro ?_ ?_); exact rfl) | ((with_reducible refine And.intro ?_ ?_); exact lenOk rfl) | dsimp only [En.s]))
    unfold bl_check_batch_1
    (repeat (first | with_reducible refine seqI ?_ | with_reducible refine setI ?_ | with_reducible refine asgI ?_ | with_reducible refine retI ?_ | with_reducible refine opI ?_ | with_reducible refine callI ?_ | with_reducible refine consI ?_ | with_reducible refine cI ?_ | with_reducible refine nilI ?_ | ((with_reducible apply varI); exact rfl) | with_reducible refine cbI ?_ | with_reducible refine ifI ?_ | with_reducible refine tstI ?_ | with_reducible refine notTI ?_ | with_reducible refine andTI ?_ | with_reducible refine orTI ?_ | with_reducible refine dropI ?_ | with_reducible refine nextI ?_ | with_reducible refine tupI ?_ | with_reducible refine lstI ?_ | with_reducible refine starI ?_ | with_reducible refine starTT ?_ | with_reducible refine andI ?_ | with_reducible refine orVI ?_ | with_reducible refine notI ?_ | with_reducible refine ifEI ?_ | with_reducible refine forI ?_ | with_reducible refine r1I ?_ | with_reducible refine ir2I ?_ | with_reducible refine iTupI ?_ | with_reducible refine truI ?_ | with_reducible refine chainI ?_ | with_reducible refine lcI ?_ | with_reducible refine slI ?_ | with_reducible refine noPI ?_ | with_reducible refine ptI ?_ | with_reducible refine unI ?_ | with_reducible refine brkI ?_ | with_reducible refine cntI ?_ | with_reducible refine retNI ?_ | with_reducible refine addII ?_ | with_reducible refine rI0 ?_ | with_reducible refine rIC ?_ ?_ | with_reducible refine mulII ?_ ?_ | with_reducible refine addTT ?_ ?_ | with_reducible refine addSS ?_ ?_ | with_reducible refine negII ?_ | with_reducible refine eqII ?_ | with_reducible refine eqSS ?_ | with_reducible refine eqBB ?_ | with_reducible refine neII ?_ | with_reducible refine neSS ?_ | with_reducible refine neBB ?_ | with_reducible refine isNN ?_ | with_reducible refine isNotNN ?_ | with_reducible refine isBB ?_ | with_reducible refine isNotBB ?_ | with_reducible refine lenTI ?_ | with_reducible refine lenFI ?_ | with_reducible refine intII ?_ | with_reducible refine intBI ?_ | with_reducible refine tupTI ?_ | with_reducible refine minII ?_ | with_reducible refine maxII ?_ | with_reducible refine slTI ?_ | with_reducible refine gcI ?_ | with_reducible refine gnI ?_ | with_reducible refine aNI ?_ | ((with_reducible refine ttI ?_ ?_); exact rfl) | ((with_reducible refine And.intro ?_ ?_); exact rfl) | ((with_reducible refine And.intro ?_ ?_); exact lenOk rfl) | dsimp only [En.s]))
    refine isInt_t (by omega) (by omega) ?_
    refine bl_f rfl ?_
    (repeat (first | with_reducible refine seqI ?_ | with_reducible refine setI ?_ | with_reducible refine asgI ?_ | with_reducible refine retI ?_ | with_reducible refine opI ?_ | with_reducible refine callI ?_ | with_reducible refine consI ?_ | with_reducible refine cI ?_ | with_reducible refine nilI ?_ | ((with_reducible apply varI); exact rfl) | with_reducible refine cbI ?_ | with_reducible refine ifI ?_ | with_reducible refine tstI ?_ | with_reducible refine notTI ?_ | with_reducible refine andTI ?_ | with_reducible refine orTI ?_ | with_reducible refine dropI ?_ | with_reducible refine nextI ?_ | with_reducible refine tupI ?_ | with_reducible refine lstI ?_ | with_reducible refine starI ?_ | with_reducible refine starTT ?_ | with_reducible refine andI ?_ | with_reducible refine orVI ?_ | with_reducible refine notI ?_ | with_reducible refine ifEI ?_ | with_reducible refine forI ?_ | with_reducible refine r1I ?_ | with_reducible refine ir2I ?_ | with_reducible refine iTupI ?_ | with_reducible refine truI ?_ | with_reducible refine chainI ?_ | with_reducible refine lcI ?_ | with_reducible refine slI ?_ | with_reducible refine noPI ?_ | with_reducible refine ptI ?_ | with_reducible refine unI ?_ | with_reducible refine brkI ?_ | with_reducible refine cntI ?_ | with_reducible refine retNI ?_ | with_reducible refine addII ?_ | with_reducible refine rI0 ?_ | with_reducible refine rIC ?_ ?_ | with_reducible refine mulII ?_ ?_ | with_reducible refine addTT ?_ ?_ | with_reducible refine addSS ?_ ?_ | with_reducible refine negII ?_ | with_reducible refine eqII ?_ | with_reducible refine eqSS ?_ | with_reducible refine eqBB ?_ | with_reducible refine neII ?_ | with_reducible refine neSS ?_ | with_reducible refine neBB ?_ | with_reducible refine isNN ?_ | with_reducible refine isNotNN ?_ | with_reducible refine isBB ?_ | with_reducible refine isNotBB ?_ | with_reducible refine lenTI ?_ | with_reducible refine lenFI ?_ | with_reducible refine intII ?_ | with_reducible refine intBI ?_ | with_reducible refine tupTI ?_ | with_reducible refine minII ?_ | with_reducible refine maxII ?_ | with_reducible refine slTI ?_ | with_reducible refine gcI ?_ | with_reducible refine gnI ?_ | with_reducible refine aNI ?_ | ((with_reducible refine ttI ?_ ?_); exact rfl) | ((with_reducible refine And.intro ?_ ?_); exact rfl) | ((with_reducible refine And.intro ?_ ?_); exact lenOk rfl) | dsimp only [En.s]))
    refine ent_is_page ?_
    unfold b_is_page
    (repeat (first | with_reducible refine seqI ?_ | with_reducible refine setI ?_ | with_reducible refine asgI ?_ | with_reducible refine retI ?_ | with_reducible refine opI ?_ | with_reducible refine callI ?_ | with_reducible refine consI ?_ | with_reducible refine cI ?_ | with_reducible refine nilI ?_ | ((with_reducible apply varI); exact rfl) | with_reducible refine cbI ?_ | with_reducible refine ifI ?_ | with_reducible refine tstI ?_ | with_reducible refine notTI ?_ | with_reducible refine andTI ?_ | with_reducible refine orTI ?_ | with_reducible refine dropI ?_ | with_reducible refine nextI ?_ | with_reducible refine tupI ?_ | with_reducible refine lstI ?_ | with_reducible refine starI ?_ | with_reducible refine starTT ?_ | with_reducible refine andI ?_ | with_reducible refine orVI ?_ | with_reducible refine notI ?_ | with_reducible refine ifEI ?_ | with_reducible refine forI ?_ | with_reducible refine r1I ?_ | with_reducible refine ir2I ?_ | with_reducible refine iTupI ?_ | with_reducible refine truI ?_ | with_reducible refine chainI ?_ | with_reducible refine lcI ?_ | with_reducible refine slI ?_ | with_reducible refine noPI ?_ | with_reducible refine ptI ?_ | with_reducible refine unI ?_ | with_reducible refine brkI ?_ | with_reducible refine cntI ?_ | with_reducible refine retNI ?_ | with_reducible refine addII ?_ | with_reducible refine rI0 ?_ | with_reducible refine rIC ?_ ?_ | with_reducible refine mulII ?_ ?_ | with_reducible refine addTT ?_ ?_ | with_reducible refine addSS ?_ ?_ | with_reducible refine negII ?_ | with_reducible refine eqII ?_ | with_reducible refine eqSS ?_ | with_reducible refine eqBB ?_ | with_reducible refine neII ?_ | with_reducible refine neSS ?_ | with_reducible refine neBB ?_ | with_reducible refine isNN ?_ | with_reducible refine isNotNN ?_ | with_reducible refine isBB ?_ | with_reducible refine isNotBB ?_ | with_reducible refine lenTI ?_ | with_reducible refine lenFI ?_ | with_reducible refine intII ?_ | with_reducible refine intBI ?_ | with_reducible refine tupTI ?_ | with_reducible refine minII ?_ | with_reducible refine maxII ?_ | with_reducible refine slTI ?_ | with_reducible refine gcI ?_ | with_reducible refine gnI ?_ | with_reducible refine aNI ?_ | ((with_reducible refine ttI ?_ ?_); exact rfl) | ((with_reducible refine And.intro ?_ ?_); exact rfl) | ((with_reducible refine And.intro ?_ ?_); exact lenOk rfl) | dsimp only [En.s]))
    refine areBytes (by omega) (by rw [iD_len]; omega) (bytes_iD a3) ⟨_, Ab.Sub.refl _, ?_⟩
    (repeat (first | with_reducible refine seqI ?_ | with_reducible refine setI ?_ | with_reducible refine asgI ?_ | with_reducible refine retI ?_ | with_reducible refine opI ?_ | with_reducible refine callI ?_ | with_reducible refine consI ?_ | with_reducible refine cI ?_ | with_reducible refine nilI ?_ | ((with_reducible apply varI); exact rfl) | with_reducible refine cbI ?_ | with_reducible refine ifI ?_ | with_reducible refine tstI ?_ | with_reducible refine notTI ?_ | with_reducible refine andTI ?_ | with_reducible refine orTI ?_ | with_reducible refine dropI ?_ | with_reducible refine nextI ?_ | with_reducible refine tupI ?_ | with_reducible refine lstI ?_ | with_reducible refine starI ?_ | with_reducible refine starTT ?_ | with_reducible refine andI ?_ | with_reducible refine orVI ?_ | with_reducible refine notI ?_ | with_reducible refine ifEI ?_ | with_reducible refine forI ?_ | with_reducible refine r1I ?_ | with_reducible refine ir2I ?_ | with_reducible refine iTupI ?_ | with_reducible refine truI ?_ | with_reducible refine chainI ?_ | with_reducible refine lcI ?_ | with_reducible refine slI ?_ | with_reducible refine noPI ?_ | with_reducible refine ptI ?_ | with_reducible refine unI ?_ | with_reducible refine brkI ?_ | with_reducible refine cntI ?_ | with_reducible refine retNI ?_ | with_reducible refine addII ?_ | with_reducible refine rI0 ?_ | with_reducible refine rIC ?_ ?_ | with_reducible refine mulII ?_ ?_ | with_reducible refine addTT ?_ ?_ | with_reducible refine addSS ?_ ?_ | with_reducible refine negII ?_ | with_reducible refine eqII ?_ | with_reducible refine eqSS ?_ | with_reducible refine eqBB ?_ | with_reducible refine neII ?_ | with_reducible refine neSS ?_ | with_reducible refine neBB ?_ | with_reducible refine isNN ?_ | with_reducible refine isNotNN ?_ | with_reducible refine isBB ?_ | with_reducible refine isNotBB ?_ | with_reducible refine lenTI ?_ | with_reducible refine lenFI ?_ | with_reducible refine intII ?_ | with_reducible refine intBI ?_ | with_reducible refine tupTI ?_ | with_reducible refine minII ?_ | with_reducible refine maxII ?_ | with_reducible refine slTI ?_ | with_reducible refine gcI ?_ | with_reducible refine gnI ?_ | with_reducible refine aNI ?_ | ((with_reducible refine ttI ?_ ?_); exact rfl) | ((with_reducible refine And.intro ?_ ?_); exact rfl) | ((with_reducible refine And.intro ?_ ?_); exact lenOk rfl) | dsimp only [En.s]))
    refine bl_f rfl ?_
    (repeat (first | with_reducible refine seqI ?_ | with_reducible refine setI ?_ | with_reducible refine asgI ?_ | with_reducible refine retI ?_ | with_reducible refine opI ?_ | with_reducible refine callI ?_ | with_reducible refine consI ?_ | with_reducible refine cI ?_ | with_reducible refine nilI ?_ | ((with_reducible apply varI); exact rfl) | with_reducible refine cbI ?_ | with_reducible refine ifI ?_ | with_reducible refine tstI ?_ | with_reducible refine notTI ?_ | with_reducible refine andTI ?_ | with_reducible refine orTI ?_ | with_reducible refine dropI ?_ | with_reducible refine nextI ?_ | with_reducible refine tupI ?_ | with_reducible refine lstI ?_ | with_reducible refine starI ?_ | with_reducible refine starTT ?_ | with_reducible refine andI ?_ | with_reducible refine orVI ?_ | with_reducible refine notI ?_ | with_reducible refine ifEI ?_ | with_reducible refine forI ?_ | with_reducible refine r1I ?_ | with_reducible refine ir2I ?_ | with_reducible refine iTupI ?_ | with_reducible refine truI ?_ | with_reducible refine chainI ?_ | with_reducible refine lcI ?_ | with_reducible refine slI ?_ | with_reducible refine noPI ?_ | with_reducible refine ptI ?_ | with_reducible refine unI ?_ | with_reducible refine brkI ?_ | with_reducible refine cntI ?_ | with_reducible refine retNI ?_ | with_reducible refine addII ?_ | with_reducible refine rI0 ?_ | with_reducible refine rIC ?_ ?_ | with_reducible refine mulII ?_ ?_ | with_reducible refine addTT ?_ ?_ | with_reducible refine addSS ?_ ?_ | with_reducible refine negII ?_ | with_reducible refine eqII ?_ | with_reducible refine eqSS ?_ | with_reducible refine eqBB ?_ | with_reducible refine neII ?_ | with_reducible refine neSS ?_ | with_reducible refine neBB ?_ | with_reducible refine isNN ?_ | with_reducible refine isNotNN ?_ | with_reducible refine isBB ?_ | with_reducible refine isNotBB ?_ | with_reducible refine lenTI ?_ | with_reducible refine lenFI ?_ | with_reducible refine intII ?_ | with_reducible refine intBI ?_ | with_reducible refine tupTI ?_ | with_reducible refine minII ?_ | with_reducible refine maxII ?_ | with_reducible refine slTI ?_ | with_reducible refine gcI ?_ | with_reducible refine gnI ?_ | with_reducible refine aNI ?_ | ((with_reducible refine ttI ?_ ?_); exact rfl) | ((with_reducible refine And.intro ?_ ?_); exact rfl) | ((with_reducible refine And.intro ?_ ?_); exact lenOk rfl) | dsimp only [En.s]))
    unfold bl_check_batch_0
    (repeat (first | with_reducible refine seqI ?_ | with_reducible refine setI ?_ | with_reducible refine asgI ?_ | with_reducible refine retI ?_ | with_reducible refine opI ?_ | with_reducible refine callI ?_ | with_reducible refine consI ?_ | with_reducible refine cI ?_ | with_reducible refine nilI ?_ | ((with_reducible apply varI); exact rfl) | with_reducible refine cbI ?_ | with_reducible refine ifI ?_ | with_reducible refine tstI ?_ | with_reducible refine notTI ?_ | with_reducible refine andTI ?_ | with_reducible refine orTI ?_ | with_reducible refine dropI ?_ | with_reducible refine nextI ?_ | with_reducible refine tupI ?_ | with_reducible refine lstI ?_ | with_reducible refine starI ?_ | with_reducible refine starTT ?_ | with_reducible refine andI ?_ | with_reducible refine orVI ?_ | with_reducible refine notI ?_ | with_reducible refine ifEI ?_ | with_reducible refine forI ?_ | with_reducible refine r1I ?_ | with_reducible refine ir2I ?_ | with_reducible refine iTupI ?_ | with_reducible refine truI ?_ | with_reducible refine chainI ?_ | with_reducible refine lcI ?_ | with_reducible refine slI ?_ | with_reducible refine noPI ?_ | with_reducible refine ptI ?_ | with_reducible refine unI ?_ | with_reducible refine brkI ?_ | with_reducible refine cntI ?_ | with_reducible refine retNI ?_ | with_reducible refine addII ?_ | with_reducible refine rI0 ?_ | with_reducible refine rIC ?_ ?_ | with_reducible refine mulII ?_ ?_ | with_reducible refine addTT ?_ ?_ | with_reducible refine addSS ?_ ?_ | with_reducible refine negII ?_ | with_reducible refine eqII ?_ | with_reducible refine eqSS ?_ | with_reducible refine eqBB ?_ | with_reducible refine neII ?_ | with_reducible refine neSS ?_ | with_reducible refine neBB ?_ | with_reducible refine isNN ?_ | with_reducible refine isNotNN ?_ | with_reducible refine isBB ?_ | with_reducible refine isNotBB ?_ | with_reducible refine lenTI ?_ | with_reducible refine lenFI ?_ | with_reducible refine intII ?_ | with_reducible refine intBI ?_ | with_reducible refine tupTI ?_ | with_reducible refine minII ?_ | with_reducible refine maxII ?_ | with_reducible refine slTI ?_ | with_reducible refine gcI ?_ | with_reducible refine gnI ?_ | with_reducible refine aNI ?_ | ((with_reducible refine ttI ?_ ?_); exact rfl) | ((with_reducible refine And.intro ?_ ?_); exact rfl) | ((with_reducible refine And.intro ?_ ?_); exact lenOk rfl) | dsimp only [En.s]))
    refine ih (p.1 + 1) _ _ _ _ (fun z hz => ?_) hs2 q
    obtain ⟨b1, b2, b3, b4⟩ := h z (by simp [hz])
    have := hs1 z.1 (List.mem_map.mpr ⟨z, hz, rfl⟩)
    exact ⟨by omega, b2, b3, b4⟩
theorem checkBatch {b : Bt} {pages most L : Nat} {Q : PQ} {R : PX} (h : BtOk pages most L b) (hp : pages ≤ 64) (hm : most ≤ 64) (hL : L ≤ 96) (q : Q .non m) : s_check_batch [btD b] m Q R := by
  refine ent_check_batch ?_
  unfold b_check_batch btD
  have h1 := h.pos
  have h2 := h.len
  (repeat (first | with_reducible refine seqI ?_ | with_reducible refine setI ?_ | with_reducible refine asgI ?_ | with_reducible refine retI ?_ | with_reducible refine opI ?_ | with_reducible refine callI ?_ | with_reducible refine consI ?_ | with_reducible refine cI ?_ | with_reducible refine nilI ?_ | ((with_reducible apply varI); exact rfl) | with_reducible refine cbI ?_ | with_reducible refine ifI ?_ | with_reducible refine tstI ?_ | with_reducible refine notTI ?_ | with_reducible refine andTI ?_ | with_reducible refine orTI ?_ | with_reducible refine dropI ?_ | with_reducible refine nextI ?_ | with_reducible refine tupI ?_ | with_reducible refine lstI ?_ | with_reducible refine starI ?_ | with_reducible refine starTT ?_ | with_reducible refine andI ?_ | with_reducible refine orVI ?_ | with_reducible refine notI ?_ | with_reducible refine ifEI ?_ | with_reducible refine forI ?_ | with_reducible refine r1I ?_ | with_reducible refine ir2I ?_ | with_reducible refine iTupI ?_ | with_reducible refine truI ?_ | with_reducible refine chainI ?_ | with_reducible refine lcI ?_ | with_reducible refine slI ?_ | with_reducible refine noPI ?_ | with_reducible refine ptI ?_ | with_reducible refine unI ?_ | with_reducible refine brkI ?_ | with_reducible refine cntI ?_ | with_reducible refine retNI ?_ | with_reducible refine addII ?_ | with_reducible refine rI0 ?_ | with_reducible refine rIC ?_ ?_ | with_reducible refine mulII ?_ ?_ | with_reducible refine addTT ?_ ?_ | with_reducible refine addSS ?_ ?_ | with_reducible refine negII ?_ | with_reducible refine eqII ?_ | with_reducible refine eqSS ?_ | with_reducible refine eqBB ?_ | with_reducible refine neII ?_ | with_reducible refine neSS ?_ | with_reducible refine neBB ?_ | with_reducible refine isNN ?_ | with_reducible refine isNotNN ?_ | with_reducible refine isBB ?_ | with_reducible refine isNotBB ?_ | with_reducible refine lenTI ?_ | with_reducible refine lenFI ?_ | with_reducible refine intII ?_ | with_reducible refine intBI ?_ | with_reducible refine tupTI ?_ | with_reducible refine minII ?_ | with_reducible refine maxII ?_ | with_reducible refine slTI ?_ | with_reducible refine gcI ?_ | with_reducible refine gnI ?_ | with_reducible refine aNI ?_ | ((with_reducible refine ttI ?_ ?_); exact rfl) | ((with_reducible refine And.intro ?_ ?_); exact rfl) | ((with_reducible refine And.intro ?_ ?_); exact lenOk rfl) | dsimp only [En.s]))
  refine tupOf (by simp; omega) (by simp; omega) ?_
  refine bl_f rfl ?_
  (repeat (first | with_reducible refine seqI ?_ | with_reducible refine setI ?_ | with_reducible refine asgI ?_ | with_reducible refine retI ?_ | with_reducible refine opI ?_ | with_reducible refine callI ?_ | with_reducible refine consI ?_ | with_reducible refine cI ?_ | with_reducible refine nilI ?_ | ((with_reducible apply varI); exact rfl) | with_reducible refine cbI ?_ | with_reducible refine ifI ?_ | with_reducible refine tstI ?_ | with_reducible refine notTI ?_ | with_reducible refine andTI ?_ | with_reducible refine orTI ?_ | with_reducible refine dropI ?_ | with_reducible refine nextI ?_ | with_reducible refine tupI ?_ | with_reducible refine lstI ?_ | with_reducible refine starI ?_ | with_reducible refine starTT ?_ | with_reducible refine andI ?_ | with_reducible refine orVI ?_ | with_reducible refine notI ?_ | with_reducible refine ifEI ?_ | with_reducible refine forI ?_ | with_reducible refine r1I ?_ | with_reducible refine ir2I ?_ | with_reducible refine iTupI ?_ | with_reducible refine truI ?_ | with_reducible refine chainI ?_ | with_reducible refine lcI ?_ | with_reducible refine slI ?_ | with_reducible refine noPI ?_ | with_reducible refine ptI ?_ | with_reducible refine unI ?_ | with_reducible refine brkI ?_ | with_reducible refine cntI ?_ | with_reducible refine retNI ?_ | with_reducible refine addII ?_ | with_reducible refine rI0 ?_ | with_reducible refine rIC ?_ ?_ | with_reducible refine mulII ?_ ?_ | with_reducible refine addTT ?_ ?_ | with_reducible refine addSS ?_ ?_ | with_reducible refine negII ?_ | with_reducible refine eqII ?_ | with_reducible refine eqSS ?_ | with_reducible refine eqBB ?_ | with_reducible refine neII ?_ | with_reducible refine neSS ?_ | with_reducible refine neBB ?_ | with_reducible refine isNN ?_ | with_reducible refine isNotNN ?_ | with_reducible refine isBB ?_ | with_reducible refine isNotBB ?_ | with_reducible refine lenTI ?_ | with_reducible refine lenFI ?_ | with_reducible refine intII ?_ | with_reducible refine intBI ?_ | with_reducible refine tupTI ?_ | with_reducible refine minII ?_ | with_reducible refine maxII ?_ | with_reducible refine slTI ?_ | with_reducible refine gcI ?_ | with_reducible refine gnI ?_ | with_reducible refine aNI ?_ | ((with_reducible refine ttI ?_ ?_); exact rfl) | ((with_reducible refine And.intro ?_ ?_); exact rfl) | ((with_reducible refine And.intro ?_ ?_); exact lenOk rfl) | dsimp only [En.s]))
  unfold bl_check_batch_5
  (repeat (first | with_reducible refine seqI ?_ | with_reducible refine setI ?_ | with_reducible refine asgI ?_ | with_reducible refine retI ?_ | with_reducible refine opI ?_ | with_reducible refine callI ?_ | with_reducible refine consI ?_ | with_reducible refine cI ?_ | with_reducible refine nilI ?_ | ((with_reducible apply varI); exact rfl) | with_reducible refine cbI ?_ | with_reducible refine ifI ?_ | with_reducible refine tstI ?_ | with_reducible refine notTI ?_ | with_reducible refine andTI ?_ | with_reducible refine orTI ?_ | with_reducible refine dropI ?_ | with_reducible refine nextI ?_ | with_reducible refine tupI ?_ | with_reducible refine lstI ?_ | with_reducible refine starI ?_ | with_reducible refine starTT ?_ | with_reducible refine andI ?_ | with_reducible refine orVI ?_ | with_reducible refine notI ?_ | with_reducible refine ifEI ?_ | with_reducible refine forI ?_ | with_reducible refine r1I ?_ | with_reducible refine ir2I ?_ | with_reducible refine iTupI ?_ | with_reducible refine truI ?_ | with_reducible refine chainI ?_ | with_reducible refine lcI ?_ | with_reducible refine slI ?_ | with_reducible refine noPI ?_ | with_reducible refine ptI ?_ | with_reducible refine unI ?_ | with_reducible refine brkI ?_ | with_reducible refine cntI ?_ | with_reducible refine retNI ?_ | with_reducible refine addII ?_ | with_reducible refine rI0 ?_ | with_reducible refine rIC ?_ ?_ | with_reducible refine mulII ?_ ?_ | with_reducible refine addTT ?_ ?_ | with_reducible refine addSS ?_ ?_ | with_reducible refine negII ?_ | with_reducible refine eqII ?_ | with_reducible refine eqSS ?_ | with_reducible refine eqBB ?_ | with_reducible refine neII ?_ | with_reducible refine neSS ?_ | with_reducible refine neBB ?_ | with_reducible refine isNN ?_ | with_reducible refine isNotNN ?_ | with_reducible refine isBB ?_ | with_reducible refine isNotBB ?_ | with_reducible refine lenTI ?_ | with_reducible refine lenFI ?_ | with_reducible refine intII ?_ | with_reducible refine intBI ?_ | with_reducible refine tupTI ?_ | with_reducible refine minII ?_ | with_reducible refine maxII ?_ | with_reducible refine slTI ?_ | with_reducible refine gcI ?_ | with_reducible refine gnI ?_ | with_reducible refine aNI ?_ | ((with_reducible refine ttI ?_ ?_); exact rfl) | ((with_reducible refine And.intro ?_ ?_); exact rfl) | ((with_reducible refine And.intro ?_ ?_); exact lenOk rfl) | dsimp only [En.s]))
  unfold bl_check_batch_4
  (repeat (first | with_reducible refine seqI ?_ | with_reducible refine setI ?_ | with_reducible refine asgI ?_ | with_reducible refine retI ?_ | with_reducible refine opI ?_ | with_reducible refine callI ?_ | with_reducible refine consI ?_ | with_reducible refine cI ?_ | with_reducible refine nilI ?_ | ((with_reducible apply varI); exact rfl) | with_reducible refine cbI ?_ | with_reducible refine ifI ?_ | with_reducible refine tstI ?_ | with_reducible refine notTI ?_ | with_reducible refine andTI ?_ | with_reducible refine orTI ?_ | with_reducible refine dropI ?_ | with_reducible refine nextI ?_ | with_reducible refine tupI ?_ | with_reducible refine lstI ?_ | with_reducible refine starI ?_ | with_reducible refine starTT ?_ | with_reducible refine andI ?_ | with_reducible refine orVI ?_ | with_reducible refine notI ?_ | with_reducible refine ifEI ?_ | with_reducible refine forI ?_ | with_reducible refine r1I ?_ | with_reducible refine ir2I ?_ | with_reducible refine iTupI ?_ | with_reducible refine truI ?_ | with_reducible refine chainI ?_ | with_reducible refine lcI ?_ | with_reducible refine slI ?_ | with_reducible refine noPI ?_ | with_reducible refine ptI ?_ | with_reducible refine unI ?_ | with_reducible refine brkI ?_ | with_reducible refine cntI ?_ | with_reducible refine retNI ?_ | with_reducible refine addII ?_ | with_reducible refine rI0 ?_ | with_reducible refine rIC ?_ ?_ | with_reducible refine mulII ?_ ?_ | with_reducible refine addTT ?_ ?_ | with_reducible refine addSS ?_ ?_ | with_reducible refine negII ?_ | with_reducible refine eqII ?_ | with_reducible refine eqSS ?_ | with_reducible refine eqBB ?_ | with_reducible refine neII ?_ | with_reducible refine neSS ?_ | with_reducible refine neBB ?_ | with_reducible refine isNN ?_ | with_reducible refine isNotNN ?_ | with_reducible refine isBB ?_ | with_reducible refine isNotBB ?_ | with_reducible refine lenTI ?_ | with_reducible refine lenFI ?_ | with_reducible refine intII ?_ | with_reducible refine intBI ?_ | with_reducible refine tupTI ?_ | with_reducible refine minII ?_ | with_reducible refine maxII ?_ | with_reducible refine slTI ?_ | with_reducible refine gcI ?_ | with_reducible refine gnI ?_ | with_reducible refine aNI ?_ | ((with_reducible refine ttI ?_ ?_); exact rfl) | ((with_reducible refine And.intro ?_ ?_); exact rfl) | ((with_reducible refine And.intro ?_ ?_); exact lenOk rfl) | dsimp only [En.s]))
  refine enTI ?_
  (repeat (first | with_reducible refine seqI ?_ | with_reducible refine setI ?_ | with_reducible refine asgI ?_ | with_reducible refine retI ?_ | with_reducible refine opI ?_ | with_reducible refine callI ?_ | with_reducible refine consI ?_ | with_reducible refine cI ?_ | with_reducible refine nilI ?_ | ((with_reducible apply varI); exact rfl) | with_reducible refine cbI ?_ | with_reducible refine ifI ?_ | with_reducible refine tstI ?_ | with_reducible refine notTI ?_ | with_reducible refine andTI ?_ | with_reducible refine orTI ?_ | with_reducible refine dropI ?_ | with_reducible refine nextI ?_ | with_reducible refine tupI ?_ | with_reducible refine lstI ?_ | with_reducible refine starI ?_ | with_reducible refine starTT ?_ | with_reducible refine andI ?_ | with_reducible refine orVI ?_ | with_reducible refine notI ?_ | with_reducible refine ifEI ?_ | with_reducible refine forI ?_ | with_reducible refine r1I ?_ | with_reducible refine ir2I ?_ | with_reducible refine iTupI ?_ | with_reducible refine truI ?_ | with_reducible refine chainI ?_ | with_reducible refine lcI ?_ | with_reducible refine slI ?_ | with_reducible refine noPI ?_ | with_reducible refine ptI ?_ | with_reducible refine unI ?_ | with_reducible refine brkI ?_ | with_reducible refine cntI ?_ | with_reducible refine retNI ?_ | with_reducible refine addII ?_ | with_reducible refine rI0 ?_ | with_reducible refine rIC ?_ ?_ | with_reducible refine mulII ?_ ?_ | with_reducible refine addTT ?_ ?_ | with_reducible refine addSS ?_ ?_ | with_reducible refine negII ?_ | with_reducible refine eqII ?_ | with_reducible refine eqSS ?_ | with_reducible refine eqBB ?_ | with_reducible refine neII ?_ | with_reducible refine neSS ?_ | with_reducible refine neBB ?_ | with_reducible refine isNN ?_ | with_reducible refine isNotNN ?_ | with_reducible refine isBB ?_ | with_reducible refine isNotBB ?_ | with_reducible refine lenTI ?_ | with_reducible refine lenFI ?_ | with_reducible refine intII ?_ | with_reducible refine intBI ?_ | with_reducible refine tupTI ?_ | with_reducible refine minII ?_ | with_reducible refine maxII ?_ | with_reducible refine slTI ?_ | with_reducible refine gcI ?_ | with_reducible refine gnI ?_ | with_reducible refine aNI ?_ | ((with_reducible refine ttI ?_ ?_); exact rfl) | ((with_reducible refine And.intro ?_ ?_); exact rfl) | ((with_reducible refine And.intro ?_ ?_); exact lenOk rfl) | dsimp only [En.s]))
  refine cb_loop (fun _ => trivial) b 0 0 _ _ _ _ (fun p hp' => ⟨Nat.zero_le _, by have := h.lt p hp'; omega, h.by_ p hp', by have := h.ln p hp'; omega⟩) h.asc fun y1 y2 y3 y4 y5 => ⟨_, Ab.Sub.refl _, q⟩
theorem cbo_loop {A : AEnds} {x0 : Option D} {pages : Nat} {gd : M → Prop} (hgd : ∀ m, gd m) : ∀ (b : Bt) (i : Nat) (x2 x3 x4 : Option D), (∀ p ∈ b, p.1 < pages) → (∀ y2 y3 y4, A.nx [x0, some (.int (pages : Nat)), y2, y3, y4] m) →
    forL (aTT 2 (aGCons (aN 2) (aGCons (aTT 2 (aGCons (aN 3) (aGCons (aN 4) (aGNil)))) (aGNil)))) bl_check_batch_of_0 gd (enL i (b.map prD)) A [x0, some (.int (pages : Nat)), x2, x3, x4] m
  | [], i, x2, x3, x4, h, q => ⟨hgd _, q _ _ _⟩
  | p :: b, i, x2, x3, x4, h, q => by
    have ih := fun x2 x3 x4 => cbo_loop (A := A) (x0 := x0) (pages := pages) (gd := gd) hgd b (i + 1) x2 x3 x4 (fun p hp => h p (by simp [hp])) q
    have hp := h p (by simp)
    rw [List.map_cons, enL]
    unfold forL
    refine ⟨hgd _, rfl, rfl, ?_⟩
    generalize forL (aTT 2 (aGCons (aN 2) (aGCons (aTT 2 (aGCons (aN 3) (aGCons (aN 4) (aGNil)))) (aGNil)))) bl_check_batch_of_0 gd (enL (i + 1) (b.map prD)) A = X at ih ⊢
    unfold bl_check_batch_of_0
    (repeat (first | with_reducible refine seqI ?_ | with_reducible refine setI ?_ | with_reducible refine asgI ?_ | with_reducible refine retI ?_ | with_reducible refine opI ?_ | with_reducible refine callI ?_ | with_reducible refine consI ?_ | with_reducible refine cI ?_ | with_reducible refine nilI ?_ | ((with_reducible apply varI); exact rfl) | with_reducible refine cbI ?_ | with_reducible refine ifI ?_ | with_reducible refine tstI ?_ | with_reducible refine notTI ?_ | with_reducible refine andTI ?_ | with_reducible refine orTI ?_ | with_reducible refine dropI ?_ | with_reducible refine nextI ?_ | with_reducible refine tupI ?_ | with_reducible refine lstI ?_ | with_reducible refine starI ?_ | with_reducible refine starTT ?_ | with_reducible refine andI ?_ | with_reducible refine orVI ?_ | with_reducible refine notI ?_ | with_reducible refine ifEI ?_ | with_reducible refine forI ?_ | with_reducible refine r1I ?_ | with_reducible refine ir2I ?_ | with_reducible refine iTupI ?_ | with_reducible refine truI ?_ | with_reducible refine chainI ?_ | with_reducible refine lcI ?_ | with_reducible refine slI ?_ | with_reducible refine noPI ?_ | with_reducible refine ptI ?_ | with_reducible refine unI ?_ | with_reducible refine brkI ?_ | with_reducible refine cntI ?_ | with_reducible refine retNI ?_ | with_reducible refine addII ?_ | with_reducible refine rI0 ?_ | with_reducible refine rIC ?_ ?_ | with_reducible refine mulII ?_ ?_ | with_reducible refine addTT ?_ ?_ | with_reducible refine addSS ?_ ?_ | with_reducible refine negII ?_ | with_reducible refine eqII ?_ | with_reducible refine eqSS ?_ | with_reducible refine eqBB ?_ | with_reducible refine neII ?_ | with_reducible refine neSS ?_ | with_reducible refine neBB ?_ | with_reducible refine isNN ?_ | with_reducible refine isNotNN ?_ | with_reducible refine isBB ?_ | with_reducible refine isNotBB ?_ | with_reducible refine lenTI ?_ | with_reducible refine lenFI ?_ | with_reducible refine intII ?_ | with_reducible refine intBI ?_ | with_reducible refine tupTI ?_ | with_reducible refine minII ?_ | with_reducible refine maxII ?_ | with_reducible refine slTI ?_ | with_reducible refine gcI ?_ | with_reducible refine gnI ?_ | with_reducible refine aNI ?_ | ((with_reducible refine ttI ?_ ?_); exact rfl) | ((with_reducible refine And.intro ?_ ?_); exact rfl) | ((with_reducible refine And.intro ?_ ?_); exact lenOk rfl) | dsimp only [En.s]))
    refine bl_f (decide_eq_false (by omega)) ?_
    (repeat (first | with_reducible refine seqI ?_ | with_reducible refine setI ?_ | with_reducible refine asgI ?_ | with_reducible refine retI ?_ | with_reducible refine opI ?_ | with_reducible refine callI ?_ | with_reducible refine consI ?_ | with_reducible refine cI ?_ | with_reducible refine nilI ?_ | ((with_reducible apply varI); exact rfl) | with_reducible refine cbI ?_ | with_reducible refine ifI ?_ | with_reducible refine tstI ?_ | with_reducible refine notTI ?_ | with_reducible refine andTI ?_ | with_reducible refine orTI ?_ | with_reducible refine dropI ?_ | with_reducible refine nextI ?_ | with_reducible refine tupI ?_ | with_reducible refine lstI ?_ | with_reducible refine starI ?_ | with_reducible refine starTT ?_ | with_reducible refine andI ?_ | with_reducible refine orVI ?_ | with_reducible refine notI ?_ | with_reducible refine ifEI ?_ | with_reducible refine forI ?_ | with_reducible refine r1I ?_ | with_reducible refine ir2I ?_ | with_reducible refine iTupI ?_ | with_reducible refine truI ?_ | with_reducible refine chainI ?_ | with_reducible refine lcI ?_ | with_reducible refine slI ?_ | with_reducible refine noPI ?_ | with_reducible refine ptI ?_ | with_reducible refine unI ?_ | with_reducible refine brkI ?_ | with_reducible refine cntI ?_ | with_reducible refine retNI ?_ | with_reducible refine addII ?_ | with_reducible refine rI0 ?_ | with_reducible refine rIC ?_ ?_ | with_reducible refine mulII ?_ ?_ | with_reducible refine addTT ?_ ?_ | with_reducible refine addSS ?_ ?_ | with_reducible refine negII ?_ | with_reducible refine eqII ?_ | with_reducible refine eqSS ?_ | with_reducible refine eqBB ?_ | with_reducible refine neII ?_ | with_reducible refine neSS ?_ | with_reducible refine neBB ?_ | with_reducible refine isNN ?_ | with_reducible refine isNotNN ?_ | with_reducible refine isBB ?_ | with_reducible refine isNotBB ?_ | with_reducible refine lenTI ?_ | with_reducible refine lenFI ?_ | with_reducible refine intII ?_ | with_reducible refine intBI ?_ | with_reducible refine tupTI ?_ | with_reducible refine minII ?_ | with_reducible refine maxII ?_ | with_reducible refine slTI ?_ | with_reducible refine gcI ?_ | with_reducible refine gnI ?_ | with_reducible refine aNI ?_ | ((with_reducible refine ttI ?_ ?_); exact rfl) | ((with_reducible refine And.intro ?_ ?_); exact rfl) | ((with_reducible refine And.intro ?_ ?_); exact lenOk rfl) | dsimp only [En.s]))
    exact ih _ _ _
theorem checkBatchOf {b : Bt} {pages most L : Nat} {Q : PQ} {R : PX} (h : BtOk pages most L b) (hp : pages ≤ 64) (hm : most ≤ 64) (hL : L ≤ 96) (q : Q .non m) : s_check_batch_of [btD b, .int (pages : Nat)] m Q R := by
  refine ent_check_batch_of ?_
  unfold b_check_batch_of
  (repeat (first | with_reducible refine seqI ?_ | with_reducible refine setI ?_ | with_reducible refine asgI ?_ | with_reducible refine retI ?_ | with_reducible refine opI ?_ | with_reducible refine callI ?_ | with_reducible refine consI ?_ | with_reducible refine cI ?_ | with_reducible refine nilI ?_ | ((with_reducible apply varI); exact rfl) | with_reducible refine cbI ?_ | with_reducible refine ifI ?_ | with_reducible refine tstI ?_ | with_reducible refine notTI ?_ | with_reducible refine andTI ?_ | with_reducible refine orTI ?_ | with_reducible refine dropI ?_ | with_reducible refine nextI ?_ | with_reducible refine tupI ?_ | with_reducible refine lstI ?_ | with_reducible refine starI ?_ | with_reducible refine starTT ?_ | with_reducible refine andI ?_ | with_reducible refine orVI ?_ | with_reducible refine notI ?_ | with_reducible refine ifEI ?_ | with_reducible refine forI ?_ | with_reducible refine r1I ?_ | with_reducible refine ir2I ?_ | with_reducible refine iTupI ?_ | with_reducible refine truI ?_ | with_reducible refine chainI ?_ | with_reducible refine lcI ?_ | with_reducible refine slI ?_ | with_reducible refine noPI ?_ | with_reducible refine ptI ?_ | with_reducible refine unI ?_ | with_reducible refine brkI ?_ | with_reducible refine cntI ?_ | with_reducible refine retNI ?_ | with_reducible refine addII ?_ | with_reducible refine rI0 ?_ | with_reducible refine rIC ?_ ?_ | with_reducible refine mulII ?_ ?_ | with_reducible refine addTT ?_ ?_ | with_reducible refine addSS ?_ ?_ | with_reducible refine negII ?_ | with_reducible refine eqII ?_ | with_reducible refine eqSS ?_ | with_reducible refine eqBB ?_ | with_reducible refine neII ?_ | with_reducible refine neSS ?_ | with_reducible refine neBB ?_ | with_reducible refine isNN ?_ | with_reducible refine isNotNN ?_ | with_reducible refine isBB ?_ | with_reducible refine isNotBB ?_ | with_reducible refine lenTI ?_ | with_reducible refine lenFI ?_ | with_reducible refine intII ?_ | with_reducible refine intBI ?_ | with_reducible refine tupTI ?_ | with_reducible refine minII ?_ | with_reducible refine maxII ?_ | with_reducible refine slTI ?_ | with_reducible refine gcI ?_ | with_reducible refine gnI ?_ | with_reducible refine aNI ?_ | ((with_reducible refine ttI ?_ ?_); exact rfl) | ((with_reducible refine And.intro ?_ ?_); exact rfl) | ((with_reducible refine And.intro ?_ ?_); exact lenOk rfl) | dsimp only [En.s]))
  refine checkBatch h hp hm hL ?_
  unfold btD
  (repeat (first | with_reducible refine seqI ?_ | with_reducible refine setI ?_ | with_reducible refine asgI ?_ | with_reducible refine retI ?_ | with_reducible refine opI ?_ | with_reducible refine callI ?_ | with_reducible refine consI ?_ | with_reducible refine cI ?_ | with_reducible refine nilI ?_ | ((with_reducible apply varI); exact rfl) | with_reducible refine cbI ?_ | with_reducible refine ifI ?_ | with_reducible refine tstI ?_ | with_reducible refine notTI ?_ | with_reducible refine andTI ?_ | with_reducible refine orTI ?_ | with_reducible refine dropI ?_ | with_reducible refine nextI ?_ | with_reducible refine tupI ?_ | with_reducible refine lstI ?_ | with_reducible refine starI ?_ | with_reducible refine starTT ?_ | with_reducible refine andI ?_ | with_reducible refine orVI ?_ | with_reducible refine notI ?_ | with_reducible refine ifEI ?_ | with_reducible refine forI ?_ | with_reducible refine r1I ?_ | with_reducible refine ir2I ?_ | with_reducible refine iTupI ?_ | with_reducible refine truI ?_ | with_reducible refine chainI ?_ | with_reducible refine lcI ?_ | with_reducible refine slI ?_ | with_reducible refine noPI ?_ | with_reducible refine ptI ?_ | with_reducible refine unI ?_ | with_reducible refine brkI ?_ | with_reducible refine cntI ?_ | with_reducible refine retNI ?_ | with_reducible refine addII ?_ | with_reducible refine rI0 ?_ | with_reducible refine rIC ?_ ?_ | with_reducible refine mulII ?_ ?_ | with_reducible refine addTT ?_ ?_ | with_reducible refine addSS ?_ ?_ | with_reducible refine negII ?_ | with_reducible refine eqII ?_ | with_reducible refine eqSS ?_ | with_reducible refine eqBB ?_ | with_reducible refine neII ?_ | with_reducible refine neSS ?_ | with_reducible refine neBB ?_ | with_reducible refine isNN ?_ | with_reducible refine isNotNN ?_ | with_reducible refine isBB ?_ | with_reducible refine isNotBB ?_ | with_reducible refine lenTI ?_ | with_reducible refine lenFI ?_ | with_reducible refine intII ?_ | with_reducible refine intBI ?_ | with_reducible refine tupTI ?_ | with_reducible refine minII ?_ | with_reducible refine maxII ?_ | with_reducible refine slTI ?_ | with_reducible refine gcI ?_ | with_reducible refine gnI ?_ | with_reducible refine aNI ?_ | ((with_reducible refine ttI ?_ ?_); exact rfl) | ((with_reducible refine And.intro ?_ ?_); exact rfl) | ((with_reducible refine And.intro ?_ ?_); exact lenOk rfl) | dsimp only [En.s]))
  refine enTI ?_
  (repeat (first | with_reducible refine seqI ?_ | with_reducible refine setI ?_ | with_reducible refine asgI ?_ | with_reducible refine retI ?_ | with_reducible refine opI ?_ | with_reducible refine callI ?_ | with_reducible refine consI ?_ | with_reducible refine cI ?_ | with_reducible refine nilI ?_ | ((with_reducible apply varI); exact rfl) | with_reducible refine cbI ?_ | with_reducible refine ifI ?_ | with_reducible refine tstI ?_ | with_reducible refine notTI ?_ | with_reducible refine andTI ?_ | with_reducible refine orTI ?_ | with_reducible refine dropI ?_ | with_reducible refine nextI ?_ | with_reducible refine tupI ?_ | with_reducible refine lstI ?_ | with_reducible refine starI ?_ | with_reducible refine starTT ?_ | with_reducible refine andI ?_ | with_reducible refine orVI ?_ | with_reducible refine notI ?_ | with_reducible refine ifEI ?_ | with_reducible refine forI ?_ | with_reducible refine r1I ?_ | with_reducible refine ir2I ?_ | with_reducible refine iTupI ?_ | with_reducible refine truI ?_ | with_reducible refine chainI ?_ | with_reducible refine lcI ?_ | with_reducible refine slI ?_ | with_reducible refine noPI ?_ | with_reducible refine ptI ?_ | with_reducible refine unI ?_ | with_reducible refine brkI ?_ | with_reducible refine cntI ?_ | with_reducible refine retNI ?_ | with_reducible refine addII ?_ | with_reducible refine rI0 ?_ | with_reducible refine rIC ?_ ?_ | with_reducible refine mulII ?_ ?_ | with_reducible refine addTT ?_ ?_ | with_reducible refine addSS ?_ ?_ | with_reducible refine negII ?_ | with_reducible refine eqII ?_ | with_reducible refine eqSS ?_ | with_reducible refine eqBB ?_ | with_reducible refine neII ?_ | with_reducible refine neSS ?_ | with_reducible refine neBB ?_ | with_reducible refine isNN ?_ | with_reducible refine isNotNN ?_ | with_reducible refine isBB ?_ | with_reducible refine isNotBB ?_ | with_reducible refine lenTI ?_ | with_reducible refine lenFI ?_ | with_reducible refine intII ?_ | with_reducible refine intBI ?_ | with_reducible refine tupTI ?_ | with_reducible refine minII ?_ | with_reducible refine maxII ?_ | with_reducible refine slTI ?_ | with_reducible refine gcI ?_ | with_reducible refine gnI ?_ | with_reducible refine aNI ?_ | ((with_reducible refine ttI ?_ ?_); exact rfl) | ((with_reducible refine And.intro ?_ ?_); exact rfl) | ((with_reducible refine And.intro ?_ ?_); exact lenOk rfl) | dsimp only [En.s]))
  refine cbo_loop (fun _ => trivial) b 0 none none none h.lt fun y2 y3 y4 => ⟨_, Ab.Sub.refl _, q⟩
structure BsOk (pages ring : Nat) (bs : List Bt) : Prop where
  each : ∀ b ∈ bs, BtOk pages (min pages (min 3 ring)) 3 b
theorem cbs_loop {A : AEnds} {pages ring : Nat} {x1 : Option D} {gd : M → Prop} (hgd : ∀ m, gd m) (hp : pages ≤ 64) : ∀ (bs : List Bt) (i : Nat) (x2 x3 : Option D), BsOk pages ring bs → (∀ y2 y3, A.nx [some (shD pages ring), x1, y2, y3] m) →
    forL (aTT 2 (aGCons (aN 2) (aGCons (aN 3) (aGNil)))) bl_check_batches_0 gd (enL i (bs.map btD)) A [some (shD pages ring), x1, x2, x3] m
  | [], i, x2, x3, h, q => ⟨hgd _, q _ _⟩
  | b :: bs, i, x2, x3, h, q => by
    have ih := fun x2 x3 => cbs_loop (A := A) (x1 := x1) (gd := gd) hgd hp bs (i + 1) x2 x3 ⟨fun c hc => h.each c (by simp [hc])⟩ q
    rw [List.map_cons, enL]
    unfold forL
    refine ⟨hgd _, rfl, ?_⟩
    generalize forL (aTT 2 (aGCons (aN 2) (aGCons (aN 3) (aGNil)))) bl_check_batches_0 gd (enL (i + 1) (bs.map btD)) A = X at ih ⊢
    unfold bl_check_batches_0 aTryN
    (repeat (first | with_reducible refine seqI ?_ | with_reducible refine setI ?_ | with_reducible refine asgI ?_ | with_reducible refine retI ?_ | with_reducible refine opI ?_ | with_reducible refine callI ?_ | with_reducible refine consI ?_ | with_reducible refine cI ?_ | with_reducible refine nilI ?_ | ((with_reducible apply varI); exact rfl) | with_reducible refine cbI ?_ | with_reducible refine ifI ?_ | with_reducible refine tstI ?_ | with_reducible refine notTI ?_ | with_reducible refine andTI ?_ | with_reducible refine orTI ?_ | with_reducible refine dropI ?_ | with_reducible refine nextI ?_ | with_reducible refine tupI ?_ | with_reducible refine lstI ?_ | with_reducible refine starI ?_ | with_reducible refine starTT ?_ | with_reducible refine andI ?_ | with_reducible refine orVI ?_ | with_reducible refine notI ?_ | with_reducible refine ifEI ?_ | with_reducible refine forI ?_ | with_reducible refine r1I ?_ | with_reducible refine ir2I ?_ | with_reducible refine iTupI ?_ | with_reducible refine truI ?_ | with_reducible refine chainI ?_ | with_reducible refine lcI ?_ | with_reducible refine slI ?_ | with_reducible refine noPI ?_ | with_reducible refine ptI ?_ | with_reducible refine unI ?_ | with_reducible refine brkI ?_ | with_reducible refine cntI ?_ | with_reducible refine retNI ?_ | with_reducible refine addII ?_ | with_reducible refine rI0 ?_ | with_reducible refine rIC ?_ ?_ | with_reducible refine mulII ?_ ?_ | with_reducible refine addTT ?_ ?_ | with_reducible refine addSS ?_ ?_ | with_reducible refine negII ?_ | with_reducible refine eqII ?_ | with_reducible refine eqSS ?_ | with_reducible refine eqBB ?_ | with_reducible refine neII ?_ | with_reducible refine neSS ?_ | with_reducible refine neBB ?_ | with_reducible refine isNN ?_ | with_reducible refine isNotNN ?_ | with_reducible refine isBB ?_ | with_reducible refine isNotBB ?_ | with_reducible refine lenTI ?_ | with_reducible refine lenFI ?_ | with_reducible refine intII ?_ | with_reducible refine intBI ?_ | with_reducible refine tupTI ?_ | with_reducible refine minII ?_ | with_reducible refine maxII ?_ | with_reducible refine slTI ?_ | with_reducible refine gcI ?_ | with_reducible refine gnI ?_ | with_reducible refine aNI ?_ | ((with_reducible refine ttI ?_ ?_); exact rfl) | ((with_reducible refine And.intro ?_ ?_); exact rfl) | ((with_reducible refine And.intro ?_ ?_); exact lenOk rfl) | dsimp only [En.s]))
    refine ixTI (d := .int (pages : Nat)) rfl ?_
    (repeat (first | with_reducible refine seqI ?_ | with_reducible refine setI ?_ | with_reducible refine asgI ?_ | with_reducible refine retI ?_ | with_reducible refine opI ?_ | with_reducible refine callI ?_ | with_reducible refine consI ?_ | with_reducible refine cI ?_ | with_reducible refine nilI ?_ | ((with_reducible apply varI); exact rfl) | with_reducible refine cbI ?_ | with_reducible refine ifI ?_ | with_reducible refine tstI ?_ | with_reducible refine notTI ?_ | with_reducible refine andTI ?_ | with_reducible refine orTI ?_ | with_reducible refine dropI ?_ | with_reducible refine nextI ?_ | with_reducible refine tupI ?_ | with_reducible refine lstI ?_ | with_reducible refine starI ?_ | with_reducible refine starTT ?_ | with_reducible refine andI ?_ | with_reducible refine orVI ?_ | with_reducible refine notI ?_ | with_reducible refine ifEI ?_ | with_reducible refine forI ?_ | with_reducible refine r1I ?_ | with_reducible refine ir2I ?_ | with_reducible refine iTupI ?_ | with_reducible refine truI ?_ | with_reducible refine chainI ?_ | with_reducible refine lcI ?_ | with_reducible refine slI ?_ | with_reducible refine noPI ?_ | with_reducible refine ptI ?_ | with_reducible refine unI ?_ | with_reducible refine brkI ?_ | with_reducible refine cntI ?_ | with_reducible refine retNI ?_ | with_reducible refine addII ?_ | with_reducible refine rI0 ?_ | with_reducible refine rIC ?_ ?_ | with_reducible refine mulII ?_ ?_ | with_reducible refine addTT ?_ ?_ | with_reducible refine addSS ?_ ?_ | with_reducible refine negII ?_ | with_reducible refine eqII ?_ | with_reducible refine eqSS ?_ | with_reducible refine eqBB ?_ | with_reducible refine neII ?_ | with_reducible refine neSS ?_ | with_reducible refine neBB ?_ | with_reducible refine isNN ?_ | with_reducible refine isNotNN ?_ | with_reducible refine isBB ?_ | with_reducible refine isNotBB ?_ | with_reducible refine lenTI ?_ | with_reducible refine lenFI ?_ | with_reducible refine intII ?_ | with_reducible refine intBI ?_ | with_reducible refine tupTI ?_ | with_reducible refine minII ?_ | with_reducible refine maxII ?_ | with_reducible refine slTI ?_ | with_reducible refine gcI ?_ | with_reducible refine gnI ?_ | with_reducible refine aNI ?_ | ((with_reducible refine ttI ?_ ?_); exact rfl) | ((with_reducible refine And.intro ?_ ?_); exact rfl) | ((with_reducible refine And.intro ?_ ?_); exact lenOk rfl) | dsimp only [En.s]))
    refine checkBatchOf (h.each b (by simp)) hp (by omega) (by omega) ?_
    exact ih _ _
theorem cbr_loop {A : AEnds} {pages ring : Nat} {x1 : Option D} {gd : M → Prop} (hgd : ∀ m, gd m) : ∀ (bs : List Bt) (i : Nat) (x2 x3 : Option D), BsOk pages ring bs → (∀ y2 y3, A.nx [some (shD pages ring), x1, y2, y3] m) →
    forL (aTT 2 (aGCons (aN 2) (aGCons (aN 3) (aGNil)))) bl_check_batches_1 gd (enL i (bs.map btD)) A [some (shD pages ring), x1, x2, x3] m
  | [], i, x2, x3, h, q => ⟨hgd _, q _ _⟩
  | b :: bs, i, x2, x3, h, q => by
    have ih := fun x2 x3 => cbr_loop (A := A) (x1 := x1) (gd := gd) hgd bs (i + 1) x2 x3 ⟨fun c hc => h.each c (by simp [hc])⟩ q
    have hb := (h.each b (by simp)).len
    rw [List.map_cons, enL]
    unfold forL
    refine ⟨hgd _, rfl, ?_⟩
    generalize forL (aTT 2 (aGCons (aN 2) (aGCons (aN 3) (aGNil)))) bl_check_batches_1 gd (enL (i + 1) (bs.map btD)) A = X at ih ⊢
    unfold bl_check_batches_1 btD
    (repeat (first | with_reducible refine seqI ?_ | with_reducible refine setI ?_ | with_reducible refine asgI ?_ | with_reducible refine retI ?_ | with_reducible refine opI ?_ | with_reducible refine callI ?_ | with_reducible refine consI ?_ | with_reducible refine cI ?_ | with_reducible refine nilI ?_ | ((with_reducible apply varI); exact rfl) | with_reducible refine cbI ?_ | with_reducible refine ifI ?_ | with_reducible refine tstI ?_ | with_reducible refine notTI ?_ | with_reducible refine andTI ?_ | with_reducible refine orTI ?_ | with_reducible refine dropI ?_ | with_reducible refine nextI ?_ | with_reducible refine tupI ?_ | with_reducible refine lstI ?_ | with_reducible refine starI ?_ | with_reducible refine starTT ?_ | with_reducible refine andI ?_ | with_reducible refine orVI ?_ | with_reducible refine notI ?_ | with_reducible refine ifEI ?_ | with_reducible refine forI ?_ | with_reducible refine r1I ?_ | with_reducible refine ir2I ?_ | with_reducible refine iTupI ?_ | with_reducible refine truI ?_ | with_reducible refine chainI ?_ | with_reducible refine lcI ?_ | with_reducible refine slI ?_ | with_reducible refine noPI ?_ | with_reducible refine ptI ?_ | with_reducible refine unI ?_ | with_reducible refine brkI ?_ | with_reducible refine cntI ?_ | with_reducible refine retNI ?_ | with_reducible refine addII ?_ | with_reducible refine rI0 ?_ | with_reducible refine rIC ?_ ?_ | with_reducible refine mulII ?_ ?_ | with_reducible refine addTT ?_ ?_ | with_reducible refine addSS ?_ ?_ | with_reducible refine negII ?_ | with_reducible refine eqII ?_ | with_reducible refine eqSS ?_ | with_reducible refine eqBB ?_ | with_reducible refine neII ?_ | with_reducible refine neSS ?_ | with_reducible refine neBB ?_ | with_reducible refine isNN ?_ | with_reducible refine isNotNN ?_ | with_reducible refine isBB ?_ | with_reducible refine isNotBB ?_ | with_reducible refine lenTI ?_ | with_reducible refine lenFI ?_ | with_reducible refine intII ?_ | with_reducible refine intBI ?_ | with_reducible refine tupTI ?_ | with_reducible refine minII ?_ | with_reducible refine maxII ?_ | with_reducible refine slTI ?_ | with_reducible refine gcI ?_ | with_reducible refine gnI ?_ | with_reducible refine aNI ?_ | ((with_reducible refine ttI ?_ ?_); exact rfl) | ((with_reducible refine And.intro ?_ ?_); exact rfl) | ((with_reducible refine And.intro ?_ ?_); exact lenOk rfl) | dsimp only [En.s]))
    refine ixTI (d := .int (ring : Nat)) rfl ?_
    (repeat (first | with_reducible refine seqI ?_ | with_reducible refine setI ?_ | with_reducible refine asgI ?_ | with_reducible refine retI ?_ | with_reducible refine opI ?_ | with_reducible refine callI ?_ | with_reducible refine consI ?_ | with_reducible refine cI ?_ | with_reducible refine nilI ?_ | ((with_reducible apply varI); exact rfl) | with_reducible refine cbI ?_ | with_reducible refine ifI ?_ | with_reducible refine tstI ?_ | with_reducible refine notTI ?_ | with_reducible refine andTI ?_ | with_reducible refine orTI ?_ | with_reducible refine dropI ?_ | with_reducible refine nextI ?_ | with_reducible refine tupI ?_ | with_reducible refine lstI ?_ | with_reducible refine starI ?_ | with_reducible refine starTT ?_ | with_reducible refine andI ?_ | with_reducible refine orVI ?_ | with_reducible refine notI ?_ | with_reducible refine ifEI ?_ | with_reducible refine forI ?_ | with_reducible refine r1I ?_ | with_reducible refine ir2I ?_ | with_reducible refine iTupI ?_ | with_reducible refine truI ?_ | with_reducible refine chainI ?_ | with_reducible refine lcI ?_ | with_reducible refine slI ?_ | with_reducible refine noPI ?_ | with_reducible refine ptI ?_ | with_reducible refine unI ?_ | with_reducible refine brkI ?_ | with_reducible refine cntI ?_ | with_reducible refine retNI ?_ | with_reducible refine addII ?_ | with_reducible refine rI0 ?_ | with_reducible refine rIC ?_ ?_ | with_reducible refine mulII ?_ ?_ | with_reducible refine addTT ?_ ?_ | with_reducible refine addSS ?_ ?_ | with_reducible refine negII ?_ | with_reducible refine eqII ?_ | with_reducible refine eqSS ?_ | with_reducible refine eqBB ?_ | with_reducible refine neII ?_ | with_reducible refine neSS ?_ | with_reducible refine neBB ?_ | with_reducible refine isNN ?_ | with_reducible refine isNotNN ?_ | with_reducible refine isBB ?_ | with_reducible refine isNotBB ?_ | with_reducible refine lenTI ?_ | with_reducible refine lenFI ?_ | with_reducible refine intII ?_ | with_reducible refine intBI ?_ | with_reducible refine tupTI ?_ | with_reducible refine minII ?_ | with_reducible refine maxII ?_ | with_reducible refine slTI ?_ | with_reducible refine gcI ?_ | with_reducible refine gnI ?_ | with_reducible refine aNI ?_ | ((with_reducible refine ttI ?_ ?_); exact rfl) | ((with_reducible refine And.intro ?_ ?_); exact rfl) | ((with_reducible refine And.intro ?_ ?_); exact lenOk rfl) | dsimp only [En.s]))
    rw [List.length_map]
    refine bl_f (decide_eq_false (by omega)) ?_
    (repeat (first | with_reducible refine seqI ?_ | with_reducible refine setI ?_ | with_reducible refine asgI ?_ | with_reducible refine retI ?_ | with_reducible refine opI ?_ | with_reducible refine callI ?_ | with_reducible refine consI ?_ | with_reducible refine cI ?_ | with_reducible refine nilI ?_ | ((with_reducible apply varI); exact rfl) | with_reducible refine cbI ?_ | with_reducible refine ifI ?_ | with_reducible refine tstI ?_ | with_reducible refine notTI ?_ | with_reducible refine andTI ?_ | with_reducible refine orTI ?_ | with_reducible refine dropI ?_ | with_reducible refine nextI ?_ | with_reducible refine tupI ?_ | with_reducible refine lstI ?_ | with_reducible refine starI ?_ | with_reducible refine starTT ?_ | with_reducible refine andI ?_ | with_reducible refine orVI ?_ | with_reducible refine notI ?_ | with_reducible refine ifEI ?_ | with_reducible refine forI ?_ | with_reducible refine r1I ?_ | with_reducible refine ir2I ?_ | with_reducible refine iTupI ?_ | with_reducible refine truI ?_ | with_reducible refine chainI ?_ | with_reducible refine lcI ?_ | with_reducible refine slI ?_ | with_reducible refine noPI ?_ | with_reducible refine ptI ?_ | with_reducible refine unI ?_ | with_reducible refine brkI ?_ | with_reducible refine cntI ?_ | with_reducible refine retNI ?_ | with_reducible refine addII ?_ | with_reducible refine rI0 ?_ | with_reducible refine rIC ?_ ?_ | with_reducible refine mulII ?_ ?_ | with_reducible refine addTT ?_ ?_ | with_reducible refine addSS ?_ ?_ | with_reducible refine negII ?_ | with_reducible refine eqII ?_ | with_reducible refine eqSS ?_ | with_reducible refine eqBB ?_ | with_reducible refine neII ?_ | with_reducible refine neSS ?_ | with_reducible refine neBB ?_ | with_reducible refine isNN ?_ | with_reducible refine isNotNN ?_ | with_reducible refine isBB ?_ | with_reducible refine isNotBB ?_ | with_reducible refine lenTI ?_ | with_reducible refine lenFI ?_ | with_reducible refine intII ?_ | with_reducible refine intBI ?_ | with_reducible refine tupTI ?_ | with_reducible refine minII ?_ | with_reducible refine maxII ?_ | with_reducible refine slTI ?_ | with_reducible refine gcI ?_ | with_reducible refine gnI ?_ | with_reducible refine aNI ?_ | ((with_reducible refine ttI ?_ ?_); exact rfl) | ((with_reducible refine And.intro ?_ ?_); exact rfl) | ((with_reducible refine And.intro ?_ ?_); exact lenOk rfl) | dsimp only [En.s]))
    exact ih _ _
theorem checkBatches {pages ring : Nat} {bs : List Bt} {Q : PQ} {R : PX} (h1 : 1 ≤ pages) (h2 : pages ≤ 64) (h3 : 2 ≤ ring) (h4 : ring ≤ 64) (h : BsOk pages ring bs) (hl : bs.length ≤ 20) (q : Q .non m) : s_check_batches [shD pages ring, .tup (bs.map btD)] m Q R := by
  refine ent_check_batches ?_
  unfold b_check_batches
  (repeat (first | with_reducible refine seqI ?_ | with_reducible refine setI ?_ | with_reducible refine asgI ?_ | with_reducible refine retI ?_ | with_reducible refine opI ?_ | with_reducible refine callI ?_ | with_reducible refine consI ?_ | with_reducible refine cI ?_ | with_reducible refine nilI ?_ | ((with_reducible apply varI); exact rfl) | with_reducible refine cbI ?_ | with_reducible refine ifI ?_ | with_reducible refine tstI ?_ | with_reducible refine notTI ?_ | with_reducible refine andTI ?_ | with_reducible refine orTI ?_ | with_reducible refine dropI ?_ | with_reducible refine nextI ?_ | with_reducible refine tupI ?_ | with_reducible refine lstI ?_ | with_reducible refine starI ?_ | with_reducible refine starTT ?_ | with_reducible refine andI ?_ | with_reducible refine orVI ?_ | with_reducible refine notI ?_ | with_reducible refine ifEI ?_ | with_reducible refine forI ?_ | with_reducible refine r1I ?_ | with_reducible refine ir2I ?_ | with_reducible refine iTupI ?_ | with_reducible refine truI ?_ | with_reducible refine chainI ?_ | with_reducible refine lcI ?_ | with_reducible refine slI ?_ | with_reducible refine noPI ?_ | with_reducible refine ptI ?_ | with_reducible refine unI ?_ | with_reducible refine brkI ?_ | with_reducible refine cntI ?_ | with_reducible refine retNI ?_ | with_reducible refine addII ?_ | with_reducible refine rI0 ?_ | with_reducible refine rIC ?_ ?_ | with_reducible refine mulII ?_ ?_ | with_reducible refine addTT ?_ ?_ | with_reducible refine addSS ?_ ?_ | with_reducible refine negII ?_ | with_reducible refine eqII ?_ | with_reducible refine eqSS ?_ | with_reducible refine eqBB ?_ | with_reducible refine neII ?_ | with_reducible refine neSS ?_ | with_reducible refine neBB ?_ | with_reducible refine isNN ?_ | with_reducible refine isNotNN ?_ | with_reducible refine isBB ?_ | with_reducible refine isNotBB ?_ | with_reducible refine lenTI ?_ | with_reducible refine lenFI ?_ | with_reducible refine intII ?_ | with_reducible refine intBI ?_ | with_reducible refine tupTI ?_ | with_reducible refine minII ?_ | with_reducible refine maxII ?_ | with_reducible refine slTI ?_ | with_reducible refine gcI ?_ | with_reducible refine gnI ?_ | with_reducible refine aNI ?_ | ((with_reducible refine ttI ?_ ?_); exact rfl) | ((with_reducible refine And.intro ?_ ?_); exact rfl) | ((with_reducible refine And.intro ?_ ?_); exact lenOk rfl) | dsimp only [En.s]))
  refine checkShape h1 h2 h3 h4 ?_
  unfold bl_check_batches_4
  (repeat (first | with_reducible refine seqI ?_ | with_reducible refine setI ?_ | with_reducible refine asgI ?_ | with_reducible refine retI ?_ | with_reducible refine opI ?_ | with_reducible refine callI ?_ | with_reducible refine consI ?_ | with_reducible refine cI ?_ | with_reducible refine nilI ?_ | ((with_reducible apply varI); exact rfl) | with_reducible refine cbI ?_ | with_reducible refine ifI ?_ | with_reducible refine tstI ?_ | with_reducible refine notTI ?_ | with_reducible refine andTI ?_ | with_reducible refine orTI ?_ | with_reducible refine dropI ?_ | with_reducible refine nextI ?_ | with_reducible refine tupI ?_ | with_reducible refine lstI ?_ | with_reducible refine starI ?_ | with_reducible refine starTT ?_ | with_reducible refine andI ?_ | with_reducible refine orVI ?_ | with_reducible refine notI ?_ | with_reducible refine ifEI ?_ | with_reducible refine forI ?_ | with_reducible refine r1I ?_ | with_reducible refine ir2I ?_ | with_reducible refine iTupI ?_ | with_reducible refine truI ?_ | with_reducible refine chainI ?_ | with_reducible refine lcI ?_ | with_reducible refine slI ?_ | with_reducible refine noPI ?_ | with_reducible refine ptI ?_ | with_reducible refine unI ?_ | with_reducible refine brkI ?_ | with_reducible refine cntI ?_ | with_reducible refine retNI ?_ | with_reducible refine addII ?_ | with_reducible refine rI0 ?_ | with_reducible refine rIC ?_ ?_ | with_reducible refine mulII ?_ ?_ | with_reducible refine addTT ?_ ?_ | with_reducible refine addSS ?_ ?_ | with_reducible refine negII ?_ | with_reducible refine eqII ?_ | with_reducible refine eqSS ?_ | with_reducible refine eqBB ?_ | with_reducible refine neII ?_ | with_reducible refine neSS ?_ | with_reducible refine neBB ?_ | with_reducible refine isNN ?_ | with_reducible refine isNotNN ?_ | with_reducible refine isBB ?_ | with_reducible refine isNotBB ?_ | with_reducible refine lenTI ?_ | with_reducible refine lenFI ?_ | with_reducible refine intII ?_ | with_reducible refine intBI ?_ | with_reducible refine tupTI ?_ | with_reducible refine minII ?_ | with_reducible refine maxII ?_ | with_reducible refine slTI ?_ | with_reducible refine gcI ?_ | with_reducible refine gnI ?_ | with_reducible refine aNI ?_ | ((with_reducible refine ttI ?_ ?_); exact rfl) | ((with_reducible refine And.intro ?_ ?_); exact rfl) | ((with_reducible refine And.intro ?_ ?_); exact lenOk rfl) | dsimp only [En.s]))
  refine tupOf (by simp) (by simp; omega) ?_
  refine bl_f rfl ?_
  (repeat (first | with_reducible refine seqI ?_ | with_reducible refine setI ?_ | with_reducible refine asgI ?_ | with_reducible refine retI ?_ | with_reducible refine opI ?_ | with_reducible refine callI ?_ | with_reducible refine consI ?_ | with_reducible refine cI ?_ | with_reducible refine nilI ?_ | ((with_reducible apply varI); exact rfl) | with_reducible refine cbI ?_ | with_reducible refine ifI ?_ | with_reducible refine tstI ?_ | with_reducible refine notTI ?_ | with_reducible refine andTI ?_ | with_reducible refine orTI ?_ | with_reducible refine dropI ?_ | with_reducible refine nextI ?_ | with_reducible refine tupI ?_ | with_reducible refine lstI ?_ | with_reducible refine starI ?_ | with_reducible refine starTT ?_ | with_reducible refine andI ?_ | with_reducible refine orVI ?_ | with_reducible refine notI ?_ | with_reducible refine ifEI ?_ | with_reducible refine forI ?_ | with_reducible refine r1I ?_ | with_reducible refine ir2I ?_ | with_reducible refine iTupI ?_ | with_reducible refine truI ?_ | with_reducible refine chainI ?_ | with_reducible refine lcI ?_ | with_reducible refine slI ?_ | with_reducible refine noPI ?_ | with_reducible refine ptI ?_ | with_reducible refine unI ?_ | with_reducible refine brkI ?_ | with_reducible refine cntI ?_ | with_reducible refine retNI ?_ | with_reducible refine addII ?_ | with_reducible refine rI0 ?_ | with_reducible refine rIC ?_ ?_ | with_reducible refine mulII ?_ ?_ | with_reducible refine addTT ?_ ?_ | with_reducible refine addSS ?_ ?_ | with_reducible refine negII ?_ | with_reducible refine eqII ?_ | with_reducible refine eqSS ?_ | with_reducible refine eqBB ?_ | with_reducible refine neII ?_ | with_reducible refine neSS ?_ | with_reducible refine neBB ?_ | with_reducible refine isNN ?_ | with_reducible refine isNotNN ?_ | with_reducible refine isBB ?_ | with_reducible refine isNotBB ?_ | with_reducible refine lenTI ?_ | with_reducible refine lenFI ?_ | with_reducible refine intII ?_ | with_reducible refine intBI ?_ | with_reducible refine tupTI ?_ | with_reducible refine minII ?_ | with_reducible refine maxII ?_ | with_reducible refine slTI ?_ | with_reducible refine gcI ?_ | with_reducible refine gnI ?_ | with_reducible refine aNI ?_ | ((with_reducible refine ttI ?_ ?_); exact rfl) | ((with_reducible refine And.intro ?_ ?_); exact rfl) | ((with_reducible refine And.intro ?_ ?_); exact lenOk rfl) | dsimp only [En.s]))
  unfold bl_check_batches_3
  (repeat (first | with_reducible refine seqI ?_ | with_reducible refine setI ?_ | with_reducible refine asgI ?_ | with_reducible refine retI ?_ | with_reducible refine opI ?_ | with_reducible refine callI ?_ | with_reducible refine consI ?_ | with_reducible refine cI ?_ | with_reducible refine nilI ?_ | ((with_reducible apply varI); exact rfl) | with_reducible refine cbI ?_ | with_reducible refine ifI ?_ | with_reducible refine tstI ?_ | with_reducible refine notTI ?_ | with_reducible refine andTI ?_ | with_reducible refine orTI ?_ | with_reducible refine dropI ?_ | with_reducible refine nextI ?_ | with_reducible refine tupI ?_ | with_reducible refine lstI ?_ | with_reducible refine starI ?_ | with_reducible refine starTT ?_ | with_reducible refine andI ?_ | with_reducible refine orVI ?_ | with_reducible refine notI ?_ | with_reducible refine ifEI ?_ | with_reducible refine forI ?_ | with_reducible refine r1I ?_ | with_reducible refine ir2I ?_ | with_reducible refine iTupI ?_ | with_reducible refine truI ?_ | with_reducible refine chainI ?_ | with_reducible refine lcI ?_ | with_reducible refine slI ?_ | with_reducible refine noPI ?_ | with_reducible refine ptI ?_ | with_reducible refine unI ?_ | with_reducible refine brkI ?_ | with_reducible refine cntI ?_ | with_reducible refine retNI ?_ | with_reducible refine addII ?_ | with_reducible refine rI0 ?_ | with_reducible refine rIC ?_ ?_ | with_reducible refine mulII ?_ ?_ | with_reducible refine addTT ?_ ?_ | with_reducible refine addSS ?_ ?_ | with_reducible refine negII ?_ | with_reducible refine eqII ?_ | with_reducible refine eqSS ?_ | with_reducible refine eqBB ?_ | with_reducible refine neII ?_ | with_reducible refine neSS ?_ | with_reducible refine neBB ?_ | with_reducible refine isNN ?_ | with_reducible refine isNotNN ?_ | with_reducible refine isBB ?_ | with_reducible refine isNotBB ?_ | with_reducible refine lenTI ?_ | with_reducible refine lenFI ?_ | with_reducible refine intII ?_ | with_reducible refine intBI ?_ | with_reducible refine tupTI ?_ | with_reducible refine minII ?_ | with_reducible refine maxII ?_ | with_reducible refine slTI ?_ | with_reducible refine gcI ?_ | with_reducible refine gnI ?_ | with_reducible refine aNI ?_ | ((with_reducible refine ttI ?_ ?_); exact rfl) | ((with_reducible refine And.intro ?_ ?_); exact rfl) | ((with_reducible refine And.intro ?_ ?_); exact lenOk rfl) | dsimp only [En.s]))
  refine enTI ?_
  (repeat (first | with_reducible refine seqI ?_ | with_reducible refine setI ?_ | with_reducible refine asgI ?_ | with_reducible refine retI ?_ | with_reducible refine opI ?_ | with_reducible refine callI ?_ | with_reducible refine consI ?_ | with_reducible refine cI ?_ | with_reducible refine nilI ?_ | ((with_reducible apply varI); exact rfl) | with_reducible refine cbI ?_ | with_reducible refine ifI ?_ | with_reducible refine tstI ?_ | with_reducible refine notTI ?_ | with_reducible refine andTI ?_ | with_reducible refine orTI ?_ | with_reducible refine dropI ?_ | with_reducible refine nextI ?_ | with_reducible refine tupI ?_ | with_reducible refine lstI ?_ | with_reducible refine starI ?_ | with_reducible refine starTT ?_ | with_reducible refine andI ?_ | with_reducible refine orVI ?_ | with_reducible refine notI ?_ | with_reducible refine ifEI ?_ | with_reducible refine forI ?_ | with_reducible refine r1I ?_ | with_reducible refine ir2I ?_ | with_reducible refine iTupI ?_ | with_reducible refine truI ?_ | with_reducible refine chainI ?_ | with_reducible refine lcI ?_ | with_reducible refine slI ?_ | with_reducible refine noPI ?_ | with_reducible refine ptI ?_ | with_reducible refine unI ?_ | with_reducible refine brkI ?_ | with_reducible refine cntI ?_ | with_reducible refine retNI ?_ | with_reducible refine addII ?_ | with_reducible refine rI0 ?_ | with_reducible refine rIC ?_ ?_ | with_reducible refine mulII ?_ ?_ | with_reducible refine addTT ?_ ?_ | with_reducible refine addSS ?_ ?_ | with_reducible refine negII ?_ | with_reducible refine eqII ?_ | with_reducible refine eqSS ?_ | with_reducible refine eqBB ?_ | with_reducible refine neII ?_ | with_reducible refine neSS ?_ | with_reducible refine neBB ?_ | with_reducible refine isNN ?_ | with_reducible refine isNotNN ?_ | with_reducible refine isBB ?_ | with_reducible refine isNotBB ?_ | with_reducible refine lenTI ?_ | with_reducible refine lenFI ?_ | with_reducible refine intII ?_ | with_reducible refine intBI ?_ | with_reducible refine tupTI ?_ | with_reducible refine minII ?_ | with_reducible refine maxII ?_ | with_reducible refine slTI ?_ | with_reducible refine gcI ?_ | with_reducible refine gnI ?_ | with_reducible refine aNI ?_ | ((with_reducible refine ttI ?_ ?_); exact rfl) | ((with_reducible refine And.intro ?_ ?_); exact rfl) | ((with_reducible refine And.intro ?_ ?_); exact lenOk rfl) | dsimp only [En.s]))
  refine cbs_loop (fun _ => trivial) h2 bs 0 none none h fun y2 y3 => ?_
  unfold bl_check_batches_2
  (repeat (first | with_reducible refine seqI ?_ | with_reducible refine setI ?_ | with_reducible refine asgI ?_ | with_reducible refine retI ?_ | with_reducible refine opI ?_ | with_reducible refine callI ?_ | with_reducible refine consI ?_ | with_reducible refine cI ?_ | with_reducible refine nilI ?_ | ((with_reducible apply varI); exact rfl) | with_reducible refine cbI ?_ | with_reducible refine ifI ?_ | with_reducible refine tstI ?_ | with_reducible refine notTI ?_ | with_reducible refine andTI ?_ | with_reducible refine orTI ?_ | with_reducible refine dropI ?_ | with_reducible refine nextI ?_ | with_reducible refine tupI ?_ | with_reducible refine lstI ?_ | with_reducible refine starI ?_ | with_reducible refine starTT ?_ | with_reducible refine andI ?_ | with_reducible refine orVI ?_ | with_reducible refine notI ?_ | with_reducible refine ifEI ?_ | with_reducible refine forI ?_ | with_reducible refine r1I ?_ | with_reducible refine ir2I ?_ | with_reducible refine iTupI ?_ | with_reducible refine truI ?_ | with_reducible refine chainI ?_ | with_reducible refine lcI ?_ | with_reducible refine slI ?_ | with_reducible refine noPI ?_ | with_reducible refine ptI ?_ | with_reducible refine unI ?_ | with_reducible refine brkI ?_ | with_reducible refine cntI ?_ | with_reducible refine retNI ?_ | with_reducible refine addII ?_ | with_reducible refine rI0 ?_ | with_reducible refine rIC ?_ ?_ | with_reducible refine mulII ?_ ?_ | with_reducible refine addTT ?_ ?_ | with_reducible refine addSS ?_ ?_ | with_reducible refine negII ?_ | with_reducible refine eqII ?_ | with_reducible refine eqSS ?_ | with_reducible refine eqBB ?_ | with_reducible refine neII ?_ | with_reducible refine neSS ?_ | with_reducible refine neBB ?_ | with_reducible refine isNN ?_ | with_reducible refine isNotNN ?_ | with_reducible refine isBB ?_ | with_reducible refine isNotBB ?_ | with_reducible refine lenTI ?_ | with_reducible refine lenFI ?_ | with_reducible refine intII ?_ | with_reducible refine intBI ?_ | with_reducible refine tupTI ?_ | with_reducible refine minII ?_ | with_reducible refine maxII ?_ | with_reducible refine slTI ?_ | with_reducible refine gcI ?_ | with_reducible refine gnI ?_ | with_reducible refine aNI ?_ | ((with_reducible refine ttI ?_ ?_); exact rfl) | ((with_reducible refine And.intro ?_ ?_); exact rfl) | ((with_reducible refine And.intro ?_ ?_); exact lenOk rfl) | dsimp only [En.s]))
  refine enTI ?_
  (repeat (first | with_reducible refine seqI ?_ | with_reducible refine setI ?_ | with_reducible refine asgI ?_ | with_reducible refine retI ?_ | with_reducible refine opI ?_ | with_reducible refine callI ?_ | with_reducible refine consI ?_ | with_reducible refine cI ?_ | with_reducible refine nilI ?_ | ((with_reducible apply varI); exact rfl) | with_reducible refine cbI ?_ | with_reducible refine ifI ?_ | with_reducible refine tstI ?_ | with_reducible refine notTI ?_ | with_reducible refine andTI ?_ | with_reducible refine orTI ?_ | with_reducible refine dropI ?_ | with_reducible refine nextI ?_ | with_reducible refine tupI ?_ | with_reducible refine lstI ?_ | with_reducible refine starI ?_ | with_reducible refine starTT ?_ | with_reducible refine andI ?_ | with_reducible refine orVI ?_ | with_reducible refine notI ?_ | with_reducible refine ifEI ?_ | with_reducible refine forI ?_ | with_reducible refine r1I ?_ | with_reducible refine ir2I ?_ | with_reducible refine iTupI ?_ | with_reducible refine truI ?_ | with_reducible refine chainI ?_ | with_reducible refine lcI ?_ | with_reducible refine slI ?_ | with_reducible refine noPI ?_ | with_reducible refine ptI ?_ | with_reducible refine unI ?_ | with_reducible refine brkI ?_ | with_reducible refine cntI ?_ | with_reducible refine retNI ?_ | with_reducible refine addII ?_ | with_reducible refine rI0 ?_ | with_reducible refine rIC ?_ ?_ | with_reducible refine mulII ?_ ?_ | with_reducible refine addTT ?_ ?_ | with_reducible refine addSS ?_ ?_ | with_reducible refine negII ?_ | with_reducible refine eqII ?_ | with_reducible refine eqSS ?_ | with_reducible refine eqBB ?_ | with_reducible refine neII ?_ | with_reducible refine neSS ?_ | with_reducible refine neBB ?_ | with_reducible refine isNN ?_ | with_reducible refine isNotNN ?_ | with_reducible refine isBB ?_ | with_reducible refine isNotBB ?_ | with_reducible refine lenTI ?_ | with_reducible refine lenFI ?_ | with_reducible refine intII ?_ | with_reducible refine intBI ?_ | with_reducible refine tupTI ?_ | with_reducible refine minII ?_ | with_reducible refine maxII ?_ | with_reducible refine slTI ?_ | with_reducible refine gcI ?_ | with_reducible refine gnI ?_ | with_reducible refine aNI ?_ | ((with_reducible refine ttI ?_ ?_); exact rfl) | ((with_reducible refine And.intro ?_ ?_); exact rfl) | ((with_reducible refine And.intro ?_ ?_); exact lenOk rfl) | dsimp only [En.s]))
  refine cbr_loop (fun _ => trivial) bs 0 y2 y3 h fun y2 y3 => ⟨_, Ab.Sub.refl _, q⟩
theorem dwc_loop {A : AEnds} {x0 : Option D} {S : List Nat} {a p : Addr} {gd : M → Prop} (hgd : ∀ m, gd m) (hne : a ≠ p) : ∀ (bs : List Bt) (i : Nat) (acc : List D) (m : M) (x3 x4 : Option D), m a = some (.lst (iD S)) → m p = some (.lst acc) → acc.length + 2 * bs.length ≤ 1000 →
    (∀ m' y3 y4, m' p = some (.lst (acc ++ dl (fun j => S.contains j) i bs)) → (∀ b, b ≠ p → m' b = m b) → A.nx [x0, some (.ref a), some (.ref p), y3, y4] m') →
    forL (aTT 2 (aGCons (aN 3) (aGCons (aN 4) (aGNil)))) bl_deeds_with_checks_0 gd (enL i (bs.map btD)) A [x0, some (.ref a), some (.ref p), x3, x4] m
  | [], i, acc, m, x3, x4, ha, hp, hl, q => ⟨hgd _, q m x3 x4 (by rw [dl, List.append_nil]; exact hp) fun _ _ => rfl⟩
  | b :: bs, i, acc, m, x3, x4, ha, hp, hl, q => by
    have ih := fun acc m x3 x4 => dwc_loop (A := A) (x0 := x0) (S := S) (gd := gd) hgd hne bs (i + 1) acc m x3 x4
    rw [List.length_cons] at hl
    rw [List.map_cons, enL]
    unfold forL
    refine ⟨hgd _, rfl, ?_⟩
    generalize forL (aTT 2 (aGCons (aN 3) (aGCons (aN 4) (aGNil)))) bl_deeds_with_checks_0 gd (enL (i + 1) (bs.map btD)) A = X at ih ⊢
    unfold bl_deeds_with_checks_0
    (repeat (first | with_reducible refine seqI ?_ | with_reducible refine setI ?_ | with_reducible refine asgI ?_ | with_reducible refine retI ?_ | with_reducible refine opI ?_ | with_reducible refine callI ?_ | with_reducible refine consI ?_ | with_reducible refine cI ?_ | with_reducible refine nilI ?_ | ((with_reducible apply varI); exact rfl) | with_reducible refine cbI ?_ | with_reducible refine ifI ?_ | with_reducible refine tstI ?_ | with_reducible refine notTI ?_ | with_reducible refine andTI ?_ | with_reducible refine orTI ?_ | with_reducible refine dropI ?_ | with_reducible refine nextI ?_ | with_reducible refine tupI ?_ | with_reducible refine lstI ?_ | with_reducible refine starI ?_ | with_reducible refine starTT ?_ | with_reducible refine andI ?_ | with_reducible refine orVI ?_ | with_reducible refine notI ?_ | with_reducible refine ifEI ?_ | with_reducible refine forI ?_ | with_reducible refine r1I ?_ | with_reducible refine ir2I ?_ | with_reducible refine iTupI ?_ | with_reducible refine truI ?_ | with_reducible refine chainI ?_ | with_reducible refine lcI ?_ | with_reducible refine slI ?_ | with_reducible refine noPI ?_ | with_reducible refine ptI ?_ | with_reducible refine unI ?_ | with_reducible refine brkI ?_ | with_reducible refine cntI ?_ | with_reducible refine retNI ?_ | with_reducible refine addII ?_ | with_reducible refine rI0 ?_ | with_reducible refine rIC ?_ ?_ | with_reducible refine mulII ?_ ?_ | with_reducible refine addTT ?_ ?_ | with_reducible refine addSS ?_ ?_ | with_reducible refine negII ?_ | with_reducible refine eqII ?_ | with_reducible refine eqSS ?_ | with_reducible refine eqBB ?_ | with_reducible refine neII ?_ | with_reducible refine neSS ?_ | with_reducible refine neBB ?_ | with_reducible refine isNN ?_ | with_reducible refine isNotNN ?_ | with_reducible refine isBB ?_ | with_reducible refine isNotBB ?_ | with_reducible refine lenTI ?_ | with_reducible refine lenFI ?_ | with_reducible refine intII ?_ | with_reducible refine intBI ?_ | with_reducible refine tupTI ?_ | with_reducible refine minII ?_ | with_reducible refine maxII ?_ | with_reducible refine slTI ?_ | with_reducible refine gcI ?_ | with_reducible refine gnI ?_ | with_reducible refine aNI ?_ | ((with_reducible refine ttI ?_ ?_); exact rfl) | ((with_reducible refine And.intro ?_ ?_); exact rfl) | ((with_reducible refine And.intro ?_ ?_); exact lenOk rfl) | dsimp only [En.s]))
    refine inSl (l_of ha) ?_
    have fin : ∀ m1 acc1, m1 a = some (.lst (iD S)) → m1 p = some (.lst acc1) → acc1 = acc ++ (if S.contains i = true then [ckD] else []) → (∀ b, b ≠ p → m1 b = m b) → aDrop (aApp (aVar 2) (aTup (aCons (aC (.str ("write" : Str))) (aCons (aVar 4) (aNil))))) { A with nx := X, ct := X, bk := A.nx } [x0, some (.ref a), some (.ref p), some (.int (i : Nat)), some (btD b)] m1 := by
      intro m1 acc1 h1 h2 h3 h4
      (repeat (first | with_reducible refine seqI ?_ | with_reducible refine setI ?_ | with_reducible refine asgI ?_ | with_reducible refine retI ?_ | with_reducible refine opI ?_ | with_reducible refine callI ?_ | with_reducible refine consI ?_ | with_reducible refine cI ?_ | with_reducible refine nilI ?_ | ((with_reducible apply varI); exact rfl) | with_reducible refine cbI ?_ | with_reducible refine ifI ?_ | with_reducible refine tstI ?_ | with_reducible refine notTI ?_ | with_reducible refine andTI ?_ | with_reducible refine orTI ?_ | with_reducible refine dropI ?_ | with_reducible refine nextI ?_ | with_reducible refine tupI ?_ | with_reducible refine lstI ?_ | with_reducible refine starI ?_ | with_reducible refine starTT ?_ | with_reducible refine andI ?_ | with_reducible refine orVI ?_ | with_reducible refine notI ?_ | with_reducible refine ifEI ?_ | with_reducible refine forI ?_ | with_reducible refine r1I ?_ | with_reducible refine ir2I ?_ | with_reducible refine iTupI ?_ | with_reducible refine truI ?_ | with_reducible refine chainI ?_ | with_reducible refine lcI ?_ | with_reducible refine slI ?_ | with_reducible refine noPI ?_ | with_reducible refine ptI ?_ | with_reducible refine unI ?_ | with_reducible refine brkI ?_ | with_reducible refine cntI ?_ | with_reducible refine retNI ?_ | with_reducible refine addII ?_ | with_reducible refine rI0 ?_ | with_reducible refine rIC ?_ ?_ | with_reducible refine mulII ?_ ?_ | with_reducible refine addTT ?_ ?_ | with_reducible refine addSS ?_ ?_ | with_reducible refine negII ?_ | with_reducible refine eqII ?_ | with_reducible refine eqSS ?_ | with_reducible refine eqBB ?_ | with_reducible refine neII ?_ | with_reducible refine neSS ?_ | with_reducible refine neBB ?_ | with_reducible refine isNN ?_ | with_reducible refine isNotNN ?_ | with_reducible refine isBB ?_ | with_reducible refine isNotBB ?_ | with_reducible refine lenTI ?_ | with_reducible refine lenFI ?_ | with_reducible refine intII ?_ | with_reducible refine intBI ?_ | with_reducible refine tupTI ?_ | with_reducible refine minII ?_ | with_reducible refine maxII ?_ | with_reducible refine slTI ?_ | with_reducible refine gcI ?_ | with_reducible refine gnI ?_ | with_reducible refine aNI ?_ | ((with_reducible refine ttI ?_ ?_); exact rfl) | ((with_reducible refine And.intro ?_ ?_); exact rfl) | ((with_reducible refine And.intro ?_ ?_); exact lenOk rfl) | dsimp only [En.s]))
      refine appI rfl (l_of h2) ?_
      (repeat (first | with_reducible refine seqI ?_ | with_reducible refine setI ?_ | with_reducible refine asgI ?_ | with_reducible refine retI ?_ | with_reducible refine opI ?_ | with_reducible refine callI ?_ | with_reducible refine consI ?_ | with_reducible refine cI ?_ | with_reducible refine nilI ?_ | ((with_reducible apply varI); exact rfl) | with_reducible refine cbI ?_ | with_reducible refine ifI ?_ | with_reducible refine tstI ?_ | with_reducible refine notTI ?_ | with_reducible refine andTI ?_ | with_reducible refine orTI ?_ | with_reducible refine dropI ?_ | with_reducible refine nextI ?_ | with_reducible refine tupI ?_ | with_reducible refine lstI ?_ | with_reducible refine starI ?_ | with_reducible refine starTT ?_ | with_reducible refine andI ?_ | with_reducible refine orVI ?_ | with_reducible refine notI ?_ | with_reducible refine ifEI ?_ | with_reducible refine forI ?_ | with_reducible refine r1I ?_ | with_reducible refine ir2I ?_ | with_reducible refine iTupI ?_ | with_reducible refine truI ?_ | with_reducible refine chainI ?_ | with_reducible refine lcI ?_ | with_reducible refine slI ?_ | with_reducible refine noPI ?_ | with_reducible refine ptI ?_ | with_reducible refine unI ?_ | with_reducible refine brkI ?_ | with_reducible refine cntI ?_ | with_reducible refine retNI ?_ | with_reducible refine addII ?_ | with_reducible refine rI0 ?_ | with_reducible refine rIC ?_ ?_ | with_reducible refine mulII ?_ ?_ | with_reducible refine addTT ?_ ?_ | with_reducible refine addSS ?_ ?_ | with_reducible refine negII ?_ | with_reducible refine eqII ?_ | with_reducible refine eqSS ?_ | with_reducible refine eqBB ?_ | with_reducible refine neII ?_ | with_reducible refine neSS ?_ | with_reducible refine neBB ?_ | with_reducible refine isNN ?_ | with_reducible refine isNotNN ?_ | with_reducible refine isBB ?_ | with_reducible refine isNotBB ?_ | with_reducible refine lenTI ?_ | with_reducible refine lenFI ?_ | with_reducible refine intII ?_ | with_reducible refine intBI ?_ | with_reducible refine tupTI ?_ | with_reducible refine minII ?_ | with_reducible refine maxII ?_ | with_reducible refine slTI ?_ | with_reducible refine gcI ?_ | with_reducible refine gnI ?_ | with_reducible refine aNI ?_ | ((with_reducible refine ttI ?_ ?_); exact rfl) | ((with_reducible refine And.intro ?_ ?_); exact rfl) | ((with_reducible refine And.intro ?_ ?_); exact lenOk rfl) | dsimp only [En.s]))
      rw [l_of h2]
      have hl1 : acc1.length ≤ acc.length + 1 := by rw [h3]; split <;> simp
      refine ⟨Nat.lt_of_le_of_lt (show acc1.length ≤ 1000 by omega) (by unfold big; decide), ?_⟩
      refine ih _ _ _ _ (by rw [mset_ne hne]; exact h1) mset_same (by simp; omega) fun m' y3 y4 e1 e2 => q m' y3 y4 ?_ fun c hc => by rw [e2 c hc, mset_ne hc]; exact h4 c hc
      rw [e1, h3, dl]
      simp [wrD, List.append_assoc]
    by_cases hc : S.contains i = true
    · refine bl_t hc ?_
      (repeat (first | with_reducible refine seqI ?_ | with_reducible refine setI ?_ | with_reducible refine asgI ?_ | with_reducible refine retI ?_ | with_reducible refine opI ?_ | with_reducible refine callI ?_ | with_reducible refine consI ?_ | with_reducible refine cI ?_ | with_reducible refine nilI ?_ | ((with_reducible apply varI); exact rfl) | with_reducible refine cbI ?_ | with_reducible refine ifI ?_ | with_reducible refine tstI ?_ | with_reducible refine notTI ?_ | with_reducible refine andTI ?_ | with_reducible refine orTI ?_ | with_reducible refine dropI ?_ | with_reducible refine nextI ?_ | with_reducible refine tupI ?_ | with_reducible refine lstI ?_ | with_reducible refine starI ?_ | with_reducible refine starTT ?_ | with_reducible refine andI ?_ | with_reducible refine orVI ?_ | with_reducible refine notI ?_ | with_reducible refine ifEI ?_ | with_reducible refine forI ?_ | with_reducible refine r1I ?_ | with_reducible refine ir2I ?_ | with_reducible refine iTupI ?_ | with_reducible refine truI ?_ | with_reducible refine chainI ?_ | with_reducible refine lcI ?_ | with_reducible refine slI ?_ | with_reducible refine noPI ?_ | with_reducible refine ptI ?_ | with_reducible refine unI ?_ | with_reducible refine brkI ?_ | with_reducible refine cntI ?_ | with_reducible refine retNI ?_ | with_reducible refine addII ?_ | with_reducible refine rI0 ?_ | with_reducible refine rIC ?_ ?_ | with_reducible refine mulII ?_ ?_ | with_reducible refine addTT ?_ ?_ | with_reducible refine addSS ?_ ?_ | with_reducible refine negII ?_ | with_reducible refine eqII ?_ | with_reducible refine eqSS ?_ | with_reducible refine eqBB ?_ | with_reducible refine neII ?_ | with_reducible refine neSS ?_ | with_reducible refine neBB ?_ | with_reducible refine isNN ?_ | with_reducible refine isNotNN ?_ | with_reducible refine isBB ?_ | with_reducible refine isNotBB ?_ | with_reducible refine lenTI ?_ | with_reducible refine lenFI ?_ | with_reducible refine intII ?_ | with_reducible refine intBI ?_ | with_reducible refine tupTI ?_ | with_reducible refine minII ?_ | with_reducible refine maxII ?_ | with_reducible refine slTI ?_ | with_reducible refine gcI ?_ | with_reducible refine gnI ?_ | with_reducible refine aNI ?_ | ((with_reducible refine ttI ?_ ?_); exact rfl) | ((with_reducible refine And.intro ?_ ?_); exact rfl) | ((with_reducible refine And.intro ?_ ?_); exact lenOk rfl) | dsimp only [En.s]))
      refine appI rfl (l_of hp) ?_
      (repeat (first | with_reducible refine seqI ?_ | with_reducible refine setI ?_ | with_reducible refine asgI ?_ | with_reducible refine retI ?_ | with_reducible refine opI ?_ | with_reducible refine callI ?_ | with_reducible refine consI ?_ | with_reducible refine cI ?_ | with_reducible refine nilI ?_ | ((with_reducible apply varI); exact rfl) | with_reducible refine cbI ?_ | with_reducible refine ifI ?_ | with_reducible refine tstI ?_ | with_reducible refine notTI ?_ | with_reducible refine andTI ?_ | with_reducible refine orTI ?_ | with_reducible refine dropI ?_ | with_reducible refine nextI ?_ | with_reducible refine tupI ?_ | with_reducible refine lstI ?_ | with_reducible refine starI ?_ | with_reducible refine starTT ?_ | with_reducible refine andI ?_ | with_reducible refine orVI ?_ | with_reducible refine notI ?_ | with_reducible refine ifEI ?_ | with_reducible refine forI ?_ | with_reducible refine r1I ?_ | with_reducible refine ir2I ?_ | with_reducible refine iTupI ?_ | with_reducible refine truI ?_ | with_reducible refine chainI ?_ | with_reducible refine lcI ?_ | with_reducible refine slI ?_ | with_reducible refine noPI ?_ | with_reducible refine ptI ?_ | with_reducible refine unI ?_ | with_reducible refine brkI ?_ | with_reducible refine cntI ?_ | with_reducible refine retNI ?_ | with_reducible refine addII ?_ | with_reducible refine rI0 ?_ | with_reducible refine rIC ?_ ?_ | with_reducible refine mulII ?_ ?_ | with_reducible refine addTT ?_ ?_ | with_reducible refine addSS ?_ ?_ | with_reducible refine negII ?_ | with_reducible refine eqII ?_ | with_reducible refine eqSS ?_ | with_reducible refine eqBB ?_ | with_reducible refine neII ?_ | with_reducible refine neSS ?_ | with_reducible refine neBB ?_ | with_reducible refine isNN ?_ | with_reducible refine isNotNN ?_ | with_reducible refine isBB ?_ | with_reducible refine isNotBB ?_ | with_reducible refine lenTI ?_ | with_reducible refine lenFI ?_ | with_reducible refine intII ?_ | with_reducible refine intBI ?_ | with_reducible refine tupTI ?_ | with_reducible refine minII ?_ | with_reducible refine maxII ?_ | with_reducible refine slTI ?_ | with_reducible refine gcI ?_ | with_reducible refine gnI ?_ | with_reducible refine aNI ?_ | ((with_reducible refine ttI ?_ ?_); exact rfl) | ((with_reducible refine And.intro ?_ ?_); exact rfl) | ((with_reducible refine And.intro ?_ ?_); exact lenOk rfl) | dsimp only [En.s]))
      rw [l_of hp]
      refine ⟨Nat.lt_of_le_of_lt (show acc.length ≤ 1000 by omega) (by unfold big; decide), ?_⟩
      exact fin _ _ (by rw [mset_ne hne]; exact ha) mset_same (by rw [if_pos hc]; rfl) fun b hb => mset_ne hb
    · refine bl_f (by simpa using hc) ?_
      refine nextI ?_
      exact fin _ _ ha hp (by rw [if_neg hc, List.append_nil]) fun _ _ => rfl
theorem deedsWith {S : List Nat} {a : Addr} {bs : List Bt} {Q : PQ} {R : PX} (ha : m a = some (.lst (iD S))) (hl : bs.length ≤ 20) (q : ∀ m', Ab.Sub m m' → Q (.tup (dl (fun j => S.contains j) 0 bs)) m') : s_deeds_with_checks [.tup (bs.map btD), .ref a] m Q R := by
  refine ent_deeds_with_checks ?_
  unfold b_deeds_with_checks
  (repeat (first | with_reducible refine seqI ?_ | with_reducible refine setI ?_ | with_reducible refine asgI ?_ | with_reducible refine retI ?_ | with_reducible refine opI ?_ | with_reducible refine callI ?_ | with_reducible refine consI ?_ | with_reducible refine cI ?_ | with_reducible refine nilI ?_ | ((with_reducible apply varI); exact rfl) | with_reducible refine cbI ?_ | with_reducible refine ifI ?_ | with_reducible refine tstI ?_ | with_reducible refine notTI ?_ | with_reducible refine andTI ?_ | with_reducible refine orTI ?_ | with_reducible refine dropI ?_ | with_reducible refine nextI ?_ | with_reducible refine tupI ?_ | with_reducible refine lstI ?_ | with_reducible refine starI ?_ | with_reducible refine starTT ?_ | with_reducible refine andI ?_ | with_reducible refine orVI ?_ | with_reducible refine notI ?_ | with_reducible refine ifEI ?_ | with_reducible refine forI ?_ | with_reducible refine r1I ?_ | with_reducible refine ir2I ?_ | with_reducible refine iTupI ?_ | with_reducible refine truI ?_ | with_reducible refine chainI ?_ | with_reducible refine lcI ?_ | with_reducible refine slI ?_ | with_reducible refine noPI ?_ | with_reducible refine ptI ?_ | with_reducible refine unI ?_ | with_reducible refine brkI ?_ | with_reducible refine cntI ?_ | with_reducible refine retNI ?_ | with_reducible refine addII ?_ | with_reducible refine rI0 ?_ | with_reducible refine rIC ?_ ?_ | with_reducible refine mulII ?_ ?_ | with_reducible refine addTT ?_ ?_ | with_reducible refine addSS ?_ ?_ | with_reducible refine negII ?_ | with_reducible refine eqII ?_ | with_reducible refine eqSS ?_ | with_reducible refine eqBB ?_ | with_reducible refine neII ?_ | with_reducible refine neSS ?_ | with_reducible refine neBB ?_ | with_reducible refine isNN ?_ | with_reducible refine isNotNN ?_ | with_reducible refine isBB ?_ | with_reducible refine isNotBB ?_ | with_reducible refine lenTI ?_ | with_reducible refine lenFI ?_ | with_reducible refine intII ?_ | with_reducible refine intBI ?_ | with_reducible refine tupTI ?_ | with_reducible refine minII ?_ | with_reducible refine maxII ?_ | with_reducible refine slTI ?_ | with_reducible refine gcI ?_ | with_reducible refine gnI ?_ | with_reducible refine aNI ?_ | ((with_reducible refine ttI ?_ ?_); exact rfl) | ((with_reducible refine And.intro ?_ ?_); exact rfl) | ((with_reducible refine And.intro ?_ ?_); exact lenOk rfl) | dsimp only [En.s]))
  intro p hp
  have hne : a ≠ p := fun z => by rw [← z, ha] at hp; cases hp
  (repeat (first | with_reducible refine seqI ?_ | with_reducible refine setI ?_ | with_reducible refine asgI ?_ | with_reducible refine retI ?_ | with_reducible refine opI ?_ | with_reducible refine callI ?_ | with_reducible refine consI ?_ | with_reducible refine cI ?_ | with_reducible refine nilI ?_ | ((with_reducible apply varI); exact rfl) | with_reducible refine cbI ?_ | with_reducible refine ifI ?_ | with_reducible refine tstI ?_ | with_reducible refine notTI ?_ | with_reducible refine andTI ?_ | with_reducible refine orTI ?_ | with_reducible refine dropI ?_ | with_reducible refine nextI ?_ | with_reducible refine tupI ?_ | with_reducible refine lstI ?_ | with_reducible refine starI ?_ | with_reducible refine starTT ?_ | with_reducible refine andI ?_ | with_reducible refine orVI ?_ | with_reducible refine notI ?_ | with_reducible refine ifEI ?_ | with_reducible refine forI ?_ | with_reducible refine r1I ?_ | with_reducible refine ir2I ?_ | with_reducible refine iTupI ?_ | with_reducible refine truI ?_ | with_reducible refine chainI ?_ | with_reducible refine lcI ?_ | with_reducible refine slI ?_ | with_reducible refine noPI ?_ | with_reducible refine ptI ?_ | with_reducible refine unI ?_ | with_reducible refine brkI ?_ | with_reducible refine cntI ?_ | with_reducible refine retNI ?_ | with_reducible refine addII ?_ | with_reducible refine rI0 ?_ | with_reducible refine rIC ?_ ?_ | with_reducible refine mulII ?_ ?_ | with_reducible refine addTT ?_ ?_ | with_reducible refine addSS ?_ ?_ | with_reducible refine negII ?_ | with_reducible refine eqII ?_ | with_reducible refine eqSS ?_ | with_reducible refine eqBB ?_ | with_reducible refine neII ?_ | with_reducible refine neSS ?_ | with_reducible refine neBB ?_ | with_reducible refine isNN ?_ | with_reducible refine isNotNN ?_ | with_reducible refine isBB ?_ | with_reducible refine isNotBB ?_ | with_reducible refine lenTI ?_ | with_reducible refine lenFI ?_ | with_reducible refine intII ?_ | with_reducible refine intBI ?_ | with_reducible refine tupTI ?_ | with_reducible refine minII ?_ | with_reducible refine maxII ?_ | with_reducible refine slTI ?_ | with_reducible refine gcI ?_ | with_reducible refine gnI ?_ | with_reducible refine aNI ?_ | ((with_reducible refine ttI ?_ ?_); exact rfl) | ((with_reducible refine And.intro ?_ ?_); exact rfl) | ((with_reducible refine And.intro ?_ ?_); exact lenOk rfl) | dsimp only [En.s]))
  refine enTI ?_
  (repeat (first | with_reducible refine seqI ?_ | with_reducible refine setI ?_ | with_reducible refine asgI ?_ | with_reducible refine retI ?_ | with_reducible refine opI ?_ | with_reducible refine callI ?_ | with_reducible refine consI ?_ | with_reducible refine cI ?_ | with_reducible refine nilI ?_ | ((with_reducible apply varI); exact rfl) | with_reducible refine cbI ?_ | with_reducible refine ifI ?_ | with_reducible refine tstI ?_ | with_reducible refine notTI ?_ | with_reducible refine andTI ?_ | with_reducible refine orTI ?_ | with_reducible refine dropI ?_ | with_reducible refine nextI ?_ | with_reducible refine tupI ?_ | with_reducible refine lstI ?_ | with_reducible refine starI ?_ | with_reducible refine starTT ?_ | with_reducible refine andI ?_ | with_reducible refine orVI ?_ | with_reducible refine notI ?_ | with_reducible refine ifEI ?_ | with_reducible refine forI ?_ | with_reducible refine r1I ?_ | with_reducible refine ir2I ?_ | with_reducible refine iTupI ?_ | with_reducible refine truI ?_ | with_reducible refine chainI ?_ | with_reducible refine lcI ?_ | with_reducible refine slI ?_ | with_reducible refine noPI ?_ | with_reducible refine ptI ?_ | with_reducible refine unI ?_ | with_reducible refine brkI ?_ | with_reducible refine cntI ?_ | with_reducible refine retNI ?_ | with_reducible refine addII ?_ | with_reducible refine rI0 ?_ | with_reducible refine rIC ?_ ?_ | with_reducible refine mulII ?_ ?_ | with_reducible refine addTT ?_ ?_ | with_reducible refine addSS ?_ ?_ | with_reducible refine negII ?_ | with_reducible refine eqII ?_ | with_reducible refine eqSS ?_ | with_reducible refine eqBB ?_ | with_reducible refine neII ?_ | with_reducible refine neSS ?_ | with_reducible refine neBB ?_ | with_reducible refine isNN ?_ | with_reducible refine isNotNN ?_ | with_reducible refine isBB ?_ | with_reducible refine isNotBB ?_ | with_reducible refine lenTI ?_ | with_reducible refine lenFI ?_ | with_reducible refine intII ?_ | with_reducible refine intBI ?_ | with_reducible refine tupTI ?_ | with_reducible refine minII ?_ | with_reducible refine maxII ?_ | with_reducible refine slTI ?_ | with_reducible refine gcI ?_ | with_reducible refine gnI ?_ | with_reducible refine aNI ?_ | ((with_reducible refine ttI ?_ ?_); exact rfl) | ((with_reducible refine And.intro ?_ ?_); exact rfl) | ((with_reducible refine And.intro ?_ ?_); exact lenOk rfl) | dsimp only [En.s]))
  refine dwc_loop (S := S) (fun _ => trivial) hne bs 0 [] _ none none (by rw [mset_ne hne]; exact ha) mset_same (by simp; omega) fun m' y3 y4 e1 e2 => ?_
  (repeat (first | with_reducible refine seqI ?_ | with_reducible refine setI ?_ | with_reducible refine asgI ?_ | with_reducible refine retI ?_ | with_reducible refine opI ?_ | with_reducible refine callI ?_ | with_reducible refine consI ?_ | with_reducible refine cI ?_ | with_reducible refine nilI ?_ | ((with_reducible apply varI); exact rfl) | with_reducible refine cbI ?_ | with_reducible refine ifI ?_ | with_reducible refine tstI ?_ | with_reducible refine notTI ?_ | with_reducible refine andTI ?_ | with_reducible refine orTI ?_ | with_reducible refine dropI ?_ | with_reducible refine nextI ?_ | with_reducible refine tupI ?_ | with_reducible refine lstI ?_ | with_reducible refine starI ?_ | with_reducible refine starTT ?_ | with_reducible refine andI ?_ | with_reducible refine orVI ?_ | with_reducible refine notI ?_ | with_reducible refine ifEI ?_ | with_reducible refine forI ?_ | with_reducible refine r1I ?_ | with_reducible refine ir2I ?_ | with_reducible refine iTupI ?_ | with_reducible refine truI ?_ | with_reducible refine chainI ?_ | with_reducible refine lcI ?_ | with_reducible refine slI ?_ | with_reducible refine noPI ?_ | with_reducible refine ptI ?_ | with_reducible refine unI ?_ | with_reducible refine brkI ?_ | with_reducible refine cntI ?_ | with_reducible refine retNI ?_ | with_reducible refine addII ?_ | with_reducible refine rI0 ?_ | with_reducible refine rIC ?_ ?_ | with_reducible refine mulII ?_ ?_ | with_reducible refine addTT ?_ ?_ | with_reducible refine addSS ?_ ?_ | with_reducible refine negII ?_ | with_reducible refine eqII ?_ | with_reducible refine eqSS ?_ | with_reducible refine eqBB ?_ | with_reducible refine neII ?_ | with_reducible refine neSS ?_ | with_reducible refine neBB ?_ | with_reducible refine isNN ?_ | with_reducible refine isNotNN ?_ | with_reducible refine isBB ?_ | with_reducible refine isNotBB ?_ | with_reducible refine lenTI ?_ | with_reducible refine lenFI ?_ | with_reducible refine intII ?_ | with_reducible refine intBI ?_ | with_reducible refine tupTI ?_ | with_reducible refine minII ?_ | with_reducible refine maxII ?_ | with_reducible refine slTI ?_ | with_reducible refine gcI ?_ | with_reducible refine gnI ?_ | with_reducible refine aNI ?_ | ((with_reducible refine ttI ?_ ?_); exact rfl) | ((with_reducible refine And.intro ?_ ?_); exact rfl) | ((with_reducible refine And.intro ?_ ?_); exact lenOk rfl) | dsimp only [En.s]))
  refine tupRI (l_of e1) ?_
  refine ⟨_, Ab.Sub.refl _, q m' fun c o hc => ?_⟩
  have hcp : c ≠ p := fun z => by rw [z, hp] at hc; cases hc
  rw [e2 c hcp, mset_ne hcp]
  exact hc
end
end K32

set_option linter.all false
set_option maxRecDepth 100000
set_option maxHeartbeats 2000000
namespace K32
open PySem PySem.Spec PyProof.Rows L2 Ab
section
variable {m : M}
theorem fw_loop {A : AEnds} {pages ring : Nat} {x1 : Option D} {p : Addr} {gd : M → Prop} (hgd : ∀ m, gd m) : ∀ (bs : List Bt) (i u : Nat) (acc : List Nat) (m : M) (x4 x5 : Option D), u ≤ ring → (∀ b ∈ bs, b.length ≤ ring) → m p = some (.lst (iD acc)) → acc.length + bs.length ≤ 1000 →
    (∀ m' (y3 : Int) y4 y5, m' p = some (.lst (iD (acc ++ gr ring i u (szs bs)))) → (∀ b, b ≠ p → m' b = m b) → A.nx [some (shD pages ring), x1, some (.ref p), some (.int y3), y4, y5] m') →
    forL (aTT 2 (aGCons (aN 4) (aGCons (aN 5) (aGNil)))) bl_fewest_checks_2 gd (enL i (bs.map btD)) A [some (shD pages ring), x1, some (.ref p), some (.int ((ring : Int) - (u : Int))), x4, x5] m
  | [], i, u, acc, m, x4, x5, hu, hb, hp, hl, q => ⟨hgd _, q m _ x4 x5 (by rw [szs, List.map_nil, gr, List.append_nil]; exact hp) fun _ _ => rfl⟩
  | b :: bs, i, u, acc, m, x4, x5, hu, hb, hp, hl, q => by
    have ih := fun u acc m x4 x5 => fw_loop (A := A) (pages := pages) (ring := ring) (x1 := x1) (p := p) (gd := gd) hgd bs (i + 1) u acc m x4 x5
    have hbr := hb b (by simp)
    have hbs : ∀ b ∈ bs, b.length ≤ ring := fun c hc => hb c (by simp [hc])
    rw [List.length_cons] at hl
    rw [List.map_cons, enL]
    unfold forL
    refine ⟨hgd _, rfl, ?_⟩
    generalize forL (aTT 2 (aGCons (aN 4) (aGCons (aN 5) (aGNil)))) bl_fewest_checks_2 gd (enL (i + 1) (bs.map btD)) A = X at ih ⊢
    unfold bl_fewest_checks_2
    generalize hY : bl_fewest_checks_1 = Y
    unfold btD
    (repeat (first | with_reducible refine seqI ?_ | with_reducible refine setI ?_ | with_reducible refine asgI ?_ | with_reducible refine retI ?_ | with_reducible refine opI ?_ | with_reducible refine callI ?_ | with_reducible refine consI ?_ | with_reducible refine cI ?_ | with_reducible refine nilI ?_ | ((with_reducible apply varI); exact rfl) | with_reducible refine cbI ?_ | with_reducible refine ifI ?_ | with_reducible refine tstI ?_ | with_reducible refine notTI ?_ | with_reducible refine andTI ?_ | with_reducible refine orTI ?_ | with_reducible refine dropI ?_ | with_reducible refine nextI ?_ | with_reducible refine tupI ?_ | with_reducible refine lstI ?_ | with_reducible refine starI ?_ | with_reducible refine starTT ?_ | with_reducible refine andI ?_ | with_reducible refine orVI ?_ | with_reducible refine notI ?_ | with_reducible refine ifEI ?_ | with_reducible refine forI ?_ | with_reducible refine r1I ?_ | with_reducible refine ir2I ?_ | with_reducible refine iTupI ?_ | with_reducible refine truI ?_ | with_reducible refine chainI ?_ | with_reducible refine lcI ?_ | with_reducible refine slI ?_ | with_reducible refine noPI ?_ | with_reducible refine ptI ?_ | with_reducible refine unI ?_ | with_reducible refine brkI ?_ | with_reducible refine cntI ?_ | with_reducible refine retNI ?_ | with_reducible refine addII ?_ | with_reducible refine rI0 ?_ | with_reducible refine rIC ?_ ?_ | with_reducible refine mulII ?_ ?_ | with_reducible refine addTT ?_ ?_ | with_reducible refine addSS ?_ ?_ | with_reducible refine negII ?_ | with_reducible refine eqII ?_ | with_reducible refine eqSS ?_ | with_reducible refine eqBB ?_ | with_reducible refine neII ?_ | with_reducible refine neSS ?_ | with_reducible refine neBB ?_ | with_reducible refine isNN ?_ | with_reducible refine isNotNN ?_ | with_reducible refine isBB ?_ | with_reducible refine isNotBB ?_ | with_reducible refine lenTI ?_ | with_reducible refine lenFI ?_ | with_reducible refine intII ?_ | with_reducible refine intBI ?_ | with_reducible refine tupTI ?_ | with_reducible refine minII ?_ | with_reducible refine maxII ?_ | with_reducible refine slTI ?_ | with_reducible refine gcI ?_ | with_reducible refine gnI ?_ | with_reducible refine aNI ?_ | ((with_reducible refine ttI ?_ ?_); exact rfl) | ((with_reducible refine And.intro ?_ ?_); exact rfl) | ((with_reducible refine And.intro ?_ ?_); exact lenOk rfl) | dsimp only [En.s]))
    rw [List.length_map]
    have e0 : szs (b :: bs) = b.length :: szs bs := rfl
    by_cases ho : ring < u + b.length
    · refine bl_t (decide_eq_true (by omega)) ?_
      (repeat (first | with_reducible refine seqI ?_ | with_reducible refine setI ?_ | with_reducible refine asgI ?_ | with_reducible refine retI ?_ | with_reducible refine opI ?_ | with_reducible refine callI ?_ | with_reducible refine consI ?_ | with_reducible refine cI ?_ | with_reducible refine nilI ?_ | ((with_reducible apply varI); exact rfl) | with_reducible refine cbI ?_ | with_reducible refine ifI ?_ | with_reducible refine tstI ?_ | with_reducible refine notTI ?_ | with_reducible refine andTI ?_ | with_reducible refine orTI ?_ | with_reducible refine dropI ?_ | with_reducible refine nextI ?_ | with_reducible refine tupI ?_ | with_reducible refine lstI ?_ | with_reducible refine starI ?_ | with_reducible refine starTT ?_ | with_reducible refine andI ?_ | with_reducible refine orVI ?_ | with_reducible refine notI ?_ | with_reducible refine ifEI ?_ | with_reducible refine forI ?_ | with_reducible refine r1I ?_ | with_reducible refine ir2I ?_ | with_reducible refine iTupI ?_ | with_reducible refine truI ?_ | with_reducible refine chainI ?_ | with_reducible refine lcI ?_ | with_reducible refine slI ?_ | with_reducible refine noPI ?_ | with_reducible refine ptI ?_ | with_reducible refine unI ?_ | with_reducible refine brkI ?_ | with_reducible refine cntI ?_ | with_reducible refine retNI ?_ | with_reducible refine addII ?_ | with_reducible refine rI0 ?_ | with_reducible refine rIC ?_ ?_ | with_reducible refine mulII ?_ ?_ | with_reducible refine addTT ?_ ?_ | with_reducible refine addSS ?_ ?_ | with_reducible refine negII ?_ | with_reducible refine eqII ?_ | with_reducible refine eqSS ?_ | with_reducible refine eqBB ?_ | with_reducible refine neII ?_ | with_reducible refine neSS ?_ | with_reducible refine neBB ?_ | with_reducible refine isNN ?_ | with_reducible refine isNotNN ?_ | with_reducible refine isBB ?_ | with_reducible refine isNotBB ?_ | with_reducible refine lenTI ?_ | with_reducible refine lenFI ?_ | with_reducible refine intII ?_ | with_reducible refine intBI ?_ | with_reducible refine tupTI ?_ | with_reducible refine minII ?_ | with_reducible refine maxII ?_ | with_reducible refine slTI ?_ | with_reducible refine gcI ?_ | with_reducible refine gnI ?_ | with_reducible refine aNI ?_ | ((with_reducible refine ttI ?_ ?_); exact rfl) | ((with_reducible refine And.intro ?_ ?_); exact rfl) | ((with_reducible refine And.intro ?_ ?_); exact lenOk rfl) | dsimp only [En.s]))
      refine appI rfl (l_of hp) ?_
      (repeat (first | with_reducible refine seqI ?_ | with_reducible refine setI ?_ | with_reducible refine asgI ?_ | with_reducible refine retI ?_ | with_reducible refine opI ?_ | with_reducible refine callI ?_ | with_reducible refine consI ?_ | with_reducible refine cI ?_ | with_reducible refine nilI ?_ | ((with_reducible apply varI); exact rfl) | with_reducible refine cbI ?_ | with_reducible refine ifI ?_ | with_reducible refine tstI ?_ | with_reducible refine notTI ?_ | with_reducible refine andTI ?_ | with_reducible refine orTI ?_ | with_reducible refine dropI ?_ | with_reducible refine nextI ?_ | with_reducible refine tupI ?_ | with_reducible refine lstI ?_ | with_reducible refine starI ?_ | with_reducible refine starTT ?_ | with_reducible refine andI ?_ | with_reducible refine orVI ?_ | with_reducible refine notI ?_ | with_reducible refine ifEI ?_ | with_reducible refine forI ?_ | with_reducible refine r1I ?_ | with_reducible refine ir2I ?_ | with_reducible refine iTupI ?_ | with_reducible refine truI ?_ | with_reducible refine chainI ?_ | with_reducible refine lcI ?_ | with_reducible refine slI ?_ | with_reducible refine noPI ?_ | with_reducible refine ptI ?_ | with_reducible refine unI ?_ | with_reducible refine brkI ?_ | with_reducible refine cntI ?_ | with_reducible refine retNI ?_ | with_reducible refine addII ?_ | with_reducible refine rI0 ?_ | with_reducible refine rIC ?_ ?_ | with_reducible refine mulII ?_ ?_ | with_reducible refine addTT ?_ ?_ | with_reducible refine addSS ?_ ?_ | with_reducible refine negII ?_ | with_reducible refine eqII ?_ | with_reducible refine eqSS ?_ | with_reducible refine eqBB ?_ | with_reducible refine neII ?_ | with_reducible refine neSS ?_ | with_reducible refine neBB ?_ | with_reducible refine isNN ?_ | with_reducible refine isNotNN ?_ | with_reducible refine isBB ?_ | with_reducible refine isNotBB ?_ | with_reducible refine lenTI ?_ | with_reducible refine lenFI ?_ | with_reducible refine intII ?_ | with_reducible refine intBI ?_ | with_reducible refine tupTI ?_ | with_reducible refine minII ?_ | with_reducible refine maxII ?_ | with_reducible refine slTI ?_ | with_reducible refine gcI ?_ | with_reducible refine gnI ?_ | with_reducible refine aNI ?_ | ((with_reducible refine ttI ?_ ?_); exact rfl) | ((with_reducible refine And.intro ?_ ?_); exact rfl) | ((with_reducible refine And.intro ?_ ?_); exact lenOk rfl) | dsimp only [En.s]))
      rw [l_of hp]
      refine ⟨Nat.lt_of_le_of_lt (show (iD acc).length ≤ 1000 by rw [iD_len]; omega) (by unfold big; decide), ?_⟩
      unfold bl_fewest_checks_0
      (repeat (first | with_reducible refine seqI ?_ | with_reducible refine setI ?_ | with_reducible refine asgI ?_ | with_reducible refine retI ?_ | with_reducible refine opI ?_ | with_reducible refine callI ?_ | with_reducible refine consI ?_ | with_reducible refine cI ?_ | with_reducible refine nilI ?_ | ((with_reducible apply varI); exact rfl) | with_reducible refine cbI ?_ | with_reducible refine ifI ?_ | with_reducible refine tstI ?_ | with_reducible refine notTI ?_ | with_reducible refine andTI ?_ | with_reducible refine orTI ?_ | with_reducible refine dropI ?_ | with_reducible refine nextI ?_ | with_reducible refine tupI ?_ | with_reducible refine lstI ?_ | with_reducible refine starI ?_ | with_reducible refine starTT ?_ | with_reducible refine andI ?_ | with_reducible refine orVI ?_ | with_reducible refine notI ?_ | with_reducible refine ifEI ?_ | with_reducible refine forI ?_ | with_reducible refine r1I ?_ | with_reducible refine ir2I ?_ | with_reducible refine iTupI ?_ | with_reducible refine truI ?_ | with_reducible refine chainI ?_ | with_reducible refine lcI ?_ | with_reducible refine slI ?_ | with_reducible refine noPI ?_ | with_reducible refine ptI ?_ | with_reducible refine unI ?_ | with_reducible refine brkI ?_ | with_reducible refine cntI ?_ | with_reducible refine retNI ?_ | with_reducible refine addII ?_ | with_reducible refine rI0 ?_ | with_reducible refine rIC ?_ ?_ | with_reducible refine mulII ?_ ?_ | with_reducible refine addTT ?_ ?_ | with_reducible refine addSS ?_ ?_ | with_reducible refine negII ?_ | with_reducible refine eqII ?_ | with_reducible refine eqSS ?_ | with_reducible refine eqBB ?_ | with_reducible refine neII ?_ | with_reducible refine neSS ?_ | with_reducible refine neBB ?_ | with_reducible refine isNN ?_ | with_reducible refine isNotNN ?_ | with_reducible refine isBB ?_ | with_reducible refine isNotBB ?_ | with_reducible refine lenTI ?_ | with_reducible refine lenFI ?_ | with_reducible refine intII ?_ | with_reducible refine intBI ?_ | with_reducible refine tupTI ?_ | with_reducible refine minII ?_ | with_reducible refine maxII ?_ | with_reducible refine slTI ?_ | with_reducible refine gcI ?_ | with_reducible refine gnI ?_ | with_reducible refine aNI ?_ | ((with_reducible refine ttI ?_ ?_); exact rfl) | ((with_reducible refine And.intro ?_ ?_); exact rfl) | ((with_reducible refine And.intro ?_ ?_); exact lenOk rfl) | dsimp only [En.s]))
      refine ixTI (d := .int (ring : Nat)) rfl ?_
      (repeat (first | with_reducible refine seqI ?_ | with_reducible refine setI ?_ | with_reducible refine asgI ?_ | with_reducible refine retI ?_ | with_reducible refine opI ?_ | with_reducible refine callI ?_ | with_reducible refine consI ?_ | with_reducible refine cI ?_ | with_reducible refine nilI ?_ | ((with_reducible apply varI); exact rfl) | with_reducible refine cbI ?_ | with_reducible refine ifI ?_ | with_reducible refine tstI ?_ | with_reducible refine notTI ?_ | with_reducible refine andTI ?_ | with_reducible refine orTI ?_ | with_reducible refine dropI ?_ | with_reducible refine nextI ?_ | with_reducible refine tupI ?_ | with_reducible refine lstI ?_ | with_reducible refine starI ?_ | with_reducible refine starTT ?_ | with_reducible refine andI ?_ | with_reducible refine orVI ?_ | with_reducible refine notI ?_ | with_reducible refine ifEI ?_ | with_reducible refine forI ?_ | with_reducible refine r1I ?_ | with_reducible refine ir2I ?_ | with_reducible refine iTupI ?_ | with_reducible refine truI ?_ | with_reducible refine chainI ?_ | with_reducible refine lcI ?_ | with_reducible refine slI ?_ | with_reducible refine noPI ?_ | with_reducible refine ptI ?_ | with_reducible refine unI ?_ | with_reducible refine brkI ?_ | with_reducible refine cntI ?_ | with_reducible refine retNI ?_ | with_reducible refine addII ?_ | with_reducible refine rI0 ?_ | with_reducible refine rIC ?_ ?_ | with_reducible refine mulII ?_ ?_ | with_reducible refine addTT ?_ ?_ | with_reducible refine addSS ?_ ?_ | with_reducible refine negII ?_ | with_reducible refine eqII ?_ | with_reducible refine eqSS ?_ | with_reducible refine eqBB ?_ | with_reducible refine neII ?_ | with_reducible refine neSS ?_ | with_reducible refine neBB ?_ | with_reducible refine isNN ?_ | with_reducible refine isNotNN ?_ | with_reducible refine isBB ?_ | with_reducible refine isNotBB ?_ | with_reducible refine lenTI ?_ | with_reducible refine lenFI ?_ | with_reducible refine intII ?_ | with_reducible refine intBI ?_ | with_reducible refine tupTI ?_ | with_reducible refine minII ?_ | with_reducible refine maxII ?_ | with_reducible refine slTI ?_ | with_reducible refine gcI ?_ | with_reducible refine gnI ?_ | with_reducible refine aNI ?_ | ((with_reducible refine ttI ?_ ?_); exact rfl) | ((with_reducible refine And.intro ?_ ?_); exact rfl) | ((with_reducible refine And.intro ?_ ?_); exact lenOk rfl) | dsimp only [En.s]))
      subst hY
      unfold bl_fewest_checks_1
      refine augI rfl ?_
      (repeat (first | with_reducible refine seqI ?_ | with_reducible refine setI ?_ | with_reducible refine asgI ?_ | with_reducible refine retI ?_ | with_reducible refine opI ?_ | with_reducible refine callI ?_ | with_reducible refine consI ?_ | with_reducible refine cI ?_ | with_reducible refine nilI ?_ | ((with_reducible apply varI); exact rfl) | with_reducible refine cbI ?_ | with_reducible refine ifI ?_ | with_reducible refine tstI ?_ | with_reducible refine notTI ?_ | with_reducible refine andTI ?_ | with_reducible refine orTI ?_ | with_reducible refine dropI ?_ | with_reducible refine nextI ?_ | with_reducible refine tupI ?_ | with_reducible refine lstI ?_ | with_reducible refine starI ?_ | with_reducible refine starTT ?_ | with_reducible refine andI ?_ | with_reducible refine orVI ?_ | with_reducible refine notI ?_ | with_reducible refine ifEI ?_ | with_reducible refine forI ?_ | with_reducible refine r1I ?_ | with_reducible refine ir2I ?_ | with_reducible refine iTupI ?_ | with_reducible refine truI ?_ | with_reducible refine chainI ?_ | with_reducible refine lcI ?_ | with_reducible refine slI ?_ | with_reducible refine noPI ?_ | with_reducible refine ptI ?_ | with_reducible refine unI ?_ | with_reducible refine brkI ?_ | with_reducible refine cntI ?_ | with_reducible refine retNI ?_ | with_reducible refine addII ?_ | with_reducible refine rI0 ?_ | with_reducible refine rIC ?_ ?_ | with_reducible refine mulII ?_ ?_ | with_reducible refine addTT ?_ ?_ | with_reducible refine addSS ?_ ?_ | with_reducible refine negII ?_ | with_reducible refine eqII ?_ | with_reducible refine eqSS ?_ | with_reducible refine eqBB ?_ | with_reducible refine neII ?_ | with_reducible refine neSS ?_ | with_reducible refine neBB ?_ | with_reducible refine isNN ?_ | with_reducible refine isNotNN ?_ | with_reducible refine isBB ?_ | with_reducible refine isNotBB ?_ | with_reducible refine lenTI ?_ | with_reducible refine lenFI ?_ | with_reducible refine intII ?_ | with_reducible refine intBI ?_ | with_reducible refine tupTI ?_ | with_reducible refine minII ?_ | with_reducible refine maxII ?_ | with_reducible refine slTI ?_ | with_reducible refine gcI ?_ | with_reducible refine gnI ?_ | with_reducible refine aNI ?_ | ((with_reducible refine ttI ?_ ?_); exact rfl) | ((with_reducible refine And.intro ?_ ?_); exact rfl) | ((with_reducible refine And.intro ?_ ?_); exact lenOk rfl) | dsimp only [En.s]))
      rw [List.length_map, show iD acc ++ [D.int (i : Int)] = iD (acc ++ [i]) by rw [iD_app]; rfl]
      refine ih b.length (acc ++ [i]) _ _ _ hbr hbs mset_same (by simp; omega) fun m' y3 y4 y5 e1 e2 => q m' y3 y4 y5 ?_ fun c hc => by rw [e2 c hc, mset_ne hc]
      rw [e1, e0, gr, if_pos ho, List.append_assoc]
      rfl
    · refine bl_f (decide_eq_false (by omega)) ?_
      (repeat (first | with_reducible refine seqI ?_ | with_reducible refine setI ?_ | with_reducible refine asgI ?_ | with_reducible refine retI ?_ | with_reducible refine opI ?_ | with_reducible refine callI ?_ | with_reducible refine consI ?_ | with_reducible refine cI ?_ | with_reducible refine nilI ?_ | ((with_reducible apply varI); exact rfl) | with_reducible refine cbI ?_ | with_reducible refine ifI ?_ | with_reducible refine tstI ?_ | with_reducible refine notTI ?_ | with_reducible refine andTI ?_ | with_reducible refine orTI ?_ | with_reducible refine dropI ?_ | with_reducible refine nextI ?_ | with_reducible refine tupI ?_ | with_reducible refine lstI ?_ | with_reducible refine starI ?_ | with_reducible refine starTT ?_ | with_reducible refine andI ?_ | with_reducible refine orVI ?_ | with_reducible refine notI ?_ | with_reducible refine ifEI ?_ | with_reducible refine forI ?_ | with_reducible refine r1I ?_ | with_reducible refine ir2I ?_ | with_reducible refine iTupI ?_ | with_reducible refine truI ?_ | with_reducible refine chainI ?_ | with_reducible refine lcI ?_ | with_reducible refine slI ?_ | with_reducible refine noPI ?_ | with_reducible refine ptI ?_ | with_reducible refine unI ?_ | with_reducible refine brkI ?_ | with_reducible refine cntI ?_ | with_reducible refine retNI ?_ | with_reducible refine addII ?_ | with_reducible refine rI0 ?_ | with_reducible refine rIC ?_ ?_ | with_reducible refine mulII ?_ ?_ | with_reducible refine addTT ?_ ?_ | with_reducible refine addSS ?_ ?_ | with_reducible refine negII ?_ | with_reducible refine eqII ?_ | with_reducible refine eqSS ?_ | with_reducible refine eqBB ?_ | with_reducible refine neII ?_ | with_reducible refine neSS ?_ | with_reducible refine neBB ?_ | with_reducible refine isNN ?_ | with_reducible refine isNotNN ?_ | with_reducible refine isBB ?_ | with_reducible refine isNotBB ?_ | with_reducible refine lenTI ?_ | with_reducible refine lenFI ?_ | with_reducible refine intII ?_ | with_reducible refine intBI ?_ | with_reducible refine tupTI ?_ | with_reducible refine minII ?_ | with_reducible refine maxII ?_ | with_reducible refine slTI ?_ | with_reducible refine gcI ?_ | with_reducible refine gnI ?_ | with_reducible refine aNI ?_ | ((with_reducible refine ttI ?_ ?_); exact rfl) | ((with_reducible refine And.intro ?_ ?_); exact rfl) | ((with_reducible refine And.intro ?_ ?_); exact lenOk rfl) | dsimp only [En.s]))
      subst hY
      unfold bl_fewest_checks_1
      refine augI rfl ?_
      (repeat (first | with_reducible refine seqI ?_ | with_reducible refine setI ?_ | with_reducible refine asgI ?_ | with_reducible refine retI ?_ | with_reducible refine opI ?_ | with_reducible refine callI ?_ | with_reducible refine consI ?_ | with_reducible refine cI ?_ | with_reducible refine nilI ?_ | ((with_reducible apply varI); exact rfl) | with_reducible refine cbI ?_ | with_reducible refine ifI ?_ | with_reducible refine tstI ?_ | with_reducible refine notTI ?_ | with_reducible refine andTI ?_ | with_reducible refine orTI ?_ | with_reducible refine dropI ?_ | with_reducible refine nextI ?_ | with_reducible refine tupI ?_ | with_reducible refine lstI ?_ | with_reducible refine starI ?_ | with_reducible refine starTT ?_ | with_reducible refine andI ?_ | with_reducible refine orVI ?_ | with_reducible refine notI ?_ | with_reducible refine ifEI ?_ | with_reducible refine forI ?_ | with_reducible refine r1I ?_ | with_reducible refine ir2I ?_ | with_reducible refine iTupI ?_ | with_reducible refine truI ?_ | with_reducible refine chainI ?_ | with_reducible refine lcI ?_ | with_reducible refine slI ?_ | with_reducible refine noPI ?_ | with_reducible refine ptI ?_ | with_reducible refine unI ?_ | with_reducible refine brkI ?_ | with_reducible refine cntI ?_ | with_reducible refine retNI ?_ | with_reducible refine addII ?_ | with_reducible refine rI0 ?_ | with_reducible refine rIC ?_ ?_ | with_reducible refine mulII ?_ ?_ | with_reducible refine addTT ?_ ?_ | with_reducible refine addSS ?_ ?_ | with_reducible refine negII ?_ | with_reducible refine eqII ?_ | with_reducible refine eqSS ?_ | with_reducible refine eqBB ?_ | with_reducible refine neII ?_ | with_reducible refine neSS ?_ | with_reducible refine neBB ?_ | with_reducible refine isNN ?_ | with_reducible refine isNotNN ?_ | with_reducible refine isBB ?_ | with_reducible refine isNotBB ?_ | with_reducible refine lenTI ?_ | with_reducible refine lenFI ?_ | with_reducible refine intII ?_ | with_reducible refine intBI ?_ | with_reducible refine tupTI ?_ | with_reducible refine minII ?_ | with_reducible refine maxII ?_ | with_reducible refine slTI ?_ | with_reducible refine gcI ?_ | with_reducible refine gnI ?_ | with_reducible refine aNI ?_ | ((with_reducible refine ttI ?_ ?_); exact rfl) | ((with_reducible refine And.intro ?_ ?_); exact rfl) | ((with_reducible refine And.intro ?_ ?_); exact lenOk rfl) | dsimp only [En.s]))
      rw [List.length_map, show (ring : Int) - (u : Int) - ((b.length : Nat) : Int) = (ring : Int) - ((u + b.length : Nat) : Int) by omega]
      refine ih (u + b.length) acc _ _ _ (by omega) hbs hp (by omega) fun m' y3 y4 y5 e1 e2 => q m' y3 y4 y5 ?_ e2
      rw [e1, e0, gr, if_neg ho]
theorem fewest {pages ring : Nat} {bs : List Bt} {Q : PQ} {R : PX} (h1 : 1 ≤ pages) (h2 : pages ≤ 64) (h3 : 2 ≤ ring) (h4 : ring ≤ 64) (h : BsOk pages ring bs) (hl : bs.length ≤ 20) (q : ∀ m', Ab.Sub m m' → Q (.tup (dl (fun j => (gr ring 0 0 (szs bs)).contains j) 0 bs)) m') : s_fewest_checks [shD pages ring, .tup (bs.map btD)] m Q R := by
  refine ent_fewest_checks ?_
  unfold b_fewest_checks
  generalize hY : bl_fewest_checks_6 = Y
  (repeat (first | with_reducible refine seqI ?_ | with_reducible refine setI ?_ | with_reducible refine asgI ?_ | with_reducible refine retI ?_ | with_reducible refine opI ?_ | with_reducible refine callI ?_ | with_reducible refine consI ?_ | with_reducible refine cI ?_ | with_reducible refine nilI ?_ | ((with_reducible apply varI); exact rfl) | with_reducible refine cbI ?_ | with_reducible refine ifI ?_ | with_reducible refine tstI ?_ | with_reducible refine notTI ?_ | with_reducible refine andTI ?_ | with_reducible refine orTI ?_ | with_reducible refine dropI ?_ | with_reducible refine nextI ?_ | with_reducible refine tupI ?_ | with_reducible refine lstI ?_ | with_reducible refine starI ?_ | with_reducible refine starTT ?_ | with_reducible refine andI ?_ | with_reducible refine orVI ?_ | with_reducible refine notI ?_ | with_reducible refine ifEI ?_ | with_reducible refine forI ?_ | with_reducible refine r1I ?_ | with_reducible refine ir2I ?_ | with_reducible refine iTupI ?_ | with_reducible refine truI ?_ | with_reducible refine chainI ?_ | with_reducible refine lcI ?_ | with_reducible refine slI ?_ | with_reducible refine noPI ?_ | with_reducible refine ptI ?_ | with_reducible refine unI ?_ | with_reducible refine brkI ?_ | with_reducible refine cntI ?_ | with_reducible refine retNI ?_ | with_reducible refine addII ?_ | with_reducible refine rI0 ?_ | with_reducible refine rIC ?_ ?_ | with_reducible refine mulII ?_ ?_ | with_reducible refine addTT ?_ ?_ | with_reducible refine addSS ?_ ?_ | with_reducible refine negII ?_ | with_reducible refine eqII ?_ | with_reducible refine eqSS ?_ | with_reducible refine eqBB ?_ | with_reducible refine neII ?_ | with_reducible refine neSS ?_ | with_reducible refine neBB ?_ | with_reducible refine isNN ?_ | with_reducible refine isNotNN ?_ | with_reducible refine isBB ?_ | with_reducible refine isNotBB ?_ | with_reducible refine lenTI ?_ | with_reducible refine lenFI ?_ | with_reducible refine intII ?_ | with_reducible refine intBI ?_ | with_reducible refine tupTI ?_ | with_reducible refine minII ?_ | with_reducible refine maxII ?_ | with_reducible refine slTI ?_ | with_reducible refine gcI ?_ | with_reducible refine gnI ?_ | with_reducible refine aNI ?_ | ((with_reducible refine ttI ?_ ?_); exact rfl) | ((with_reducible refine And.intro ?_ ?_); exact rfl) | ((with_reducible refine And.intro ?_ ?_); exact lenOk rfl) | dsimp only [En.s]))
  refine checkBatches h1 h2 h3 h4 h hl ?_
  subst hY
  unfold bl_fewest_checks_6
  generalize hY : bl_fewest_checks_5 = Y
  (repeat (first | with_reducible refine seqI ?_ | with_reducible refine setI ?_ | with_reducible refine asgI ?_ | with_reducible refine retI ?_ | with_reducible refine opI ?_ | with_reducible refine callI ?_ | with_reducible refine consI ?_ | with_reducible refine cI ?_ | with_reducible refine nilI ?_ | ((with_reducible apply varI); exact rfl) | with_reducible refine cbI ?_ | with_reducible refine ifI ?_ | with_reducible refine tstI ?_ | with_reducible refine notTI ?_ | with_reducible refine andTI ?_ | with_reducible refine orTI ?_ | with_reducible refine dropI ?_ | with_reducible refine nextI ?_ | with_reducible refine tupI ?_ | with_reducible refine lstI ?_ | with_reducible refine starI ?_ | with_reducible refine starTT ?_ | with_reducible refine andI ?_ | with_reducible refine orVI ?_ | with_reducible refine notI ?_ | with_reducible refine ifEI ?_ | with_reducible refine forI ?_ | with_reducible refine r1I ?_ | with_reducible refine ir2I ?_ | with_reducible refine iTupI ?_ | with_reducible refine truI ?_ | with_reducible refine chainI ?_ | with_reducible refine lcI ?_ | with_reducible refine slI ?_ | with_reducible refine noPI ?_ | with_reducible refine ptI ?_ | with_reducible refine unI ?_ | with_reducible refine brkI ?_ | with_reducible refine cntI ?_ | with_reducible refine retNI ?_ | with_reducible refine addII ?_ | with_reducible refine rI0 ?_ | with_reducible refine rIC ?_ ?_ | with_reducible refine mulII ?_ ?_ | with_reducible refine addTT ?_ ?_ | with_reducible refine addSS ?_ ?_ | with_reducible refine negII ?_ | with_reducible refine eqII ?_ | with_reducible refine eqSS ?_ | with_reducible refine eqBB ?_ | with_reducible refine neII ?_ | with_reducible refine neSS ?_ | with_reducible refine neBB ?_ | with_reducible refine isNN ?_ | with_reducible refine isNotNN ?_ | with_reducible refine isBB ?_ | with_reducible refine isNotBB ?_ | with_reducible refine lenTI ?_ | with_reducible refine lenFI ?_ | with_reducible refine intII ?_ | with_reducible refine intBI ?_ | with_reducible refine tupTI ?_ | with_reducible refine minII ?_ | with_reducible refine maxII ?_ | with_reducible refine slTI ?_ | with_reducible refine gcI ?_ | with_reducible refine gnI ?_ | with_reducible refine aNI ?_ | ((with_reducible refine ttI ?_ ?_); exact rfl) | ((with_reducible refine And.intro ?_ ?_); exact rfl) | ((with_reducible refine And.intro ?_ ?_); exact lenOk rfl) | dsimp only [En.s]))
  intro p hp
  subst hY
  unfold bl_fewest_checks_5
  (repeat (first | with_reducible refine seqI ?_ | with_reducible refine setI ?_ | with_reducible refine asgI ?_ | with_reducible refine retI ?_ | with_reducible refine opI ?_ | with_reducible refine callI ?_ | with_reducible refine consI ?_ | with_reducible refine cI ?_ | with_reducible refine nilI ?_ | ((with_reducible apply varI); exact rfl) | with_reducible refine cbI ?_ | with_reducible refine ifI ?_ | with_reducible refine tstI ?_ | with_reducible refine notTI ?_ | with_reducible refine andTI ?_ | with_reducible refine orTI ?_ | with_reducible refine dropI ?_ | with_reducible refine nextI ?_ | with_reducible refine tupI ?_ | with_reducible refine lstI ?_ | with_reducible refine starI ?_ | with_reducible refine starTT ?_ | with_reducible refine andI ?_ | with_reducible refine orVI ?_ | with_reducible refine notI ?_ | with_reducible refine ifEI ?_ | with_reducible refine forI ?_ | with_reducible refine r1I ?_ | with_reducible refine ir2I ?_ | with_reducible refine iTupI ?_ | with_reducible refine truI ?_ | with_reducible refine chainI ?_ | with_reducible refine lcI ?_ | with_reducible refine slI ?_ | with_reducible refine noPI ?_ | with_reducible refine ptI ?_ | with_reducible refine unI ?_ | with_reducible refine brkI ?_ | with_reducible refine cntI ?_ | with_reducible refine retNI ?_ | with_reducible refine addII ?_ | with_reducible refine rI0 ?_ | with_reducible refine rIC ?_ ?_ | with_reducible refine mulII ?_ ?_ | with_reducible refine addTT ?_ ?_ | with_reducible refine addSS ?_ ?_ | with_reducible refine negII ?_ | with_reducible refine eqII ?_ | with_reducible refine eqSS ?_ | with_reducible refine eqBB ?_ | with_reducible refine neII ?_ | with_reducible refine neSS ?_ | with_reducible refine neBB ?_ | with_reducible refine isNN ?_ | with_reducible refine isNotNN ?_ | with_reducible refine isBB ?_ | with_reducible refine isNotBB ?_ | with_reducible refine lenTI ?_ | with_reducible refine lenFI ?_ | with_reducible refine intII ?_ | with_reducible refine intBI ?_ | with_reducible refine tupTI ?_ | with_reducible refine minII ?_ | with_reducible refine maxII ?_ | with_reducible refine slTI ?_ | with_reducible refine gcI ?_ | with_reducible refine gnI ?_ | with_reducible refine aNI ?_ | ((with_reducible refine ttI ?_ ?_); exact rfl) | ((with_reducible refine And.intro ?_ ?_); exact rfl) | ((with_reducible refine And.intro ?_ ?_); exact lenOk rfl) | dsimp only [En.s]))
  refine ixTI (d := .int (ring : Nat)) rfl ?_
  (repeat (first | with_reducible refine seqI ?_ | with_reducible refine setI ?_ | with_reducible refine asgI ?_ | with_reducible refine retI ?_ | with_reducible refine opI ?_ | with_reducible refine callI ?_ | with_reducible refine consI ?_ | with_reducible refine cI ?_ | with_reducible refine nilI ?_ | ((with_reducible apply varI); exact rfl) | with_reducible refine cbI ?_ | with_reducible refine ifI ?_ | with_reducible refine tstI ?_ | with_reducible refine notTI ?_ | with_reducible refine andTI ?_ | with_reducible refine orTI ?_ | with_reducible refine dropI ?_ | with_reducible refine nextI ?_ | with_reducible refine tupI ?_ | with_reducible refine lstI ?_ | with_reducible refine starI ?_ | with_reducible refine starTT ?_ | with_reducible refine andI ?_ | with_reducible refine orVI ?_ | with_reducible refine notI ?_ | with_reducible refine ifEI ?_ | with_reducible refine forI ?_ | with_reducible refine r1I ?_ | with_reducible refine ir2I ?_ | with_reducible refine iTupI ?_ | with_reducible refine truI ?_ | with_reducible refine chainI ?_ | with_reducible refine lcI ?_ | with_reducible refine slI ?_ | with_reducible refine noPI ?_ | with_reducible refine ptI ?_ | with_reducible refine unI ?_ | with_reducible refine brkI ?_ | with_reducible refine cntI ?_ | with_reducible refine retNI ?_ | with_reducible refine addII ?_ | with_reducible refine rI0 ?_ | with_reducible refine rIC ?_ ?_ | with_reducible refine mulII ?_ ?_ | with_reducible refine addTT ?_ ?_ | with_reducible refine addSS ?_ ?_ | with_reducible refine negII ?_ | with_reducible refine eqII ?_ | with_reducible refine eqSS ?_ | with_reducible refine eqBB ?_ | with_reducible refine neII ?_ | with_reducible refine neSS ?_ | with_reducible refine neBB ?_ | with_reducible refine isNN ?_ | with_reducible refine isNotNN ?_ | with_reducible refine isBB ?_ | with_reducible refine isNotBB ?_ | with_reducible refine lenTI ?_ | with_reducible refine lenFI ?_ | with_reducible refine intII ?_ | with_reducible refine intBI ?_ | with_reducible refine tupTI ?_ | with_reducible refine minII ?_ | with_reducible refine maxII ?_ | with_reducible refine slTI ?_ | with_reducible refine gcI ?_ | with_reducible refine gnI ?_ | with_reducible refine aNI ?_ | ((with_reducible refine ttI ?_ ?_); exact rfl) | ((with_reducible refine And.intro ?_ ?_); exact rfl) | ((with_reducible refine And.intro ?_ ?_); exact lenOk rfl) | dsimp only [En.s]))
  unfold bl_fewest_checks_4
  generalize hY : bl_fewest_checks_3 = Y
  (repeat (first | with_reducible refine seqI ?_ | with_reducible refine setI ?_ | with_reducible refine asgI ?_ | with_reducible refine retI ?_ | with_reducible refine opI ?_ | with_reducible refine callI ?_ | with_reducible refine consI ?_ | with_reducible refine cI ?_ | with_reducible refine nilI ?_ | ((with_reducible apply varI); exact rfl) | with_reducible refine cbI ?_ | with_reducible refine ifI ?_ | with_reducible refine tstI ?_ | with_reducible refine notTI ?_ | with_reducible refine andTI ?_ | with_reducible refine orTI ?_ | with_reducible refine dropI ?_ | with_reducible refine nextI ?_ | with_reducible refine tupI ?_ | with_reducible refine lstI ?_ | with_reducible refine starI ?_ | with_reducible refine starTT ?_ | with_reducible refine andI ?_ | with_reducible refine orVI ?_ | with_reducible refine notI ?_ | with_reducible refine ifEI ?_ | with_reducible refine forI ?_ | with_reducible refine r1I ?_ | with_reducible refine ir2I ?_ | with_reducible refine iTupI ?_ | with_reducible refine truI ?_ | with_reducible refine chainI ?_ | with_reducible refine lcI ?_ | with_reducible refine slI ?_ | with_reducible refine noPI ?_ | with_reducible refine ptI ?_ | with_reducible refine unI ?_ | with_reducible refine brkI ?_ | with_reducible refine cntI ?_ | with_reducible refine retNI ?_ | with_reducible refine addII ?_ | with_reducible refine rI0 ?_ | with_reducible refine rIC ?_ ?_ | with_reducible refine mulII ?_ ?_ | with_reducible refine addTT ?_ ?_ | with_reducible refine addSS ?_ ?_ | with_reducible refine negII ?_ | with_reducible refine eqII ?_ | with_reducible refine eqSS ?_ | with_reducible refine eqBB ?_ | with_reducible refine neII ?_ | with_reducible refine neSS ?_ | with_reducible refine neBB ?_ | with_reducible refine isNN ?_ | with_reducible refine isNotNN ?_ | with_reducible refine isBB ?_ | with_reducible refine isNotBB ?_ | with_reducible refine lenTI ?_ | with_reducible refine lenFI ?_ | with_reducible refine intII ?_ | with_reducible refine intBI ?_ | with_reducible refine tupTI ?_ | with_reducible refine minII ?_ | with_reducible refine maxII ?_ | with_reducible refine slTI ?_ | with_reducible refine gcI ?_ | with_reducible refine gnI ?_ | with_reducible refine aNI ?_ | ((with_reducible refine ttI ?_ ?_); exact rfl) | ((with_reducible refine And.intro ?_ ?_); exact rfl) | ((with_reducible refine And.intro ?_ ?_); exact lenOk rfl) | dsimp only [En.s]))
  refine enTI ?_
  (repeat (first | with_reducible refine seqI ?_ | with_reducible refine setI ?_ | with_reducible refine asgI ?_ | with_reducible refine retI ?_ | with_reducible refine opI ?_ | with_reducible refine callI ?_ | with_reducible refine consI ?_ | with_reducible refine cI ?_ | with_reducible refine nilI ?_ | ((with_reducible apply varI); exact rfl) | with_reducible refine cbI ?_ | with_reducible refine ifI ?_ | with_reducible refine tstI ?_ | with_reducible refine notTI ?_ | with_reducible refine andTI ?_ | with_reducible refine orTI ?_ | with_reducible refine dropI ?_ | with_reducible refine nextI ?_ | with_reducible refine tupI ?_ | with_reducible refine lstI ?_ | with_reducible refine starI ?_ | with_reducible refine starTT ?_ | with_reducible refine andI ?_ | with_reducible refine orVI ?_ | with_reducible refine notI ?_ | with_reducible refine ifEI ?_ | with_reducible refine forI ?_ | with_reducible refine r1I ?_ | with_reducible refine ir2I ?_ | with_reducible refine iTupI ?_ | with_reducible refine truI ?_ | with_reducible refine chainI ?_ | with_reducible refine lcI ?_ | with_reducible refine slI ?_ | with_reducible refine noPI ?_ | with_reducible refine ptI ?_ | with_reducible refine unI ?_ | with_reducible refine brkI ?_ | with_reducible refine cntI ?_ | with_reducible refine retNI ?_ | with_reducible refine addII ?_ | with_reducible refine rI0 ?_ | with_reducible refine rIC ?_ ?_ | with_reducible refine mulII ?_ ?_ | with_reducible refine addTT ?_ ?_ | with_reducible refine addSS ?_ ?_ | with_reducible refine negII ?_ | with_reducible refine eqII ?_ | with_reducible refine eqSS ?_ | with_reducible refine eqBB ?_ | with_reducible refine neII ?_ | with_reducible refine neSS ?_ | with_reducible refine neBB ?_ | with_reducible refine isNN ?_ | with_reducible refine isNotNN ?_ | with_reducible refine isBB ?_ | with_reducible refine isNotBB ?_ | with_reducible refine lenTI ?_ | with_reducible refine lenFI ?_ | with_reducible refine intII ?_ | with_reducible refine intBI ?_ | with_reducible refine tupTI ?_ | with_reducible refine minII ?_ | with_reducible refine maxII ?_ | with_reducible refine slTI ?_ | with_reducible refine gcI ?_ | with_reducible refine gnI ?_ | with_reducible refine aNI ?_ | ((with_reducible refine ttI ?_ ?_); exact rfl) | ((with_reducible refine And.intro ?_ ?_); exact rfl) | ((with_reducible refine And.intro ?_ ?_); exact lenOk rfl) | dsimp only [En.s]))
  rw [show (D.int (ring : Int)) = .int ((ring : Int) - ((0 : Nat) : Int)) by simp]
  refine fw_loop (fun _ => trivial) bs 0 0 [] _ none none (Nat.zero_le _) (fun b hb => by have := (h.each b hb).len; omega) mset_same (by simp; omega) fun m' y3 y4 y5 e1 e2 => ?_
  subst hY
  unfold bl_fewest_checks_3
  (repeat (first | with_reducible refine seqI ?_ | with_reducible refine setI ?_ | with_reducible refine asgI ?_ | with_reducible refine retI ?_ | with_reducible refine opI ?_ | with_reducible refine callI ?_ | with_reducible refine consI ?_ | with_reducible refine cI ?_ | with_reducible refine nilI ?_ | ((with_reducible apply varI); exact rfl) | with_reducible refine cbI ?_ | with_reducible refine ifI ?_ | with_reducible refine tstI ?_ | with_reducible refine notTI ?_ | with_reducible refine andTI ?_ | with_reducible refine orTI ?_ | with_reducible refine dropI ?_ | with_reducible refine nextI ?_ | with_reducible refine tupI ?_ | with_reducible refine lstI ?_ | with_reducible refine starI ?_ | with_reducible refine starTT ?_ | with_reducible refine andI ?_ | with_reducible refine orVI ?_ | with_reducible refine notI ?_ | with_reducible refine ifEI ?_ | with_reducible refine forI ?_ | with_reducible refine r1I ?_ | with_reducible refine ir2I ?_ | with_reducible refine iTupI ?_ | with_reducible refine truI ?_ | with_reducible refine chainI ?_ | with_reducible refine lcI ?_ | with_reducible refine slI ?_ | with_reducible refine noPI ?_ | with_reducible refine ptI ?_ | with_reducible refine unI ?_ | with_reducible refine brkI ?_ | with_reducible refine cntI ?_ | with_reducible refine retNI ?_ | with_reducible refine addII ?_ | with_reducible refine rI0 ?_ | with_reducible refine rIC ?_ ?_ | with_reducible refine mulII ?_ ?_ | with_reducible refine addTT ?_ ?_ | with_reducible refine addSS ?_ ?_ | with_reducible refine negII ?_ | with_reducible refine eqII ?_ | with_reducible refine eqSS ?_ | with_reducible refine eqBB ?_ | with_reducible refine neII ?_ | with_reducible refine neSS ?_ | with_reducible refine neBB ?_ | with_reducible refine isNN ?_ | with_reducible refine isNotNN ?_ | with_reducible refine isBB ?_ | with_reducible refine isNotBB ?_ | with_reducible refine lenTI ?_ | with_reducible refine lenFI ?_ | with_reducible refine intII ?_ | with_reducible refine intBI ?_ | with_reducible refine tupTI ?_ | with_reducible refine minII ?_ | with_reducible refine maxII ?_ | with_reducible refine slTI ?_ | with_reducible refine gcI ?_ | with_reducible refine gnI ?_ | with_reducible refine aNI ?_ | ((with_reducible refine ttI ?_ ?_); exact rfl) | ((with_reducible refine And.intro ?_ ?_); exact rfl) | ((with_reducible refine And.intro ?_ ?_); exact lenOk rfl) | dsimp only [En.s]))
  refine deedsWith (S := gr ring 0 0 (szs bs)) (by rw [List.nil_append] at e1; exact e1) hl fun m2 s2 => ⟨_, Ab.Sub.refl _, q m2 fun c o hc => ?_⟩
  have hcp : c ≠ p := fun z => by rw [z, hp] at hc; cases hc
  exact s2 _ _ (by rw [e2 c hcp, mset_ne hcp]; exact hc)
end
/-! ### the things that are compared -/
def dsD (S : List Nat) (bs : List Bt) : List D := dl (fun j => S.contains j) 0 bs ++ endD S bs
def itD (bs : List Bt) (S : List Nat) : D := .tup [.int (S.length : Nat), .tup ((neg S).map .int), .tup (dsD S bs)]
theorem okDs (S : List Nat) (bs : List Bt) : ∀ d ∈ dsD S bs, okN 4 d := fun d h => by
  unfold dsD at h
  rcases List.mem_append.mp h with h | h
  · exact okDl _ _ _ d h
  · unfold endD at h
    split at h
    · simp at h; subst h; exact okC
    · simp at h
theorem okIt (bs : List Bt) (S : List Nat) : okN 6 (itD bs S) := fun d hd => by
  simp only [List.mem_cons, List.not_mem_nil, or_false] at hd
  rcases hd with e | e | e <;> subst e
  · trivial
  · intro d hd
    obtain ⟨n, _, rfl⟩ := List.mem_map.mp hd
    trivial
  · exact okDs S bs
theorem pys_ints : ∀ l : List Int, D.pys (l.map D.int) = some (l.map PyData.int)
  | [] => rfl
  | x :: l => by
    show (match D.py (.int x), D.pys (l.map D.int) with | some p, some ps => some (p :: ps) | _, _ => none) = _
    rw [pys_ints l]; rfl
theorem py_it (bs : List Bt) (S : List Nat) : ∃ ds, D.pys (dsD S bs) = some ds ∧ (itD bs S).py = some (itP S ds) := by
  obtain ⟨ds, h, _, _⟩ := pys_of (n := 5) (ds := dsD S bs) fun d hd => py_of (okN_Q (okDs S bs d hd))
  refine ⟨ds, h, ?_⟩
  have e1 : D.py (.tup ((neg S).map .int)) = some (.tuple ((neg S).map .int)) := by
    show (D.pys ((neg S).map .int)).map PyData.tuple = _
    rw [pys_ints]; rfl
  have e2 : D.py (.tup (dsD S bs)) = some (.tuple ds) := by
    show (D.pys (dsD S bs)).map PyData.tuple = _
    rw [h]; rfl
  show (D.pys [.int (S.length : Nat), .tup ((neg S).map .int), .tup (dsD S bs)]).map PyData.tuple = _
  have e3 : D.pys [.int (S.length : Nat), .tup ((neg S).map .int), .tup (dsD S bs)] = some [.int (S.length : Nat), .tuple ((neg S).map .int), .tuple ds] := by
    simp only [D.pys, e1, e2]
    rfl
  rw [e3]; rfl
open PySem.W in
theorem alAll : ∀ {xs ys : List PyData}, (∀ x ∈ xs, ∀ y ∈ ys, PySem.W.alike x y = true) → PySem.W.alikeAll xs ys = true
  | [], _, _ => by rw [PySem.W.alikeAll]
  | _ :: _, [], _ => by rw [PySem.W.alikeAll]
  | x :: xs, y :: ys, h => by
    rw [PySem.W.alikeAll, h x (by simp) y (by simp), alAll fun a ha b hb => h a (by simp [ha]) b (by simp [hb])]
    rfl
def prP (p : Nat × List Nat) : PyData := .tuple [.int (p.1 : Nat), .tuple ((p.2.map fun n : Nat => (n : Int)).map .int)]
def bP (b : Bt) : PyData := .tuple (b.map prP)
def ckP : PyData := .tuple [.str "check"]
def wrP (b : Bt) : PyData := .tuple [.str "write", bP b]
theorem py_pr (p : Nat × List Nat) : (prD p).py = some (prP p) := by
  have e : D.pys (iD p.2) = some ((p.2.map fun n : Nat => (n : Int)).map .int) := by
    rw [← pys_ints, List.map_map]; rfl
  have e1 : D.py (.tup (iD p.2)) = some (.tuple ((p.2.map fun n : Nat => (n : Int)).map .int)) := by
    show (D.pys (iD p.2)).map PyData.tuple = _
    rw [e]; rfl
  show (D.pys [.int (p.1 : Nat), .tup (iD p.2)]).map PyData.tuple = _
  have e2 : D.pys [.int (p.1 : Nat), .tup (iD p.2)] = some [.int (p.1 : Nat), .tuple ((p.2.map fun n : Nat => (n : Int)).map .int)] := by
    simp only [D.pys, e1]
    rfl
  rw [e2]; rfl
theorem pys_map {α : Type} {f : α → D} {g : α → PyData} (h : ∀ a, (f a).py = some (g a)) : ∀ as : List α, D.pys (as.map f) = some (as.map g)
  | [] => rfl
  | a :: as => by
    show (match D.py (f a), D.pys (as.map f) with | some p, some ps => some (p :: ps) | _, _ => none) = _
    rw [h a, pys_map h as]; rfl
theorem py_b (b : Bt) : (btD b).py = some (bP b) := by
  show (D.pys (b.map prD)).map PyData.tuple = _
  rw [pys_map py_pr]; rfl
theorem py_w (b : Bt) : (wrD b).py = some (wrP b) := by
  show (D.pys [.str "write", btD b]).map PyData.tuple = _
  have e2 : D.pys [.str "write", btD b] = some [.str "write", bP b] := by
    simp only [D.pys, py_b]
    rfl
  rw [e2]; rfl
theorem py_c : ckD.py = some ckP := rfl
open PySem.W in
theorem al_pr (p q : Nat × List Nat) : PySem.W.alike (prP p) (prP q) = true := by
  unfold prP
  simp only [PySem.W.alike, PySem.W.alikeAll, Bool.and_eq_true, and_true, true_and]
  exact alAll fun x hx y hy => by
    obtain ⟨a, _, rfl⟩ := List.mem_map.mp hx
    obtain ⟨b, _, rfl⟩ := List.mem_map.mp hy
    exact al_int a b
theorem al_b (b c : Bt) : PySem.W.alike (bP b) (bP c) = true := by
  unfold bP
  simp only [PySem.W.alike]
  exact alAll fun x hx y hy => by
    obtain ⟨a, _, rfl⟩ := List.mem_map.mp hx
    obtain ⟨b, _, rfl⟩ := List.mem_map.mp hy
    exact al_pr a b
theorem al_deed {x y : PyData} (hx : x = ckP ∨ ∃ b, x = wrP b) (hy : y = ckP ∨ ∃ b, y = wrP b) : PySem.W.alike x y = true := by
  rcases hx with e | ⟨b, e⟩ <;> rcases hy with e' | ⟨c, e'⟩ <;> subst e <;> subst e' <;> simp [ckP, wrP, PySem.W.alike, PySem.W.alikeAll, al_b]
theorem ds_deeds {S : List Nat} {bs : List Bt} {ds : List PyData} (h : D.pys (dsD S bs) = some ds) : ∀ x ∈ ds, x = ckP ∨ ∃ b, x = wrP b := by
  have each : ∀ d ∈ dsD S bs, d = ckD ∨ ∃ b, d = wrD b := by
    intro d hd
    unfold dsD at hd
    rcases List.mem_append.mp hd with h | h
    · have go : ∀ (bs : List Bt) (i : Nat), d ∈ dl (fun j => S.contains j) i bs → d = ckD ∨ ∃ b, d = wrD b := by
        intro bs
        induction bs with
        | nil => intro i h; simp [dl] at h
        | cons b bs ih =>
          intro i h
          rw [dl] at h
          rcases List.mem_append.mp h with h | h
          · split at h
            · simp at h; exact .inl h
            · simp at h
          · rcases List.mem_cons.mp h with h | h
            · exact .inr ⟨b, h⟩
            · exact ih _ h
      exact go bs 0 h
    · unfold endD at h
      split at h
      · simp at h; exact .inl h
      · simp at h
  intro x hx
  obtain ⟨i, hi, e⟩ := List.getElem_of_mem hx
  have hl := pys_len h
  have hlt : i < (dsD S bs).length := by omega
  have hd : (dsD S bs)[i]? = some ((dsD S bs)[i]'hlt) := List.getElem?_eq_getElem _
  obtain ⟨p, hp, hpx⟩ := pys_get h hd
  have ep : p = x := by rw [List.getElem?_eq_getElem hi, e] at hpx; cases hpx; rfl
  subst ep
  rcases each _ (List.getElem_mem hlt) with z | ⟨b, z⟩
  · rw [z, py_c] at hp; cases hp; exact .inl rfl
  · rw [z, py_w] at hp; cases hp; exact .inr ⟨b, rfl⟩
theorem al_it {A B : List Nat} {bs : List Bt} {ds es : List PyData} (h1 : D.pys (dsD A bs) = some ds) (h2 : D.pys (dsD B bs) = some es) : PySem.W.alike (itP A ds) (itP B es) = true := by
  unfold itP
  simp only [PySem.W.alike, PySem.W.alikeAll, Bool.and_eq_true, and_true, true_and]
  refine ⟨?_, ?_⟩
  · have := al_tup (neg A) (neg B)
    simpa only [PySem.W.alike] using this
  · exact alAll fun x hx y hy => al_deed (ds_deeds h1 x hx) (ds_deeds h2 y hy)
end K32

set_option linter.all false
set_option maxRecDepth 100000
set_option maxHeartbeats 2000000
namespace K32
open PySem PySem.Spec PyProof.Rows L2 Ab
def fitS (ring : Nat) (bs : List Bt) (S : List Nat) : Bool := fitc ring (fun j => S.contains j) 0 0 (szs bs)
theorem FS_neg : ∀ {S : List Nat} {l : List D}, FS (fun _ : D => False) (fun x y => ∀ n : Nat, x = .int (n : Int) → y = .int (0 - (n : Int))) (iD S) l → l = (neg S).map .int
  | [], _, h => by cases h; rfl
  | s :: S, _, h => by
    cases h with
    | skip a _ => exact a.elim
    | keep z r => rw [z s rfl, FS_neg r]; rfl
theorem lawLoop {A : AEnds} {pages ring : Nat} {bs : List Bt} {pg pw r : Addr} {x0 x7 x8 x9 x10 x11 x12 x13 : Option D} {m0 : M} (hbl : bs.length ≤ 6) (hw : pw ≠ pg) (ws : List (List Nat)) (hws : ∀ S ∈ ws, S.length ≤ 100) :
    ∀ (todo : List (List Nat)) (acc : List D) (m : M) (x5 x6 : Option D), Ev pg m0 m → m pg = some (.lst acc) → m pw = some (.lst (ws.map spD)) → (∀ S ∈ todo, S ∈ ws) → acc.length + todo.length ≤ 1000 →
      (∀ m' y5 y6, Ev pg m0 m' → m' pg = some (.lst (acc ++ (todo.filter (fitS ring bs)).map (itD bs))) → A.nx [x0, some (.ref r), some (shD pages ring), some (.tup (bs.map btD)), some (.ref pg), y5, y6, x7, x8, x9, x10, x11, x12, x13] m') →
      forL (aN 5) bl_law_1 (fun m2 => m2 pw = some (.lst (ws.map spD))) (todo.map spD) A [x0, some (.ref r), some (shD pages ring), some (.tup (bs.map btD)), some (.ref pg), x5, x6, x7, x8, x9, x10, x11, x12, x13] m
  | [], acc, m, x5, x6, he, hg, hp, ht, hl, q => ⟨hp, q m x5 x6 he (by rw [List.filter_nil, List.map_nil, List.append_nil]; exact hg)⟩
  | S :: todo, acc, m, x5, x6, he, hg, hp, ht, hl, q => by
    have ih := fun acc m x5 x6 => lawLoop (A := A) (pages := pages) (ring := ring) (bs := bs) (r := r) (x0 := x0) (x7 := x7) (x8 := x8) (x9 := x9) (x10 := x10) (x11 := x11) (x12 := x12) (x13 := x13) (m0 := m0) hbl hw ws hws todo acc m x5 x6
    have hS := ht S (by simp)
    have htodo : ∀ S ∈ todo, S ∈ ws := fun S h => ht S (by simp [h])
    rw [List.length_cons] at hl
    rw [List.map_cons]
    unfold forL
    refine ⟨hp, ?_⟩
    generalize forL (aN 5) bl_law_1 (fun m2 => m2 pw = some (.lst (ws.map spD))) (todo.map spD) A = X at ih ⊢
    unfold bl_law_1
    generalize hY : bl_law_0 = Y
    (repeat (first | with_reducible refine seqI ?_ | with_reducible refine setI ?_ | with_reducible refine asgI ?_ | with_reducible refine retI ?_ | with_reducible refine opI ?_ | with_reducible refine callI ?_ | with_reducible refine consI ?_ | with_reducible refine cI ?_ | with_reducible refine nilI ?_ | ((with_reducible apply varI); exact rfl) | with_reducible refine cbI ?_ | with_reducible refine ifI ?_ | with_reducible refine tstI ?_ | with_reducible refine notTI ?_ | with_reducible refine andTI ?_ | with_reducible refine orTI ?_ | with_reducible refine dropI ?_ | with_reducible refine nextI ?_ | with_reducible refine tupI ?_ | with_reducible refine lstI ?_ | with_reducible refine starI ?_ | with_reducible refine starTT ?_ | with_reducible refine andI ?_ | with_reducible refine orVI ?_ | with_reducible refine notI ?_ | with_reducible refine ifEI ?_ | with_reducible refine forI ?_ | with_reducible refine r1I ?_ | with_reducible refine ir2I ?_ | with_reducible refine iTupI ?_ | with_reducible refine truI ?_ | with_reducible refine chainI ?_ | with_reducible refine lcI ?_ | with_reducible refine slI ?_ | with_reducible refine noPI ?_ | with_reducible refine ptI ?_ | with_reducible refine unI ?_ | with_reducible refine brkI ?_ | with_reducible refine cntI ?_ | with_reducible refine retNI ?_ | with_reducible refine addII ?_ | with_reducible refine rI0 ?_ | with_reducible refine rIC ?_ ?_ | with_reducible refine mulII ?_ ?_ | with_reducible refine addTT ?_ ?_ | with_reducible refine addSS ?_ ?_ | with_reducible refine negII ?_ | with_reducible refine eqII ?_ | with_reducible refine eqSS ?_ | with_reducible refine eqBB ?_ | with_reducible refine neII ?_ | with_reducible refine neSS ?_ | with_reducible refine neBB ?_ | with_reducible refine isNN ?_ | with_reducible refine isNotNN ?_ | with_reducible refine isBB ?_ | with_reducible refine isNotBB ?_ | with_reducible refine lenTI ?_ | with_reducible refine lenFI ?_ | with_reducible refine intII ?_ | with_reducible refine intBI ?_ | with_reducible refine tupTI ?_ | with_reducible refine minII ?_ | with_reducible refine maxII ?_ | with_reducible refine slTI ?_ | with_reducible refine gcI ?_ | with_reducible refine gnI ?_ | with_reducible refine aNI ?_ | ((with_reducible refine ttI ?_ ?_); exact rfl) | ((with_reducible refine And.intro ?_ ?_); exact rfl) | ((with_reducible refine And.intro ?_ ?_); exact lenOk rfl) | dsimp only [En.s]))
    refine withChecks (by omega) ?_
    subst hY
    unfold bl_law_0
    (repeat (first | with_reducible refine seqI ?_ | with_reducible refine setI ?_ | with_reducible refine asgI ?_ | with_reducible refine retI ?_ | with_reducible refine opI ?_ | with_reducible refine callI ?_ | with_reducible refine consI ?_ | with_reducible refine cI ?_ | with_reducible refine nilI ?_ | ((with_reducible apply varI); exact rfl) | with_reducible refine cbI ?_ | with_reducible refine ifI ?_ | with_reducible refine tstI ?_ | with_reducible refine notTI ?_ | with_reducible refine andTI ?_ | with_reducible refine orTI ?_ | with_reducible refine dropI ?_ | with_reducible refine nextI ?_ | with_reducible refine tupI ?_ | with_reducible refine lstI ?_ | with_reducible refine starI ?_ | with_reducible refine starTT ?_ | with_reducible refine andI ?_ | with_reducible refine orVI ?_ | with_reducible refine notI ?_ | with_reducible refine ifEI ?_ | with_reducible refine forI ?_ | with_reducible refine r1I ?_ | with_reducible refine ir2I ?_ | with_reducible refine iTupI ?_ | with_reducible refine truI ?_ | with_reducible refine chainI ?_ | with_reducible refine lcI ?_ | with_reducible refine slI ?_ | with_reducible refine noPI ?_ | with_reducible refine ptI ?_ | with_reducible refine unI ?_ | with_reducible refine brkI ?_ | with_reducible refine cntI ?_ | with_reducible refine retNI ?_ | with_reducible refine addII ?_ | with_reducible refine rI0 ?_ | with_reducible refine rIC ?_ ?_ | with_reducible refine mulII ?_ ?_ | with_reducible refine addTT ?_ ?_ | with_reducible refine addSS ?_ ?_ | with_reducible refine negII ?_ | with_reducible refine eqII ?_ | with_reducible refine eqSS ?_ | with_reducible refine eqBB ?_ | with_reducible refine neII ?_ | with_reducible refine neSS ?_ | with_reducible refine neBB ?_ | with_reducible refine isNN ?_ | with_reducible refine isNotNN ?_ | with_reducible refine isBB ?_ | with_reducible refine isNotBB ?_ | with_reducible refine lenTI ?_ | with_reducible refine lenFI ?_ | with_reducible refine intII ?_ | with_reducible refine intBI ?_ | with_reducible refine tupTI ?_ | with_reducible refine minII ?_ | with_reducible refine maxII ?_ | with_reducible refine slTI ?_ | with_reducible refine gcI ?_ | with_reducible refine gnI ?_ | with_reducible refine aNI ?_ | ((with_reducible refine ttI ?_ ?_); exact rfl) | ((with_reducible refine And.intro ?_ ?_); exact rfl) | ((with_reducible refine And.intro ?_ ?_); exact lenOk rfl) | dsimp only [En.s]))
    refine lawFits ?_
    by_cases hf : fitS ring bs S = true
    · refine bl_t hf ?_
      (repeat (first | with_reducible refine seqI ?_ | with_reducible refine setI ?_ | with_reducible refine asgI ?_ | with_reducible refine retI ?_ | with_reducible refine opI ?_ | with_reducible refine callI ?_ | with_reducible refine consI ?_ | with_reducible refine cI ?_ | with_reducible refine nilI ?_ | ((with_reducible apply varI); exact rfl) | with_reducible refine cbI ?_ | with_reducible refine ifI ?_ | with_reducible refine tstI ?_ | with_reducible refine notTI ?_ | with_reducible refine andTI ?_ | with_reducible refine orTI ?_ | with_reducible refine dropI ?_ | with_reducible refine nextI ?_ | with_reducible refine tupI ?_ | with_reducible refine lstI ?_ | with_reducible refine starI ?_ | with_reducible refine starTT ?_ | with_reducible refine andI ?_ | with_reducible refine orVI ?_ | with_reducible refine notI ?_ | with_reducible refine ifEI ?_ | with_reducible refine forI ?_ | with_reducible refine r1I ?_ | with_reducible refine ir2I ?_ | with_reducible refine iTupI ?_ | with_reducible refine truI ?_ | with_reducible refine chainI ?_ | with_reducible refine lcI ?_ | with_reducible refine slI ?_ | with_reducible refine noPI ?_ | with_reducible refine ptI ?_ | with_reducible refine unI ?_ | with_reducible refine brkI ?_ | with_reducible refine cntI ?_ | with_reducible refine retNI ?_ | with_reducible refine addII ?_ | with_reducible refine rI0 ?_ | with_reducible refine rIC ?_ ?_ | with_reducible refine mulII ?_ ?_ | with_reducible refine addTT ?_ ?_ | with_reducible refine addSS ?_ ?_ | with_reducible refine negII ?_ | with_reducible refine eqII ?_ | with_reducible refine eqSS ?_ | with_reducible refine eqBB ?_ | with_reducible refine neII ?_ | with_reducible refine neSS ?_ | with_reducible refine neBB ?_ | with_reducible refine isNN ?_ | with_reducible refine isNotNN ?_ | with_reducible refine isBB ?_ | with_reducible refine isNotBB ?_ | with_reducible refine lenTI ?_ | with_reducible refine lenFI ?_ | with_reducible refine intII ?_ | with_reducible refine intBI ?_ | with_reducible refine tupTI ?_ | with_reducible refine minII ?_ | with_reducible refine maxII ?_ | with_reducible refine slTI ?_ | with_reducible refine gcI ?_ | with_reducible refine gnI ?_ | with_reducible refine aNI ?_ | ((with_reducible refine ttI ?_ ?_); exact rfl) | ((with_reducible refine And.intro ?_ ?_); exact rfl) | ((with_reducible refine And.intro ?_ ?_); exact lenOk rfl) | dsimp only [En.s]))
      refine appI rfl (l_of hg) ?_
      unfold spD
      (repeat (first | with_reducible refine seqI ?_ | with_reducible refine setI ?_ | with_reducible refine asgI ?_ | with_reducible refine retI ?_ | with_reducible refine opI ?_ | with_reducible refine callI ?_ | with_reducible refine consI ?_ | with_reducible refine cI ?_ | with_reducible refine nilI ?_ | ((with_reducible apply varI); exact rfl) | with_reducible refine cbI ?_ | with_reducible refine ifI ?_ | with_reducible refine tstI ?_ | with_reducible refine notTI ?_ | with_reducible refine andTI ?_ | with_reducible refine orTI ?_ | with_reducible refine dropI ?_ | with_reducible refine nextI ?_ | with_reducible refine tupI ?_ | with_reducible refine lstI ?_ | with_reducible refine starI ?_ | with_reducible refine starTT ?_ | with_reducible refine andI ?_ | with_reducible refine orVI ?_ | with_reducible refine notI ?_ | with_reducible refine ifEI ?_ | with_reducible refine forI ?_ | with_reducible refine r1I ?_ | with_reducible refine ir2I ?_ | with_reducible refine iTupI ?_ | with_reducible refine truI ?_ | with_reducible refine chainI ?_ | with_reducible refine lcI ?_ | with_reducible refine slI ?_ | with_reducible refine noPI ?_ | with_reducible refine ptI ?_ | with_reducible refine unI ?_ | with_reducible refine brkI ?_ | with_reducible refine cntI ?_ | with_reducible refine retNI ?_ | with_reducible refine addII ?_ | with_reducible refine rI0 ?_ | with_reducible refine rIC ?_ ?_ | with_reducible refine mulII ?_ ?_ | with_reducible refine addTT ?_ ?_ | with_reducible refine addSS ?_ ?_ | with_reducible refine negII ?_ | with_reducible refine eqII ?_ | with_reducible refine eqSS ?_ | with_reducible refine eqBB ?_ | with_reducible refine neII ?_ | with_reducible refine neSS ?_ | with_reducible refine neBB ?_ | with_reducible refine isNN ?_ | with_reducible refine isNotNN ?_ | with_reducible refine isBB ?_ | with_reducible refine isNotBB ?_ | with_reducible refine lenTI ?_ | with_reducible refine lenFI ?_ | with_reducible refine intII ?_ | with_reducible refine intBI ?_ | with_reducible refine tupTI ?_ | with_reducible refine minII ?_ | with_reducible refine maxII ?_ | with_reducible refine slTI ?_ | with_reducible refine gcI ?_ | with_reducible refine gnI ?_ | with_reducible refine aNI ?_ | ((with_reducible refine ttI ?_ ?_); exact rfl) | ((with_reducible refine And.intro ?_ ?_); exact rfl) | ((with_reducible refine And.intro ?_ ?_); exact lenOk rfl) | dsimp only [En.s]))
      intro p hpn
      refine lc_as (Ps := fun _ => False) (Pd := fun x y => ∀ n : Nat, x = .int (n : Int) → y = .int (0 - (n : Int))) hpn (fun _ _ => trivial) (fun x hx m1 S' Q' s1 _ q2 => ?_) (fun l m1 hfs hs1 hm1 => ?_) (by rw [iD_len]; have := hws S hS; omega)
      · obtain ⟨n, _, rfl⟩ := List.mem_map.mp hx
        (repeat (first | with_reducible refine seqI ?_ | with_reducible refine setI ?_ | with_reducible refine asgI ?_ | with_reducible refine retI ?_ | with_reducible refine opI ?_ | with_reducible refine callI ?_ | with_reducible refine consI ?_ | with_reducible refine cI ?_ | with_reducible refine nilI ?_ | ((with_reducible apply varI); exact rfl) | with_reducible refine cbI ?_ | with_reducible refine ifI ?_ | with_reducible refine tstI ?_ | with_reducible refine notTI ?_ | with_reducible refine andTI ?_ | with_reducible refine orTI ?_ | with_reducible refine dropI ?_ | with_reducible refine nextI ?_ | with_reducible refine tupI ?_ | with_reducible refine lstI ?_ | with_reducible refine starI ?_ | with_reducible refine starTT ?_ | with_reducible refine andI ?_ | with_reducible refine orVI ?_ | with_reducible refine notI ?_ | with_reducible refine ifEI ?_ | with_reducible refine forI ?_ | with_reducible refine r1I ?_ | with_reducible refine ir2I ?_ | with_reducible refine iTupI ?_ | with_reducible refine truI ?_ | with_reducible refine chainI ?_ | with_reducible refine lcI ?_ | with_reducible refine slI ?_ | with_reducible refine noPI ?_ | with_reducible refine ptI ?_ | with_reducible refine unI ?_ | with_reducible refine brkI ?_ | with_reducible refine cntI ?_ | with_reducible refine retNI ?_ | with_reducible refine addII ?_ | with_reducible refine rI0 ?_ | with_reducible refine rIC ?_ ?_ | with_reducible refine mulII ?_ ?_ | with_reducible refine addTT ?_ ?_ | with_reducible refine addSS ?_ ?_ | with_reducible refine negII ?_ | with_reducible refine eqII ?_ | with_reducible refine eqSS ?_ | with_reducible refine eqBB ?_ | with_reducible refine neII ?_ | with_reducible refine neSS ?_ | with_reducible refine neBB ?_ | with_reducible refine isNN ?_ | with_reducible refine isNotNN ?_ | with_reducible refine isBB ?_ | with_reducible refine isNotBB ?_ | with_reducible refine lenTI ?_ | with_reducible refine lenFI ?_ | with_reducible refine intII ?_ | with_reducible refine intBI ?_ | with_reducible refine tupTI ?_ | with_reducible refine minII ?_ | with_reducible refine maxII ?_ | with_reducible refine slTI ?_ | with_reducible refine gcI ?_ | with_reducible refine gnI ?_ | with_reducible refine aNI ?_ | ((with_reducible refine ttI ?_ ?_); exact rfl) | ((with_reducible refine And.intro ?_ ?_); exact rfl) | ((with_reducible refine And.intro ?_ ?_); exact lenOk rfl) | dsimp only [En.s]))
        refine yesI ?_
        rw [if_pos rfl]
        (repeat (first | with_reducible refine seqI ?_ | with_reducible refine setI ?_ | with_reducible refine asgI ?_ | with_reducible refine retI ?_ | with_reducible refine opI ?_ | with_reducible refine callI ?_ | with_reducible refine consI ?_ | with_reducible refine cI ?_ | with_reducible refine nilI ?_ | ((with_reducible apply varI); exact rfl) | with_reducible refine cbI ?_ | with_reducible refine ifI ?_ | with_reducible refine tstI ?_ | with_reducible refine notTI ?_ | with_reducible refine andTI ?_ | with_reducible refine orTI ?_ | with_reducible refine dropI ?_ | with_reducible refine nextI ?_ | with_reducible refine tupI ?_ | with_reducible refine lstI ?_ | with_reducible refine starI ?_ | with_reducible refine starTT ?_ | with_reducible refine andI ?_ | with_reducible refine orVI ?_ | with_reducible refine notI ?_ | with_reducible refine ifEI ?_ | with_reducible refine forI ?_ | with_reducible refine r1I ?_ | with_reducible refine ir2I ?_ | with_reducible refine iTupI ?_ | with_reducible refine truI ?_ | with_reducible refine chainI ?_ | with_reducible refine lcI ?_ | with_reducible refine slI ?_ | with_reducible refine noPI ?_ | with_reducible refine ptI ?_ | with_reducible refine unI ?_ | with_reducible refine brkI ?_ | with_reducible refine cntI ?_ | with_reducible refine retNI ?_ | with_reducible refine addII ?_ | with_reducible refine rI0 ?_ | with_reducible refine rIC ?_ ?_ | with_reducible refine mulII ?_ ?_ | with_reducible refine addTT ?_ ?_ | with_reducible refine addSS ?_ ?_ | with_reducible refine negII ?_ | with_reducible refine eqII ?_ | with_reducible refine eqSS ?_ | with_reducible refine eqBB ?_ | with_reducible refine neII ?_ | with_reducible refine neSS ?_ | with_reducible refine neBB ?_ | with_reducible refine isNN ?_ | with_reducible refine isNotNN ?_ | with_reducible refine isBB ?_ | with_reducible refine isNotBB ?_ | with_reducible refine lenTI ?_ | with_reducible refine lenFI ?_ | with_reducible refine intII ?_ | with_reducible refine intBI ?_ | with_reducible refine tupTI ?_ | with_reducible refine minII ?_ | with_reducible refine maxII ?_ | with_reducible refine slTI ?_ | with_reducible refine gcI ?_ | with_reducible refine gnI ?_ | with_reducible refine aNI ?_ | ((with_reducible refine ttI ?_ ?_); exact rfl) | ((with_reducible refine And.intro ?_ ?_); exact rfl) | ((with_reducible refine And.intro ?_ ?_); exact lenOk rfl) | dsimp only [En.s]))
        exact q2 _ _ (fun n' h' => by injection h' with h'; rw [h']) (Ab.Sub.refl _)
      · have e := FS_neg hfs
        subst e
        (repeat (first | with_reducible refine seqI ?_ | with_reducible refine setI ?_ | with_reducible refine asgI ?_ | with_reducible refine retI ?_ | with_reducible refine opI ?_ | with_reducible refine callI ?_ | with_reducible refine consI ?_ | with_reducible refine cI ?_ | with_reducible refine nilI ?_ | ((with_reducible apply varI); exact rfl) | with_reducible refine cbI ?_ | with_reducible refine ifI ?_ | with_reducible refine tstI ?_ | with_reducible refine notTI ?_ | with_reducible refine andTI ?_ | with_reducible refine orTI ?_ | with_reducible refine dropI ?_ | with_reducible refine nextI ?_ | with_reducible refine tupI ?_ | with_reducible refine lstI ?_ | with_reducible refine starI ?_ | with_reducible refine starTT ?_ | with_reducible refine andI ?_ | with_reducible refine orVI ?_ | with_reducible refine notI ?_ | with_reducible refine ifEI ?_ | with_reducible refine forI ?_ | with_reducible refine r1I ?_ | with_reducible refine ir2I ?_ | with_reducible refine iTupI ?_ | with_reducible refine truI ?_ | with_reducible refine chainI ?_ | with_reducible refine lcI ?_ | with_reducible refine slI ?_ | with_reducible refine noPI ?_ | with_reducible refine ptI ?_ | with_reducible refine unI ?_ | with_reducible refine brkI ?_ | with_reducible refine cntI ?_ | with_reducible refine retNI ?_ | with_reducible refine addII ?_ | with_reducible refine rI0 ?_ | with_reducible refine rIC ?_ ?_ | with_reducible refine mulII ?_ ?_ | with_reducible refine addTT ?_ ?_ | with_reducible refine addSS ?_ ?_ | with_reducible refine negII ?_ | with_reducible refine eqII ?_ | with_reducible refine eqSS ?_ | with_reducible refine eqBB ?_ | with_reducible refine neII ?_ | with_reducible refine neSS ?_ | with_reducible refine neBB ?_ | with_reducible refine isNN ?_ | with_reducible refine isNotNN ?_ | with_reducible refine isBB ?_ | with_reducible refine isNotBB ?_ | with_reducible refine lenTI ?_ | with_reducible refine lenFI ?_ | with_reducible refine intII ?_ | with_reducible refine intBI ?_ | with_reducible refine tupTI ?_ | with_reducible refine minII ?_ | with_reducible refine maxII ?_ | with_reducible refine slTI ?_ | with_reducible refine gcI ?_ | with_reducible refine gnI ?_ | with_reducible refine aNI ?_ | ((with_reducible refine ttI ?_ ?_); exact rfl) | ((with_reducible refine And.intro ?_ ?_); exact rfl) | ((with_reducible refine And.intro ?_ ?_); exact lenOk rfl) | dsimp only [En.s]))
        refine tupRI (l_of hm1) ?_
        (repeat (first | with_reducible refine seqI ?_ | with_reducible refine setI ?_ | with_reducible refine asgI ?_ | with_reducible refine retI ?_ | with_reducible refine opI ?_ | with_reducible refine callI ?_ | with_reducible refine consI ?_ | with_reducible refine cI ?_ | with_reducible refine nilI ?_ | ((with_reducible apply varI); exact rfl) | with_reducible refine cbI ?_ | with_reducible refine ifI ?_ | with_reducible refine tstI ?_ | with_reducible refine notTI ?_ | with_reducible refine andTI ?_ | with_reducible refine orTI ?_ | with_reducible refine dropI ?_ | with_reducible refine nextI ?_ | with_reducible refine tupI ?_ | with_reducible refine lstI ?_ | with_reducible refine starI ?_ | with_reducible refine starTT ?_ | with_reducible refine andI ?_ | with_reducible refine orVI ?_ | with_reducible refine notI ?_ | with_reducible refine ifEI ?_ | with_reducible refine forI ?_ | with_reducible refine r1I ?_ | with_reducible refine ir2I ?_ | with_reducible refine iTupI ?_ | with_reducible refine truI ?_ | with_reducible refine chainI ?_ | with_reducible refine lcI ?_ | with_reducible refine slI ?_ | with_reducible refine noPI ?_ | with_reducible refine ptI ?_ | with_reducible refine unI ?_ | with_reducible refine brkI ?_ | with_reducible refine cntI ?_ | with_reducible refine retNI ?_ | with_reducible refine addII ?_ | with_reducible refine rI0 ?_ | with_reducible refine rIC ?_ ?_ | with_reducible refine mulII ?_ ?_ | with_reducible refine addTT ?_ ?_ | with_reducible refine addSS ?_ ?_ | with_reducible refine negII ?_ | with_reducible refine eqII ?_ | with_reducible refine eqSS ?_ | with_reducible refine eqBB ?_ | with_reducible refine neII ?_ | with_reducible refine neSS ?_ | with_reducible refine neBB ?_ | with_reducible refine isNN ?_ | with_reducible refine isNotNN ?_ | with_reducible refine isBB ?_ | with_reducible refine isNotBB ?_ | with_reducible refine lenTI ?_ | with_reducible refine lenFI ?_ | with_reducible refine intII ?_ | with_reducible refine intBI ?_ | with_reducible refine tupTI ?_ | with_reducible refine minII ?_ | with_reducible refine maxII ?_ | with_reducible refine slTI ?_ | with_reducible refine gcI ?_ | with_reducible refine gnI ?_ | with_reducible refine aNI ?_ | ((with_reducible refine ttI ?_ ?_); exact rfl) | ((with_reducible refine And.intro ?_ ?_); exact rfl) | ((with_reducible refine And.intro ?_ ?_); exact lenOk rfl) | dsimp only [En.s]))
        rw [l_of (hs1 _ _ hg), iD_len]
        refine ⟨Nat.lt_of_le_of_lt (show acc.length ≤ 1000 by omega) (by unfold big; decide), ?_⟩
        refine ih (acc ++ [itD bs S]) _ _ _ (fun a o na h => ?_) mset_same (by rw [mset_ne hw]; exact hs1 _ _ hp) htodo (by simp; omega) fun m' y5 y6 e1 e2 => q m' y5 y6 e1 ?_
        · rw [mset_ne na]; exact hs1 _ _ (he a o na h)
        · rw [e2, List.filter_cons_of_pos hf, List.map_cons, List.append_assoc]; rfl
    · refine bl_f (Bool.eq_false_iff.mpr hf) ?_
      (repeat (first | with_reducible refine seqI ?_ | with_reducible refine setI ?_ | with_reducible refine asgI ?_ | with_reducible refine retI ?_ | with_reducible refine opI ?_ | with_reducible refine callI ?_ | with_reducible refine consI ?_ | with_reducible refine cI ?_ | with_reducible refine nilI ?_ | ((with_reducible apply varI); exact rfl) | with_reducible refine cbI ?_ | with_reducible refine ifI ?_ | with_reducible refine tstI ?_ | with_reducible refine notTI ?_ | with_reducible refine andTI ?_ | with_reducible refine orTI ?_ | with_reducible refine dropI ?_ | with_reducible refine nextI ?_ | with_reducible refine tupI ?_ | with_reducible refine lstI ?_ | with_reducible refine starI ?_ | with_reducible refine starTT ?_ | with_reducible refine andI ?_ | with_reducible refine orVI ?_ | with_reducible refine notI ?_ | with_reducible refine ifEI ?_ | with_reducible refine forI ?_ | with_reducible refine r1I ?_ | with_reducible refine ir2I ?_ | with_reducible refine iTupI ?_ | with_reducible refine truI ?_ | with_reducible refine chainI ?_ | with_reducible refine lcI ?_ | with_reducible refine slI ?_ | with_reducible refine noPI ?_ | with_reducible refine ptI ?_ | with_reducible refine unI ?_ | with_reducible refine brkI ?_ | with_reducible refine cntI ?_ | with_reducible refine retNI ?_ | with_reducible refine addII ?_ | with_reducible refine rI0 ?_ | with_reducible refine rIC ?_ ?_ | with_reducible refine mulII ?_ ?_ | with_reducible refine addTT ?_ ?_ | with_reducible refine addSS ?_ ?_ | with_reducible refine negII ?_ | with_reducible refine eqII ?_ | with_reducible refine eqSS ?_ | with_reducible refine eqBB ?_ | with_reducible refine neII ?_ | with_reducible refine neSS ?_ | with_reducible refine neBB ?_ | with_reducible refine isNN ?_ | with_reducible refine isNotNN ?_ | with_reducible refine isBB ?_ | with_reducible refine isNotBB ?_ | with_reducible refine lenTI ?_ | with_reducible refine lenFI ?_ | with_reducible refine intII ?_ | with_reducible refine intBI ?_ | with_reducible refine tupTI ?_ | with_reducible refine minII ?_ | with_reducible refine maxII ?_ | with_reducible refine slTI ?_ | with_reducible refine gcI ?_ | with_reducible refine gnI ?_ | with_reducible refine aNI ?_ | ((with_reducible refine ttI ?_ ?_); exact rfl) | ((with_reducible refine And.intro ?_ ?_); exact rfl) | ((with_reducible refine And.intro ?_ ?_); exact lenOk rfl) | dsimp only [En.s]))
      refine ih acc _ _ _ he hg hp htodo (by omega) fun m' y5 y6 e1 e2 => q m' y5 y6 e1 ?_
      rw [e2, List.filter_cons_of_neg hf]
/-- checks in the plan -/
def cntc (c : Nat → Bool) : Nat → List Bt → Nat
  | _, [] => 0
  | i, _ :: bs => (if c i = true then 1 else 0) + cntc c (i + 1) bs
theorem cntc_congr {c c' : Nat → Bool} : ∀ (bs : List Bt) (i : Nat), (∀ j, i ≤ j → c j = c' j) → cntc c i bs = cntc c' i bs
  | [], _, _ => rfl
  | b :: bs, i, h => by
    rw [cntc, cntc, h i (Nat.le_refl _), cntc_congr bs (i + 1) fun j hj => h j (by omega)]
theorem cntc_gr (ring : Nat) : ∀ (bs : List Bt) (i u : Nat), cntc (fun j => (gr ring i u (szs bs)).contains j) i bs = (gr ring i u (szs bs)).length
  | [], i, u => rfl
  | b :: bs, i, u => by
    show cntc (fun j => (gr ring i u (b.length :: szs bs)).contains j) i (b :: bs) = _
    rw [show szs (b :: bs) = b.length :: szs bs from rfl]
    unfold gr cntc
    by_cases ho : ring < u + b.length
    · rw [if_pos ho]
      have e : (i :: gr ring (i + 1) b.length (szs bs)).contains i = true := by simp
      rw [e, if_pos rfl, List.length_cons, cntc_congr (c' := fun j => (gr ring (i + 1) b.length (szs bs)).contains j) bs (i + 1) fun j hj => ?_, cntc_gr ring bs (i + 1) b.length]
      · omega
      · have : ¬ j = i := by omega
        simp [this]
    · rw [if_neg ho]
      have e : (gr ring (i + 1) (u + b.length) (szs bs)).contains i = false := by
        rw [← Bool.not_eq_true]
        intro h
        have := (gr_ge ring (szs bs) (i + 1) (u + b.length) i (by simpa using h)).1
        omega
      rw [e, if_neg Bool.false_ne_true, Nat.zero_add, cntc_gr ring bs (i + 1) (u + b.length)]
theorem wr_ck (b : Bt) : wrD b ≠ ckD := fun h => by
  unfold wrD ckD at h
  injection h with h
  injection h with _ h
  cases h
theorem FS_cnt {c : Nat → Bool} : ∀ {bs : List Bt} {i : Nat} {l : List D}, FS (fun x : D => x ≠ ckD) (fun x y => x = ckD) (dl c i bs) l → l.length = cntc c i bs
  | [], i, l, h => by rw [dl] at h; cases h; rfl
  | b :: bs, i, l, h => by
    rw [dl] at h
    rw [cntc]
    by_cases hc : c i = true
    · rw [if_pos hc] at h ⊢
      cases h with
      | skip a _ => exact absurd rfl a
      | keep _ r =>
        cases r with
        | skip _ r => rw [List.length_cons, FS_cnt r]; omega
        | keep z _ => exact absurd z (wr_ck b)
    · rw [if_neg hc] at h ⊢
      cases h with
      | skip _ r => rw [Nat.zero_add]; exact FS_cnt r
      | keep z _ => exact absurd z (wr_ck b)
theorem FS_wr {c : Nat → Bool} : ∀ {bs : List Bt} {i : Nat} {l : List D}, FS (fun x : D => x = ckD) (fun x y => ∃ b, x = wrD b ∧ y = btD b) (dl c i bs) l → l = bs.map btD
  | [], i, l, h => by rw [dl] at h; cases h; rfl
  | b :: bs, i, l, h => by
    have btI : ∀ b b' : Bt, wrD b = wrD b' → btD b = btD b' := fun b b' h => by
      unfold wrD at h
      injection h with h
      injection h with _ h
      injection h
    rw [dl] at h
    rw [List.map_cons]
    by_cases hc : c i = true
    · rw [if_pos hc] at h
      cases h with
      | skip _ r =>
        cases r with
        | skip z _ => exact absurd z (wr_ck b)
        | keep z r =>
          obtain ⟨b', e1, e2⟩ := z
          rw [e2, ← btI _ _ e1, FS_wr r]
      | keep z _ => obtain ⟨b', e1, _⟩ := z; exact absurd e1.symm (wr_ck b')
    · rw [if_neg hc] at h
      cases h with
      | skip z _ => exact absurd z (wr_ck b)
      | keep z r =>
        obtain ⟨b', e1, e2⟩ := z
        rw [e2, ← btI _ _ e1, FS_wr r]
theorem dl_each {c : Nat → Bool} : ∀ {bs : List Bt} {i : Nat} {d : D}, d ∈ dl c i bs → d = ckD ∨ ∃ b, d = wrD b
  | [], i, d, h => by simp [dl] at h
  | b :: bs, i, d, h => by
    rw [dl] at h
    rcases List.mem_append.mp h with h | h
    · split at h
      · simp at h; exact .inl h
      · simp at h
    · rcases List.mem_cons.mp h with h | h
      · exact .inr ⟨b, h⟩
      · exact dl_each h
def oneB : Bt := [(0, [1])]
theorem one_ok {pages ring : Nat} (h1 : 1 ≤ pages) (h2 : 1 ≤ ring) : BsOk pages ring (List.replicate 20 oneB) := ⟨fun b hb => by
  have e := (List.mem_replicate.mp hb).2
  subst e
  refine ⟨by decide, ?_, by decide, fun p hp => ?_, fun p hp => ?_, fun p hp => ?_⟩
  · show 1 ≤ min pages (min 3 ring); omega
  all_goals (have e : p = (0, [1]) := by simpa [oneB] using hp)
  all_goals subst e
  · exact h1
  · intro b hb; simp at hb; omega
  · decide⟩
theorem one_cnt {ring : Nat} (h1 : 2 ≤ ring) (h2 : ring ≤ 5) : (gr ring 0 0 (szs (List.replicate 20 oneB))).length = 19 / ring := by
  match ring, h1, h2 with
  | 2, _, _ => rfl
  | 3, _, _ => rfl
  | 4, _, _ => rfl
  | 5, _, _ => rfl
theorem gr_pos {ring : Nat} {bs : List Bt} (h : ∀ b ∈ bs, b.length ≤ ring) : ∀ j ∈ gr ring 0 0 (szs bs), 1 ≤ j ∧ j ≤ bs.length := fun j hj => by
  cases bs with
  | nil => simp [szs, gr] at hj
  | cons b bs =>
    have hb := h b (by simp)
    have e : gr ring 0 0 (szs (b :: bs)) = gr ring 1 (0 + b.length) (szs bs) := by
      show gr ring 0 0 (b.length :: szs bs) = _
      rw [gr, if_neg (by omega)]
    rw [e] at hj
    have := gr_ge ring (szs bs) 1 _ j hj
    have e2 : (szs bs).length = bs.length := by unfold szs; rw [List.length_map]
    rw [e2] at this
    rw [List.length_cons]
    omega
theorem okD_by (j : Nat) (l : List Nat) (h : l.length ≤ 1000000) : okD (j + 1) (.tup (iD l)) := ⟨by rw [iD_len]; exact h, fun d hd => by
  obtain ⟨n, _, rfl⟩ := List.mem_map.mp hd
  cases j <;> trivial⟩
theorem dl_eachB {c : Nat → Bool} : ∀ {bs : List Bt} {i : Nat} {d : D}, d ∈ dl c i bs → d = ckD ∨ ∃ b ∈ bs, d = wrD b
  | [], i, d, h => by simp [dl] at h
  | b :: bs, i, d, h => by
    rw [dl] at h
    rcases List.mem_append.mp h with h | h
    · split at h
      · simp at h; exact .inl h
      · simp at h
    · rcases List.mem_cons.mp h with h | h
      · exact .inr ⟨b, by simp, h⟩
      · rcases dl_eachB h with e | ⟨b', hb', e⟩
        · exact .inl e
        · exact .inr ⟨b', by simp [hb'], e⟩
theorem okTs {pages ring : Nat} {bs : List Bt} {T : List D} (hp : pages ≤ 100) (hb : BsOk pages ring bs) (hl : T.length ≤ 1000) (h : ∀ d ∈ T, d = ckD ∨ ∃ b ∈ bs, d = wrD b) : okD 6 (.tup T) := ⟨by omega, fun d hd => by
  rcases h d hd with e | ⟨b, hbm, e⟩
  · subst e
    refine ⟨by decide, fun d hd => ?_⟩
    simp at hd; subst hd; trivial
  · subst e
    have hk := hb.each b hbm
    refine ⟨by show 2 ≤ 1000000; decide, fun d hd => ?_⟩
    simp only [List.mem_cons, List.not_mem_nil, or_false] at hd
    rcases hd with e | e <;> subst e
    · trivial
    · refine ⟨by rw [List.length_map]; have := hk.len; omega, fun d hd => ?_⟩
      obtain ⟨p, hpm, rfl⟩ := List.mem_map.mp hd
      refine ⟨by show 2 ≤ 1000000; decide, fun d hd => ?_⟩
      simp only [List.mem_cons, List.not_mem_nil, or_false] at hd
      rcases hd with e | e <;> subst e
      · trivial
      · exact okD_by 1 _ (by have := hk.ln p hpm; omega)⟩
theorem law_true {m : M} {ns : List Int} (h1 : ns.length ≤ 63) (h2 : ∀ z ∈ ns, Builtin.Int.intBits z ≤ 1048576) : s_law [.fls (ns.map D.int)] m (fun d _ => d = .bl true) (fun _ _ => False) := by
  refine ent_law ?_
  unfold b_law
  generalize hX : bl_law_12 = X
  (repeat (first | with_reducible refine seqI ?_ | with_reducible refine setI ?_ | with_reducible refine asgI ?_ | with_reducible refine retI ?_ | with_reducible refine opI ?_ | with_reducible refine callI ?_ | with_reducible refine consI ?_ | with_reducible refine cI ?_ | with_reducible refine nilI ?_ | ((with_reducible apply varI); exact rfl) | with_reducible refine cbI ?_ | with_reducible refine ifI ?_ | with_reducible refine tstI ?_ | with_reducible refine notTI ?_ | with_reducible refine andTI ?_ | with_reducible refine orTI ?_ | with_reducible refine dropI ?_ | with_reducible refine nextI ?_ | with_reducible refine tupI ?_ | with_reducible refine lstI ?_ | with_reducible refine starI ?_ | with_reducible refine starTT ?_ | with_reducible refine andI ?_ | with_reducible refine orVI ?_ | with_reducible refine notI ?_ | with_reducible refine ifEI ?_ | with_reducible refine forI ?_ | with_reducible refine r1I ?_ | with_reducible refine ir2I ?_ | with_reducible refine iTupI ?_ | with_reducible refine truI ?_ | with_reducible refine chainI ?_ | with_reducible refine lcI ?_ | with_reducible refine slI ?_ | with_reducible refine noPI ?_ | with_reducible refine ptI ?_ | with_reducible refine unI ?_ | with_reducible refine brkI ?_ | with_reducible refine cntI ?_ | with_reducible refine retNI ?_ | with_reducible refine addII ?_ | with_reducible refine rI0 ?_ | with_reducible refine rIC ?_ ?_ | with_reducible refine mulII ?_ ?_ | with_reducible refine addTT ?_ ?_ | with_reducible refine addSS ?_ ?_ | with_reducible refine negII ?_ | with_reducible refine eqII ?_ | with_reducible refine eqSS ?_ | with_reducible refine eqBB ?_ | with_reducible refine neII ?_ | with_reducible refine neSS ?_ | with_reducible refine neBB ?_ | with_reducible refine isNN ?_ | with_reducible refine isNotNN ?_ | with_reducible refine isBB ?_ | with_reducible refine isNotBB ?_ | with_reducible refine lenTI ?_ | with_reducible refine lenFI ?_ | with_reducible refine intII ?_ | with_reducible refine intBI ?_ | with_reducible refine tupTI ?_ | with_reducible refine minII ?_ | with_reducible refine maxII ?_ | with_reducible refine slTI ?_ | with_reducible refine gcI ?_ | with_reducible refine gnI ?_ | with_reducible refine aNI ?_ | ((with_reducible refine ttI ?_ ?_); exact rfl) | ((with_reducible refine And.intro ?_ ?_); exact rfl) | ((with_reducible refine And.intro ?_ ?_); exact lenOk rfl) | dsimp only [En.s]))
  intro r hr
  have hR : RowAt ns (mset m r (.lst [.fls (ns.map .int), .int 0, .int 9032, .int 0])) r := rowAt_set (by decide) (by decide) (by decide) (by decide)
  generalize mset m r (.lst [.fls (ns.map .int), .int 0, .int 9032, .int 0]) = m1 at hR ⊢
  (repeat (first | with_reducible refine seqI ?_ | with_reducible refine setI ?_ | with_reducible refine asgI ?_ | with_reducible refine retI ?_ | with_reducible refine opI ?_ | with_reducible refine callI ?_ | with_reducible refine consI ?_ | with_reducible refine cI ?_ | with_reducible refine nilI ?_ | ((with_reducible apply varI); exact rfl) | with_reducible refine cbI ?_ | with_reducible refine ifI ?_ | with_reducible refine tstI ?_ | with_reducible refine notTI ?_ | with_reducible refine andTI ?_ | with_reducible refine orTI ?_ | with_reducible refine dropI ?_ | with_reducible refine nextI ?_ | with_reducible refine tupI ?_ | with_reducible refine lstI ?_ | with_reducible refine starI ?_ | with_reducible refine starTT ?_ | with_reducible refine andI ?_ | with_reducible refine orVI ?_ | with_reducible refine notI ?_ | with_reducible refine ifEI ?_ | with_reducible refine forI ?_ | with_reducible refine r1I ?_ | with_reducible refine ir2I ?_ | with_reducible refine iTupI ?_ | with_reducible refine truI ?_ | with_reducible refine chainI ?_ | with_reducible refine lcI ?_ | with_reducible refine slI ?_ | with_reducible refine noPI ?_ | with_reducible refine ptI ?_ | with_reducible refine unI ?_ | with_reducible refine brkI ?_ | with_reducible refine cntI ?_ | with_reducible refine retNI ?_ | with_reducible refine addII ?_ | with_reducible refine rI0 ?_ | with_reducible refine rIC ?_ ?_ | with_reducible refine mulII ?_ ?_ | with_reducible refine addTT ?_ ?_ | with_reducible refine addSS ?_ ?_ | with_reducible refine negII ?_ | with_reducible refine eqII ?_ | with_reducible refine eqSS ?_ | with_reducible refine eqBB ?_ | with_reducible refine neII ?_ | with_reducible refine neSS ?_ | with_reducible refine neBB ?_ | with_reducible refine isNN ?_ | with_reducible refine isNotNN ?_ | with_reducible refine isBB ?_ | with_reducible refine isNotBB ?_ | with_reducible refine lenTI ?_ | with_reducible refine lenFI ?_ | with_reducible refine intII ?_ | with_reducible refine intBI ?_ | with_reducible refine tupTI ?_ | with_reducible refine minII ?_ | with_reducible refine maxII ?_ | with_reducible refine slTI ?_ | with_reducible refine gcI ?_ | with_reducible refine gnI ?_ | with_reducible refine aNI ?_ | ((with_reducible refine ttI ?_ ?_); exact rfl) | ((with_reducible refine And.intro ?_ ?_); exact rfl) | ((with_reducible refine And.intro ?_ ?_); exact lenOk rfl) | dsimp only [En.s]))
  subst hX
  unfold bl_law_12
  generalize hX : bl_law_11 = X
  (repeat (first | with_reducible refine seqI ?_ | with_reducible refine setI ?_ | with_reducible refine asgI ?_ | with_reducible refine retI ?_ | with_reducible refine opI ?_ | with_reducible refine callI ?_ | with_reducible refine consI ?_ | with_reducible refine cI ?_ | with_reducible refine nilI ?_ | ((with_reducible apply varI); exact rfl) | with_reducible refine cbI ?_ | with_reducible refine ifI ?_ | with_reducible refine tstI ?_ | with_reducible refine notTI ?_ | with_reducible refine andTI ?_ | with_reducible refine orTI ?_ | with_reducible refine dropI ?_ | with_reducible refine nextI ?_ | with_reducible refine tupI ?_ | with_reducible refine lstI ?_ | with_reducible refine starI ?_ | with_reducible refine starTT ?_ | with_reducible refine andI ?_ | with_reducible refine orVI ?_ | with_reducible refine notI ?_ | with_reducible refine ifEI ?_ | with_reducible refine forI ?_ | with_reducible refine r1I ?_ | with_reducible refine ir2I ?_ | with_reducible refine iTupI ?_ | with_reducible refine truI ?_ | with_reducible refine chainI ?_ | with_reducible refine lcI ?_ | with_reducible refine slI ?_ | with_reducible refine noPI ?_ | with_reducible refine ptI ?_ | with_reducible refine unI ?_ | with_reducible refine brkI ?_ | with_reducible refine cntI ?_ | with_reducible refine retNI ?_ | with_reducible refine addII ?_ | with_reducible refine rI0 ?_ | with_reducible refine rIC ?_ ?_ | with_reducible refine mulII ?_ ?_ | with_reducible refine addTT ?_ ?_ | with_reducible refine addSS ?_ ?_ | with_reducible refine negII ?_ | with_reducible refine eqII ?_ | with_reducible refine eqSS ?_ | with_reducible refine eqBB ?_ | with_reducible refine neII ?_ | with_reducible refine neSS ?_ | with_reducible refine neBB ?_ | with_reducible refine isNN ?_ | with_reducible refine isNotNN ?_ | with_reducible refine isBB ?_ | with_reducible refine isNotBB ?_ | with_reducible refine lenTI ?_ | with_reducible refine lenFI ?_ | with_reducible refine intII ?_ | with_reducible refine intBI ?_ | with_reducible refine tupTI ?_ | with_reducible refine minII ?_ | with_reducible refine maxII ?_ | with_reducible refine slTI ?_ | with_reducible refine gcI ?_ | with_reducible refine gnI ?_ | with_reducible refine aNI ?_ | ((with_reducible refine ttI ?_ ?_); exact rfl) | ((with_reducible refine And.intro ?_ ?_); exact rfl) | ((with_reducible refine And.intro ?_ ?_); exact lenOk rfl) | dsimp only [En.s]))
  refine taken hR (by decide) (by decide) fun x m2 a2 b2 hr2 v2 => ?_
  obtain ⟨xn, rfl⟩ := Int.eq_ofNat_of_zero_le a2
  (repeat (first | with_reducible refine seqI ?_ | with_reducible refine setI ?_ | with_reducible refine asgI ?_ | with_reducible refine retI ?_ | with_reducible refine opI ?_ | with_reducible refine callI ?_ | with_reducible refine consI ?_ | with_reducible refine cI ?_ | with_reducible refine nilI ?_ | ((with_reducible apply varI); exact rfl) | with_reducible refine cbI ?_ | with_reducible refine ifI ?_ | with_reducible refine tstI ?_ | with_reducible refine notTI ?_ | with_reducible refine andTI ?_ | with_reducible refine orTI ?_ | with_reducible refine dropI ?_ | with_reducible refine nextI ?_ | with_reducible refine tupI ?_ | with_reducible refine lstI ?_ | with_reducible refine starI ?_ | with_reducible refine starTT ?_ | with_reducible refine andI ?_ | with_reducible refine orVI ?_ | with_reducible refine notI ?_ | with_reducible refine ifEI ?_ | with_reducible refine forI ?_ | with_reducible refine r1I ?_ | with_reducible refine ir2I ?_ | with_reducible refine iTupI ?_ | with_reducible refine truI ?_ | with_reducible refine chainI ?_ | with_reducible refine lcI ?_ | with_reducible refine slI ?_ | with_reducible refine noPI ?_ | with_reducible refine ptI ?_ | with_reducible refine unI ?_ | with_reducible refine brkI ?_ | with_reducible refine cntI ?_ | with_reducible refine retNI ?_ | with_reducible refine addII ?_ | with_reducible refine rI0 ?_ | with_reducible refine rIC ?_ ?_ | with_reducible refine mulII ?_ ?_ | with_reducible refine addTT ?_ ?_ | with_reducible refine addSS ?_ ?_ | with_reducible refine negII ?_ | with_reducible refine eqII ?_ | with_reducible refine eqSS ?_ | with_reducible refine eqBB ?_ | with_reducible refine neII ?_ | with_reducible refine neSS ?_ | with_reducible refine neBB ?_ | with_reducible refine isNN ?_ | with_reducible refine isNotNN ?_ | with_reducible refine isBB ?_ | with_reducible refine isNotBB ?_ | with_reducible refine lenTI ?_ | with_reducible refine lenFI ?_ | with_reducible refine intII ?_ | with_reducible refine intBI ?_ | with_reducible refine tupTI ?_ | with_reducible refine minII ?_ | with_reducible refine maxII ?_ | with_reducible refine slTI ?_ | with_reducible refine gcI ?_ | with_reducible refine gnI ?_ | with_reducible refine aNI ?_ | ((with_reducible refine ttI ?_ ?_); exact rfl) | ((with_reducible refine And.intro ?_ ?_); exact rfl) | ((with_reducible refine And.intro ?_ ?_); exact lenOk rfl) | dsimp only [En.s]))
  refine taken hr2 (by decide) (by decide) fun y m3 a3 b3 hr3 v3 => ?_
  obtain ⟨yn, rfl⟩ := Int.eq_ofNat_of_zero_le a3
  obtain ⟨pages, hpg⟩ : ∃ p : Nat, p = 1 + xn := ⟨_, rfl⟩
  obtain ⟨ring, hrg⟩ : ∃ p : Nat, p = 2 + yn := ⟨_, rfl⟩
  have e1 : (1 : Int) + (xn : Int) = (pages : Int) := by omega
  have e2 : (2 : Int) + (yn : Int) = (ring : Int) := by omega
  have p1 : 1 ≤ pages := by omega
  have p2 : pages ≤ 4 := by omega
  have g1 : 2 ≤ ring := by omega
  have g2 : ring ≤ 5 := by omega
  rw [e1]
  (repeat (first | with_reducible refine seqI ?_ | with_reducible refine setI ?_ | with_reducible refine asgI ?_ | with_reducible refine retI ?_ | with_reducible refine opI ?_ | with_reducible refine callI ?_ | with_reducible refine consI ?_ | with_reducible refine cI ?_ | with_reducible refine nilI ?_ | ((with_reducible apply varI); exact rfl) | with_reducible refine cbI ?_ | with_reducible refine ifI ?_ | with_reducible refine tstI ?_ | with_reducible refine notTI ?_ | with_reducible refine andTI ?_ | with_reducible refine orTI ?_ | with_reducible refine dropI ?_ | with_reducible refine nextI ?_ | with_reducible refine tupI ?_ | with_reducible refine lstI ?_ | with_reducible refine starI ?_ | with_reducible refine starTT ?_ | with_reducible refine andI ?_ | with_reducible refine orVI ?_ | with_reducible refine notI ?_ | with_reducible refine ifEI ?_ | with_reducible refine forI ?_ | with_reducible refine r1I ?_ | with_reducible refine ir2I ?_ | with_reducible refine iTupI ?_ | with_reducible refine truI ?_ | with_reducible refine chainI ?_ | with_reducible refine lcI ?_ | with_reducible refine slI ?_ | with_reducible refine noPI ?_ | with_reducible refine ptI ?_ | with_reducible refine unI ?_ | with_reducible refine brkI ?_ | with_reducible refine cntI ?_ | with_reducible refine retNI ?_ | with_reducible refine addII ?_ | with_reducible refine rI0 ?_ | with_reducible refine rIC ?_ ?_ | with_reducible refine mulII ?_ ?_ | with_reducible refine addTT ?_ ?_ | with_reducible refine addSS ?_ ?_ | with_reducible refine negII ?_ | with_reducible refine eqII ?_ | with_reducible refine eqSS ?_ | with_reducible refine eqBB ?_ | with_reducible refine neII ?_ | with_reducible refine neSS ?_ | with_reducible refine neBB ?_ | with_reducible refine isNN ?_ | with_reducible refine isNotNN ?_ | with_reducible refine isBB ?_ | with_reducible refine isNotBB ?_ | with_reducible refine lenTI ?_ | with_reducible refine lenFI ?_ | with_reducible refine intII ?_ | with_reducible refine intBI ?_ | with_reducible refine tupTI ?_ | with_reducible refine minII ?_ | with_reducible refine maxII ?_ | with_reducible refine slTI ?_ | with_reducible refine gcI ?_ | with_reducible refine gnI ?_ | with_reducible refine aNI ?_ | ((with_reducible refine ttI ?_ ?_); exact rfl) | ((with_reducible refine And.intro ?_ ?_); exact rfl) | ((with_reducible refine And.intro ?_ ?_); exact lenOk rfl) | dsimp only [En.s]))
  rw [e2]
  (repeat (first | with_reducible refine seqI ?_ | with_reducible refine setI ?_ | with_reducible refine asgI ?_ | with_reducible refine retI ?_ | with_reducible refine opI ?_ | with_reducible refine callI ?_ | with_reducible refine consI ?_ | with_reducible refine cI ?_ | with_reducible refine nilI ?_ | ((with_reducible apply varI); exact rfl) | with_reducible refine cbI ?_ | with_reducible refine ifI ?_ | with_reducible refine tstI ?_ | with_reducible refine notTI ?_ | with_reducible refine andTI ?_ | with_reducible refine orTI ?_ | with_reducible refine dropI ?_ | with_reducible refine nextI ?_ | with_reducible refine tupI ?_ | with_reducible refine lstI ?_ | with_reducible refine starI ?_ | with_reducible refine starTT ?_ | with_reducible refine andI ?_ | with_reducible refine orVI ?_ | with_reducible refine notI ?_ | with_reducible refine ifEI ?_ | with_reducible refine forI ?_ | with_reducible refine r1I ?_ | with_reducible refine ir2I ?_ | with_reducible refine iTupI ?_ | with_reducible refine truI ?_ | with_reducible refine chainI ?_ | with_reducible refine lcI ?_ | with_reducible refine slI ?_ | with_reducible refine noPI ?_ | with_reducible refine ptI ?_ | with_reducible refine unI ?_ | with_reducible refine brkI ?_ | with_reducible refine cntI ?_ | with_reducible refine retNI ?_ | with_reducible refine addII ?_ | with_reducible refine rI0 ?_ | with_reducible refine rIC ?_ ?_ | with_reducible refine mulII ?_ ?_ | with_reducible refine addTT ?_ ?_ | with_reducible refine addSS ?_ ?_ | with_reducible refine negII ?_ | with_reducible refine eqII ?_ | with_reducible refine eqSS ?_ | with_reducible refine eqBB ?_ | with_reducible refine neII ?_ | with_reducible refine neSS ?_ | with_reducible refine neBB ?_ | with_reducible refine isNN ?_ | with_reducible refine isNotNN ?_ | with_reducible refine isBB ?_ | with_reducible refine isNotBB ?_ | with_reducible refine lenTI ?_ | with_reducible refine lenFI ?_ | with_reducible refine intII ?_ | with_reducible refine intBI ?_ | with_reducible refine tupTI ?_ | with_reducible refine minII ?_ | with_reducible refine maxII ?_ | with_reducible refine slTI ?_ | with_reducible refine gcI ?_ | with_reducible refine gnI ?_ | with_reducible refine aNI ?_ | ((with_reducible refine ttI ?_ ?_); exact rfl) | ((with_reducible refine And.intro ?_ ?_); exact rfl) | ((with_reducible refine And.intro ?_ ?_); exact lenOk rfl) | dsimp only [En.s]))
  subst hX
  unfold bl_law_11
  generalize hX : bl_law_10 = X
  (repeat (first | with_reducible refine seqI ?_ | with_reducible refine setI ?_ | with_reducible refine asgI ?_ | with_reducible refine retI ?_ | with_reducible refine opI ?_ | with_reducible refine callI ?_ | with_reducible refine consI ?_ | with_reducible refine cI ?_ | with_reducible refine nilI ?_ | ((with_reducible apply varI); exact rfl) | with_reducible refine cbI ?_ | with_reducible refine ifI ?_ | with_reducible refine tstI ?_ | with_reducible refine notTI ?_ | with_reducible refine andTI ?_ | with_reducible refine orTI ?_ | with_reducible refine dropI ?_ | with_reducible refine nextI ?_ | with_reducible refine tupI ?_ | with_reducible refine lstI ?_ | with_reducible refine starI ?_ | with_reducible refine starTT ?_ | with_reducible refine andI ?_ | with_reducible refine orVI ?_ | with_reducible refine notI ?_ | with_reducible refine ifEI ?_ | with_reducible refine forI ?_ | with_reducible refine r1I ?_ | with_reducible refine ir2I ?_ | with_reducible refine iTupI ?_ | with_reducible refine truI ?_ | with_reducible refine chainI ?_ | with_reducible refine lcI ?_ | with_reducible refine slI ?_ | with_reducible refine noPI ?_ | with_reducible refine ptI ?_ | with_reducible refine unI ?_ | with_reducible refine brkI ?_ | with_reducible refine cntI ?_ | with_reducible refine retNI ?_ | with_reducible refine addII ?_ | with_reducible refine rI0 ?_ | with_reducible refine rIC ?_ ?_ | with_reducible refine mulII ?_ ?_ | with_reducible refine addTT ?_ ?_ | with_reducible refine addSS ?_ ?_ | with_reducible refine negII ?_ | with_reducible refine eqII ?_ | with_reducible refine eqSS ?_ | with_reducible refine eqBB ?_ | with_reducible refine neII ?_ | with_reducible refine neSS ?_ | with_reducible refine neBB ?_ | with_reducible refine isNN ?_ | with_reducible refine isNotNN ?_ | with_reducible refine isBB ?_ | with_reducible refine isNotBB ?_ | with_reducible refine lenTI ?_ | with_reducible refine lenFI ?_ | with_reducible refine intII ?_ | with_reducible refine intBI ?_ | with_reducible refine tupTI ?_ | with_reducible refine minII ?_ | with_reducible refine maxII ?_ | with_reducible refine slTI ?_ | with_reducible refine gcI ?_ | with_reducible refine gnI ?_ | with_reducible refine aNI ?_ | ((with_reducible refine ttI ?_ ?_); exact rfl) | ((with_reducible refine And.intro ?_ ?_); exact rfl) | ((with_reducible refine And.intro ?_ ?_); exact lenOk rfl) | dsimp only [En.s]))
  refine parII ?_
  (repeat (first | with_reducible refine seqI ?_ | with_reducible refine setI ?_ | with_reducible refine asgI ?_ | with_reducible refine retI ?_ | with_reducible refine opI ?_ | with_reducible refine callI ?_ | with_reducible refine consI ?_ | with_reducible refine cI ?_ | with_reducible refine nilI ?_ | ((with_reducible apply varI); exact rfl) | with_reducible refine cbI ?_ | with_reducible refine ifI ?_ | with_reducible refine tstI ?_ | with_reducible refine notTI ?_ | with_reducible refine andTI ?_ | with_reducible refine orTI ?_ | with_reducible refine dropI ?_ | with_reducible refine nextI ?_ | with_reducible refine tupI ?_ | with_reducible refine lstI ?_ | with_reducible refine starI ?_ | with_reducible refine starTT ?_ | with_reducible refine andI ?_ | with_reducible refine orVI ?_ | with_reducible refine notI ?_ | with_reducible refine ifEI ?_ | with_reducible refine forI ?_ | with_reducible refine r1I ?_ | with_reducible refine ir2I ?_ | with_reducible refine iTupI ?_ | with_reducible refine truI ?_ | with_reducible refine chainI ?_ | with_reducible refine lcI ?_ | with_reducible refine slI ?_ | with_reducible refine noPI ?_ | with_reducible refine ptI ?_ | with_reducible refine unI ?_ | with_reducible refine brkI ?_ | with_reducible refine cntI ?_ | with_reducible refine retNI ?_ | with_reducible refine addII ?_ | with_reducible refine rI0 ?_ | with_reducible refine rIC ?_ ?_ | with_reducible refine mulII ?_ ?_ | with_reducible refine addTT ?_ ?_ | with_reducible refine addSS ?_ ?_ | with_reducible refine negII ?_ | with_reducible refine eqII ?_ | with_reducible refine eqSS ?_ | with_reducible refine eqBB ?_ | with_reducible refine neII ?_ | with_reducible refine neSS ?_ | with_reducible refine neBB ?_ | with_reducible refine isNN ?_ | with_reducible refine isNotNN ?_ | with_reducible refine isBB ?_ | with_reducible refine isNotBB ?_ | with_reducible refine lenTI ?_ | with_reducible refine lenFI ?_ | with_reducible refine intII ?_ | with_reducible refine intBI ?_ | with_reducible refine tupTI ?_ | with_reducible refine minII ?_ | with_reducible refine maxII ?_ | with_reducible refine slTI ?_ | with_reducible refine gcI ?_ | with_reducible refine gnI ?_ | with_reducible refine aNI ?_ | ((with_reducible refine ttI ?_ ?_); exact rfl) | ((with_reducible refine And.intro ?_ ?_); exact rfl) | ((with_reducible refine And.intro ?_ ?_); exact lenOk rfl) | dsimp only [En.s]))
  refine lawBatches (pages := pages) (ring := ring) (most := 6) hr3 p1 (by omega) (by omega) (by omega) (by decide) fun bs m4 hbl hbs hr4 v4 => ?_
  have hb : BsOk pages ring bs := ⟨hbs⟩
  have hbr : ∀ b ∈ bs, b.length ≤ ring := fun b h => by have := (hbs b h).len; omega
  (repeat (first | with_reducible refine seqI ?_ | with_reducible refine setI ?_ | with_reducible refine asgI ?_ | with_reducible refine retI ?_ | with_reducible refine opI ?_ | with_reducible refine callI ?_ | with_reducible refine consI ?_ | with_reducible refine cI ?_ | with_reducible refine nilI ?_ | ((with_reducible apply varI); exact rfl) | with_reducible refine cbI ?_ | with_reducible refine ifI ?_ | with_reducible refine tstI ?_ | with_reducible refine notTI ?_ | with_reducible refine andTI ?_ | with_reducible refine orTI ?_ | with_reducible refine dropI ?_ | with_reducible refine nextI ?_ | with_reducible refine tupI ?_ | with_reducible refine lstI ?_ | with_reducible refine starI ?_ | with_reducible refine starTT ?_ | with_reducible refine andI ?_ | with_reducible refine orVI ?_ | with_reducible refine notI ?_ | with_reducible refine ifEI ?_ | with_reducible refine forI ?_ | with_reducible refine r1I ?_ | with_reducible refine ir2I ?_ | with_reducible refine iTupI ?_ | with_reducible refine truI ?_ | with_reducible refine chainI ?_ | with_reducible refine lcI ?_ | with_reducible refine slI ?_ | with_reducible refine noPI ?_ | with_reducible refine ptI ?_ | with_reducible refine unI ?_ | with_reducible refine brkI ?_ | with_reducible refine cntI ?_ | with_reducible refine retNI ?_ | with_reducible refine addII ?_ | with_reducible refine rI0 ?_ | with_reducible refine rIC ?_ ?_ | with_reducible refine mulII ?_ ?_ | with_reducible refine addTT ?_ ?_ | with_reducible refine addSS ?_ ?_ | with_reducible refine negII ?_ | with_reducible refine eqII ?_ | with_reducible refine eqSS ?_ | with_reducible refine eqBB ?_ | with_reducible refine neII ?_ | with_reducible refine neSS ?_ | with_reducible refine neBB ?_ | with_reducible refine isNN ?_ | with_reducible refine isNotNN ?_ | with_reducible refine isBB ?_ | with_reducible refine isNotBB ?_ | with_reducible refine lenTI ?_ | with_reducible refine lenFI ?_ | with_reducible refine intII ?_ | with_reducible refine intBI ?_ | with_reducible refine tupTI ?_ | with_reducible refine minII ?_ | with_reducible refine maxII ?_ | with_reducible refine slTI ?_ | with_reducible refine gcI ?_ | with_reducible refine gnI ?_ | with_reducible refine aNI ?_ | ((with_reducible refine ttI ?_ ?_); exact rfl) | ((with_reducible refine And.intro ?_ ?_); exact rfl) | ((with_reducible refine And.intro ?_ ?_); exact lenOk rfl) | dsimp only [En.s]))
  intro pg hpg'
  (repeat (first | with_reducible refine seqI ?_ | with_reducible refine setI ?_ | with_reducible refine asgI ?_ | with_reducible refine retI ?_ | with_reducible refine opI ?_ | with_reducible refine callI ?_ | with_reducible refine consI ?_ | with_reducible refine cI ?_ | with_reducible refine nilI ?_ | ((with_reducible apply varI); exact rfl) | with_reducible refine cbI ?_ | with_reducible refine ifI ?_ | with_reducible refine tstI ?_ | with_reducible refine notTI ?_ | with_reducible refine andTI ?_ | with_reducible refine orTI ?_ | with_reducible refine dropI ?_ | with_reducible refine nextI ?_ | with_reducible refine tupI ?_ | with_reducible refine lstI ?_ | with_reducible refine starI ?_ | with_reducible refine starTT ?_ | with_reducible refine andI ?_ | with_reducible refine orVI ?_ | with_reducible refine notI ?_ | with_reducible refine ifEI ?_ | with_reducible refine forI ?_ | with_reducible refine r1I ?_ | with_reducible refine ir2I ?_ | with_reducible refine iTupI ?_ | with_reducible refine truI ?_ | with_reducible refine chainI ?_ | with_reducible refine lcI ?_ | with_reducible refine slI ?_ | with_reducible refine noPI ?_ | with_reducible refine ptI ?_ | with_reducible refine unI ?_ | with_reducible refine brkI ?_ | with_reducible refine cntI ?_ | with_reducible refine retNI ?_ | with_reducible refine addII ?_ | with_reducible refine rI0 ?_ | with_reducible refine rIC ?_ ?_ | with_reducible refine mulII ?_ ?_ | with_reducible refine addTT ?_ ?_ | with_reducible refine addSS ?_ ?_ | with_reducible refine negII ?_ | with_reducible refine eqII ?_ | with_reducible refine eqSS ?_ | with_reducible refine eqBB ?_ | with_reducible refine neII ?_ | with_reducible refine neSS ?_ | with_reducible refine neBB ?_ | with_reducible refine isNN ?_ | with_reducible refine isNotNN ?_ | with_reducible refine isBB ?_ | with_reducible refine isNotBB ?_ | with_reducible refine lenTI ?_ | with_reducible refine lenFI ?_ | with_reducible refine intII ?_ | with_reducible refine intBI ?_ | with_reducible refine tupTI ?_ | with_reducible refine minII ?_ | with_reducible refine maxII ?_ | with_reducible refine slTI ?_ | with_reducible refine gcI ?_ | with_reducible refine gnI ?_ | with_reducible refine aNI ?_ | ((with_reducible refine ttI ?_ ?_); exact rfl) | ((with_reducible refine And.intro ?_ ?_); exact rfl) | ((with_reducible refine And.intro ?_ ?_); exact lenOk rfl) | dsimp only [En.s]))
  subst hX
  unfold bl_law_10
  generalize hX : bl_law_9 = X
  (repeat (first | with_reducible refine seqI ?_ | with_reducible refine setI ?_ | with_reducible refine asgI ?_ | with_reducible refine retI ?_ | with_reducible refine opI ?_ | with_reducible refine callI ?_ | with_reducible refine consI ?_ | with_reducible refine cI ?_ | with_reducible refine nilI ?_ | ((with_reducible apply varI); exact rfl) | with_reducible refine cbI ?_ | with_reducible refine ifI ?_ | with_reducible refine tstI ?_ | with_reducible refine notTI ?_ | with_reducible refine andTI ?_ | with_reducible refine orTI ?_ | with_reducible refine dropI ?_ | with_reducible refine nextI ?_ | with_reducible refine tupI ?_ | with_reducible refine lstI ?_ | with_reducible refine starI ?_ | with_reducible refine starTT ?_ | with_reducible refine andI ?_ | with_reducible refine orVI ?_ | with_reducible refine notI ?_ | with_reducible refine ifEI ?_ | with_reducible refine forI ?_ | with_reducible refine r1I ?_ | with_reducible refine ir2I ?_ | with_reducible refine iTupI ?_ | with_reducible refine truI ?_ | with_reducible refine chainI ?_ | with_reducible refine lcI ?_ | with_reducible refine slI ?_ | with_reducible refine noPI ?_ | with_reducible refine ptI ?_ | with_reducible refine unI ?_ | with_reducible refine brkI ?_ | with_reducible refine cntI ?_ | with_reducible refine retNI ?_ | with_reducible refine addII ?_ | with_reducible refine rI0 ?_ | with_reducible refine rIC ?_ ?_ | with_reducible refine mulII ?_ ?_ | with_reducible refine addTT ?_ ?_ | with_reducible refine addSS ?_ ?_ | with_reducible refine negII ?_ | with_reducible refine eqII ?_ | with_reducible refine eqSS ?_ | with_reducible refine eqBB ?_ | with_reducible refine neII ?_ | with_reducible refine neSS ?_ | with_reducible refine neBB ?_ | with_reducible refine isNN ?_ | with_reducible refine isNotNN ?_ | with_reducible refine isBB ?_ | with_reducible refine isNotBB ?_ | with_reducible refine lenTI ?_ | with_reducible refine lenFI ?_ | with_reducible refine intII ?_ | with_reducible refine intBI ?_ | with_reducible refine tupTI ?_ | with_reducible refine minII ?_ | with_reducible refine maxII ?_ | with_reducible refine slTI ?_ | with_reducible refine gcI ?_ | with_reducible refine gnI ?_ | with_reducible refine aNI ?_ | ((with_reducible refine ttI ?_ ?_); exact rfl) | ((with_reducible refine And.intro ?_ ?_); exact rfl) | ((with_reducible refine And.intro ?_ ?_); exact lenOk rfl) | dsimp only [En.s]))
  refine iLstN ?_
  (repeat (first | with_reducible refine seqI ?_ | with_reducible refine setI ?_ | with_reducible refine asgI ?_ | with_reducible refine retI ?_ | with_reducible refine opI ?_ | with_reducible refine callI ?_ | with_reducible refine consI ?_ | with_reducible refine cI ?_ | with_reducible refine nilI ?_ | ((with_reducible apply varI); exact rfl) | with_reducible refine cbI ?_ | with_reducible refine ifI ?_ | with_reducible refine tstI ?_ | with_reducible refine notTI ?_ | with_reducible refine andTI ?_ | with_reducible refine orTI ?_ | with_reducible refine dropI ?_ | with_reducible refine nextI ?_ | with_reducible refine tupI ?_ | with_reducible refine lstI ?_ | with_reducible refine starI ?_ | with_reducible refine starTT ?_ | with_reducible refine andI ?_ | with_reducible refine orVI ?_ | with_reducible refine notI ?_ | with_reducible refine ifEI ?_ | with_reducible refine forI ?_ | with_reducible refine r1I ?_ | with_reducible refine ir2I ?_ | with_reducible refine iTupI ?_ | with_reducible refine truI ?_ | with_reducible refine chainI ?_ | with_reducible refine lcI ?_ | with_reducible refine slI ?_ | with_reducible refine noPI ?_ | with_reducible refine ptI ?_ | with_reducible refine unI ?_ | with_reducible refine brkI ?_ | with_reducible refine cntI ?_ | with_reducible refine retNI ?_ | with_reducible refine addII ?_ | with_reducible refine rI0 ?_ | with_reducible refine rIC ?_ ?_ | with_reducible refine mulII ?_ ?_ | with_reducible refine addTT ?_ ?_ | with_reducible refine addSS ?_ ?_ | with_reducible refine negII ?_ | with_reducible refine eqII ?_ | with_reducible refine eqSS ?_ | with_reducible refine eqBB ?_ | with_reducible refine neII ?_ | with_reducible refine neSS ?_ | with_reducible refine neBB ?_ | with_reducible refine isNN ?_ | with_reducible refine isNotNN ?_ | with_reducible refine isBB ?_ | with_reducible refine isNotBB ?_ | with_reducible refine lenTI ?_ | with_reducible refine lenFI ?_ | with_reducible refine intII ?_ | with_reducible refine intBI ?_ | with_reducible refine tupTI ?_ | with_reducible refine minII ?_ | with_reducible refine maxII ?_ | with_reducible refine slTI ?_ | with_reducible refine gcI ?_ | with_reducible refine gnI ?_ | with_reducible refine aNI ?_ | ((with_reducible refine ttI ?_ ?_); exact rfl) | ((with_reducible refine And.intro ?_ ?_); exact rfl) | ((with_reducible refine And.intro ?_ ?_); exact lenOk rfl) | dsimp only [En.s]))
  rw [List.length_map]
  refine lawWays hbl fun pw m5 s5 hw => ?_
  have hg5 : m5 pg = some (.lst []) := s5 _ _ mset_same
  have hwg : pw ≠ pg := fun z => by
    rw [z, hg5] at hw
    injection hw with hw
    injection hw with hw
    have := ways_len bs.length
    rw [← List.length_map (f := spD), ← hw] at this
    have p : 0 < 2 ^ bs.length := Nat.pow_pos (by decide)
    simp at this
    omega
  show (match m5 pw with | some (.lst ds) => _ | _ => False)
  rw [hw]
  refine lawLoop (pages := pages) (ring := ring) (m0 := m5) hbl hwg (ways bs.length) (fun S hS => by have := (ways_in _ hS).2.2; omega) (ways bs.length) [] m5 none none (fun _ _ _ h => h) hg5 hw (fun S h => h) (by
    rw [ways_len]
    have : 2 ^ bs.length ≤ 2 ^ 6 := Nat.pow_le_pow_right (by decide) (by omega)
    simp; omega) fun m6 y5 y6 ev6 hg6 => ?_
  rw [List.nil_append] at hg6
  subst hX
  unfold bl_law_9
  generalize hX : bl_law_8 = X
  (repeat (first | with_reducible refine seqI ?_ | with_reducible refine setI ?_ | with_reducible refine asgI ?_ | with_reducible refine retI ?_ | with_reducible refine opI ?_ | with_reducible refine callI ?_ | with_reducible refine consI ?_ | with_reducible refine cI ?_ | with_reducible refine nilI ?_ | ((with_reducible apply varI); exact rfl) | with_reducible refine cbI ?_ | with_reducible refine ifI ?_ | with_reducible refine tstI ?_ | with_reducible refine notTI ?_ | with_reducible refine andTI ?_ | with_reducible refine orTI ?_ | with_reducible refine dropI ?_ | with_reducible refine nextI ?_ | with_reducible refine tupI ?_ | with_reducible refine lstI ?_ | with_reducible refine starI ?_ | with_reducible refine starTT ?_ | with_reducible refine andI ?_ | with_reducible refine orVI ?_ | with_reducible refine notI ?_ | with_reducible refine ifEI ?_ | with_reducible refine forI ?_ | with_reducible refine r1I ?_ | with_reducible refine ir2I ?_ | with_reducible refine iTupI ?_ | with_reducible refine truI ?_ | with_reducible refine chainI ?_ | with_reducible refine lcI ?_ | with_reducible refine slI ?_ | with_reducible refine noPI ?_ | with_reducible refine ptI ?_ | with_reducible refine unI ?_ | with_reducible refine brkI ?_ | with_reducible refine cntI ?_ | with_reducible refine retNI ?_ | with_reducible refine addII ?_ | with_reducible refine rI0 ?_ | with_reducible refine rIC ?_ ?_ | with_reducible refine mulII ?_ ?_ | with_reducible refine addTT ?_ ?_ | with_reducible refine addSS ?_ ?_ | with_reducible refine negII ?_ | with_reducible refine eqII ?_ | with_reducible refine eqSS ?_ | with_reducible refine eqBB ?_ | with_reducible refine neII ?_ | with_reducible refine neSS ?_ | with_reducible refine neBB ?_ | with_reducible refine isNN ?_ | with_reducible refine isNotNN ?_ | with_reducible refine isBB ?_ | with_reducible refine isNotBB ?_ | with_reducible refine lenTI ?_ | with_reducible refine lenFI ?_ | with_reducible refine intII ?_ | with_reducible refine intBI ?_ | with_reducible refine tupTI ?_ | with_reducible refine minII ?_ | with_reducible refine maxII ?_ | with_reducible refine slTI ?_ | with_reducible refine gcI ?_ | with_reducible refine gnI ?_ | with_reducible refine aNI ?_ | ((with_reducible refine ttI ?_ ?_); exact rfl) | ((with_reducible refine And.intro ?_ ?_); exact rfl) | ((with_reducible refine And.intro ?_ ?_); exact lenOk rfl) | dsimp only [En.s]))
  refine fewest p1 (by omega) g1 (by omega) hb (by omega) fun m7 s7 => ?_
  have hg7 := s7 _ _ hg6
  subst hX
  unfold bl_law_8
  generalize hX : bl_law_7 = X
  (repeat (first | with_reducible refine seqI ?_ | with_reducible refine setI ?_ | with_reducible refine asgI ?_ | with_reducible refine retI ?_ | with_reducible refine opI ?_ | with_reducible refine callI ?_ | with_reducible refine consI ?_ | with_reducible refine cI ?_ | with_reducible refine nilI ?_ | ((with_reducible apply varI); exact rfl) | with_reducible refine cbI ?_ | with_reducible refine ifI ?_ | with_reducible refine tstI ?_ | with_reducible refine notTI ?_ | with_reducible refine andTI ?_ | with_reducible refine orTI ?_ | with_reducible refine dropI ?_ | with_reducible refine nextI ?_ | with_reducible refine tupI ?_ | with_reducible refine lstI ?_ | with_reducible refine starI ?_ | with_reducible refine starTT ?_ | with_reducible refine andI ?_ | with_reducible refine orVI ?_ | with_reducible refine notI ?_ | with_reducible refine ifEI ?_ | with_reducible refine forI ?_ | with_reducible refine r1I ?_ | with_reducible refine ir2I ?_ | with_reducible refine iTupI ?_ | with_reducible refine truI ?_ | with_reducible refine chainI ?_ | with_reducible refine lcI ?_ | with_reducible refine slI ?_ | with_reducible refine noPI ?_ | with_reducible refine ptI ?_ | with_reducible refine unI ?_ | with_reducible refine brkI ?_ | with_reducible refine cntI ?_ | with_reducible refine retNI ?_ | with_reducible refine addII ?_ | with_reducible refine rI0 ?_ | with_reducible refine rIC ?_ ?_ | with_reducible refine mulII ?_ ?_ | with_reducible refine addTT ?_ ?_ | with_reducible refine addSS ?_ ?_ | with_reducible refine negII ?_ | with_reducible refine eqII ?_ | with_reducible refine eqSS ?_ | with_reducible refine eqBB ?_ | with_reducible refine neII ?_ | with_reducible refine neSS ?_ | with_reducible refine neBB ?_ | with_reducible refine isNN ?_ | with_reducible refine isNotNN ?_ | with_reducible refine isBB ?_ | with_reducible refine isNotBB ?_ | with_reducible refine lenTI ?_ | with_reducible refine lenFI ?_ | with_reducible refine intII ?_ | with_reducible refine intBI ?_ | with_reducible refine tupTI ?_ | with_reducible refine minII ?_ | with_reducible refine maxII ?_ | with_reducible refine slTI ?_ | with_reducible refine gcI ?_ | with_reducible refine gnI ?_ | with_reducible refine aNI ?_ | ((with_reducible refine ttI ?_ ?_); exact rfl) | ((with_reducible refine And.intro ?_ ?_); exact rfl) | ((with_reducible refine And.intro ?_ ?_); exact lenOk rfl) | dsimp only [En.s]))
  obtain ⟨G, hG⟩ : ∃ G, G = gr ring 0 0 (szs bs) := ⟨_, rfl⟩
  have hszb : ∀ b ∈ szs bs, b ≤ ring := fun b h => by
    obtain ⟨c, hc, rfl⟩ := List.mem_map.mp h
    exact hbr c hc
  have gAsc : Asc G := by rw [hG]; exact gr_asc ring (szs bs) 0 0
  have gPos := gr_pos hbr
  rw [← hG] at gPos ⊢
  have gW : G ∈ ways bs.length := in_ways _ gAsc gPos
  have gFit : fitS ring bs G = true := by unfold fitS; rw [hG]; exact gr_fit ring (szs bs) 0 0 hszb
  have gMem : G ∈ (ways bs.length).filter (fitS ring bs) := List.mem_filter.mpr ⟨gW, gFit⟩
  have gEnd : endD G bs = [] := by
    unfold endD
    rw [if_neg]
    rintro ⟨z, _⟩
    have h3 := gr_ge ring (szs bs) 0 0 bs.length (by rw [← hG]; simpa using z)
    have e2 : (szs bs).length = bs.length := by unfold szs; rw [List.length_map]
    rw [e2] at h3
    omega
  obtain ⟨dsG, hdsG, hpyG⟩ := py_it bs G
  obtain ⟨ps, hps, _, hdep⟩ := pys_of (n := 7) (ds := ((ways bs.length).filter (fitS ring bs)).map (itD bs)) fun d hd => by
    obtain ⟨S, _, rfl⟩ := List.mem_map.mp hd
    exact py_of (okN_Q (okIt bs S))
  have each : ∀ y ∈ ps, ∃ S ds, S ∈ (ways bs.length).filter (fitS ring bs) ∧ D.pys (dsD S bs) = some ds ∧ y = itP S ds := by
    intro y hy
    obtain ⟨i, hi, e⟩ := List.getElem_of_mem hy
    have hl := pys_len hps
    have hlt : i < (((ways bs.length).filter (fitS ring bs)).map (itD bs)).length := by omega
    obtain ⟨p, hp, hpx⟩ := pys_get hps (List.getElem?_eq_getElem hlt)
    have ep : p = y := by rw [List.getElem?_eq_getElem hi, e] at hpx; cases hpx; rfl
    subst ep
    obtain ⟨S, hS, eS⟩ := List.mem_map.mp (List.getElem_mem hlt)
    obtain ⟨ds, hds, hpy⟩ := py_it bs S
    rw [← eS, hpy] at hp
    cases hp
    exact ⟨S, ds, hS, hds, rfl⟩
  have gIn : itP G dsG ∈ ps := by
    obtain ⟨i, hi, e⟩ := List.getElem_of_mem gMem
    have hlt : i < (((ways bs.length).filter (fitS ring bs)).map (itD bs)).length := by rw [List.length_map]; exact hi
    obtain ⟨p, hp, hpx⟩ := pys_get hps (List.getElem?_eq_getElem hlt)
    rw [List.getElem_map, e, hpyG] at hp
    cases hp
    exact List.mem_of_getElem? hpx
  have dom : ∀ S ∈ (ways bs.length).filter (fitS ring bs), Dom G S := fun S hS => by
    obtain ⟨hS1, hS2⟩ := List.mem_filter.mp hS
    have := (dom_both ring (ways_in _ hS1).1 (szs bs) 0 0 0 hszb hS2).1 (Nat.le_refl _)
    have e : suf 0 S = S := List.filter_eq_self.mpr fun j _ => by simp
    rw [e, ← hG] at this
    exact this
  cases hpp : ps with
  | nil => rw [hpp] at gIn; cases gIn
  | cons p0 pr =>
    rw [hpp] at hps each gIn hdep
    have hmin : PySem.W.minD p0 pr = itP G dsG := by
      refine minD_is pr p0 (fun y hy => ?_) (fun y hy hne => ?_) gIn
      · obtain ⟨S, ds, hS, hds, rfl⟩ := each y hy
        by_cases e : G = S
        · subst e
          rw [hdsG] at hds; cases hds
          exact PySem.W.dataLt_self _
        · exact (it_lt (dom S hS) e).2
      · obtain ⟨S, ds, hS, hds, rfl⟩ := each y hy
        by_cases e : G = S
        · subst e
          rw [hdsG] at hds; cases hds
          exact absurd rfl hne
        · exact (it_lt (dom S hS) e).1
    refine ⟨_, p0, pr, l_of hg7, hps, ⟨fun x hx y hy => ?_, fun x hx => ?_⟩, by omega, fun d hd hpy => ?_⟩
    · obtain ⟨S, ds, _, h1, rfl⟩ := each x hx
      obtain ⟨T, es, _, h2, rfl⟩ := each y hy
      exact al_it h1 h2
    · obtain ⟨S, ds, _, h1, rfl⟩ := each x hx
      intro z; cases z
    · obtain ⟨S, hS, rfl⟩ := List.mem_map.mp hd
      obtain ⟨ds, hds, hpyS⟩ := py_it bs S
      rw [hmin, hpyS] at hpy
      have eS : S = G := by
        unfold itP at hpy
        injection hpy with hpy
        injection hpy with hpy
        injection hpy with _ hpy
        injection hpy with hpy _
        injection hpy with hpy
        have inj : ∀ {a b : List Int}, a.map PyData.int = b.map PyData.int → a = b := by
          intro a
          induction a with
          | nil => intro b h; cases b with
            | nil => rfl
            | cons _ _ => simp at h
          | cons x a ih => intro b h; cases b with
            | nil => simp at h
            | cons y b =>
              rw [List.map_cons, List.map_cons] at h
              injection h with h1 h2
              injection h1 with h1
              rw [h1, ih h2]
        exact neg_inj (inj hpy)
      subst eS
      clear hpy hpyS hds
      unfold itD dsD
      rw [gEnd, List.append_nil]
      have hcb : cntc (fun j => S.contains j) 0 bs = S.length := by rw [hG]; exact cntc_gr ring bs 0 0
      have hdl := dl_len (fun j => S.contains j) bs 0
      have hok : ∀ d ∈ dl (fun j => S.contains j) 0 bs, okN 4 d := okDl _ bs 0
      obtain ⟨T, hT⟩ : ∃ T, T = dl (fun j => S.contains j) 0 bs := ⟨_, rfl⟩
      rw [← hT] at hdl hok ⊢
      subst hX
      unfold bl_law_7
      generalize hX : bl_law_6 = X
      (repeat (first | with_reducible refine seqI ?_ | with_reducible refine setI ?_ | with_reducible refine asgI ?_ | with_reducible refine retI ?_ | with_reducible refine opI ?_ | with_reducible refine callI ?_ | with_reducible refine consI ?_ | with_reducible refine cI ?_ | with_reducible refine nilI ?_ | ((with_reducible apply varI); exact rfl) | with_reducible refine cbI ?_ | with_reducible refine ifI ?_ | with_reducible refine tstI ?_ | with_reducible refine notTI ?_ | with_reducible refine andTI ?_ | with_reducible refine orTI ?_ | with_reducible refine dropI ?_ | with_reducible refine nextI ?_ | with_reducible refine tupI ?_ | with_reducible refine lstI ?_ | with_reducible refine starI ?_ | with_reducible refine starTT ?_ | with_reducible refine andI ?_ | with_reducible refine orVI ?_ | with_reducible refine notI ?_ | with_reducible refine ifEI ?_ | with_reducible refine forI ?_ | with_reducible refine r1I ?_ | with_reducible refine ir2I ?_ | with_reducible refine iTupI ?_ | with_reducible refine truI ?_ | with_reducible refine chainI ?_ | with_reducible refine lcI ?_ | with_reducible refine slI ?_ | with_reducible refine noPI ?_ | with_reducible refine ptI ?_ | with_reducible refine unI ?_ | with_reducible refine brkI ?_ | with_reducible refine cntI ?_ | with_reducible refine retNI ?_ | with_reducible refine addII ?_ | with_reducible refine rI0 ?_ | with_reducible refine rIC ?_ ?_ | with_reducible refine mulII ?_ ?_ | with_reducible refine addTT ?_ ?_ | with_reducible refine addSS ?_ ?_ | with_reducible refine negII ?_ | with_reducible refine eqII ?_ | with_reducible refine eqSS ?_ | with_reducible refine eqBB ?_ | with_reducible refine neII ?_ | with_reducible refine neSS ?_ | with_reducible refine neBB ?_ | with_reducible refine isNN ?_ | with_reducible refine isNotNN ?_ | with_reducible refine isBB ?_ | with_reducible refine isNotBB ?_ | with_reducible refine lenTI ?_ | with_reducible refine lenFI ?_ | with_reducible refine intII ?_ | with_reducible refine intBI ?_ | with_reducible refine tupTI ?_ | with_reducible refine minII ?_ | with_reducible refine maxII ?_ | with_reducible refine slTI ?_ | with_reducible refine gcI ?_ | with_reducible refine gnI ?_ | with_reducible refine aNI ?_ | ((with_reducible refine ttI ?_ ?_); exact rfl) | ((with_reducible refine And.intro ?_ ?_); exact rfl) | ((with_reducible refine And.intro ?_ ?_); exact lenOk rfl) | dsimp only [En.s]))
      refine ixTI (d := .tup T) rfl ?_
      (repeat (first | with_reducible refine seqI ?_ | with_reducible refine setI ?_ | with_reducible refine asgI ?_ | with_reducible refine retI ?_ | with_reducible refine opI ?_ | with_reducible refine callI ?_ | with_reducible refine consI ?_ | with_reducible refine cI ?_ | with_reducible refine nilI ?_ | ((with_reducible apply varI); exact rfl) | with_reducible refine cbI ?_ | with_reducible refine ifI ?_ | with_reducible refine tstI ?_ | with_reducible refine notTI ?_ | with_reducible refine andTI ?_ | with_reducible refine orTI ?_ | with_reducible refine dropI ?_ | with_reducible refine nextI ?_ | with_reducible refine tupI ?_ | with_reducible refine lstI ?_ | with_reducible refine starI ?_ | with_reducible refine starTT ?_ | with_reducible refine andI ?_ | with_reducible refine orVI ?_ | with_reducible refine notI ?_ | with_reducible refine ifEI ?_ | with_reducible refine forI ?_ | with_reducible refine r1I ?_ | with_reducible refine ir2I ?_ | with_reducible refine iTupI ?_ | with_reducible refine truI ?_ | with_reducible refine chainI ?_ | with_reducible refine lcI ?_ | with_reducible refine slI ?_ | with_reducible refine noPI ?_ | with_reducible refine ptI ?_ | with_reducible refine unI ?_ | with_reducible refine brkI ?_ | with_reducible refine cntI ?_ | with_reducible refine retNI ?_ | with_reducible refine addII ?_ | with_reducible refine rI0 ?_ | with_reducible refine rIC ?_ ?_ | with_reducible refine mulII ?_ ?_ | with_reducible refine addTT ?_ ?_ | with_reducible refine addSS ?_ ?_ | with_reducible refine negII ?_ | with_reducible refine eqII ?_ | with_reducible refine eqSS ?_ | with_reducible refine eqBB ?_ | with_reducible refine neII ?_ | with_reducible refine neSS ?_ | with_reducible refine neBB ?_ | with_reducible refine isNN ?_ | with_reducible refine isNotNN ?_ | with_reducible refine isBB ?_ | with_reducible refine isNotBB ?_ | with_reducible refine lenTI ?_ | with_reducible refine lenFI ?_ | with_reducible refine intII ?_ | with_reducible refine intBI ?_ | with_reducible refine tupTI ?_ | with_reducible refine minII ?_ | with_reducible refine maxII ?_ | with_reducible refine slTI ?_ | with_reducible refine gcI ?_ | with_reducible refine gnI ?_ | with_reducible refine aNI ?_ | ((with_reducible refine ttI ?_ ?_); exact rfl) | ((with_reducible refine And.intro ?_ ?_); exact rfl) | ((with_reducible refine And.intro ?_ ?_); exact lenOk rfl) | dsimp only [En.s]))
      refine alike 6 (okTs (by omega) hb (by omega) (fun d hd => by rw [hT] at hd; exact dl_eachB hd)) ?_
      refine bl_f rfl ?_
      (repeat (first | with_reducible refine seqI ?_ | with_reducible refine setI ?_ | with_reducible refine asgI ?_ | with_reducible refine retI ?_ | with_reducible refine opI ?_ | with_reducible refine callI ?_ | with_reducible refine consI ?_ | with_reducible refine cI ?_ | with_reducible refine nilI ?_ | ((with_reducible apply varI); exact rfl) | with_reducible refine cbI ?_ | with_reducible refine ifI ?_ | with_reducible refine tstI ?_ | with_reducible refine notTI ?_ | with_reducible refine andTI ?_ | with_reducible refine orTI ?_ | with_reducible refine dropI ?_ | with_reducible refine nextI ?_ | with_reducible refine tupI ?_ | with_reducible refine lstI ?_ | with_reducible refine starI ?_ | with_reducible refine starTT ?_ | with_reducible refine andI ?_ | with_reducible refine orVI ?_ | with_reducible refine notI ?_ | with_reducible refine ifEI ?_ | with_reducible refine forI ?_ | with_reducible refine r1I ?_ | with_reducible refine ir2I ?_ | with_reducible refine iTupI ?_ | with_reducible refine truI ?_ | with_reducible refine chainI ?_ | with_reducible refine lcI ?_ | with_reducible refine slI ?_ | with_reducible refine noPI ?_ | with_reducible refine ptI ?_ | with_reducible refine unI ?_ | with_reducible refine brkI ?_ | with_reducible refine cntI ?_ | with_reducible refine retNI ?_ | with_reducible refine addII ?_ | with_reducible refine rI0 ?_ | with_reducible refine rIC ?_ ?_ | with_reducible refine mulII ?_ ?_ | with_reducible refine addTT ?_ ?_ | with_reducible refine addSS ?_ ?_ | with_reducible refine negII ?_ | with_reducible refine eqII ?_ | with_reducible refine eqSS ?_ | with_reducible refine eqBB ?_ | with_reducible refine neII ?_ | with_reducible refine neSS ?_ | with_reducible refine neBB ?_ | with_reducible refine isNN ?_ | with_reducible refine isNotNN ?_ | with_reducible refine isBB ?_ | with_reducible refine isNotBB ?_ | with_reducible refine lenTI ?_ | with_reducible refine lenFI ?_ | with_reducible refine intII ?_ | with_reducible refine intBI ?_ | with_reducible refine tupTI ?_ | with_reducible refine minII ?_ | with_reducible refine maxII ?_ | with_reducible refine slTI ?_ | with_reducible refine gcI ?_ | with_reducible refine gnI ?_ | with_reducible refine aNI ?_ | ((with_reducible refine ttI ?_ ?_); exact rfl) | ((with_reducible refine And.intro ?_ ?_); exact rfl) | ((with_reducible refine And.intro ?_ ?_); exact lenOk rfl) | dsimp only [En.s]))
      subst hX
      unfold bl_law_6
      generalize hX : bl_law_5 = X
      (repeat (first | with_reducible refine seqI ?_ | with_reducible refine setI ?_ | with_reducible refine asgI ?_ | with_reducible refine retI ?_ | with_reducible refine opI ?_ | with_reducible refine callI ?_ | with_reducible refine consI ?_ | with_reducible refine cI ?_ | with_reducible refine nilI ?_ | ((with_reducible apply varI); exact rfl) | with_reducible refine cbI ?_ | with_reducible refine ifI ?_ | with_reducible refine tstI ?_ | with_reducible refine notTI ?_ | with_reducible refine andTI ?_ | with_reducible refine orTI ?_ | with_reducible refine dropI ?_ | with_reducible refine nextI ?_ | with_reducible refine tupI ?_ | with_reducible refine lstI ?_ | with_reducible refine starI ?_ | with_reducible refine starTT ?_ | with_reducible refine andI ?_ | with_reducible refine orVI ?_ | with_reducible refine notI ?_ | with_reducible refine ifEI ?_ | with_reducible refine forI ?_ | with_reducible refine r1I ?_ | with_reducible refine ir2I ?_ | with_reducible refine iTupI ?_ | with_reducible refine truI ?_ | with_reducible refine chainI ?_ | with_reducible refine lcI ?_ | with_reducible refine slI ?_ | with_reducible refine noPI ?_ | with_reducible refine ptI ?_ | with_reducible refine unI ?_ | with_reducible refine brkI ?_ | with_reducible refine cntI ?_ | with_reducible refine retNI ?_ | with_reducible refine addII ?_ | with_reducible refine rI0 ?_ | with_reducible refine rIC ?_ ?_ | with_reducible refine mulII ?_ ?_ | with_reducible refine addTT ?_ ?_ | with_reducible refine addSS ?_ ?_ | with_reducible refine negII ?_ | with_reducible refine eqII ?_ | with_reducible refine eqSS ?_ | with_reducible refine eqBB ?_ | with_reducible refine neII ?_ | with_reducible refine neSS ?_ | with_reducible refine neBB ?_ | with_reducible refine isNN ?_ | with_reducible refine isNotNN ?_ | with_reducible refine isBB ?_ | with_reducible refine isNotBB ?_ | with_reducible refine lenTI ?_ | with_reducible refine lenFI ?_ | with_reducible refine intII ?_ | with_reducible refine intBI ?_ | with_reducible refine tupTI ?_ | with_reducible refine minII ?_ | with_reducible refine maxII ?_ | with_reducible refine slTI ?_ | with_reducible refine gcI ?_ | with_reducible refine gnI ?_ | with_reducible refine aNI ?_ | ((with_reducible refine ttI ?_ ?_); exact rfl) | ((with_reducible refine And.intro ?_ ?_); exact rfl) | ((with_reducible refine And.intro ?_ ?_); exact lenOk rfl) | dsimp only [En.s]))
      intro q1 hq1
      refine lc_as (Ps := fun x => x ≠ ckD) (Pd := fun x y => x = ckD) hq1 (fun _ _ => trivial) (fun x hx m8 S' Q' s8 qs qk => ?_) (fun l8 m8 hf8 hs8 hm8 => ?_) (by omega)
      · (repeat (first | with_reducible refine seqI ?_ | with_reducible refine setI ?_ | with_reducible refine asgI ?_ | with_reducible refine retI ?_ | with_reducible refine opI ?_ | with_reducible refine callI ?_ | with_reducible refine consI ?_ | with_reducible refine cI ?_ | with_reducible refine nilI ?_ | ((with_reducible apply varI); exact rfl) | with_reducible refine cbI ?_ | with_reducible refine ifI ?_ | with_reducible refine tstI ?_ | with_reducible refine notTI ?_ | with_reducible refine andTI ?_ | with_reducible refine orTI ?_ | with_reducible refine dropI ?_ | with_reducible refine nextI ?_ | with_reducible refine tupI ?_ | with_reducible refine lstI ?_ | with_reducible refine starI ?_ | with_reducible refine starTT ?_ | with_reducible refine andI ?_ | with_reducible refine orVI ?_ | with_reducible refine notI ?_ | with_reducible refine ifEI ?_ | with_reducible refine forI ?_ | with_reducible refine r1I ?_ | with_reducible refine ir2I ?_ | with_reducible refine iTupI ?_ | with_reducible refine truI ?_ | with_reducible refine chainI ?_ | with_reducible refine lcI ?_ | with_reducible refine slI ?_ | with_reducible refine noPI ?_ | with_reducible refine ptI ?_ | with_reducible refine unI ?_ | with_reducible refine brkI ?_ | with_reducible refine cntI ?_ | with_reducible refine retNI ?_ | with_reducible refine addII ?_ | with_reducible refine rI0 ?_ | with_reducible refine rIC ?_ ?_ | with_reducible refine mulII ?_ ?_ | with_reducible refine addTT ?_ ?_ | with_reducible refine addSS ?_ ?_ | with_reducible refine negII ?_ | with_reducible refine eqII ?_ | with_reducible refine eqSS ?_ | with_reducible refine eqBB ?_ | with_reducible refine neII ?_ | with_reducible refine neSS ?_ | with_reducible refine neBB ?_ | with_reducible refine isNN ?_ | with_reducible refine isNotNN ?_ | with_reducible refine isBB ?_ | with_reducible refine isNotBB ?_ | with_reducible refine lenTI ?_ | with_reducible refine lenFI ?_ | with_reducible refine intII ?_ | with_reducible refine intBI ?_ | with_reducible refine tupTI ?_ | with_reducible refine minII ?_ | with_reducible refine maxII ?_ | with_reducible refine slTI ?_ | with_reducible refine gcI ?_ | with_reducible refine gnI ?_ | with_reducible refine aNI ?_ | ((with_reducible refine ttI ?_ ?_); exact rfl) | ((with_reducible refine And.intro ?_ ?_); exact rfl) | ((with_reducible refine And.intro ?_ ?_); exact lenOk rfl) | dsimp only [En.s]))
        rcases dl_each (by rw [hT] at hx; exact hx) with e | ⟨b, e⟩
        · subst e
          refine eqSelf (n := 4) (okN_Q okC) (by decide) ?_
          refine bl_t rfl ?_
          (repeat (first | with_reducible refine seqI ?_ | with_reducible refine setI ?_ | with_reducible refine asgI ?_ | with_reducible refine retI ?_ | with_reducible refine opI ?_ | with_reducible refine callI ?_ | with_reducible refine consI ?_ | with_reducible refine cI ?_ | with_reducible refine nilI ?_ | ((with_reducible apply varI); exact rfl) | with_reducible refine cbI ?_ | with_reducible refine ifI ?_ | with_reducible refine tstI ?_ | with_reducible refine notTI ?_ | with_reducible refine andTI ?_ | with_reducible refine orTI ?_ | with_reducible refine dropI ?_ | with_reducible refine nextI ?_ | with_reducible refine tupI ?_ | with_reducible refine lstI ?_ | with_reducible refine starI ?_ | with_reducible refine starTT ?_ | with_reducible refine andI ?_ | with_reducible refine orVI ?_ | with_reducible refine notI ?_ | with_reducible refine ifEI ?_ | with_reducible refine forI ?_ | with_reducible refine r1I ?_ | with_reducible refine ir2I ?_ | with_reducible refine iTupI ?_ | with_reducible refine truI ?_ | with_reducible refine chainI ?_ | with_reducible refine lcI ?_ | with_reducible refine slI ?_ | with_reducible refine noPI ?_ | with_reducible refine ptI ?_ | with_reducible refine unI ?_ | with_reducible refine brkI ?_ | with_reducible refine cntI ?_ | with_reducible refine retNI ?_ | with_reducible refine addII ?_ | with_reducible refine rI0 ?_ | with_reducible refine rIC ?_ ?_ | with_reducible refine mulII ?_ ?_ | with_reducible refine addTT ?_ ?_ | with_reducible refine addSS ?_ ?_ | with_reducible refine negII ?_ | with_reducible refine eqII ?_ | with_reducible refine eqSS ?_ | with_reducible refine eqBB ?_ | with_reducible refine neII ?_ | with_reducible refine neSS ?_ | with_reducible refine neBB ?_ | with_reducible refine isNN ?_ | with_reducible refine isNotNN ?_ | with_reducible refine isBB ?_ | with_reducible refine isNotBB ?_ | with_reducible refine lenTI ?_ | with_reducible refine lenFI ?_ | with_reducible refine intII ?_ | with_reducible refine intBI ?_ | with_reducible refine tupTI ?_ | with_reducible refine minII ?_ | with_reducible refine maxII ?_ | with_reducible refine slTI ?_ | with_reducible refine gcI ?_ | with_reducible refine gnI ?_ | with_reducible refine aNI ?_ | ((with_reducible refine ttI ?_ ?_); exact rfl) | ((with_reducible refine And.intro ?_ ?_); exact rfl) | ((with_reducible refine And.intro ?_ ?_); exact lenOk rfl) | dsimp only [En.s]))
          exact qk _ _ rfl (Ab.Sub.refl _)
        · subst e
          refine eqOther (n := 4) (okW b) okC (fun z => wr_ck b (congrArg D.tup z)) (by decide) ?_
          refine bl_f rfl ?_
          exact qs _ (wr_ck b) (Ab.Sub.refl _)
      · (repeat (first | with_reducible refine seqI ?_ | with_reducible refine setI ?_ | with_reducible refine asgI ?_ | with_reducible refine retI ?_ | with_reducible refine opI ?_ | with_reducible refine callI ?_ | with_reducible refine consI ?_ | with_reducible refine cI ?_ | with_reducible refine nilI ?_ | ((with_reducible apply varI); exact rfl) | with_reducible refine cbI ?_ | with_reducible refine ifI ?_ | with_reducible refine tstI ?_ | with_reducible refine notTI ?_ | with_reducible refine andTI ?_ | with_reducible refine orTI ?_ | with_reducible refine dropI ?_ | with_reducible refine nextI ?_ | with_reducible refine tupI ?_ | with_reducible refine lstI ?_ | with_reducible refine starI ?_ | with_reducible refine starTT ?_ | with_reducible refine andI ?_ | with_reducible refine orVI ?_ | with_reducible refine notI ?_ | with_reducible refine ifEI ?_ | with_reducible refine forI ?_ | with_reducible refine r1I ?_ | with_reducible refine ir2I ?_ | with_reducible refine iTupI ?_ | with_reducible refine truI ?_ | with_reducible refine chainI ?_ | with_reducible refine lcI ?_ | with_reducible refine slI ?_ | with_reducible refine noPI ?_ | with_reducible refine ptI ?_ | with_reducible refine unI ?_ | with_reducible refine brkI ?_ | with_reducible refine cntI ?_ | with_reducible refine retNI ?_ | with_reducible refine addII ?_ | with_reducible refine rI0 ?_ | with_reducible refine rIC ?_ ?_ | with_reducible refine mulII ?_ ?_ | with_reducible refine addTT ?_ ?_ | with_reducible refine addSS ?_ ?_ | with_reducible refine negII ?_ | with_reducible refine eqII ?_ | with_reducible refine eqSS ?_ | with_reducible refine eqBB ?_ | with_reducible refine neII ?_ | with_reducible refine neSS ?_ | with_reducible refine neBB ?_ | with_reducible refine isNN ?_ | with_reducible refine isNotNN ?_ | with_reducible refine isBB ?_ | with_reducible refine isNotBB ?_ | with_reducible refine lenTI ?_ | with_reducible refine lenFI ?_ | with_reducible refine intII ?_ | with_reducible refine intBI ?_ | with_reducible refine tupTI ?_ | with_reducible refine minII ?_ | with_reducible refine maxII ?_ | with_reducible refine slTI ?_ | with_reducible refine gcI ?_ | with_reducible refine gnI ?_ | with_reducible refine aNI ?_ | ((with_reducible refine ttI ?_ ?_); exact rfl) | ((with_reducible refine And.intro ?_ ?_); exact rfl) | ((with_reducible refine And.intro ?_ ?_); exact lenOk rfl) | dsimp only [En.s]))
        refine lenRI (l_of hm8) ?_
        rw [hT] at hf8
        rw [FS_cnt hf8, hcb]
        (repeat (first | with_reducible refine seqI ?_ | with_reducible refine setI ?_ | with_reducible refine asgI ?_ | with_reducible refine retI ?_ | with_reducible refine opI ?_ | with_reducible refine callI ?_ | with_reducible refine consI ?_ | with_reducible refine cI ?_ | with_reducible refine nilI ?_ | ((with_reducible apply varI); exact rfl) | with_reducible refine cbI ?_ | with_reducible refine ifI ?_ | with_reducible refine tstI ?_ | with_reducible refine notTI ?_ | with_reducible refine andTI ?_ | with_reducible refine orTI ?_ | with_reducible refine dropI ?_ | with_reducible refine nextI ?_ | with_reducible refine tupI ?_ | with_reducible refine lstI ?_ | with_reducible refine starI ?_ | with_reducible refine starTT ?_ | with_reducible refine andI ?_ | with_reducible refine orVI ?_ | with_reducible refine notI ?_ | with_reducible refine ifEI ?_ | with_reducible refine forI ?_ | with_reducible refine r1I ?_ | with_reducible refine ir2I ?_ | with_reducible refine iTupI ?_ | with_reducible refine truI ?_ | with_reducible refine chainI ?_ | with_reducible refine lcI ?_ | with_reducible refine slI ?_ | with_reducible refine noPI ?_ | with_reducible refine ptI ?_ | with_reducible refine unI ?_ | with_reducible refine brkI ?_ | with_reducible refine cntI ?_ | with_reducible refine retNI ?_ | with_reducible refine addII ?_ | with_reducible refine rI0 ?_ | with_reducible refine rIC ?_ ?_ | with_reducible refine mulII ?_ ?_ | with_reducible refine addTT ?_ ?_ | with_reducible refine addSS ?_ ?_ | with_reducible refine negII ?_ | with_reducible refine eqII ?_ | with_reducible refine eqSS ?_ | with_reducible refine eqBB ?_ | with_reducible refine neII ?_ | with_reducible refine neSS ?_ | with_reducible refine neBB ?_ | with_reducible refine isNN ?_ | with_reducible refine isNotNN ?_ | with_reducible refine isBB ?_ | with_reducible refine isNotBB ?_ | with_reducible refine lenTI ?_ | with_reducible refine lenFI ?_ | with_reducible refine intII ?_ | with_reducible refine intBI ?_ | with_reducible refine tupTI ?_ | with_reducible refine minII ?_ | with_reducible refine maxII ?_ | with_reducible refine slTI ?_ | with_reducible refine gcI ?_ | with_reducible refine gnI ?_ | with_reducible refine aNI ?_ | ((with_reducible refine ttI ?_ ?_); exact rfl) | ((with_reducible refine And.intro ?_ ?_); exact rfl) | ((with_reducible refine And.intro ?_ ?_); exact lenOk rfl) | dsimp only [En.s]))
        subst hX
        unfold bl_law_5
        generalize hX : bl_law_4 = X
        (repeat (first | with_reducible refine seqI ?_ | with_reducible refine setI ?_ | with_reducible refine asgI ?_ | with_reducible refine retI ?_ | with_reducible refine opI ?_ | with_reducible refine callI ?_ | with_reducible refine consI ?_ | with_reducible refine cI ?_ | with_reducible refine nilI ?_ | ((with_reducible apply varI); exact rfl) | with_reducible refine cbI ?_ | with_reducible refine ifI ?_ | with_reducible refine tstI ?_ | with_reducible refine notTI ?_ | with_reducible refine andTI ?_ | with_reducible refine orTI ?_ | with_reducible refine dropI ?_ | with_reducible refine nextI ?_ | with_reducible refine tupI ?_ | with_reducible refine lstI ?_ | with_reducible refine starI ?_ | with_reducible refine starTT ?_ | with_reducible refine andI ?_ | with_reducible refine orVI ?_ | with_reducible refine notI ?_ | with_reducible refine ifEI ?_ | with_reducible refine forI ?_ | with_reducible refine r1I ?_ | with_reducible refine ir2I ?_ | with_reducible refine iTupI ?_ | with_reducible refine truI ?_ | with_reducible refine chainI ?_ | with_reducible refine lcI ?_ | with_reducible refine slI ?_ | with_reducible refine noPI ?_ | with_reducible refine ptI ?_ | with_reducible refine unI ?_ | with_reducible refine brkI ?_ | with_reducible refine cntI ?_ | with_reducible refine retNI ?_ | with_reducible refine addII ?_ | with_reducible refine rI0 ?_ | with_reducible refine rIC ?_ ?_ | with_reducible refine mulII ?_ ?_ | with_reducible refine addTT ?_ ?_ | with_reducible refine addSS ?_ ?_ | with_reducible refine negII ?_ | with_reducible refine eqII ?_ | with_reducible refine eqSS ?_ | with_reducible refine eqBB ?_ | with_reducible refine neII ?_ | with_reducible refine neSS ?_ | with_reducible refine neBB ?_ | with_reducible refine isNN ?_ | with_reducible refine isNotNN ?_ | with_reducible refine isBB ?_ | with_reducible refine isNotBB ?_ | with_reducible refine lenTI ?_ | with_reducible refine lenFI ?_ | with_reducible refine intII ?_ | with_reducible refine intBI ?_ | with_reducible refine tupTI ?_ | with_reducible refine minII ?_ | with_reducible refine maxII ?_ | with_reducible refine slTI ?_ | with_reducible refine gcI ?_ | with_reducible refine gnI ?_ | with_reducible refine aNI ?_ | ((with_reducible refine ttI ?_ ?_); exact rfl) | ((with_reducible refine And.intro ?_ ?_); exact rfl) | ((with_reducible refine And.intro ?_ ?_); exact lenOk rfl) | dsimp only [En.s]))
        refine ⟨⟨by simp, by decide, by decide, by decide⟩, ?_⟩
        rw [show ((20 : Int).toNat) = 20 from rfl, flat1, show List.replicate 20 (D.tup [D.tup [D.int 0, D.tup [D.int 1]]]) = (List.replicate 20 oneB).map btD by rw [List.map_replicate]; rfl]
        subst hX
        unfold bl_law_4
        generalize hX : bl_law_3 = X
        (repeat (first | with_reducible refine seqI ?_ | with_reducible refine setI ?_ | with_reducible refine asgI ?_ | with_reducible refine retI ?_ | with_reducible refine opI ?_ | with_reducible refine callI ?_ | with_reducible refine consI ?_ | with_reducible refine cI ?_ | with_reducible refine nilI ?_ | ((with_reducible apply varI); exact rfl) | with_reducible refine cbI ?_ | with_reducible refine ifI ?_ | with_reducible refine tstI ?_ | with_reducible refine notTI ?_ | with_reducible refine andTI ?_ | with_reducible refine orTI ?_ | with_reducible refine dropI ?_ | with_reducible refine nextI ?_ | with_reducible refine tupI ?_ | with_reducible refine lstI ?_ | with_reducible refine starI ?_ | with_reducible refine starTT ?_ | with_reducible refine andI ?_ | with_reducible refine orVI ?_ | with_reducible refine notI ?_ | with_reducible refine ifEI ?_ | with_reducible refine forI ?_ | with_reducible refine r1I ?_ | with_reducible refine ir2I ?_ | with_reducible refine iTupI ?_ | with_reducible refine truI ?_ | with_reducible refine chainI ?_ | with_reducible refine lcI ?_ | with_reducible refine slI ?_ | with_reducible refine noPI ?_ | with_reducible refine ptI ?_ | with_reducible refine unI ?_ | with_reducible refine brkI ?_ | with_reducible refine cntI ?_ | with_reducible refine retNI ?_ | with_reducible refine addII ?_ | with_reducible refine rI0 ?_ | with_reducible refine rIC ?_ ?_ | with_reducible refine mulII ?_ ?_ | with_reducible refine addTT ?_ ?_ | with_reducible refine addSS ?_ ?_ | with_reducible refine negII ?_ | with_reducible refine eqII ?_ | with_reducible refine eqSS ?_ | with_reducible refine eqBB ?_ | with_reducible refine neII ?_ | with_reducible refine neSS ?_ | with_reducible refine neBB ?_ | with_reducible refine isNN ?_ | with_reducible refine isNotNN ?_ | with_reducible refine isBB ?_ | with_reducible refine isNotBB ?_ | with_reducible refine lenTI ?_ | with_reducible refine lenFI ?_ | with_reducible refine intII ?_ | with_reducible refine intBI ?_ | with_reducible refine tupTI ?_ | with_reducible refine minII ?_ | with_reducible refine maxII ?_ | with_reducible refine slTI ?_ | with_reducible refine gcI ?_ | with_reducible refine gnI ?_ | with_reducible refine aNI ?_ | ((with_reducible refine ttI ?_ ?_); exact rfl) | ((with_reducible refine And.intro ?_ ?_); exact rfl) | ((with_reducible refine And.intro ?_ ?_); exact lenOk rfl) | dsimp only [En.s]))
        refine fewest p1 (by omega) g1 (by omega) (one_ok p1 (by omega)) (by rw [List.length_replicate]; decide) fun m9 s9 => ?_
        subst hX
        unfold bl_law_3
        generalize hX : bl_law_2 = X
        have hc20 := cntc_gr ring (List.replicate 20 oneB) 0 0
        rw [one_cnt g1 g2] at hc20
        have hd20 := dl_len (fun j => (gr ring 0 0 (szs (List.replicate 20 oneB))).contains j) (List.replicate 20 oneB) 0
        rw [List.length_replicate] at hd20
        have each20 : ∀ d ∈ dl (fun j => (gr ring 0 0 (szs (List.replicate 20 oneB))).contains j) 0 (List.replicate 20 oneB), d = ckD ∨ ∃ b, d = wrD b := fun d h => dl_each h
        generalize hc' : (fun j => (gr ring 0 0 (szs (List.replicate 20 oneB))).contains j) = c' at hc20 hd20 each20 ⊢
        (repeat (first | with_reducible refine seqI ?_ | with_reducible refine setI ?_ | with_reducible refine asgI ?_ | with_reducible refine retI ?_ | with_reducible refine opI ?_ | with_reducible refine callI ?_ | with_reducible refine consI ?_ | with_reducible refine cI ?_ | with_reducible refine nilI ?_ | ((with_reducible apply varI); exact rfl) | with_reducible refine cbI ?_ | with_reducible refine ifI ?_ | with_reducible refine tstI ?_ | with_reducible refine notTI ?_ | with_reducible refine andTI ?_ | with_reducible refine orTI ?_ | with_reducible refine dropI ?_ | with_reducible refine nextI ?_ | with_reducible refine tupI ?_ | with_reducible refine lstI ?_ | with_reducible refine starI ?_ | with_reducible refine starTT ?_ | with_reducible refine andI ?_ | with_reducible refine orVI ?_ | with_reducible refine notI ?_ | with_reducible refine ifEI ?_ | with_reducible refine forI ?_ | with_reducible refine r1I ?_ | with_reducible refine ir2I ?_ | with_reducible refine iTupI ?_ | with_reducible refine truI ?_ | with_reducible refine chainI ?_ | with_reducible refine lcI ?_ | with_reducible refine slI ?_ | with_reducible refine noPI ?_ | with_reducible refine ptI ?_ | with_reducible refine unI ?_ | with_reducible refine brkI ?_ | with_reducible refine cntI ?_ | with_reducible refine retNI ?_ | with_reducible refine addII ?_ | with_reducible refine rI0 ?_ | with_reducible refine rIC ?_ ?_ | with_reducible refine mulII ?_ ?_ | with_reducible refine addTT ?_ ?_ | with_reducible refine addSS ?_ ?_ | with_reducible refine negII ?_ | with_reducible refine eqII ?_ | with_reducible refine eqSS ?_ | with_reducible refine eqBB ?_ | with_reducible refine neII ?_ | with_reducible refine neSS ?_ | with_reducible refine neBB ?_ | with_reducible refine isNN ?_ | with_reducible refine isNotNN ?_ | with_reducible refine isBB ?_ | with_reducible refine isNotBB ?_ | with_reducible refine lenTI ?_ | with_reducible refine lenFI ?_ | with_reducible refine intII ?_ | with_reducible refine intBI ?_ | with_reducible refine tupTI ?_ | with_reducible refine minII ?_ | with_reducible refine maxII ?_ | with_reducible refine slTI ?_ | with_reducible refine gcI ?_ | with_reducible refine gnI ?_ | with_reducible refine aNI ?_ | ((with_reducible refine ttI ?_ ?_); exact rfl) | ((with_reducible refine And.intro ?_ ?_); exact rfl) | ((with_reducible refine And.intro ?_ ?_); exact lenOk rfl) | dsimp only [En.s]))
        intro q2 hq2
        refine lc_as (Ps := fun x => x ≠ ckD) (Pd := fun x y => x = ckD) hq2 (fun _ _ => trivial) (fun x hx m10 S' Q' s10 qs qk => ?_) (fun l10 m10 hf10 hs10 hm10 => ?_) (by omega)
        · (repeat (first | with_reducible refine seqI ?_ | with_reducible refine setI ?_ | with_reducible refine asgI ?_ | with_reducible refine retI ?_ | with_reducible refine opI ?_ | with_reducible refine callI ?_ | with_reducible refine consI ?_ | with_reducible refine cI ?_ | with_reducible refine nilI ?_ | ((with_reducible apply varI); exact rfl) | with_reducible refine cbI ?_ | with_reducible refine ifI ?_ | with_reducible refine tstI ?_ | with_reducible refine notTI ?_ | with_reducible refine andTI ?_ | with_reducible refine orTI ?_ | with_reducible refine dropI ?_ | with_reducible refine nextI ?_ | with_reducible refine tupI ?_ | with_reducible refine lstI ?_ | with_reducible refine starI ?_ | with_reducible refine starTT ?_ | with_reducible refine andI ?_ | with_reducible refine orVI ?_ | with_reducible refine notI ?_ | with_reducible refine ifEI ?_ | with_reducible refine forI ?_ | with_reducible refine r1I ?_ | with_reducible refine ir2I ?_ | with_reducible refine iTupI ?_ | with_reducible refine truI ?_ | with_reducible refine chainI ?_ | with_reducible refine lcI ?_ | with_reducible refine slI ?_ | with_reducible refine noPI ?_ | with_reducible refine ptI ?_ | with_reducible refine unI ?_ | with_reducible refine brkI ?_ | with_reducible refine cntI ?_ | with_reducible refine retNI ?_ | with_reducible refine addII ?_ | with_reducible refine rI0 ?_ | with_reducible refine rIC ?_ ?_ | with_reducible refine mulII ?_ ?_ | with_reducible refine addTT ?_ ?_ | with_reducible refine addSS ?_ ?_ | with_reducible refine negII ?_ | with_reducible refine eqII ?_ | with_reducible refine eqSS ?_ | with_reducible refine eqBB ?_ | with_reducible refine neII ?_ | with_reducible refine neSS ?_ | with_reducible refine neBB ?_ | with_reducible refine isNN ?_ | with_reducible refine isNotNN ?_ | with_reducible refine isBB ?_ | with_reducible refine isNotBB ?_ | with_reducible refine lenTI ?_ | with_reducible refine lenFI ?_ | with_reducible refine intII ?_ | with_reducible refine intBI ?_ | with_reducible refine tupTI ?_ | with_reducible refine minII ?_ | with_reducible refine maxII ?_ | with_reducible refine slTI ?_ | with_reducible refine gcI ?_ | with_reducible refine gnI ?_ | with_reducible refine aNI ?_ | ((with_reducible refine ttI ?_ ?_); exact rfl) | ((with_reducible refine And.intro ?_ ?_); exact rfl) | ((with_reducible refine And.intro ?_ ?_); exact lenOk rfl) | dsimp only [En.s]))
          rcases each20 x hx with e | ⟨b, e⟩
          · subst e
            refine eqSelf (n := 4) (okN_Q okC) (by decide) ?_
            refine bl_t rfl ?_
            (repeat (first | with_reducible refine seqI ?_ | with_reducible refine setI ?_ | with_reducible refine asgI ?_ | with_reducible refine retI ?_ | with_reducible refine opI ?_ | with_reducible refine callI ?_ | with_reducible refine consI ?_ | with_reducible refine cI ?_ | with_reducible refine nilI ?_ | ((with_reducible apply varI); exact rfl) | with_reducible refine cbI ?_ | with_reducible refine ifI ?_ | with_reducible refine tstI ?_ | with_reducible refine notTI ?_ | with_reducible refine andTI ?_ | with_reducible refine orTI ?_ | with_reducible refine dropI ?_ | with_reducible refine nextI ?_ | with_reducible refine tupI ?_ | with_reducible refine lstI ?_ | with_reducible refine starI ?_ | with_reducible refine starTT ?_ | with_reducible refine andI ?_ | with_reducible refine orVI ?_ | with_reducible refine notI ?_ | with_reducible refine ifEI ?_ | with_reducible refine forI ?_ | with_reducible refine r1I ?_ | with_reducible refine ir2I ?_ | with_reducible refine iTupI ?_ | with_reducible refine truI ?_ | with_reducible refine chainI ?_ | with_reducible refine lcI ?_ | with_reducible refine slI ?_ | with_reducible refine noPI ?_ | with_reducible refine ptI ?_ | with_reducible refine unI ?_ | with_reducible refine brkI ?_ | with_reducible refine cntI ?_ | with_reducible refine retNI ?_ | with_reducible refine addII ?_ | with_reducible refine rI0 ?_ | with_reducible refine rIC ?_ ?_ | with_reducible refine mulII ?_ ?_ | with_reducible refine addTT ?_ ?_ | with_reducible refine addSS ?_ ?_ | with_reducible refine negII ?_ | with_reducible refine eqII ?_ | with_reducible refine eqSS ?_ | with_reducible refine eqBB ?_ | with_reducible refine neII ?_ | with_reducible refine neSS ?_ | with_reducible refine neBB ?_ | with_reducible refine isNN ?_ | with_reducible refine isNotNN ?_ | with_reducible refine isBB ?_ | with_reducible refine isNotBB ?_ | with_reducible refine lenTI ?_ | with_reducible refine lenFI ?_ | with_reducible refine intII ?_ | with_reducible refine intBI ?_ | with_reducible refine tupTI ?_ | with_reducible refine minII ?_ | with_reducible refine maxII ?_ | with_reducible refine slTI ?_ | with_reducible refine gcI ?_ | with_reducible refine gnI ?_ | with_reducible refine aNI ?_ | ((with_reducible refine ttI ?_ ?_); exact rfl) | ((with_reducible refine And.intro ?_ ?_); exact rfl) | ((with_reducible refine And.intro ?_ ?_); exact lenOk rfl) | dsimp only [En.s]))
            exact qk _ _ rfl (Ab.Sub.refl _)
          · subst e
            refine eqOther (n := 4) (okW b) okC (fun z => wr_ck b (congrArg D.tup z)) (by decide) ?_
            refine bl_f rfl ?_
            exact qs _ (wr_ck b) (Ab.Sub.refl _)
        · (repeat (first | with_reducible refine seqI ?_ | with_reducible refine setI ?_ | with_reducible refine asgI ?_ | with_reducible refine retI ?_ | with_reducible refine opI ?_ | with_reducible refine callI ?_ | with_reducible refine consI ?_ | with_reducible refine cI ?_ | with_reducible refine nilI ?_ | ((with_reducible apply varI); exact rfl) | with_reducible refine cbI ?_ | with_reducible refine ifI ?_ | with_reducible refine tstI ?_ | with_reducible refine notTI ?_ | with_reducible refine andTI ?_ | with_reducible refine orTI ?_ | with_reducible refine dropI ?_ | with_reducible refine nextI ?_ | with_reducible refine tupI ?_ | with_reducible refine lstI ?_ | with_reducible refine starI ?_ | with_reducible refine starTT ?_ | with_reducible refine andI ?_ | with_reducible refine orVI ?_ | with_reducible refine notI ?_ | with_reducible refine ifEI ?_ | with_reducible refine forI ?_ | with_reducible refine r1I ?_ | with_reducible refine ir2I ?_ | with_reducible refine iTupI ?_ | with_reducible refine truI ?_ | with_reducible refine chainI ?_ | with_reducible refine lcI ?_ | with_reducible refine slI ?_ | with_reducible refine noPI ?_ | with_reducible refine ptI ?_ | with_reducible refine unI ?_ | with_reducible refine brkI ?_ | with_reducible refine cntI ?_ | with_reducible refine retNI ?_ | with_reducible refine addII ?_ | with_reducible refine rI0 ?_ | with_reducible refine rIC ?_ ?_ | with_reducible refine mulII ?_ ?_ | with_reducible refine addTT ?_ ?_ | with_reducible refine addSS ?_ ?_ | with_reducible refine negII ?_ | with_reducible refine eqII ?_ | with_reducible refine eqSS ?_ | with_reducible refine eqBB ?_ | with_reducible refine neII ?_ | with_reducible refine neSS ?_ | with_reducible refine neBB ?_ | with_reducible refine isNN ?_ | with_reducible refine isNotNN ?_ | with_reducible refine isBB ?_ | with_reducible refine isNotBB ?_ | with_reducible refine lenTI ?_ | with_reducible refine lenFI ?_ | with_reducible refine intII ?_ | with_reducible refine intBI ?_ | with_reducible refine tupTI ?_ | with_reducible refine minII ?_ | with_reducible refine maxII ?_ | with_reducible refine slTI ?_ | with_reducible refine gcI ?_ | with_reducible refine gnI ?_ | with_reducible refine aNI ?_ | ((with_reducible refine ttI ?_ ?_); exact rfl) | ((with_reducible refine And.intro ?_ ?_); exact rfl) | ((with_reducible refine And.intro ?_ ?_); exact lenOk rfl) | dsimp only [En.s]))
          refine lenRI (l_of hm10) ?_
          rw [FS_cnt hf10, hc20]
          (repeat (first | with_reducible refine seqI ?_ | with_reducible refine setI ?_ | with_reducible refine asgI ?_ | with_reducible refine retI ?_ | with_reducible refine opI ?_ | with_reducible refine callI ?_ | with_reducible refine consI ?_ | with_reducible refine cI ?_ | with_reducible refine nilI ?_ | ((with_reducible apply varI); exact rfl) | with_reducible refine cbI ?_ | with_reducible refine ifI ?_ | with_reducible refine tstI ?_ | with_reducible refine notTI ?_ | with_reducible refine andTI ?_ | with_reducible refine orTI ?_ | with_reducible refine dropI ?_ | with_reducible refine nextI ?_ | with_reducible refine tupI ?_ | with_reducible refine lstI ?_ | with_reducible refine starI ?_ | with_reducible refine starTT ?_ | with_reducible refine andI ?_ | with_reducible refine orVI ?_ | with_reducible refine notI ?_ | with_reducible refine ifEI ?_ | with_reducible refine forI ?_ | with_reducible refine r1I ?_ | with_reducible refine ir2I ?_ | with_reducible refine iTupI ?_ | with_reducible refine truI ?_ | with_reducible refine chainI ?_ | with_reducible refine lcI ?_ | with_reducible refine slI ?_ | with_reducible refine noPI ?_ | with_reducible refine ptI ?_ | with_reducible refine unI ?_ | with_reducible refine brkI ?_ | with_reducible refine cntI ?_ | with_reducible refine retNI ?_ | with_reducible refine addII ?_ | with_reducible refine rI0 ?_ | with_reducible refine rIC ?_ ?_ | with_reducible refine mulII ?_ ?_ | with_reducible refine addTT ?_ ?_ | with_reducible refine addSS ?_ ?_ | with_reducible refine negII ?_ | with_reducible refine eqII ?_ | with_reducible refine eqSS ?_ | with_reducible refine eqBB ?_ | with_reducible refine neII ?_ | with_reducible refine neSS ?_ | with_reducible refine neBB ?_ | with_reducible refine isNN ?_ | with_reducible refine isNotNN ?_ | with_reducible refine isBB ?_ | with_reducible refine isNotBB ?_ | with_reducible refine lenTI ?_ | with_reducible refine lenFI ?_ | with_reducible refine intII ?_ | with_reducible refine intBI ?_ | with_reducible refine tupTI ?_ | with_reducible refine minII ?_ | with_reducible refine maxII ?_ | with_reducible refine slTI ?_ | with_reducible refine gcI ?_ | with_reducible refine gnI ?_ | with_reducible refine aNI ?_ | ((with_reducible refine ttI ?_ ?_); exact rfl) | ((with_reducible refine And.intro ?_ ?_); exact rfl) | ((with_reducible refine And.intro ?_ ?_); exact lenOk rfl) | dsimp only [En.s]))
          refine ixTI (d := .int (ring : Nat)) rfl ?_
          (repeat (first | with_reducible refine seqI ?_ | with_reducible refine setI ?_ | with_reducible refine asgI ?_ | with_reducible refine retI ?_ | with_reducible refine opI ?_ | with_reducible refine callI ?_ | with_reducible refine consI ?_ | with_reducible refine cI ?_ | with_reducible refine nilI ?_ | ((with_reducible apply varI); exact rfl) | with_reducible refine cbI ?_ | with_reducible refine ifI ?_ | with_reducible refine tstI ?_ | with_reducible refine notTI ?_ | with_reducible refine andTI ?_ | with_reducible refine orTI ?_ | with_reducible refine dropI ?_ | with_reducible refine nextI ?_ | with_reducible refine tupI ?_ | with_reducible refine lstI ?_ | with_reducible refine starI ?_ | with_reducible refine starTT ?_ | with_reducible refine andI ?_ | with_reducible refine orVI ?_ | with_reducible refine notI ?_ | with_reducible refine ifEI ?_ | with_reducible refine forI ?_ | with_reducible refine r1I ?_ | with_reducible refine ir2I ?_ | with_reducible refine iTupI ?_ | with_reducible refine truI ?_ | with_reducible refine chainI ?_ | with_reducible refine lcI ?_ | with_reducible refine slI ?_ | with_reducible refine noPI ?_ | with_reducible refine ptI ?_ | with_reducible refine unI ?_ | with_reducible refine brkI ?_ | with_reducible refine cntI ?_ | with_reducible refine retNI ?_ | with_reducible refine addII ?_ | with_reducible refine rI0 ?_ | with_reducible refine rIC ?_ ?_ | with_reducible refine mulII ?_ ?_ | with_reducible refine addTT ?_ ?_ | with_reducible refine addSS ?_ ?_ | with_reducible refine negII ?_ | with_reducible refine eqII ?_ | with_reducible refine eqSS ?_ | with_reducible refine eqBB ?_ | with_reducible refine neII ?_ | with_reducible refine neSS ?_ | with_reducible refine neBB ?_ | with_reducible refine isNN ?_ | with_reducible refine isNotNN ?_ | with_reducible refine isBB ?_ | with_reducible refine isNotBB ?_ | with_reducible refine lenTI ?_ | with_reducible refine lenFI ?_ | with_reducible refine intII ?_ | with_reducible refine intBI ?_ | with_reducible refine tupTI ?_ | with_reducible refine minII ?_ | with_reducible refine maxII ?_ | with_reducible refine slTI ?_ | with_reducible refine gcI ?_ | with_reducible refine gnI ?_ | with_reducible refine aNI ?_ | ((with_reducible refine ttI ?_ ?_); exact rfl) | ((with_reducible refine And.intro ?_ ?_); exact rfl) | ((with_reducible refine And.intro ?_ ?_); exact lenOk rfl) | dsimp only [En.s]))
          · refine bl_f (by simp) ?_
            (repeat (first | with_reducible refine seqI ?_ | with_reducible refine setI ?_ | with_reducible refine asgI ?_ | with_reducible refine retI ?_ | with_reducible refine opI ?_ | with_reducible refine callI ?_ | with_reducible refine consI ?_ | with_reducible refine cI ?_ | with_reducible refine nilI ?_ | ((with_reducible apply varI); exact rfl) | with_reducible refine cbI ?_ | with_reducible refine ifI ?_ | with_reducible refine tstI ?_ | with_reducible refine notTI ?_ | with_reducible refine andTI ?_ | with_reducible refine orTI ?_ | with_reducible refine dropI ?_ | with_reducible refine nextI ?_ | with_reducible refine tupI ?_ | with_reducible refine lstI ?_ | with_reducible refine starI ?_ | with_reducible refine starTT ?_ | with_reducible refine andI ?_ | with_reducible refine orVI ?_ | with_reducible refine notI ?_ | with_reducible refine ifEI ?_ | with_reducible refine forI ?_ | with_reducible refine r1I ?_ | with_reducible refine ir2I ?_ | with_reducible refine iTupI ?_ | with_reducible refine truI ?_ | with_reducible refine chainI ?_ | with_reducible refine lcI ?_ | with_reducible refine slI ?_ | with_reducible refine noPI ?_ | with_reducible refine ptI ?_ | with_reducible refine unI ?_ | with_reducible refine brkI ?_ | with_reducible refine cntI ?_ | with_reducible refine retNI ?_ | with_reducible refine addII ?_ | with_reducible refine rI0 ?_ | with_reducible refine rIC ?_ ?_ | with_reducible refine mulII ?_ ?_ | with_reducible refine addTT ?_ ?_ | with_reducible refine addSS ?_ ?_ | with_reducible refine negII ?_ | with_reducible refine eqII ?_ | with_reducible refine eqSS ?_ | with_reducible refine eqBB ?_ | with_reducible refine neII ?_ | with_reducible refine neSS ?_ | with_reducible refine neBB ?_ | with_reducible refine isNN ?_ | with_reducible refine isNotNN ?_ | with_reducible refine isBB ?_ | with_reducible refine isNotBB ?_ | with_reducible refine lenTI ?_ | with_reducible refine lenFI ?_ | with_reducible refine intII ?_ | with_reducible refine intBI ?_ | with_reducible refine tupTI ?_ | with_reducible refine minII ?_ | with_reducible refine maxII ?_ | with_reducible refine slTI ?_ | with_reducible refine gcI ?_ | with_reducible refine gnI ?_ | with_reducible refine aNI ?_ | ((with_reducible refine ttI ?_ ?_); exact rfl) | ((with_reducible refine And.intro ?_ ?_); exact rfl) | ((with_reducible refine And.intro ?_ ?_); exact lenOk rfl) | dsimp only [En.s]))
            subst hX
            unfold bl_law_2
            (repeat (first | with_reducible refine seqI ?_ | with_reducible refine setI ?_ | with_reducible refine asgI ?_ | with_reducible refine retI ?_ | with_reducible refine opI ?_ | with_reducible refine callI ?_ | with_reducible refine consI ?_ | with_reducible refine cI ?_ | with_reducible refine nilI ?_ | ((with_reducible apply varI); exact rfl) | with_reducible refine cbI ?_ | with_reducible refine ifI ?_ | with_reducible refine tstI ?_ | with_reducible refine notTI ?_ | with_reducible refine andTI ?_ | with_reducible refine orTI ?_ | with_reducible refine dropI ?_ | with_reducible refine nextI ?_ | with_reducible refine tupI ?_ | with_reducible refine lstI ?_ | with_reducible refine starI ?_ | with_reducible refine starTT ?_ | with_reducible refine andI ?_ | with_reducible refine orVI ?_ | with_reducible refine notI ?_ | with_reducible refine ifEI ?_ | with_reducible refine forI ?_ | with_reducible refine r1I ?_ | with_reducible refine ir2I ?_ | with_reducible refine iTupI ?_ | with_reducible refine truI ?_ | with_reducible refine chainI ?_ | with_reducible refine lcI ?_ | with_reducible refine slI ?_ | with_reducible refine noPI ?_ | with_reducible refine ptI ?_ | with_reducible refine unI ?_ | with_reducible refine brkI ?_ | with_reducible refine cntI ?_ | with_reducible refine retNI ?_ | with_reducible refine addII ?_ | with_reducible refine rI0 ?_ | with_reducible refine rIC ?_ ?_ | with_reducible refine mulII ?_ ?_ | with_reducible refine addTT ?_ ?_ | with_reducible refine addSS ?_ ?_ | with_reducible refine negII ?_ | with_reducible refine eqII ?_ | with_reducible refine eqSS ?_ | with_reducible refine eqBB ?_ | with_reducible refine neII ?_ | with_reducible refine neSS ?_ | with_reducible refine neBB ?_ | with_reducible refine isNN ?_ | with_reducible refine isNotNN ?_ | with_reducible refine isBB ?_ | with_reducible refine isNotBB ?_ | with_reducible refine lenTI ?_ | with_reducible refine lenFI ?_ | with_reducible refine intII ?_ | with_reducible refine intBI ?_ | with_reducible refine tupTI ?_ | with_reducible refine minII ?_ | with_reducible refine maxII ?_ | with_reducible refine slTI ?_ | with_reducible refine gcI ?_ | with_reducible refine gnI ?_ | with_reducible refine aNI ?_ | ((with_reducible refine ttI ?_ ?_); exact rfl) | ((with_reducible refine And.intro ?_ ?_); exact rfl) | ((with_reducible refine And.intro ?_ ?_); exact lenOk rfl) | dsimp only [En.s]))
            refine ixTI (d := .int (S.length : Nat)) rfl ?_
            (repeat (first | with_reducible refine seqI ?_ | with_reducible refine setI ?_ | with_reducible refine asgI ?_ | with_reducible refine retI ?_ | with_reducible refine opI ?_ | with_reducible refine callI ?_ | with_reducible refine consI ?_ | with_reducible refine cI ?_ | with_reducible refine nilI ?_ | ((with_reducible apply varI); exact rfl) | with_reducible refine cbI ?_ | with_reducible refine ifI ?_ | with_reducible refine tstI ?_ | with_reducible refine notTI ?_ | with_reducible refine andTI ?_ | with_reducible refine orTI ?_ | with_reducible refine dropI ?_ | with_reducible refine nextI ?_ | with_reducible refine tupI ?_ | with_reducible refine lstI ?_ | with_reducible refine starI ?_ | with_reducible refine starTT ?_ | with_reducible refine andI ?_ | with_reducible refine orVI ?_ | with_reducible refine notI ?_ | with_reducible refine ifEI ?_ | with_reducible refine forI ?_ | with_reducible refine r1I ?_ | with_reducible refine ir2I ?_ | with_reducible refine iTupI ?_ | with_reducible refine truI ?_ | with_reducible refine chainI ?_ | with_reducible refine lcI ?_ | with_reducible refine slI ?_ | with_reducible refine noPI ?_ | with_reducible refine ptI ?_ | with_reducible refine unI ?_ | with_reducible refine brkI ?_ | with_reducible refine cntI ?_ | with_reducible refine retNI ?_ | with_reducible refine addII ?_ | with_reducible refine rI0 ?_ | with_reducible refine rIC ?_ ?_ | with_reducible refine mulII ?_ ?_ | with_reducible refine addTT ?_ ?_ | with_reducible refine addSS ?_ ?_ | with_reducible refine negII ?_ | with_reducible refine eqII ?_ | with_reducible refine eqSS ?_ | with_reducible refine eqBB ?_ | with_reducible refine neII ?_ | with_reducible refine neSS ?_ | with_reducible refine neBB ?_ | with_reducible refine isNN ?_ | with_reducible refine isNotNN ?_ | with_reducible refine isBB ?_ | with_reducible refine isNotBB ?_ | with_reducible refine lenTI ?_ | with_reducible refine lenFI ?_ | with_reducible refine intII ?_ | with_reducible refine intBI ?_ | with_reducible refine tupTI ?_ | with_reducible refine minII ?_ | with_reducible refine maxII ?_ | with_reducible refine slTI ?_ | with_reducible refine gcI ?_ | with_reducible refine gnI ?_ | with_reducible refine aNI ?_ | ((with_reducible refine ttI ?_ ?_); exact rfl) | ((with_reducible refine And.intro ?_ ?_); exact rfl) | ((with_reducible refine And.intro ?_ ?_); exact lenOk rfl) | dsimp only [En.s]))
            refine bl_t (by simp) ?_
            (repeat (first | with_reducible refine seqI ?_ | with_reducible refine setI ?_ | with_reducible refine asgI ?_ | with_reducible refine retI ?_ | with_reducible refine opI ?_ | with_reducible refine callI ?_ | with_reducible refine consI ?_ | with_reducible refine cI ?_ | with_reducible refine nilI ?_ | ((with_reducible apply varI); exact rfl) | with_reducible refine cbI ?_ | with_reducible refine ifI ?_ | with_reducible refine tstI ?_ | with_reducible refine notTI ?_ | with_reducible refine andTI ?_ | with_reducible refine orTI ?_ | with_reducible refine dropI ?_ | with_reducible refine nextI ?_ | with_reducible refine tupI ?_ | with_reducible refine lstI ?_ | with_reducible refine starI ?_ | with_reducible refine starTT ?_ | with_reducible refine andI ?_ | with_reducible refine orVI ?_ | with_reducible refine notI ?_ | with_reducible refine ifEI ?_ | with_reducible refine forI ?_ | with_reducible refine r1I ?_ | with_reducible refine ir2I ?_ | with_reducible refine iTupI ?_ | with_reducible refine truI ?_ | with_reducible refine chainI ?_ | with_reducible refine lcI ?_ | with_reducible refine slI ?_ | with_reducible refine noPI ?_ | with_reducible refine ptI ?_ | with_reducible refine unI ?_ | with_reducible refine brkI ?_ | with_reducible refine cntI ?_ | with_reducible refine retNI ?_ | with_reducible refine addII ?_ | with_reducible refine rI0 ?_ | with_reducible refine rIC ?_ ?_ | with_reducible refine mulII ?_ ?_ | with_reducible refine addTT ?_ ?_ | with_reducible refine addSS ?_ ?_ | with_reducible refine negII ?_ | with_reducible refine eqII ?_ | with_reducible refine eqSS ?_ | with_reducible refine eqBB ?_ | with_reducible refine neII ?_ | with_reducible refine neSS ?_ | with_reducible refine neBB ?_ | with_reducible refine isNN ?_ | with_reducible refine isNotNN ?_ | with_reducible refine isBB ?_ | with_reducible refine isNotBB ?_ | with_reducible refine lenTI ?_ | with_reducible refine lenFI ?_ | with_reducible refine intII ?_ | with_reducible refine intBI ?_ | with_reducible refine tupTI ?_ | with_reducible refine minII ?_ | with_reducible refine maxII ?_ | with_reducible refine slTI ?_ | with_reducible refine gcI ?_ | with_reducible refine gnI ?_ | with_reducible refine aNI ?_ | ((with_reducible refine ttI ?_ ?_); exact rfl) | ((with_reducible refine And.intro ?_ ?_); exact rfl) | ((with_reducible refine And.intro ?_ ?_); exact lenOk rfl) | dsimp only [En.s]))
            intro q3 hq3
            refine lc_as (Ps := fun x => x = ckD) (Pd := fun x y => ∃ b, x = wrD b ∧ y = btD b) hq3 (fun _ _ => trivial) (fun x hx m11 S' Q' s11 qs qk => ?_) (fun l11 m11 hf11 hs11 hm11 => ?_) (by omega)
            · rcases dl_each (by rw [hT] at hx; exact hx) with e | ⟨b, e⟩
              · subst e
                unfold ckD
                (repeat (first | with_reducible refine seqI ?_ | with_reducible refine setI ?_ | with_reducible refine asgI ?_ | with_reducible refine retI ?_ | with_reducible refine opI ?_ | with_reducible refine callI ?_ | with_reducible refine consI ?_ | with_reducible refine cI ?_ | with_reducible refine nilI ?_ | ((with_reducible apply varI); exact rfl) | with_reducible refine cbI ?_ | with_reducible refine ifI ?_ | with_reducible refine tstI ?_ | with_reducible refine notTI ?_ | with_reducible refine andTI ?_ | with_reducible refine orTI ?_ | with_reducible refine dropI ?_ | with_reducible refine nextI ?_ | with_reducible refine tupI ?_ | with_reducible refine lstI ?_ | with_reducible refine starI ?_ | with_reducible refine starTT ?_ | with_reducible refine andI ?_ | with_reducible refine orVI ?_ | with_reducible refine notI ?_ | with_reducible refine ifEI ?_ | with_reducible refine forI ?_ | with_reducible refine r1I ?_ | with_reducible refine ir2I ?_ | with_reducible refine iTupI ?_ | with_reducible refine truI ?_ | with_reducible refine chainI ?_ | with_reducible refine lcI ?_ | with_reducible refine slI ?_ | with_reducible refine noPI ?_ | with_reducible refine ptI ?_ | with_reducible refine unI ?_ | with_reducible refine brkI ?_ | with_reducible refine cntI ?_ | with_reducible refine retNI ?_ | with_reducible refine addII ?_ | with_reducible refine rI0 ?_ | with_reducible refine rIC ?_ ?_ | with_reducible refine mulII ?_ ?_ | with_reducible refine addTT ?_ ?_ | with_reducible refine addSS ?_ ?_ | with_reducible refine negII ?_ | with_reducible refine eqII ?_ | with_reducible refine eqSS ?_ | with_reducible refine eqBB ?_ | with_reducible refine neII ?_ | with_reducible refine neSS ?_ | with_reducible refine neBB ?_ | with_reducible refine isNN ?_ | with_reducible refine isNotNN ?_ | with_reducible refine isBB ?_ | with_reducible refine isNotBB ?_ | with_reducible refine lenTI ?_ | with_reducible refine lenFI ?_ | with_reducible refine intII ?_ | with_reducible refine intBI ?_ | with_reducible refine tupTI ?_ | with_reducible refine minII ?_ | with_reducible refine maxII ?_ | with_reducible refine slTI ?_ | with_reducible refine gcI ?_ | with_reducible refine gnI ?_ | with_reducible refine aNI ?_ | ((with_reducible refine ttI ?_ ?_); exact rfl) | ((with_reducible refine And.intro ?_ ?_); exact rfl) | ((with_reducible refine And.intro ?_ ?_); exact lenOk rfl) | dsimp only [En.s]))
                refine ixTI (d := .str "check") rfl ?_
                (repeat (first | with_reducible refine seqI ?_ | with_reducible refine setI ?_ | with_reducible refine asgI ?_ | with_reducible refine retI ?_ | with_reducible refine opI ?_ | with_reducible refine callI ?_ | with_reducible refine consI ?_ | with_reducible refine cI ?_ | with_reducible refine nilI ?_ | ((with_reducible apply varI); exact rfl) | with_reducible refine cbI ?_ | with_reducible refine ifI ?_ | with_reducible refine tstI ?_ | with_reducible refine notTI ?_ | with_reducible refine andTI ?_ | with_reducible refine orTI ?_ | with_reducible refine dropI ?_ | with_reducible refine nextI ?_ | with_reducible refine tupI ?_ | with_reducible refine lstI ?_ | with_reducible refine starI ?_ | with_reducible refine starTT ?_ | with_reducible refine andI ?_ | with_reducible refine orVI ?_ | with_reducible refine notI ?_ | with_reducible refine ifEI ?_ | with_reducible refine forI ?_ | with_reducible refine r1I ?_ | with_reducible refine ir2I ?_ | with_reducible refine iTupI ?_ | with_reducible refine truI ?_ | with_reducible refine chainI ?_ | with_reducible refine lcI ?_ | with_reducible refine slI ?_ | with_reducible refine noPI ?_ | with_reducible refine ptI ?_ | with_reducible refine unI ?_ | with_reducible refine brkI ?_ | with_reducible refine cntI ?_ | with_reducible refine retNI ?_ | with_reducible refine addII ?_ | with_reducible refine rI0 ?_ | with_reducible refine rIC ?_ ?_ | with_reducible refine mulII ?_ ?_ | with_reducible refine addTT ?_ ?_ | with_reducible refine addSS ?_ ?_ | with_reducible refine negII ?_ | with_reducible refine eqII ?_ | with_reducible refine eqSS ?_ | with_reducible refine eqBB ?_ | with_reducible refine neII ?_ | with_reducible refine neSS ?_ | with_reducible refine neBB ?_ | with_reducible refine isNN ?_ | with_reducible refine isNotNN ?_ | with_reducible refine isBB ?_ | with_reducible refine isNotBB ?_ | with_reducible refine lenTI ?_ | with_reducible refine lenFI ?_ | with_reducible refine intII ?_ | with_reducible refine intBI ?_ | with_reducible refine tupTI ?_ | with_reducible refine minII ?_ | with_reducible refine maxII ?_ | with_reducible refine slTI ?_ | with_reducible refine gcI ?_ | with_reducible refine gnI ?_ | with_reducible refine aNI ?_ | ((with_reducible refine ttI ?_ ?_); exact rfl) | ((with_reducible refine And.intro ?_ ?_); exact rfl) | ((with_reducible refine And.intro ?_ ?_); exact lenOk rfl) | dsimp only [En.s]))
                refine bl_f (by decide +kernel) ?_
                exact qs _ rfl (Ab.Sub.refl _)
              · subst e
                unfold wrD
                (repeat (first | with_reducible refine seqI ?_ | with_reducible refine setI ?_ | with_reducible refine asgI ?_ | with_reducible refine retI ?_ | with_reducible refine opI ?_ | with_reducible refine callI ?_ | with_reducible refine consI ?_ | with_reducible refine cI ?_ | with_reducible refine nilI ?_ | ((with_reducible apply varI); exact rfl) | with_reducible refine cbI ?_ | with_reducible refine ifI ?_ | with_reducible refine tstI ?_ | with_reducible refine notTI ?_ | with_reducible refine andTI ?_ | with_reducible refine orTI ?_ | with_reducible refine dropI ?_ | with_reducible refine nextI ?_ | with_reducible refine tupI ?_ | with_reducible refine lstI ?_ | with_reducible refine starI ?_ | with_reducible refine starTT ?_ | with_reducible refine andI ?_ | with_reducible refine orVI ?_ | with_reducible refine notI ?_ | with_reducible refine ifEI ?_ | with_reducible refine forI ?_ | with_reducible refine r1I ?_ | with_reducible refine ir2I ?_ | with_reducible refine iTupI ?_ | with_reducible refine truI ?_ | with_reducible refine chainI ?_ | with_reducible refine lcI ?_ | with_reducible refine slI ?_ | with_reducible refine noPI ?_ | with_reducible refine ptI ?_ | with_reducible refine unI ?_ | with_reducible refine brkI ?_ | with_reducible refine cntI ?_ | with_reducible refine retNI ?_ | with_reducible refine addII ?_ | with_reducible refine rI0 ?_ | with_reducible refine rIC ?_ ?_ | with_reducible refine mulII ?_ ?_ | with_reducible refine addTT ?_ ?_ | with_reducible refine addSS ?_ ?_ | with_reducible refine negII ?_ | with_reducible refine eqII ?_ | with_reducible refine eqSS ?_ | with_reducible refine eqBB ?_ | with_reducible refine neII ?_ | with_reducible refine neSS ?_ | with_reducible refine neBB ?_ | with_reducible refine isNN ?_ | with_reducible refine isNotNN ?_ | with_reducible refine isBB ?_ | with_reducible refine isNotBB ?_ | with_reducible refine lenTI ?_ | with_reducible refine lenFI ?_ | with_reducible refine intII ?_ | with_reducible refine intBI ?_ | with_reducible refine tupTI ?_ | with_reducible refine minII ?_ | with_reducible refine maxII ?_ | with_reducible refine slTI ?_ | with_reducible refine gcI ?_ | with_reducible refine gnI ?_ | with_reducible refine aNI ?_ | ((with_reducible refine ttI ?_ ?_); exact rfl) | ((with_reducible refine And.intro ?_ ?_); exact rfl) | ((with_reducible refine And.intro ?_ ?_); exact lenOk rfl) | dsimp only [En.s]))
                refine ixTI (d := .str "write") rfl ?_
                (repeat (first | with_reducible refine seqI ?_ | with_reducible refine setI ?_ | with_reducible refine asgI ?_ | with_reducible refine retI ?_ | with_reducible refine opI ?_ | with_reducible refine callI ?_ | with_reducible refine consI ?_ | with_reducible refine cI ?_ | with_reducible refine nilI ?_ | ((with_reducible apply varI); exact rfl) | with_reducible refine cbI ?_ | with_reducible refine ifI ?_ | with_reducible refine tstI ?_ | with_reducible refine notTI ?_ | with_reducible refine andTI ?_ | with_reducible refine orTI ?_ | with_reducible refine dropI ?_ | with_reducible refine nextI ?_ | with_reducible refine tupI ?_ | with_reducible refine lstI ?_ | with_reducible refine starI ?_ | with_reducible refine starTT ?_ | with_reducible refine andI ?_ | with_reducible refine orVI ?_ | with_reducible refine notI ?_ | with_reducible refine ifEI ?_ | with_reducible refine forI ?_ | with_reducible refine r1I ?_ | with_reducible refine ir2I ?_ | with_reducible refine iTupI ?_ | with_reducible refine truI ?_ | with_reducible refine chainI ?_ | with_reducible refine lcI ?_ | with_reducible refine slI ?_ | with_reducible refine noPI ?_ | with_reducible refine ptI ?_ | with_reducible refine unI ?_ | with_reducible refine brkI ?_ | with_reducible refine cntI ?_ | with_reducible refine retNI ?_ | with_reducible refine addII ?_ | with_reducible refine rI0 ?_ | with_reducible refine rIC ?_ ?_ | with_reducible refine mulII ?_ ?_ | with_reducible refine addTT ?_ ?_ | with_reducible refine addSS ?_ ?_ | with_reducible refine negII ?_ | with_reducible refine eqII ?_ | with_reducible refine eqSS ?_ | with_reducible refine eqBB ?_ | with_reducible refine neII ?_ | with_reducible refine neSS ?_ | with_reducible refine neBB ?_ | with_reducible refine isNN ?_ | with_reducible refine isNotNN ?_ | with_reducible refine isBB ?_ | with_reducible refine isNotBB ?_ | with_reducible refine lenTI ?_ | with_reducible refine lenFI ?_ | with_reducible refine intII ?_ | with_reducible refine intBI ?_ | with_reducible refine tupTI ?_ | with_reducible refine minII ?_ | with_reducible refine maxII ?_ | with_reducible refine slTI ?_ | with_reducible refine gcI ?_ | with_reducible refine gnI ?_ | with_reducible refine aNI ?_ | ((with_reducible refine ttI ?_ ?_); exact rfl) | ((with_reducible refine And.intro ?_ ?_); exact rfl) | ((with_reducible refine And.intro ?_ ?_); exact lenOk rfl) | dsimp only [En.s]))
                refine bl_t (by decide +kernel) ?_
                (repeat (first | with_reducible refine seqI ?_ | with_reducible refine setI ?_ | with_reducible refine asgI ?_ | with_reducible refine retI ?_ | with_reducible refine opI ?_ | with_reducible refine callI ?_ | with_reducible refine consI ?_ | with_reducible refine cI ?_ | with_reducible refine nilI ?_ | ((with_reducible apply varI); exact rfl) | with_reducible refine cbI ?_ | with_reducible refine ifI ?_ | with_reducible refine tstI ?_ | with_reducible refine notTI ?_ | with_reducible refine andTI ?_ | with_reducible refine orTI ?_ | with_reducible refine dropI ?_ | with_reducible refine nextI ?_ | with_reducible refine tupI ?_ | with_reducible refine lstI ?_ | with_reducible refine starI ?_ | with_reducible refine starTT ?_ | with_reducible refine andI ?_ | with_reducible refine orVI ?_ | with_reducible refine notI ?_ | with_reducible refine ifEI ?_ | with_reducible refine forI ?_ | with_reducible refine r1I ?_ | with_reducible refine ir2I ?_ | with_reducible refine iTupI ?_ | with_reducible refine truI ?_ | with_reducible refine chainI ?_ | with_reducible refine lcI ?_ | with_reducible refine slI ?_ | with_reducible refine noPI ?_ | with_reducible refine ptI ?_ | with_reducible refine unI ?_ | with_reducible refine brkI ?_ | with_reducible refine cntI ?_ | with_reducible refine retNI ?_ | with_reducible refine addII ?_ | with_reducible refine rI0 ?_ | with_reducible refine rIC ?_ ?_ | with_reducible refine mulII ?_ ?_ | with_reducible refine addTT ?_ ?_ | with_reducible refine addSS ?_ ?_ | with_reducible refine negII ?_ | with_reducible refine eqII ?_ | with_reducible refine eqSS ?_ | with_reducible refine eqBB ?_ | with_reducible refine neII ?_ | with_reducible refine neSS ?_ | with_reducible refine neBB ?_ | with_reducible refine isNN ?_ | with_reducible refine isNotNN ?_ | with_reducible refine isBB ?_ | with_reducible refine isNotBB ?_ | with_reducible refine lenTI ?_ | with_reducible refine lenFI ?_ | with_reducible refine intII ?_ | with_reducible refine intBI ?_ | with_reducible refine tupTI ?_ | with_reducible refine minII ?_ | with_reducible refine maxII ?_ | with_reducible refine slTI ?_ | with_reducible refine gcI ?_ | with_reducible refine gnI ?_ | with_reducible refine aNI ?_ | ((with_reducible refine ttI ?_ ?_); exact rfl) | ((with_reducible refine And.intro ?_ ?_); exact rfl) | ((with_reducible refine And.intro ?_ ?_); exact lenOk rfl) | dsimp only [En.s]))
                refine ixTI (d := btD b) rfl ?_
                exact qk _ _ ⟨b, rfl, rfl⟩ (Ab.Sub.refl _)
            · rw [hT] at hf11
              have e := FS_wr hf11
              subst e
              (repeat (first | with_reducible refine seqI ?_ | with_reducible refine setI ?_ | with_reducible refine asgI ?_ | with_reducible refine retI ?_ | with_reducible refine opI ?_ | with_reducible refine callI ?_ | with_reducible refine consI ?_ | with_reducible refine cI ?_ | with_reducible refine nilI ?_ | ((with_reducible apply varI); exact rfl) | with_reducible refine cbI ?_ | with_reducible refine ifI ?_ | with_reducible refine tstI ?_ | with_reducible refine notTI ?_ | with_reducible refine andTI ?_ | with_reducible refine orTI ?_ | with_reducible refine dropI ?_ | with_reducible refine nextI ?_ | with_reducible refine tupI ?_ | with_reducible refine lstI ?_ | with_reducible refine starI ?_ | with_reducible refine starTT ?_ | with_reducible refine andI ?_ | with_reducible refine orVI ?_ | with_reducible refine notI ?_ | with_reducible refine ifEI ?_ | with_reducible refine forI ?_ | with_reducible refine r1I ?_ | with_reducible refine ir2I ?_ | with_reducible refine iTupI ?_ | with_reducible refine truI ?_ | with_reducible refine chainI ?_ | with_reducible refine lcI ?_ | with_reducible refine slI ?_ | with_reducible refine noPI ?_ | with_reducible refine ptI ?_ | with_reducible refine unI ?_ | with_reducible refine brkI ?_ | with_reducible refine cntI ?_ | with_reducible refine retNI ?_ | with_reducible refine addII ?_ | with_reducible refine rI0 ?_ | with_reducible refine rIC ?_ ?_ | with_reducible refine mulII ?_ ?_ | with_reducible refine addTT ?_ ?_ | with_reducible refine addSS ?_ ?_ | with_reducible refine negII ?_ | with_reducible refine eqII ?_ | with_reducible refine eqSS ?_ | with_reducible refine eqBB ?_ | with_reducible refine neII ?_ | with_reducible refine neSS ?_ | with_reducible refine neBB ?_ | with_reducible refine isNN ?_ | with_reducible refine isNotNN ?_ | with_reducible refine isBB ?_ | with_reducible refine isNotBB ?_ | with_reducible refine lenTI ?_ | with_reducible refine lenFI ?_ | with_reducible refine intII ?_ | with_reducible refine intBI ?_ | with_reducible refine tupTI ?_ | with_reducible refine minII ?_ | with_reducible refine maxII ?_ | with_reducible refine slTI ?_ | with_reducible refine gcI ?_ | with_reducible refine gnI ?_ | with_reducible refine aNI ?_ | ((with_reducible refine ttI ?_ ?_); exact rfl) | ((with_reducible refine And.intro ?_ ?_); exact rfl) | ((with_reducible refine And.intro ?_ ?_); exact lenOk rfl) | dsimp only [En.s]))
              show ∀ p, m11 p = none → _
              intro p12 hp12
              have n12 : q3 ≠ p12 := fun z => by rw [← z, hm11] at hp12; cases hp12
              refine eqLL (n := 4) (by rw [l_ne n12]; exact l_of hm11) l_same (fun d hd => ?_) (by decide) ⟨_, Ab.Sub.refl _, rfl⟩
              obtain ⟨b, _, rfl⟩ := List.mem_map.mp hd
              exact okN_Q (okN_mono (show 3 ≤ 4 by decide) (okB b))
          · exact cdiv (by omega) (by omega)
end K32

set_option Elab.async false
set_option linter.all false
set_option maxRecDepth 100000
set_option maxHeartbeats 4000000
namespace K32
open PySem PySem.Spec PyProof.Rows L2 Ab
def top (i : Nat) : Stmt := PySem.Challenge.pw_cutledger_k32_whole_fewest_checks.main.body.getD i (.Pass ⟨0, 0, 0, 0⟩)
section
variable {P : Program} {w : World} {K : PySem.W.Frag} {mg : Str → Option Value} {base : Heap}
abbrev st_f_law_taken : Stmt := top 26
theorem sc_f_law_taken : FnScope ["row", "many", "found", "cell"] ["row", "many"] (defScope st_f_law_taken) := ⟨rfl, rfl, rfl, by decide +kernel, rfl, by decide +kernel, by decide +kernel⟩
theorem ok_f_law_taken (B : Bi mg) {fd : FuncData} (F : FunD K "_law_taken" "_law_taken" (defArgs st_f_law_taken) (defBody st_f_law_taken) (defScope st_f_law_taken) [] [] (He.fAd K ("_law_taken", none)) fd) (hm : mg "_law_taken" = some (.ref (He.fAd K ("_law_taken", none)))) : Cal P w K mg base "_law_taken" (0 + 1) 2 s_f_law_taken := by
  have bd : Binds K fd ["row", "many"] [] := F.bindsN fun _ _ _ _ _ _ us hl => match us, hl with | [_, _], _ => rfl
  refine cal_def F hm bd sc_f_law_taken rfl fun cdv A outer s H E hr => ?_
  have hN : (["row", "many", "found", "cell"] : List Str).Nodup := sc_f_law_taken.nd
  have hu := hr.units
  have tk : Takes (cxOf (L2.CX P w) P w K mg base ["row", "many", "found", "cell"] "_law_taken" (defScope st_f_law_taken) (He.fAd K ("_law_taken", none)) cdv A outer s H E) (WD E) := takes_of rfl rfl rfl rfl
  have hp : PassesOwn (model P w) (cxOf (L2.CX P w) P w K mg base ["row", "many", "found", "cell"] "_law_taken" (defScope st_f_law_taken) (He.fAd K ("_law_taken", none)) cdv A outer s H E).A (cxOf (L2.CX P w) P w K mg base ["row", "many", "found", "cell"] "_law_taken" (defScope st_f_law_taken) (He.fAd K ("_law_taken", none)) cdv A outer s H E).env (cxOf (L2.CX P w) P w K mg base ["row", "many", "found", "cell"] "_law_taken" (defScope st_f_law_taken) (He.fAd K ("_law_taken", none)) cdv A outer s H E).xe := passes_of rfl
  exact gs_cons (s_if (gt_cmp o_gt (g_ix x_any (gv 0) (g_int)) (g_int) (by rfl))
    (gs_cons (s_set (i := 2) hN (g_op o_mod (g_ct c_int B.int bt_int (ga_cons (g_ix x_any (gv 0) (g_int)) (ga_nil))) (gv 1)))
    (gs_cons (s_asg (g_op o_fdiv (g_ix x_any (gv 0) (g_int)) (gv 1)) (t_sub (gv 0) (g_int)))
    (gs_one (s_ret (gv 2)))))
    (gs_nil))
    (gs_cons (s_asg (g_op o_add (g_ix x_any (gv 0) (g_int)) (g_int)) (t_sub (gv 0) (g_int)))
    (gs_cons (s_if (gt_cmp o_gt (g_ix x_any (gv 0) (g_int)) (g_cb c_len B.len bt_len (ga_cons (g_ix x_any (gv 0) (g_int)) (ga_nil))) (by rfl))
    (gs_cons (s_asg (g_op o_mod (g_ct c_int B.int bt_int (ga_cons (g_op o_add (g_op o_mul (g_ix x_any (gv 0) (g_int)) (g_int)) (g_int)) (ga_nil))) (g_int)) (t_sub (gv 0) (g_int)))
    (gs_one (s_ret (g_op o_mod (g_ct c_int B.int bt_int (ga_cons (g_op o_fdiv (g_ix x_any (gv 0) (g_int)) (g_int)) (ga_nil))) (gv 1)))))
    (gs_nil))
    (gs_cons (s_set (i := 3) hN (g_ix x_any (g_ix x_any (gv 0) (g_int)) (g_op o_sub (g_ix x_any (gv 0) (g_int)) (g_int))))
    (gs_cons (s_asg (g_op o_mod (g_ct c_int B.int bt_int (ga_cons (g_op o_add (g_op o_add (g_op o_mul (g_ix x_any (gv 0) (g_int)) (g_int)) (gv 3)) (g_int)) (ga_nil))) (g_int)) (t_sub (gv 0) (g_int)))
    (gs_cons (s_if (gt_cmp o_ge (gv 3) (g_op o_pow (g_int) (g_int)) (by rfl))
    (gs_one (s_asg (g_op o_fdiv (gv 3) (gv 1)) (t_sub (gv 0) (g_int))))
    (gs_nil))
    (gs_one (s_ret (g_op o_mod (g_ct c_int B.int bt_int (ga_cons (gv 3) (ga_nil))) (gv 1)))))))))
abbrev st_f_law_pick : Stmt := top 27
theorem sc_f_law_pick : FnScope ["row", "things"] ["row", "things"] (defScope st_f_law_pick) := ⟨rfl, rfl, rfl, by decide +kernel, rfl, by decide +kernel, by decide +kernel⟩
theorem ok_f_law_pick (B : Bi mg) (h_f_law_taken : Cal P w K mg base "_law_taken" 1 2 s_f_law_taken) {fd : FuncData} (F : FunD K "_law_pick" "_law_pick" (defArgs st_f_law_pick) (defBody st_f_law_pick) (defScope st_f_law_pick) [] [] (He.fAd K ("_law_pick", none)) fd) (hm : mg "_law_pick" = some (.ref (He.fAd K ("_law_pick", none)))) : Cal P w K mg base "_law_pick" (1 + 1) 2 s_f_law_pick := by
  have bd : Binds K fd ["row", "things"] [] := F.bindsN fun _ _ _ _ _ _ us hl => match us, hl with | [_, _], _ => rfl
  refine cal_def F hm bd sc_f_law_pick rfl fun cdv A outer s H E hr => ?_
  have hN : (["row", "things"] : List Str).Nodup := sc_f_law_pick.nd
  have hu := hr.units
  have tk : Takes (cxOf (L2.CX P w) P w K mg base ["row", "things"] "_law_pick" (defScope st_f_law_pick) (He.fAd K ("_law_pick", none)) cdv A outer s H E) (WD E) := takes_of rfl rfl rfl rfl
  have hp : PassesOwn (model P w) (cxOf (L2.CX P w) P w K mg base ["row", "things"] "_law_pick" (defScope st_f_law_pick) (He.fAd K ("_law_pick", none)) cdv A outer s H E).A (cxOf (L2.CX P w) P w K mg base ["row", "things"] "_law_pick" (defScope st_f_law_pick) (He.fAd K ("_law_pick", none)) cdv A outer s H E).env (cxOf (L2.CX P w) P w K mg base ["row", "things"] "_law_pick" (defScope st_f_law_pick) (He.fAd K ("_law_pick", none)) cdv A outer s H E).xe := passes_of rfl
  exact gs_one (s_ret (g_ix x_any (gv 1) (g_c h_f_law_taken tk (hr.mono (by omega)) (ga_cons (gv 0) (ga_cons (g_cb c_len B.len bt_len (ga_cons (gv 1) (ga_nil))) (ga_nil))))))
abbrev st_f_law_page : Stmt := top 28
theorem sc_f_law_page : FnScope ["row", "many", "found", "at"] ["row"] (defScope st_f_law_page) := ⟨rfl, rfl, rfl, by decide +kernel, rfl, by decide +kernel, by decide +kernel⟩
theorem ok_f_law_page (B : Bi mg) (h_f_law_taken : Cal P w K mg base "_law_taken" 1 2 s_f_law_taken) (h_f_law_pick : Cal P w K mg base "_law_pick" 2 2 s_f_law_pick) {fd : FuncData} (F : FunD K "_law_page" "_law_page" (defArgs st_f_law_page) (defBody st_f_law_page) (defScope st_f_law_page) [] [] (He.fAd K ("_law_page", none)) fd) (hm : mg "_law_page" = some (.ref (He.fAd K ("_law_page", none)))) : Cal P w K mg base "_law_page" (2 + 1) 1 s_f_law_page := by
  have bd : Binds K fd ["row"] [] := F.bindsN fun _ _ _ _ _ _ us hl => match us, hl with | [_], _ => rfl
  refine cal_def F hm bd sc_f_law_page rfl fun cdv A outer s H E hr => ?_
  have hN : (["row", "many", "found", "at"] : List Str).Nodup := sc_f_law_page.nd
  have hu := hr.units
  have tk : Takes (cxOf (L2.CX P w) P w K mg base ["row", "many", "found", "at"] "_law_page" (defScope st_f_law_page) (He.fAd K ("_law_page", none)) cdv A outer s H E) (WD E) := takes_of rfl rfl rfl rfl
  have hp : PassesOwn (model P w) (cxOf (L2.CX P w) P w K mg base ["row", "many", "found", "at"] "_law_page" (defScope st_f_law_page) (He.fAd K ("_law_page", none)) cdv A outer s H E).A (cxOf (L2.CX P w) P w K mg base ["row", "many", "found", "at"] "_law_page" (defScope st_f_law_page) (He.fAd K ("_law_page", none)) cdv A outer s H E).env (cxOf (L2.CX P w) P w K mg base ["row", "many", "found", "at"] "_law_page" (defScope st_f_law_page) (He.fAd K ("_law_page", none)) cdv A outer s H E).xe := passes_of rfl
  exact gs_cons (s_set (i := 1) hN (g_ix x_any (g_lst (ga_cons (g_int) (ga_cons (g_int) (ga_cons (g_int) (ga_cons (g_int) (ga_cons (g_int) (ga_cons (g_int) (ga_cons (g_int) (ga_nil))))))))) (g_c h_f_law_taken tk (hr.mono (by omega)) (ga_cons (gv 0) (ga_cons (g_int) (ga_nil))))))
    (gs_cons (s_setLc (i := 2) (own := [(("at" : Str), 3)]) rfl hN (i_r1 B.range (ga_cons (g_cb (c_min rfl) B.min bt_min (ga_cons (gv 1) (ga_cons (g_int) (ga_nil)))) (ga_nil))) (blkOk_by (by exact (show blkC (["row", "many", "found", "at"] : List Str) (defScope st_f_law_page) _ [(("at" : Str), 3)] = true by decide +kernel))) (sw_true rfl rfl rfl (by decide +kernel)) (fun _ _ _ _ _ => c_name (i := 3) hN (by decide)) (fun _ _ _ _ _ => ts_yes) (fun _ _ _ _ _ => g_c h_f_law_pick tk0 (hr.mono (by omega)) (ga_cons (gv 0) (ga_cons (g_lst (ga_cons (g_int) (ga_cons (g_int) (ga_cons (g_int) (ga_cons (g_c h_f_law_taken tk0 (hr.mono (by omega)) (ga_cons (gv 0) (ga_cons (g_int) (ga_nil)))) (ga_nil)))))) (ga_nil)))))
    (gs_one (s_ret (g_ct c_tuple B.tuple bt_tuple (ga_cons (g_op o_add (gv 2) (g_op o_mul (g_lst (ga_cons (g_int) (ga_nil))) (g_cb (c_max rfl) B.max bt_max (ga_cons (g_int) (ga_cons (g_op o_sub (gv 1) (g_int)) (ga_nil)))))) (ga_nil))))))
abbrev st_f_law_batch : Stmt := top 29
theorem sc_f_law_batch : FnScope ["row", "pages", "most", "rest", "found", "turn", "number"] ["row", "pages", "most"] (defScope st_f_law_batch) := ⟨rfl, rfl, rfl, by decide +kernel, rfl, by decide +kernel, by decide +kernel⟩
theorem ok_f_law_batch (B : Bi mg) (h_f_law_taken : Cal P w K mg base "_law_taken" 1 2 s_f_law_taken) (h_f_law_page : Cal P w K mg base "_law_page" 3 1 s_f_law_page) {fd : FuncData} (F : FunD K "_law_batch" "_law_batch" (defArgs st_f_law_batch) (defBody st_f_law_batch) (defScope st_f_law_batch) [] [] (He.fAd K ("_law_batch", none)) fd) (hm : mg "_law_batch" = some (.ref (He.fAd K ("_law_batch", none)))) : Cal P w K mg base "_law_batch" (3 + 1) 3 s_f_law_batch := by
  have bd : Binds K fd ["row", "pages", "most"] [] := F.bindsN fun _ _ _ _ _ _ us hl => match us, hl with | [_, _, _], _ => rfl
  refine cal_def F hm bd sc_f_law_batch rfl fun cdv A outer s H E hr => ?_
  have hN : (["row", "pages", "most", "rest", "found", "turn", "number"] : List Str).Nodup := sc_f_law_batch.nd
  have hu := hr.units
  have tk : Takes (cxOf (L2.CX P w) P w K mg base ["row", "pages", "most", "rest", "found", "turn", "number"] "_law_batch" (defScope st_f_law_batch) (He.fAd K ("_law_batch", none)) cdv A outer s H E) (WD E) := takes_of rfl rfl rfl rfl
  have hp : PassesOwn (model P w) (cxOf (L2.CX P w) P w K mg base ["row", "pages", "most", "rest", "found", "turn", "number"] "_law_batch" (defScope st_f_law_batch) (He.fAd K ("_law_batch", none)) cdv A outer s H E).A (cxOf (L2.CX P w) P w K mg base ["row", "pages", "most", "rest", "found", "turn", "number"] "_law_batch" (defScope st_f_law_batch) (He.fAd K ("_law_batch", none)) cdv A outer s H E).env (cxOf (L2.CX P w) P w K mg base ["row", "pages", "most", "rest", "found", "turn", "number"] "_law_batch" (defScope st_f_law_batch) (He.fAd K ("_law_batch", none)) cdv A outer s H E).xe := passes_of rfl
  exact gs_cons (s_par (i := 3) (j := 4) rfl hN (ga_cons (g_lstRg rfl B.list B.range (gv 1)) (ga_cons (g_lst (ga_nil)) (ga_nil))))
    (gs_cons (s_for hp rfl (i_r1 B.range (ga_cons (g_op o_add (g_int) (g_c h_f_law_taken tk (hr.mono (by omega)) (ga_cons (gv 0) (ga_cons (g_cb (c_min rfl) B.min bt_min (ga_cons (gv 1) (ga_cons (gv 2) (ga_nil)))) (ga_nil))))) (ga_nil))) (t_name (i := 5) hN)
    (gs_one (s_expr (g_app (gv 4) (g_popAt (gv 3) (g_c h_f_law_taken tk (hr.mono (by omega)) (ga_cons (gv 0) (ga_cons (g_cb c_len B.len bt_len (ga_cons (gv 3) (ga_nil))) (ga_nil)))))))))
    (gs_one (s_ret (g_ct c_tuple B.tuple bt_tuple (ga_cons (g_lc (own := [(("number" : Str), 6)]) rfl hN (i_lst (g_cb c_sorted B.sorted bt_sorted (ga_cons (gv 4) (ga_nil)))) (blkOk_by (by exact (show blkC (["row", "pages", "most", "rest", "found", "turn", "number"] : List Str) (defScope st_f_law_batch) _ [(("number" : Str), 6)] = true by decide +kernel))) (fun _ _ _ _ _ => c_name (i := 6) hN (by decide)) (fun _ _ _ _ _ => ts_yes) (fun _ _ _ _ _ => g_tup (ga_cons (gv 6) (ga_cons (g_c h_f_law_page tk0 (hr.mono (by omega)) (ga_cons (gv 0) (ga_nil))) (ga_nil))))) (ga_nil))))))
abbrev st_f_law_batches : Stmt := top 30
theorem sc_f_law_batches : FnScope ["row", "shape", "most", "some", "turn", "number", "page", "batch"] ["row", "shape", "most"] (defScope st_f_law_batches) := ⟨rfl, rfl, rfl, by decide +kernel, rfl, by decide +kernel, by decide +kernel⟩
theorem ok_f_law_batches (B : Bi mg) (h_f_law_taken : Cal P w K mg base "_law_taken" 1 2 s_f_law_taken) (h_f_law_batch : Cal P w K mg base "_law_batch" 4 3 s_f_law_batch) {fd : FuncData} (F : FunD K "_law_batches" "_law_batches" (defArgs st_f_law_batches) (defBody st_f_law_batches) (defScope st_f_law_batches) [] [] (He.fAd K ("_law_batches", none)) fd) (hm : mg "_law_batches" = some (.ref (He.fAd K ("_law_batches", none)))) : Cal P w K mg base "_law_batches" (4 + 1) 3 s_f_law_batches := by
  have bd : Binds K fd ["row", "shape", "most"] [] := F.bindsN fun _ _ _ _ _ _ us hl => match us, hl with | [_, _, _], _ => rfl
  refine cal_def F hm bd sc_f_law_batches rfl fun cdv A outer s H E hr => ?_
  have hN : (["row", "shape", "most", "some", "turn", "number", "page", "batch"] : List Str).Nodup := sc_f_law_batches.nd
  have hu := hr.units
  have tk : Takes (cxOf (L2.CX P w) P w K mg base ["row", "shape", "most", "some", "turn", "number", "page", "batch"] "_law_batches" (defScope st_f_law_batches) (He.fAd K ("_law_batches", none)) cdv A outer s H E) (WD E) := takes_of rfl rfl rfl rfl
  have hp : PassesOwn (model P w) (cxOf (L2.CX P w) P w K mg base ["row", "shape", "most", "some", "turn", "number", "page", "batch"] "_law_batches" (defScope st_f_law_batches) (He.fAd K ("_law_batches", none)) cdv A outer s H E).A (cxOf (L2.CX P w) P w K mg base ["row", "shape", "most", "some", "turn", "number", "page", "batch"] "_law_batches" (defScope st_f_law_batches) (He.fAd K ("_law_batches", none)) cdv A outer s H E).env (cxOf (L2.CX P w) P w K mg base ["row", "shape", "most", "some", "turn", "number", "page", "batch"] "_law_batches" (defScope st_f_law_batches) (He.fAd K ("_law_batches", none)) cdv A outer s H E).xe := passes_of rfl
  exact gs_cons (s_setLc (i := 3) (own := [(("turn" : Str), 4)]) rfl hN (i_r1 B.range (ga_cons (g_c h_f_law_taken tk (hr.mono (by omega)) (ga_cons (gv 0) (ga_cons (g_op o_add (gv 2) (g_int)) (ga_nil)))) (ga_nil))) (blkOk_by (by exact (show blkC (["row", "shape", "most", "some", "turn", "number", "page", "batch"] : List Str) (defScope st_f_law_batches) _ [(("turn" : Str), 4)] = true by decide +kernel))) (sw_true rfl rfl rfl (by decide +kernel)) (fun _ _ _ _ _ => c_name (i := 4) hN (by decide)) (fun _ _ _ _ _ => ts_yes) (fun _ _ _ _ _ => g_c h_f_law_batch tk0 (hr.mono (by omega)) (ga_cons (gv 0) (ga_cons (g_ix x_any (gv 1) (g_int)) (ga_cons (g_cb (c_min rfl) B.min bt_min (ga_cons (g_int) (ga_cons (g_ix x_any (gv 1) (g_int)) (ga_nil)))) (ga_nil))))))
    (gs_one (s_ret (g_ct c_tuple B.tuple bt_tuple (ga_cons (g_lc (own := [(("batch" : Str), 7)]) rfl hN (i_lst (gv 3)) (blkOk_by (by exact (show blkC (["row", "shape", "most", "some", "turn", "number", "page", "batch"] : List Str) (defScope st_f_law_batches) _ [(("batch" : Str), 7)] = true by decide +kernel))) (fun _ _ _ _ _ => c_name (i := 7) hN (by decide)) (fun _ _ _ _ _ => ts_yes) (fun _ _ _ _ _ => g_ct c_tuple B.tuple bt_tuple (ga_cons (g_lc (own := [(("number" : Str), 5), (("page" : Str), 6)]) rfl hN (i_tup (gv 7)) (blkOk_by (by kernel_rfl)) (fun _ _ _ _ _ => c_tup rfl (cs_cons (c_name (i := 5) hN (by decide)) (cs_cons (c_name (i := 6) hN (by decide)) (cs_nil)))) (fun _ _ _ _ _ => ts_yes) (fun _ _ _ _ _ => g_tup (ga_cons (gv 5) (ga_cons (g_slice sl_any (gv 6) (gp_none) (gp_some (g_int))) (ga_nil))))) (ga_nil)))) (ga_nil)))))
abbrev st_f_law_ways : Stmt := top 31
theorem sc_f_law_ways : FnScope ["many", "found", "spot", "spots"] ["many"] (defScope st_f_law_ways) := ⟨rfl, rfl, rfl, by decide +kernel, rfl, by decide +kernel, by decide +kernel⟩
theorem ok_f_law_ways (B : Bi mg) {fd : FuncData} (F : FunD K "_law_ways" "_law_ways" (defArgs st_f_law_ways) (defBody st_f_law_ways) (defScope st_f_law_ways) [] [] (He.fAd K ("_law_ways", none)) fd) (hm : mg "_law_ways" = some (.ref (He.fAd K ("_law_ways", none)))) : Cal P w K mg base "_law_ways" (0 + 1) 1 s_f_law_ways := by
  have bd : Binds K fd ["many"] [] := F.bindsN fun _ _ _ _ _ _ us hl => match us, hl with | [_], _ => rfl
  refine cal_def F hm bd sc_f_law_ways rfl fun cdv A outer s H E hr => ?_
  have hN : (["many", "found", "spot", "spots"] : List Str).Nodup := sc_f_law_ways.nd
  have hu := hr.units
  have tk : Takes (cxOf (L2.CX P w) P w K mg base ["many", "found", "spot", "spots"] "_law_ways" (defScope st_f_law_ways) (He.fAd K ("_law_ways", none)) cdv A outer s H E) (WD E) := takes_of rfl rfl rfl rfl
  have hp : PassesOwn (model P w) (cxOf (L2.CX P w) P w K mg base ["many", "found", "spot", "spots"] "_law_ways" (defScope st_f_law_ways) (He.fAd K ("_law_ways", none)) cdv A outer s H E).A (cxOf (L2.CX P w) P w K mg base ["many", "found", "spot", "spots"] "_law_ways" (defScope st_f_law_ways) (He.fAd K ("_law_ways", none)) cdv A outer s H E).env (cxOf (L2.CX P w) P w K mg base ["many", "found", "spot", "spots"] "_law_ways" (defScope st_f_law_ways) (He.fAd K ("_law_ways", none)) cdv A outer s H E).xe := passes_of rfl
  exact gs_cons (s_set (i := 1) hN (g_lst (ga_cons (g_tup (ga_nil)) (ga_nil))))
    (gs_cons (s_for hp rfl (i_r2 B.range (ga_cons (g_int) (ga_cons (g_op o_add (gv 0) (g_int)) (ga_nil)))) (t_name (i := 2) hN)
    (gs_one (s_set (i := 1) hN (g_op o_add (gv 1) (g_lc (own := [(("spots" : Str), 3)]) rfl hN (i_lst (gv 1)) (blkOk_by (by exact (show blkC (["many", "found", "spot", "spots"] : List Str) (defScope st_f_law_ways) _ [(("spots" : Str), 3)] = true by decide +kernel))) (fun _ _ _ _ _ => c_name (i := 3) hN (by decide)) (fun _ _ _ _ _ => ts_yes) (fun _ _ _ _ _ => g_op o_add (gv 3) (g_tup (ga_cons (gv 2) (ga_nil)))))))))
    (gs_one (s_ret (gv 1))))
abbrev st_f_law_with_checks : Stmt := top 32
theorem sc_f_law_with_checks : FnScope ["batches", "spots", "found", "at", "batch"] ["batches", "spots"] (defScope st_f_law_with_checks) := ⟨rfl, rfl, rfl, by decide +kernel, rfl, by decide +kernel, by decide +kernel⟩
theorem ok_f_law_with_checks (B : Bi mg) {fd : FuncData} (F : FunD K "_law_with_checks" "_law_with_checks" (defArgs st_f_law_with_checks) (defBody st_f_law_with_checks) (defScope st_f_law_with_checks) [] [] (He.fAd K ("_law_with_checks", none)) fd) (hm : mg "_law_with_checks" = some (.ref (He.fAd K ("_law_with_checks", none)))) : Cal P w K mg base "_law_with_checks" (0 + 1) 2 s_f_law_with_checks := by
  have bd : Binds K fd ["batches", "spots"] [] := F.bindsN fun _ _ _ _ _ _ us hl => match us, hl with | [_, _], _ => rfl
  refine cal_def F hm bd sc_f_law_with_checks rfl fun cdv A outer s H E hr => ?_
  have hN : (["batches", "spots", "found", "at", "batch"] : List Str).Nodup := sc_f_law_with_checks.nd
  have hu := hr.units
  have tk : Takes (cxOf (L2.CX P w) P w K mg base ["batches", "spots", "found", "at", "batch"] "_law_with_checks" (defScope st_f_law_with_checks) (He.fAd K ("_law_with_checks", none)) cdv A outer s H E) (WD E) := takes_of rfl rfl rfl rfl
  have hp : PassesOwn (model P w) (cxOf (L2.CX P w) P w K mg base ["batches", "spots", "found", "at", "batch"] "_law_with_checks" (defScope st_f_law_with_checks) (He.fAd K ("_law_with_checks", none)) cdv A outer s H E).A (cxOf (L2.CX P w) P w K mg base ["batches", "spots", "found", "at", "batch"] "_law_with_checks" (defScope st_f_law_with_checks) (He.fAd K ("_law_with_checks", none)) cdv A outer s H E).env (cxOf (L2.CX P w) P w K mg base ["batches", "spots", "found", "at", "batch"] "_law_with_checks" (defScope st_f_law_with_checks) (He.fAd K ("_law_with_checks", none)) cdv A outer s H E).xe := passes_of rfl
  exact gs_cons (s_set (i := 2) hN (g_tup (ga_nil)))
    (gs_cons (s_for hp rfl (i_enum B.enumerate (gv 0)) (t_tup rfl (ts_cons (t_name (i := 3) hN) (ts_cons (t_name (i := 4) hN) (ts_nil))))
    (gs_one (s_set (i := 2) hN (g_op o_add (g_op o_add (gv 2) (g_if (gt_cmp (o_inX hu) (gv 3) (gv 1) (by rfl)) (g_tup (ga_cons (g_tup (ga_cons (g_str) (ga_nil))) (ga_nil))) (g_tup (ga_nil)))) (g_tup (ga_cons (g_tup (ga_cons (g_str) (ga_cons (gv 4) (ga_nil)))) (ga_nil)))))))
    (gs_one (s_ret (g_op o_add (gv 2) (g_if (gt_w (gw_and (gt_cmp (o_inX hu) (g_cb c_len B.len bt_len (ga_cons (gv 0) (ga_nil))) (gv 1) (by rfl)) (gw_and1 (gt_cmp (o_ne hu) (gv 0) (g_tup (ga_nil)) (by rfl))))) (g_tup (ga_cons (g_tup (ga_cons (g_str) (ga_nil))) (ga_nil))) (g_tup (ga_nil)))))))
abbrev st_f_law_fits : Stmt := top 33
theorem sc_f_law_fits : FnScope ["shape", "deeds", "used", "deed"] ["shape", "deeds"] (defScope st_f_law_fits) := ⟨rfl, rfl, rfl, by decide +kernel, rfl, by decide +kernel, by decide +kernel⟩
theorem ok_f_law_fits (B : Bi mg) {fd : FuncData} (F : FunD K "_law_fits" "_law_fits" (defArgs st_f_law_fits) (defBody st_f_law_fits) (defScope st_f_law_fits) [] [] (He.fAd K ("_law_fits", none)) fd) (hm : mg "_law_fits" = some (.ref (He.fAd K ("_law_fits", none)))) : Cal P w K mg base "_law_fits" (0 + 1) 2 s_f_law_fits := by
  have bd : Binds K fd ["shape", "deeds"] [] := F.bindsN fun _ _ _ _ _ _ us hl => match us, hl with | [_, _], _ => rfl
  refine cal_def F hm bd sc_f_law_fits rfl fun cdv A outer s H E hr => ?_
  have hN : (["shape", "deeds", "used", "deed"] : List Str).Nodup := sc_f_law_fits.nd
  have hu := hr.units
  have tk : Takes (cxOf (L2.CX P w) P w K mg base ["shape", "deeds", "used", "deed"] "_law_fits" (defScope st_f_law_fits) (He.fAd K ("_law_fits", none)) cdv A outer s H E) (WD E) := takes_of rfl rfl rfl rfl
  have hp : PassesOwn (model P w) (cxOf (L2.CX P w) P w K mg base ["shape", "deeds", "used", "deed"] "_law_fits" (defScope st_f_law_fits) (He.fAd K ("_law_fits", none)) cdv A outer s H E).A (cxOf (L2.CX P w) P w K mg base ["shape", "deeds", "used", "deed"] "_law_fits" (defScope st_f_law_fits) (He.fAd K ("_law_fits", none)) cdv A outer s H E).env (cxOf (L2.CX P w) P w K mg base ["shape", "deeds", "used", "deed"] "_law_fits" (defScope st_f_law_fits) (He.fAd K ("_law_fits", none)) cdv A outer s H E).xe := passes_of rfl
  exact gs_cons (s_set (i := 2) hN (g_int))
    (gs_cons (s_for hp rfl (i_tup (gv 1)) (t_name (i := 3) hN)
    (gs_cons (s_set (i := 2) hN (g_if (gt_cmp (o_eq hu) (g_ix x_any (gv 3) (g_int)) (g_str) (by rfl)) (g_op o_add (gv 2) (g_cb c_len B.len bt_len (ga_cons (g_ix x_any (gv 3) (g_int)) (ga_nil)))) (g_int)))
    (gs_one (s_if (gt_cmp o_gt (gv 2) (g_ix x_any (gv 0) (g_int)) (by rfl))
    (gs_one (s_ret (g_bl)))
    (gs_nil)))))
    (gs_one (s_ret (g_bl))))
abbrev st_is_tuple_of : Stmt := top 8
theorem sc_is_tuple_of : FnScope ["value", "least", "most"] ["value", "least", "most"] (defScope st_is_tuple_of) := ⟨rfl, rfl, rfl, by decide +kernel, rfl, by decide +kernel, by decide +kernel⟩
theorem ok_is_tuple_of (B : Bi mg) {fd : FuncData} (F : FunD K "is_tuple_of" "is_tuple_of" (defArgs st_is_tuple_of) (defBody st_is_tuple_of) (defScope st_is_tuple_of) [] [] (He.fAd K ("is_tuple_of", none)) fd) (hm : mg "is_tuple_of" = some (.ref (He.fAd K ("is_tuple_of", none)))) : Cal P w K mg base "is_tuple_of" (0 + 1) 3 s_is_tuple_of := by
  have bd : Binds K fd ["value", "least", "most"] [] := F.bindsN fun _ _ _ _ _ _ us hl => match us, hl with | [_, _, _], _ => rfl
  refine cal_def F hm bd sc_is_tuple_of rfl fun cdv A outer s H E hr => ?_
  have hN : (["value", "least", "most"] : List Str).Nodup := sc_is_tuple_of.nd
  have hu := hr.units
  have tk : Takes (cxOf (L2.CX P w) P w K mg base ["value", "least", "most"] "is_tuple_of" (defScope st_is_tuple_of) (He.fAd K ("is_tuple_of", none)) cdv A outer s H E) (WD E) := takes_of rfl rfl rfl rfl
  have hp : PassesOwn (model P w) (cxOf (L2.CX P w) P w K mg base ["value", "least", "most"] "is_tuple_of" (defScope st_is_tuple_of) (He.fAd K ("is_tuple_of", none)) cdv A outer s H E).A (cxOf (L2.CX P w) P w K mg base ["value", "least", "most"] "is_tuple_of" (defScope st_is_tuple_of) (He.fAd K ("is_tuple_of", none)) cdv A outer s H E).env (cxOf (L2.CX P w) P w K mg base ["value", "least", "most"] "is_tuple_of" (defScope st_is_tuple_of) (He.fAd K ("is_tuple_of", none)) cdv A outer s H E).xe := passes_of rfl
  exact gs_one (s_ret (g_and (g_isi .tuple (gv 0) B.isinstance B.tuple bt_tuple) (g_one (g_chain o_le o_le (gv 1) (g_cb c_len B.len bt_len (ga_cons (gv 0) (ga_nil))) (gv 2) (by with_unfolding_all rfl)))))
abbrev st_is_integer : Stmt := top 7
theorem sc_is_integer : FnScope ["value", "low", "high"] ["value", "low", "high"] (defScope st_is_integer) := ⟨rfl, rfl, rfl, by decide +kernel, rfl, by decide +kernel, by decide +kernel⟩
theorem ok_is_integer (B : Bi mg) {fd : FuncData} (F : FunD K "is_integer" "is_integer" (defArgs st_is_integer) (defBody st_is_integer) (defScope st_is_integer) [] [] (He.fAd K ("is_integer", none)) fd) (hm : mg "is_integer" = some (.ref (He.fAd K ("is_integer", none)))) : Cal P w K mg base "is_integer" (0 + 1) 3 s_is_integer := by
  have bd : Binds K fd ["value", "low", "high"] [] := F.bindsN fun _ _ _ _ _ _ us hl => match us, hl with | [_, _, _], _ => rfl
  refine cal_def F hm bd sc_is_integer rfl fun cdv A outer s H E hr => ?_
  have hN : (["value", "low", "high"] : List Str).Nodup := sc_is_integer.nd
  have hu := hr.units
  have tk : Takes (cxOf (L2.CX P w) P w K mg base ["value", "low", "high"] "is_integer" (defScope st_is_integer) (He.fAd K ("is_integer", none)) cdv A outer s H E) (WD E) := takes_of rfl rfl rfl rfl
  have hp : PassesOwn (model P w) (cxOf (L2.CX P w) P w K mg base ["value", "low", "high"] "is_integer" (defScope st_is_integer) (He.fAd K ("is_integer", none)) cdv A outer s H E).A (cxOf (L2.CX P w) P w K mg base ["value", "low", "high"] "is_integer" (defScope st_is_integer) (He.fAd K ("is_integer", none)) cdv A outer s H E).env (cxOf (L2.CX P w) P w K mg base ["value", "low", "high"] "is_integer" (defScope st_is_integer) (He.fAd K ("is_integer", none)) cdv A outer s H E).xe := passes_of rfl
  exact gs_one (s_ret (g_and (g_isi .int (gv 0) B.isinstance B.int bt_int) (g_and (g_not (g_isi .bool (gv 0) B.isinstance B.bool bt_bool)) (g_one (g_chain o_le o_le (gv 1) (gv 0) (gv 2) (by with_unfolding_all rfl))))))
abbrev st_check_shape : Stmt := top 15
theorem sc_check_shape : FnScope ["shape", "pages", "ring"] ["shape"] (defScope st_check_shape) := ⟨rfl, rfl, rfl, by decide +kernel, rfl, by decide +kernel, by decide +kernel⟩
theorem ok_check_shape (B : Bi mg) (c_MOST_PAGES : CI mg "MOST_PAGES" 64) (c_MOST_RING : CI mg "MOST_RING" 64) (c_LEAST_RING : CI mg "LEAST_RING" 2) (h_is_tuple_of : Cal P w K mg base "is_tuple_of" 1 3 s_is_tuple_of) (h_is_integer : Cal P w K mg base "is_integer" 1 3 s_is_integer) {fd : FuncData} (F : FunD K "check_shape" "check_shape" (defArgs st_check_shape) (defBody st_check_shape) (defScope st_check_shape) [] [] (He.fAd K ("check_shape", none)) fd) (hm : mg "check_shape" = some (.ref (He.fAd K ("check_shape", none)))) : Cal P w K mg base "check_shape" (1 + 1) 1 s_check_shape := by
  have bd : Binds K fd ["shape"] [] := F.bindsN fun _ _ _ _ _ _ us hl => match us, hl with | [_], _ => rfl
  refine cal_def F hm bd sc_check_shape rfl fun cdv A outer s H E hr => ?_
  have hN : (["shape", "pages", "ring"] : List Str).Nodup := sc_check_shape.nd
  have hu := hr.units
  have tk : Takes (cxOf (L2.CX P w) P w K mg base ["shape", "pages", "ring"] "check_shape" (defScope st_check_shape) (He.fAd K ("check_shape", none)) cdv A outer s H E) (WD E) := takes_of rfl rfl rfl rfl
  have hp : PassesOwn (model P w) (cxOf (L2.CX P w) P w K mg base ["shape", "pages", "ring"] "check_shape" (defScope st_check_shape) (He.fAd K ("check_shape", none)) cdv A outer s H E).A (cxOf (L2.CX P w) P w K mg base ["shape", "pages", "ring"] "check_shape" (defScope st_check_shape) (He.fAd K ("check_shape", none)) cdv A outer s H E).env (cxOf (L2.CX P w) P w K mg base ["shape", "pages", "ring"] "check_shape" (defScope st_check_shape) (He.fAd K ("check_shape", none)) cdv A outer s H E).xe := passes_of rfl
  exact gs_cons (s_if (gt_not (gt_b (g_c h_is_tuple_of tk (hr.mono (by omega)) (ga_cons (gv 0) (ga_cons (g_int) (ga_cons (g_int) (ga_nil)))))))
    (gs_one (s_never))
    (gs_nil))
    (gs_cons (s_asg (gv 0) (t_tup rfl (ts_cons (t_name (i := 1) hN) (ts_cons (t_name (i := 2) hN) (ts_nil)))))
    (gs_one (s_if (gt_w (gw_or (gt_not (gt_b (g_c h_is_integer tk (hr.mono (by omega)) (ga_cons (gv 1) (ga_cons (g_int) (ga_cons (g_ci c_MOST_PAGES) (ga_nil))))))) (gw_or1 (gt_not (gt_b (g_c h_is_integer tk (hr.mono (by omega)) (ga_cons (gv 2) (ga_cons (g_ci c_LEAST_RING) (ga_cons (g_ci c_MOST_RING) (ga_nil))))))))))
    (gs_one (s_never))
    (gs_nil))))
abbrev st_are_bytes : Stmt := top 9
theorem sc_are_bytes : FnScope ["value", "least", "most", "byte"] ["value", "least", "most"] (defScope st_are_bytes) := ⟨rfl, rfl, rfl, by decide +kernel, rfl, by decide +kernel, by decide +kernel⟩
theorem ok_are_bytes (B : Bi mg) (h_is_tuple_of : Cal P w K mg base "is_tuple_of" 1 3 s_is_tuple_of) {fd : FuncData} (F : FunD K "are_bytes" "are_bytes" (defArgs st_are_bytes) (defBody st_are_bytes) (defScope st_are_bytes) [] [] (He.fAd K ("are_bytes", none)) fd) (hm : mg "are_bytes" = some (.ref (He.fAd K ("are_bytes", none)))) : Cal P w K mg base "are_bytes" (1 + 1) 3 s_are_bytes := by
  have bd : Binds K fd ["value", "least", "most"] [] := F.bindsN fun _ _ _ _ _ _ us hl => match us, hl with | [_, _, _], _ => rfl
  refine cal_def F hm bd sc_are_bytes rfl fun cdv A outer s H E hr => ?_
  have hN : (["value", "least", "most", "byte"] : List Str).Nodup := sc_are_bytes.nd
  have hu := hr.units
  have tk : Takes (cxOf (L2.CX P w) P w K mg base ["value", "least", "most", "byte"] "are_bytes" (defScope st_are_bytes) (He.fAd K ("are_bytes", none)) cdv A outer s H E) (WD E) := takes_of rfl rfl rfl rfl
  have hp : PassesOwn (model P w) (cxOf (L2.CX P w) P w K mg base ["value", "least", "most", "byte"] "are_bytes" (defScope st_are_bytes) (He.fAd K ("are_bytes", none)) cdv A outer s H E).A (cxOf (L2.CX P w) P w K mg base ["value", "least", "most", "byte"] "are_bytes" (defScope st_are_bytes) (He.fAd K ("are_bytes", none)) cdv A outer s H E).env (cxOf (L2.CX P w) P w K mg base ["value", "least", "most", "byte"] "are_bytes" (defScope st_are_bytes) (He.fAd K ("are_bytes", none)) cdv A outer s H E).xe := passes_of rfl
  exact gs_cons (s_if (gt_not (gt_b (g_c h_is_tuple_of tk (hr.mono (by omega)) (ga_cons (gv 0) (ga_cons (gv 1) (ga_cons (gv 2) (ga_nil)))))))
    (gs_one (s_ret (g_bl)))
    (gs_nil))
    (gs_cons (s_for hp rfl (i_tup (gv 0)) (t_name (i := 3) hN)
    (gs_one (s_if (gt_w (gw_or (gt_not (gt_b (g_isi .int (gv 3) B.isinstance B.int bt_int))) (gw_or (gt_b (g_isi .bool (gv 3) B.isinstance B.bool bt_bool)) (gw_or (gt_cmp o_lt (gv 3) (g_int) (by rfl)) (gw_or1 (gt_cmp o_gt (gv 3) (g_int) (by rfl)))))))
    (gs_one (s_ret (g_bl)))
    (gs_nil))))
    (gs_one (s_ret (g_bl))))
abbrev st_is_page : Stmt := top 16
theorem sc_is_page : FnScope ["value"] ["value"] (defScope st_is_page) := ⟨rfl, rfl, rfl, by decide +kernel, rfl, by decide +kernel, by decide +kernel⟩
theorem ok_is_page (B : Bi mg) (c_LONGEST_CONTENT : CI mg "LONGEST_CONTENT" 96) (h_are_bytes : Cal P w K mg base "are_bytes" 2 3 s_are_bytes) {fd : FuncData} (F : FunD K "is_page" "is_page" (defArgs st_is_page) (defBody st_is_page) (defScope st_is_page) [] [] (He.fAd K ("is_page", none)) fd) (hm : mg "is_page" = some (.ref (He.fAd K ("is_page", none)))) : Cal P w K mg base "is_page" (2 + 1) 1 s_is_page := by
  have bd : Binds K fd ["value"] [] := F.bindsN fun _ _ _ _ _ _ us hl => match us, hl with | [_], _ => rfl
  refine cal_def F hm bd sc_is_page rfl fun cdv A outer s H E hr => ?_
  have hN : (["value"] : List Str).Nodup := sc_is_page.nd
  have hu := hr.units
  have tk : Takes (cxOf (L2.CX P w) P w K mg base ["value"] "is_page" (defScope st_is_page) (He.fAd K ("is_page", none)) cdv A outer s H E) (WD E) := takes_of rfl rfl rfl rfl
  have hp : PassesOwn (model P w) (cxOf (L2.CX P w) P w K mg base ["value"] "is_page" (defScope st_is_page) (He.fAd K ("is_page", none)) cdv A outer s H E).A (cxOf (L2.CX P w) P w K mg base ["value"] "is_page" (defScope st_is_page) (He.fAd K ("is_page", none)) cdv A outer s H E).env (cxOf (L2.CX P w) P w K mg base ["value"] "is_page" (defScope st_is_page) (He.fAd K ("is_page", none)) cdv A outer s H E).xe := passes_of rfl
  exact gs_one (s_ret (g_c h_are_bytes tk (hr.mono (by omega)) (ga_cons (gv 0) (ga_cons (g_int) (ga_cons (g_ci c_LONGEST_CONTENT) (ga_nil))))))
abbrev st_check_batch : Stmt := top 17
theorem sc_check_batch : FnScope ["batch", "least", "index", "pair", "number", "page"] ["batch"] (defScope st_check_batch) := ⟨rfl, rfl, rfl, by decide +kernel, rfl, by decide +kernel, by decide +kernel⟩
theorem ok_check_batch (B : Bi mg) (c_MOST_PAGES : CI mg "MOST_PAGES" 64) (h_is_tuple_of : Cal P w K mg base "is_tuple_of" 1 3 s_is_tuple_of) (h_is_integer : Cal P w K mg base "is_integer" 1 3 s_is_integer) (h_is_page : Cal P w K mg base "is_page" 3 1 s_is_page) {fd : FuncData} (F : FunD K "check_batch" "check_batch" (defArgs st_check_batch) (defBody st_check_batch) (defScope st_check_batch) [] [] (He.fAd K ("check_batch", none)) fd) (hm : mg "check_batch" = some (.ref (He.fAd K ("check_batch", none)))) : Cal P w K mg base "check_batch" (3 + 1) 1 s_check_batch := by
  have bd : Binds K fd ["batch"] [] := F.bindsN fun _ _ _ _ _ _ us hl => match us, hl with | [_], _ => rfl
  refine cal_def F hm bd sc_check_batch rfl fun cdv A outer s H E hr => ?_
  have hN : (["batch", "least", "index", "pair", "number", "page"] : List Str).Nodup := sc_check_batch.nd
  have hu := hr.units
  have tk : Takes (cxOf (L2.CX P w) P w K mg base ["batch", "least", "index", "pair", "number", "page"] "check_batch" (defScope st_check_batch) (He.fAd K ("check_batch", none)) cdv A outer s H E) (WD E) := takes_of rfl rfl rfl rfl
  have hp : PassesOwn (model P w) (cxOf (L2.CX P w) P w K mg base ["batch", "least", "index", "pair", "number", "page"] "check_batch" (defScope st_check_batch) (He.fAd K ("check_batch", none)) cdv A outer s H E).A (cxOf (L2.CX P w) P w K mg base ["batch", "least", "index", "pair", "number", "page"] "check_batch" (defScope st_check_batch) (He.fAd K ("check_batch", none)) cdv A outer s H E).env (cxOf (L2.CX P w) P w K mg base ["batch", "least", "index", "pair", "number", "page"] "check_batch" (defScope st_check_batch) (He.fAd K ("check_batch", none)) cdv A outer s H E).xe := passes_of rfl
  exact gs_cons (s_if (gt_not (gt_b (g_c h_is_tuple_of tk (hr.mono (by omega)) (ga_cons (gv 0) (ga_cons (g_int) (ga_cons (g_ci c_MOST_PAGES) (ga_nil)))))))
    (gs_one (s_never))
    (gs_nil))
    (gs_cons (s_set (i := 1) hN (g_int))
    (gs_one (s_for hp rfl (i_enum B.enumerate (gv 0)) (t_tup rfl (ts_cons (t_name (i := 2) hN) (ts_cons (t_name (i := 3) hN) (ts_nil))))
    (gs_cons (s_if (gt_not (gt_b (g_c h_is_tuple_of tk (hr.mono (by omega)) (ga_cons (gv 3) (ga_cons (g_int) (ga_cons (g_int) (ga_nil)))))))
    (gs_one (s_never))
    (gs_nil))
    (gs_cons (s_asg (gv 3) (t_tup rfl (ts_cons (t_name (i := 4) hN) (ts_cons (t_name (i := 5) hN) (ts_nil)))))
    (gs_cons (s_if (gt_w (gw_or (gt_not (gt_b (g_c h_is_integer tk (hr.mono (by omega)) (ga_cons (gv 4) (ga_cons (gv 1) (ga_cons (g_op o_sub (g_ci c_MOST_PAGES) (g_int)) (ga_nil))))))) (gw_or1 (gt_not (g_tru (g_c h_is_page tk (hr.mono (by omega)) (ga_cons (gv 5) (ga_nil))))))))
    (gs_one (s_never))
    (gs_nil))
    (gs_one (s_set (i := 1) hN (g_op o_add (gv 4) (g_int))))))))))
abbrev st_check_batch_of : Stmt := top 18
theorem sc_check_batch_of : FnScope ["batch", "pages", "index", "number", "_"] ["batch", "pages"] (defScope st_check_batch_of) := ⟨rfl, rfl, rfl, by decide +kernel, rfl, by decide +kernel, by decide +kernel⟩
theorem ok_check_batch_of (B : Bi mg) (h_check_batch : Cal P w K mg base "check_batch" 4 1 s_check_batch) {fd : FuncData} (F : FunD K "check_batch_of" "check_batch_of" (defArgs st_check_batch_of) (defBody st_check_batch_of) (defScope st_check_batch_of) [] [] (He.fAd K ("check_batch_of", none)) fd) (hm : mg "check_batch_of" = some (.ref (He.fAd K ("check_batch_of", none)))) : Cal P w K mg base "check_batch_of" (4 + 1) 2 s_check_batch_of := by
  have bd : Binds K fd ["batch", "pages"] [] := F.bindsN fun _ _ _ _ _ _ us hl => match us, hl with | [_, _], _ => rfl
  refine cal_def F hm bd sc_check_batch_of rfl fun cdv A outer s H E hr => ?_
  have hN : (["batch", "pages", "index", "number", "_"] : List Str).Nodup := sc_check_batch_of.nd
  have hu := hr.units
  have tk : Takes (cxOf (L2.CX P w) P w K mg base ["batch", "pages", "index", "number", "_"] "check_batch_of" (defScope st_check_batch_of) (He.fAd K ("check_batch_of", none)) cdv A outer s H E) (WD E) := takes_of rfl rfl rfl rfl
  have hp : PassesOwn (model P w) (cxOf (L2.CX P w) P w K mg base ["batch", "pages", "index", "number", "_"] "check_batch_of" (defScope st_check_batch_of) (He.fAd K ("check_batch_of", none)) cdv A outer s H E).A (cxOf (L2.CX P w) P w K mg base ["batch", "pages", "index", "number", "_"] "check_batch_of" (defScope st_check_batch_of) (He.fAd K ("check_batch_of", none)) cdv A outer s H E).env (cxOf (L2.CX P w) P w K mg base ["batch", "pages", "index", "number", "_"] "check_batch_of" (defScope st_check_batch_of) (He.fAd K ("check_batch_of", none)) cdv A outer s H E).xe := passes_of rfl
  exact gs_cons (s_expr (g_c h_check_batch tk (hr.mono (by omega)) (ga_cons (gv 0) (ga_nil))))
    (gs_one (s_for hp rfl (i_enum B.enumerate (gv 0)) (t_tup rfl (ts_cons (t_name (i := 2) hN) (ts_cons (t_tup rfl (ts_cons (t_name (i := 3) hN) (ts_cons (t_name (i := 4) hN) (ts_nil)))) (ts_nil))))
    (gs_one (s_if (gt_cmp o_ge (gv 3) (gv 1) (by rfl))
    (gs_one (s_never))
    (gs_nil)))))
abbrev st_check_batches : Stmt := top 22
theorem sc_check_batches : FnScope ["shape", "batches", "index", "batch"] ["shape", "batches"] (defScope st_check_batches) := ⟨rfl, rfl, rfl, by decide +kernel, rfl, by decide +kernel, by decide +kernel⟩
theorem ok_check_batches (B : Bi mg) (c_MOST_BATCHES : CI mg "MOST_BATCHES" 20) (h_check_shape : Cal P w K mg base "check_shape" 2 1 s_check_shape) (h_is_tuple_of : Cal P w K mg base "is_tuple_of" 1 3 s_is_tuple_of) (h_check_batch_of : Cal P w K mg base "check_batch_of" 5 2 s_check_batch_of) {fd : FuncData} (F : FunD K "check_batches" "check_batches" (defArgs st_check_batches) (defBody st_check_batches) (defScope st_check_batches) [] [] (He.fAd K ("check_batches", none)) fd) (hm : mg "check_batches" = some (.ref (He.fAd K ("check_batches", none)))) : Cal P w K mg base "check_batches" (5 + 1) 2 s_check_batches := by
  have bd : Binds K fd ["shape", "batches"] [] := F.bindsN fun _ _ _ _ _ _ us hl => match us, hl with | [_, _], _ => rfl
  refine cal_def F hm bd sc_check_batches rfl fun cdv A outer s H E hr => ?_
  have hN : (["shape", "batches", "index", "batch"] : List Str).Nodup := sc_check_batches.nd
  have hu := hr.units
  have tk : Takes (cxOf (L2.CX P w) P w K mg base ["shape", "batches", "index", "batch"] "check_batches" (defScope st_check_batches) (He.fAd K ("check_batches", none)) cdv A outer s H E) (WD E) := takes_of rfl rfl rfl rfl
  have hp : PassesOwn (model P w) (cxOf (L2.CX P w) P w K mg base ["shape", "batches", "index", "batch"] "check_batches" (defScope st_check_batches) (He.fAd K ("check_batches", none)) cdv A outer s H E).A (cxOf (L2.CX P w) P w K mg base ["shape", "batches", "index", "batch"] "check_batches" (defScope st_check_batches) (He.fAd K ("check_batches", none)) cdv A outer s H E).env (cxOf (L2.CX P w) P w K mg base ["shape", "batches", "index", "batch"] "check_batches" (defScope st_check_batches) (He.fAd K ("check_batches", none)) cdv A outer s H E).xe := passes_of rfl
  exact gs_cons (s_expr (g_c h_check_shape tk (hr.mono (by omega)) (ga_cons (gv 0) (ga_nil))))
    (gs_cons (s_if (gt_not (gt_b (g_c h_is_tuple_of tk (hr.mono (by omega)) (ga_cons (gv 1) (ga_cons (g_int) (ga_cons (g_ci c_MOST_BATCHES) (ga_nil)))))))
    (gs_one (s_never))
    (gs_nil))
    (gs_cons (s_for hp rfl (i_enum B.enumerate (gv 1)) (t_tup rfl (ts_cons (t_name (i := 2) hN) (ts_cons (t_name (i := 3) hN) (ts_nil))))
    (gs_one (s_tryN (gs_one (s_expr (g_c h_check_batch_of tk0 (hr.mono (by omega)) (ga_cons (gv 3) (ga_cons (g_ix x_any (gv 0) (g_int)) (ga_nil)))))))))
    (gs_one (s_for hp rfl (i_enum B.enumerate (gv 1)) (t_tup rfl (ts_cons (t_name (i := 2) hN) (ts_cons (t_name (i := 3) hN) (ts_nil))))
    (gs_one (s_if (gt_cmp o_gt (g_cb c_len B.len bt_len (ga_cons (gv 3) (ga_nil))) (g_ix x_any (gv 0) (g_int)) (by rfl))
    (gs_one (s_never))
    (gs_nil)))))))
abbrev st_deeds_with_checks : Stmt := top 23
theorem sc_deeds_with_checks : FnScope ["batches", "checked", "deeds", "many", "batch"] ["batches", "checked"] (defScope st_deeds_with_checks) := ⟨rfl, rfl, rfl, by decide +kernel, rfl, by decide +kernel, by decide +kernel⟩
theorem ok_deeds_with_checks (B : Bi mg) (c_CHECK : CT K mg "CHECK" [("check" : Str)]) {fd : FuncData} (F : FunD K "deeds_with_checks" "deeds_with_checks" (defArgs st_deeds_with_checks) (defBody st_deeds_with_checks) (defScope st_deeds_with_checks) [] [] (He.fAd K ("deeds_with_checks", none)) fd) (hm : mg "deeds_with_checks" = some (.ref (He.fAd K ("deeds_with_checks", none)))) : Cal P w K mg base "deeds_with_checks" (0 + 1) 2 s_deeds_with_checks := by
  have bd : Binds K fd ["batches", "checked"] [] := F.bindsN fun _ _ _ _ _ _ us hl => match us, hl with | [_, _], _ => rfl
  refine cal_def F hm bd sc_deeds_with_checks rfl fun cdv A outer s H E hr => ?_
  have hN : (["batches", "checked", "deeds", "many", "batch"] : List Str).Nodup := sc_deeds_with_checks.nd
  have hu := hr.units
  have tk : Takes (cxOf (L2.CX P w) P w K mg base ["batches", "checked", "deeds", "many", "batch"] "deeds_with_checks" (defScope st_deeds_with_checks) (He.fAd K ("deeds_with_checks", none)) cdv A outer s H E) (WD E) := takes_of rfl rfl rfl rfl
  have hp : PassesOwn (model P w) (cxOf (L2.CX P w) P w K mg base ["batches", "checked", "deeds", "many", "batch"] "deeds_with_checks" (defScope st_deeds_with_checks) (He.fAd K ("deeds_with_checks", none)) cdv A outer s H E).A (cxOf (L2.CX P w) P w K mg base ["batches", "checked", "deeds", "many", "batch"] "deeds_with_checks" (defScope st_deeds_with_checks) (He.fAd K ("deeds_with_checks", none)) cdv A outer s H E).env (cxOf (L2.CX P w) P w K mg base ["batches", "checked", "deeds", "many", "batch"] "deeds_with_checks" (defScope st_deeds_with_checks) (He.fAd K ("deeds_with_checks", none)) cdv A outer s H E).xe := passes_of rfl
  exact gs_cons (s_set (i := 2) hN (g_lst (ga_nil)))
    (gs_cons (s_for hp rfl (i_enum B.enumerate (gv 0)) (t_tup rfl (ts_cons (t_name (i := 3) hN) (ts_cons (t_name (i := 4) hN) (ts_nil))))
    (gs_cons (s_if (gt_cmp (o_inX hu) (gv 3) (gv 1) (by rfl))
    (gs_one (s_expr (g_app (gv 2) ((g_ctup (zs := [("check" : Str)]) c_CHECK)))))
    (gs_nil))
    (gs_one (s_expr (g_app (gv 2) (g_tup (ga_cons (g_str) (ga_cons (gv 4) (ga_nil)))))))))
    (gs_one (s_ret (g_ct c_tuple B.tuple bt_tuple (ga_cons (gv 2) (ga_nil))))))
abbrev st_fewest_checks : Stmt := top 24
theorem sc_fewest_checks : FnScope ["shape", "batches", "checked", "room", "many", "batch"] ["shape", "batches"] (defScope st_fewest_checks) := ⟨rfl, rfl, rfl, by decide +kernel, rfl, by decide +kernel, by decide +kernel⟩
theorem ok_fewest_checks (B : Bi mg) (h_check_batches : Cal P w K mg base "check_batches" 6 2 s_check_batches) (h_deeds_with_checks : Cal P w K mg base "deeds_with_checks" 1 2 s_deeds_with_checks) {fd : FuncData} (F : FunD K "fewest_checks" "fewest_checks" (defArgs st_fewest_checks) (defBody st_fewest_checks) (defScope st_fewest_checks) [] [] (He.fAd K ("fewest_checks", none)) fd) (hm : mg "fewest_checks" = some (.ref (He.fAd K ("fewest_checks", none)))) : Cal P w K mg base "fewest_checks" (6 + 1) 2 s_fewest_checks := by
  have bd : Binds K fd ["shape", "batches"] [] := F.bindsN fun _ _ _ _ _ _ us hl => match us, hl with | [_, _], _ => rfl
  refine cal_def F hm bd sc_fewest_checks rfl fun cdv A outer s H E hr => ?_
  have hN : (["shape", "batches", "checked", "room", "many", "batch"] : List Str).Nodup := sc_fewest_checks.nd
  have hu := hr.units
  have tk : Takes (cxOf (L2.CX P w) P w K mg base ["shape", "batches", "checked", "room", "many", "batch"] "fewest_checks" (defScope st_fewest_checks) (He.fAd K ("fewest_checks", none)) cdv A outer s H E) (WD E) := takes_of rfl rfl rfl rfl
  have hp : PassesOwn (model P w) (cxOf (L2.CX P w) P w K mg base ["shape", "batches", "checked", "room", "many", "batch"] "fewest_checks" (defScope st_fewest_checks) (He.fAd K ("fewest_checks", none)) cdv A outer s H E).A (cxOf (L2.CX P w) P w K mg base ["shape", "batches", "checked", "room", "many", "batch"] "fewest_checks" (defScope st_fewest_checks) (He.fAd K ("fewest_checks", none)) cdv A outer s H E).env (cxOf (L2.CX P w) P w K mg base ["shape", "batches", "checked", "room", "many", "batch"] "fewest_checks" (defScope st_fewest_checks) (He.fAd K ("fewest_checks", none)) cdv A outer s H E).xe := passes_of rfl
  exact gs_cons (s_expr (g_c h_check_batches tk (hr.mono (by omega)) (ga_cons (gv 0) (ga_cons (gv 1) (ga_nil)))))
    (gs_cons (s_set (i := 2) hN (g_lst (ga_nil)))
    (gs_cons (s_set (i := 3) hN (g_ix x_any (gv 0) (g_int)))
    (gs_cons (s_for hp rfl (i_enum B.enumerate (gv 1)) (t_tup rfl (ts_cons (t_name (i := 4) hN) (ts_cons (t_name (i := 5) hN) (ts_nil))))
    (gs_cons (s_if (gt_cmp o_gt (g_cb c_len B.len bt_len (ga_cons (gv 5) (ga_nil))) (gv 3) (by rfl))
    (gs_cons (s_expr (g_app (gv 2) (gv 4)))
    (gs_one (s_set (i := 3) hN (g_ix x_any (gv 0) (g_int)))))
    (gs_nil))
    (gs_one (s_aug (i := 3) ip_sub hN (g_cb c_len B.len bt_len (ga_cons (gv 5) (ga_nil)))))))
    (gs_one (s_ret (g_c h_deeds_with_checks tk (hr.mono (by omega)) (ga_cons (gv 1) (ga_cons (gv 2) (ga_nil)))))))))
abbrev st_f_law_alike : Stmt := top 34
theorem sc_f_law_alike : FnScope ["found", "due", "k"] ["found", "due"] (defScope st_f_law_alike) := ⟨rfl, rfl, rfl, by decide +kernel, rfl, by decide +kernel, by decide +kernel⟩
theorem ok_f_law_alike_step (B : Bi mg) {r : ASp} {j : Nat} (hrec : Cal P w K mg base "_law_alike" (1 + j) 2 r) {fd : FuncData} (F : FunD K "_law_alike" "_law_alike" (defArgs st_f_law_alike) (defBody st_f_law_alike) (defScope st_f_law_alike) [] [] (He.fAd K ("_law_alike", none)) fd) (hm : mg "_law_alike" = some (.ref (He.fAd K ("_law_alike", none)))) : Cal P w K mg base "_law_alike" (1 + j + 1) 2 (aDef 3 (b_f_law_alike r)) := by
  have bd : Binds K fd ["found", "due"] [] := F.bindsN fun _ _ _ _ _ _ us hl => match us, hl with | [_, _], _ => rfl
  refine cal_def F hm bd sc_f_law_alike rfl fun cdv A outer s H E hr => ?_
  have hN : (["found", "due", "k"] : List Str).Nodup := sc_f_law_alike.nd
  have hu := hr.units
  have tk : Takes (cxOf (L2.CX P w) P w K mg base ["found", "due", "k"] "_law_alike" (defScope st_f_law_alike) (He.fAd K ("_law_alike", none)) cdv A outer s H E) (WD E) := takes_of rfl rfl rfl rfl
  have hp : PassesOwn (model P w) (cxOf (L2.CX P w) P w K mg base ["found", "due", "k"] "_law_alike" (defScope st_f_law_alike) (He.fAd K ("_law_alike", none)) cdv A outer s H E).A (cxOf (L2.CX P w) P w K mg base ["found", "due", "k"] "_law_alike" (defScope st_f_law_alike) (He.fAd K ("_law_alike", none)) cdv A outer s H E).env (cxOf (L2.CX P w) P w K mg base ["found", "due", "k"] "_law_alike" (defScope st_f_law_alike) (He.fAd K ("_law_alike", none)) cdv A outer s H E).xe := passes_of rfl
  exact gs_cons (s_if (gt_b (g_isi2 .tuple .list (gv 1) B.isinstance B.tuple bt_tuple B.list bt_list))
    (gs_cons (s_if (gt_w (gw_or (gt_not (gt_b (g_isi2 .tuple .list (gv 0) B.isinstance B.tuple bt_tuple B.list bt_list))) (gw_or1 (gt_cmp (o_ne hu) (g_isi .list (gv 0) B.isinstance B.list bt_list) (g_isi .list (gv 1) B.isinstance B.list bt_list) (by rfl)))))
    (gs_one (s_ret (g_bl)))
    (gs_nil))
    (gs_cons (s_if (gt_cmp (o_ne hu) (g_cb c_len B.len bt_len (ga_cons (gv 0) (ga_nil))) (g_cb c_len B.len bt_len (ga_cons (gv 1) (ga_nil))) (by rfl))
    (gs_one (s_ret (g_bl)))
    (gs_nil))
    (gs_one (s_ret (g_cmp (o_eq hu) (g_lc (own := [(("k" : Str), 2)]) rfl hN (i_r1 B.range (ga_cons (g_cb c_len B.len bt_len (ga_cons (gv 1) (ga_nil))) (ga_nil))) (blkOk_by (by exact (show blkC (["found", "due", "k"] : List Str) (defScope st_f_law_alike) _ [(("k" : Str), 2)] = true by decide +kernel))) (fun _ _ _ _ _ => c_name (i := 2) hN (by decide)) (fun _ _ _ _ _ => ts_if (gt_not (gt_b (g_c hrec tk0 (hr.mono (by omega)) (ga_cons (g_ix x_any (gv 0) (gv 2)) (ga_cons (g_ix x_any (gv 1) (gv 2)) (ga_nil))))))) (fun _ _ _ _ _ => gv 2)) (g_lst (ga_nil)) (by rfl))))))
    (gs_nil))
    (gs_cons (s_if (gt_w (gw_or (gt_cmp o_is (gv 1) (g_non) (by rfl)) (gw_or1 (gt_b (g_isi .str (gv 1) B.isinstance B.str bt_str)))))
    (gs_one (s_ret (g_and (g_cmp (o_eq hu) (gv 0) (gv 1) (by rfl)) (g_one (g_cmp (o_eq hu) (g_isi .str (gv 0) B.isinstance B.str bt_str) (g_isi .str (gv 1) B.isinstance B.str bt_str) (by rfl))))))
    (gs_nil))
    (gs_one (s_ret (g_and (g_isi .int (gv 0) B.isinstance B.int bt_int) (g_and (g_cmp (o_eq hu) (g_isi .bool (gv 0) B.isinstance B.bool bt_bool) (g_isi .bool (gv 1) B.isinstance B.bool bt_bool) (by rfl)) (g_one (g_cmp (o_eq hu) (gv 0) (gv 1) (by rfl))))))))
theorem ok_f_law_alike (B : Bi mg) {fd : FuncData} (F : FunD K "_law_alike" "_law_alike" (defArgs st_f_law_alike) (defBody st_f_law_alike) (defScope st_f_law_alike) [] [] (He.fAd K ("_law_alike", none)) fd) (hm : mg "_law_alike" = some (.ref (He.fAd K ("_law_alike", none)))) : ∀ n : Nat, Cal P w K mg base "_law_alike" (1 + n) 2 (s_f_law_alike n)
  | 0 => cal_no F hm (F.bindsN (ps := ["found", "due"]) fun _ _ _ _ _ _ us hl => match us, hl with | [_, _], _ => rfl)
  | n + 1 => ok_f_law_alike_step B  (ok_f_law_alike B  F hm n) F hm
abbrev st_law : Stmt := top 35
theorem sc_law : FnScope ["script", "row", "shape", "batches", "good", "spots", "deeds", "spot", "found", "least", "many", "deed", "long", "told"] ["script"] (defScope st_law) := ⟨rfl, rfl, rfl, by decide +kernel, rfl, by decide +kernel, by decide +kernel⟩
theorem fn_law (B : Bi mg) (h_f_law_taken : Cal P w K mg base "_law_taken" 1 2 s_f_law_taken) (h_f_law_batches : Cal P w K mg base "_law_batches" 5 3 s_f_law_batches) (h_f_law_ways : Cal P w K mg base "_law_ways" 1 1 s_f_law_ways) (h_f_law_with_checks : Cal P w K mg base "_law_with_checks" 1 2 s_f_law_with_checks) (h_f_law_fits : Cal P w K mg base "_law_fits" 1 2 s_f_law_fits) (h_fewest_checks : Cal P w K mg base "fewest_checks" 7 2 s_fewest_checks) (h_f_law_alike : Cal P w K mg base "_law_alike" 8 2 (s_f_law_alike 7)) {fd : FuncData} (F : FunD K "law" "law" (defArgs st_law) (defBody st_law) (defScope st_law) [] [] (He.fAd K ("law", none)) fd) (hm : mg "law" = some (.ref (He.fAd K ("law", none)))) : FnOk P w K mg base (L2.CX P w) (8 + 1) (He.fAd K ("law", none)) fd ["script"] (lSp K 1 s_law) := by
  refine ok_def F sc_law rfl fun cdv A outer s H E hr => ?_
  have hN : (["script", "row", "shape", "batches", "good", "spots", "deeds", "spot", "found", "least", "many", "deed", "long", "told"] : List Str).Nodup := sc_law.nd
  have hu := hr.units
  have tk : Takes (cxOf (L2.CX P w) P w K mg base ["script", "row", "shape", "batches", "good", "spots", "deeds", "spot", "found", "least", "many", "deed", "long", "told"] "law" (defScope st_law) (He.fAd K ("law", none)) cdv A outer s H E) (WD E) := takes_of rfl rfl rfl rfl
  have hp : PassesOwn (model P w) (cxOf (L2.CX P w) P w K mg base ["script", "row", "shape", "batches", "good", "spots", "deeds", "spot", "found", "least", "many", "deed", "long", "told"] "law" (defScope st_law) (He.fAd K ("law", none)) cdv A outer s H E).A (cxOf (L2.CX P w) P w K mg base ["script", "row", "shape", "batches", "good", "spots", "deeds", "spot", "found", "least", "many", "deed", "long", "told"] "law" (defScope st_law) (He.fAd K ("law", none)) cdv A outer s H E).env (cxOf (L2.CX P w) P w K mg base ["script", "row", "shape", "batches", "good", "spots", "deeds", "spot", "found", "least", "many", "deed", "long", "told"] "law" (defScope st_law) (He.fAd K ("law", none)) cdv A outer s H E).xe := passes_of rfl
  exact gs_cons (s_set (i := 1) hN (g_lst (ga_cons (gv 0) (ga_cons (g_int) (ga_cons (g_int) (ga_cons (g_int) (ga_nil)))))))
    (gs_cons (s_set (i := 2) hN (g_tup (ga_cons (g_op o_add (g_int) (g_c h_f_law_taken tk (hr.mono (by omega)) (ga_cons (gv 1) (ga_cons (g_int) (ga_nil))))) (ga_cons (g_op o_add (g_int) (g_c h_f_law_taken tk (hr.mono (by omega)) (ga_cons (gv 1) (ga_cons (g_int) (ga_nil))))) (ga_nil)))))
    (gs_cons (s_par (i := 3) (j := 4) rfl hN (ga_cons (g_c h_f_law_batches tk (hr.mono (by omega)) (ga_cons (gv 1) (ga_cons (gv 2) (ga_cons (g_int) (ga_nil))))) (ga_cons (g_lst (ga_nil)) (ga_nil))))
    (gs_cons (s_for hp rfl (i_lst (g_c h_f_law_ways tk (hr.mono (by omega)) (ga_cons (g_cb c_len B.len bt_len (ga_cons (gv 3) (ga_nil))) (ga_nil)))) (t_name (i := 5) hN)
    (gs_cons (s_set (i := 6) hN (g_c h_f_law_with_checks tk (hr.mono (by omega)) (ga_cons (gv 3) (ga_cons (gv 5) (ga_nil)))))
    (gs_one (s_if (g_tru (g_c h_f_law_fits tk (hr.mono (by omega)) (ga_cons (gv 2) (ga_cons (gv 6) (ga_nil)))))
    (gs_one (s_expr (g_app (gv 4) (g_tup (ga_cons (g_cb c_len B.len bt_len (ga_cons (gv 5) (ga_nil))) (ga_cons (g_ct c_tuple B.tuple bt_tuple (ga_cons (g_lc (own := [(("spot" : Str), 7)]) rfl hN (i_tup (gv 5)) (blkOk_by (by exact (show blkC (["script", "row", "shape", "batches", "good", "spots", "deeds", "spot", "found", "least", "many", "deed", "long", "told"] : List Str) (defScope st_law) _ [(("spot" : Str), 7)] = true by decide +kernel))) (fun _ _ _ _ _ => c_name (i := 7) hN (by decide)) (fun _ _ _ _ _ => ts_yes) (fun _ _ _ _ _ => g_op o_sub (g_int) (gv 7))) (ga_nil))) (ga_cons (gv 6) (ga_nil))))))))
    (gs_nil)))))
    (gs_cons (s_set (i := 8) hN (g_c h_fewest_checks tk (hr.mono (by omega)) (ga_cons (gv 2) (ga_cons (gv 3) (ga_nil)))))
    (gs_cons (s_set (i := 9) hN (g_cb (c_minL rfl hu) B.min bt_min (ga_cons (gv 4) (ga_nil))))
    (gs_cons (s_if (gt_not (gt_b (g_c h_f_law_alike tk (hr.mono (by omega)) (ga_cons (gv 8) (ga_cons (g_ix x_any (gv 9) (g_int)) (ga_nil))))))
    (gs_one (s_ret (g_bl)))
    (gs_nil))
    (gs_cons (s_set (i := 10) hN (g_cb c_len B.len bt_len (ga_cons (g_lc (own := [(("deed" : Str), 11)]) rfl hN (i_tup (gv 8)) (blkOk_by (by exact (show blkC (["script", "row", "shape", "batches", "good", "spots", "deeds", "spot", "found", "least", "many", "deed", "long", "told"] : List Str) (defScope st_law) _ [(("deed" : Str), 11)] = true by decide +kernel))) (fun _ _ _ _ _ => c_name (i := 11) hN (by decide)) (fun _ _ _ _ _ => ts_if (gt_cmp (o_eq hu) (gv 11) (g_tup (ga_cons (g_str) (ga_nil))) (by rfl))) (fun _ _ _ _ _ => gv 11)) (ga_nil))))
    (gs_cons (s_set (i := 12) hN (g_op o_mul (g_tup (ga_cons (g_tup (ga_cons (g_tup (ga_cons (g_int) (ga_cons (g_tup (ga_cons (g_int) (ga_nil))) (ga_nil)))) (ga_nil))) (ga_nil))) (g_int)))
    (gs_cons (s_set (i := 13) hN (g_c h_fewest_checks tk (hr.mono (by omega)) (ga_cons (gv 2) (ga_cons (gv 12) (ga_nil)))))
    (gs_cons (s_if (gt_cmp (o_ne hu) (g_cb c_len B.len bt_len (ga_cons (g_lc (own := [(("deed" : Str), 11)]) rfl hN (i_tup (gv 13)) (blkOk_by (by exact (show blkC (["script", "row", "shape", "batches", "good", "spots", "deeds", "spot", "found", "least", "many", "deed", "long", "told"] : List Str) (defScope st_law) _ [(("deed" : Str), 11)] = true by decide +kernel))) (fun _ _ _ _ _ => c_name (i := 11) hN (by decide)) (fun _ _ _ _ _ => ts_if (gt_cmp (o_eq hu) (gv 11) (g_tup (ga_cons (g_str) (ga_nil))) (by rfl))) (fun _ _ _ _ _ => gv 11)) (ga_nil))) (g_op o_fdiv (g_int) (g_ix x_any (gv 2) (g_int))) (by rfl))
    (gs_one (s_ret (g_bl)))
    (gs_nil))
    (gs_one (s_ret (g_and (g_cmp (o_eq hu) (gv 10) (g_ix x_any (gv 9) (g_int)) (by rfl)) (g_one (g_cmp (o_eq hu) (g_lc (own := [(("deed" : Str), 11)]) rfl hN (i_tup (gv 8)) (blkOk_by (by exact (show blkC (["script", "row", "shape", "batches", "good", "spots", "deeds", "spot", "found", "least", "many", "deed", "long", "told"] : List Str) (defScope st_law) _ [(("deed" : Str), 11)] = true by decide +kernel))) (fun _ _ _ _ _ => c_name (i := 11) hN (by decide)) (fun _ _ _ _ _ => ts_if (gt_cmp (o_eq hu) (g_ix x_any (gv 11) (g_int)) (g_str) (by rfl))) (fun _ _ _ _ _ => g_ix x_any (gv 11) (g_int))) (g_ct c_list B.list bt_list (ga_cons (gv 3) (ga_nil))) (by rfl))))))))))))))))
end
end K32

set_option Elab.async false
set_option linter.all false
set_option maxRecDepth 100000
set_option maxHeartbeats 4000000
namespace K32
open PySem PySem.Spec PyProof.Rows L2 Ab
def d_f_law_taken : He.DefD := ⟨("_law_taken", none), "_law_taken", "_law_taken", defArgs st_f_law_taken, defBody st_f_law_taken, defScope st_f_law_taken, [], []⟩
def d_f_law_pick : He.DefD := ⟨("_law_pick", none), "_law_pick", "_law_pick", defArgs st_f_law_pick, defBody st_f_law_pick, defScope st_f_law_pick, [], []⟩
def d_f_law_page : He.DefD := ⟨("_law_page", none), "_law_page", "_law_page", defArgs st_f_law_page, defBody st_f_law_page, defScope st_f_law_page, [], []⟩
def d_f_law_batch : He.DefD := ⟨("_law_batch", none), "_law_batch", "_law_batch", defArgs st_f_law_batch, defBody st_f_law_batch, defScope st_f_law_batch, [], []⟩
def d_f_law_batches : He.DefD := ⟨("_law_batches", none), "_law_batches", "_law_batches", defArgs st_f_law_batches, defBody st_f_law_batches, defScope st_f_law_batches, [], []⟩
def d_f_law_ways : He.DefD := ⟨("_law_ways", none), "_law_ways", "_law_ways", defArgs st_f_law_ways, defBody st_f_law_ways, defScope st_f_law_ways, [], []⟩
def d_f_law_with_checks : He.DefD := ⟨("_law_with_checks", none), "_law_with_checks", "_law_with_checks", defArgs st_f_law_with_checks, defBody st_f_law_with_checks, defScope st_f_law_with_checks, [], []⟩
def d_f_law_fits : He.DefD := ⟨("_law_fits", none), "_law_fits", "_law_fits", defArgs st_f_law_fits, defBody st_f_law_fits, defScope st_f_law_fits, [], []⟩
def d_is_tuple_of : He.DefD := ⟨("is_tuple_of", none), "is_tuple_of", "is_tuple_of", defArgs st_is_tuple_of, defBody st_is_tuple_of, defScope st_is_tuple_of, [], []⟩
def d_is_integer : He.DefD := ⟨("is_integer", none), "is_integer", "is_integer", defArgs st_is_integer, defBody st_is_integer, defScope st_is_integer, [], []⟩
def d_check_shape : He.DefD := ⟨("check_shape", none), "check_shape", "check_shape", defArgs st_check_shape, defBody st_check_shape, defScope st_check_shape, [], []⟩
def d_are_bytes : He.DefD := ⟨("are_bytes", none), "are_bytes", "are_bytes", defArgs st_are_bytes, defBody st_are_bytes, defScope st_are_bytes, [], []⟩
def d_is_page : He.DefD := ⟨("is_page", none), "is_page", "is_page", defArgs st_is_page, defBody st_is_page, defScope st_is_page, [], []⟩
def d_check_batch : He.DefD := ⟨("check_batch", none), "check_batch", "check_batch", defArgs st_check_batch, defBody st_check_batch, defScope st_check_batch, [], []⟩
def d_check_batch_of : He.DefD := ⟨("check_batch_of", none), "check_batch_of", "check_batch_of", defArgs st_check_batch_of, defBody st_check_batch_of, defScope st_check_batch_of, [], []⟩
def d_check_batches : He.DefD := ⟨("check_batches", none), "check_batches", "check_batches", defArgs st_check_batches, defBody st_check_batches, defScope st_check_batches, [], []⟩
def d_deeds_with_checks : He.DefD := ⟨("deeds_with_checks", none), "deeds_with_checks", "deeds_with_checks", defArgs st_deeds_with_checks, defBody st_deeds_with_checks, defScope st_deeds_with_checks, [], []⟩
def d_fewest_checks : He.DefD := ⟨("fewest_checks", none), "fewest_checks", "fewest_checks", defArgs st_fewest_checks, defBody st_fewest_checks, defScope st_fewest_checks, [], []⟩
def d_f_law_alike : He.DefD := ⟨("_law_alike", none), "_law_alike", "_law_alike", defArgs st_f_law_alike, defBody st_f_law_alike, defScope st_f_law_alike, [], []⟩
def d_law : He.DefD := ⟨("law", none), "law", "law", defArgs st_law, defBody st_law, defScope st_law, [], []⟩
def fn : List He.DefD := [d_f_law_taken, d_f_law_pick, d_f_law_page, d_f_law_batch, d_f_law_batches, d_f_law_ways, d_f_law_with_checks, d_f_law_fits, d_is_tuple_of, d_is_integer, d_check_shape, d_are_bytes, d_is_page, d_check_batch, d_check_batch_of, d_check_batches, d_deeds_with_checks, d_fewest_checks, d_f_law_alike, d_law]
def fa : List He.Fa := [.glo "_law_taken", .glo "_law_pick", .glo "_law_page", .glo "_law_batch", .glo "_law_batches", .glo "_law_ways", .glo "_law_with_checks", .glo "_law_fits", .glo "is_tuple_of", .glo "is_integer", .glo "check_shape", .glo "are_bytes", .glo "is_page", .glo "check_batch", .glo "check_batch_of", .glo "check_batches", .glo "deeds_with_checks", .glo "fewest_checks", .glo "_law_alike", .glo "law", .free "len", .free "int", .free "bool", .free "str", .free "tuple", .free "list", .free "isinstance", .free "range", .free "all", .free "any", .free "min", .free "max", .free "reversed", .free "sorted", .free "enumerate", .free "zip", .free "dict", .free "sum", .free "abs", .int "LEAST_RING" 2, .int "LONGEST_CONTENT" 96, .int "MOST_BATCHES" 20, .int "MOST_PAGES" 64, .int "MOST_RING" 64]
def ex (K : PySem.W.Frag) : Bool := (tupIn K "CHECK" [("check" : Str)] && true)
def tf : List He.Defn := []
abbrev R : PySem.W.OpenRow := PySem.W.OpenLaw.row PySem.Challenge.rw_cutledger_k32_whole_fewest_checks
abbrev hk : PySem.W.Hook := He.hookX 4 fa fn [] tf ex
def ob (s : PySem.W.SharedT) : He.AlX := He.obsX 4 fa fn [] tf ex (HandSHeadRun.getT s)
theorem ob_eq (s : PySem.W.SharedT) : ob s = hk.obs s.abs := He.obsX_eq (HandSHeadRun.getT_eq s)
def loose : List Str := (["CutError", "BadShape", "BadBatch", "RingFull", "BadBatches", "is_integer", "is_tuple_of", "are_bytes", "LONGEST_CONTENT", "MOST_PAGES", "LEAST_RING", "MOST_RING", "check_shape", "is_page", "check_batch", "check_batch_of", "CHECK", "MOST_BATCHES", "check_batches", "deeds_with_checks"] : List Str) ++ (["fewest_checks", "_law_taken", "_law_pick", "_law_page", "_law_batch", "_law_batches", "_law_ways", "_law_with_checks", "_law_fits", "_law_alike"] : List Str)
theorem run (w : World) : HandSHeadRun.RunEq R (PySem.W.view R.prog [35]) hk ob 4000 loose w := by
  intro os
  kernel_rfl
theorem law_at {P : Program} {w : World} {K : PySem.W.Frag} {h : Heap} {mg : Str → Option Value} {f : Addr} (X : K.In h) (G : h.Ns mainGlobals mg) (hfa : mg ("law" : Str) = some (.ref f)) (c0 : He.SaysX fa fn [] tf ex w h K) :
    ∃ (fd : FuncData) (cs : List (Addr × Addr)) (sp : Sp), (∀ p ∈ cs, h.get? p.2 = some { cls := .none, data := .fields #[] }) ∧ (∀ p ∈ cs, K.lookup p.2 = none) ∧ (∀ p ∈ cs, PySem.W.CodeHd h p.1 p.2) ∧ (∀ (s : Shared) (u : Value), BindsTo s fd ⟨[u], []⟩ [(("script" : Str), u)]) ∧
    (∀ (H : Hp) (a : Addr) (ns : List Int), ns.length ≤ 63 → (∀ z ∈ ns, Builtin.Int.intBits z ≤ 1048576) → (∀ p ∈ cs, H p.2 = some (.tbl #[])) → SqL K H a (ns.map V.int) → sp [.ref a] H (fun v _ => v = .bl true) fun _ _ _ => False) ∧
    ∀ base : Heap, K.In base → base.Ns mainGlobals mg → (∀ p ∈ cs, LamX.TabB base mg p.1 p.2) → FnOk P w K mg base (L2.CX P w) 9 f fd ["script"] sp := by
  have c := c0.t
  obtain ⟨fd_f_law_taken, F_f_law_taken⟩ := c.d.def_ 0 (d := d_f_law_taken) rfl
  have m_f_law_taken := He.glo_ok X G (c.d.fact 0 (f := .glo "_law_taken") rfl)
  obtain ⟨fd_f_law_pick, F_f_law_pick⟩ := c.d.def_ 1 (d := d_f_law_pick) rfl
  have m_f_law_pick := He.glo_ok X G (c.d.fact 1 (f := .glo "_law_pick") rfl)
  obtain ⟨fd_f_law_page, F_f_law_page⟩ := c.d.def_ 2 (d := d_f_law_page) rfl
  have m_f_law_page := He.glo_ok X G (c.d.fact 2 (f := .glo "_law_page") rfl)
  obtain ⟨fd_f_law_batch, F_f_law_batch⟩ := c.d.def_ 3 (d := d_f_law_batch) rfl
  have m_f_law_batch := He.glo_ok X G (c.d.fact 3 (f := .glo "_law_batch") rfl)
  obtain ⟨fd_f_law_batches, F_f_law_batches⟩ := c.d.def_ 4 (d := d_f_law_batches) rfl
  have m_f_law_batches := He.glo_ok X G (c.d.fact 4 (f := .glo "_law_batches") rfl)
  obtain ⟨fd_f_law_ways, F_f_law_ways⟩ := c.d.def_ 5 (d := d_f_law_ways) rfl
  have m_f_law_ways := He.glo_ok X G (c.d.fact 5 (f := .glo "_law_ways") rfl)
  obtain ⟨fd_f_law_with_checks, F_f_law_with_checks⟩ := c.d.def_ 6 (d := d_f_law_with_checks) rfl
  have m_f_law_with_checks := He.glo_ok X G (c.d.fact 6 (f := .glo "_law_with_checks") rfl)
  obtain ⟨fd_f_law_fits, F_f_law_fits⟩ := c.d.def_ 7 (d := d_f_law_fits) rfl
  have m_f_law_fits := He.glo_ok X G (c.d.fact 7 (f := .glo "_law_fits") rfl)
  obtain ⟨fd_is_tuple_of, F_is_tuple_of⟩ := c.d.def_ 8 (d := d_is_tuple_of) rfl
  have m_is_tuple_of := He.glo_ok X G (c.d.fact 8 (f := .glo "is_tuple_of") rfl)
  obtain ⟨fd_is_integer, F_is_integer⟩ := c.d.def_ 9 (d := d_is_integer) rfl
  have m_is_integer := He.glo_ok X G (c.d.fact 9 (f := .glo "is_integer") rfl)
  obtain ⟨fd_check_shape, F_check_shape⟩ := c.d.def_ 10 (d := d_check_shape) rfl
  have m_check_shape := He.glo_ok X G (c.d.fact 10 (f := .glo "check_shape") rfl)
  obtain ⟨fd_are_bytes, F_are_bytes⟩ := c.d.def_ 11 (d := d_are_bytes) rfl
  have m_are_bytes := He.glo_ok X G (c.d.fact 11 (f := .glo "are_bytes") rfl)
  obtain ⟨fd_is_page, F_is_page⟩ := c.d.def_ 12 (d := d_is_page) rfl
  have m_is_page := He.glo_ok X G (c.d.fact 12 (f := .glo "is_page") rfl)
  obtain ⟨fd_check_batch, F_check_batch⟩ := c.d.def_ 13 (d := d_check_batch) rfl
  have m_check_batch := He.glo_ok X G (c.d.fact 13 (f := .glo "check_batch") rfl)
  obtain ⟨fd_check_batch_of, F_check_batch_of⟩ := c.d.def_ 14 (d := d_check_batch_of) rfl
  have m_check_batch_of := He.glo_ok X G (c.d.fact 14 (f := .glo "check_batch_of") rfl)
  obtain ⟨fd_check_batches, F_check_batches⟩ := c.d.def_ 15 (d := d_check_batches) rfl
  have m_check_batches := He.glo_ok X G (c.d.fact 15 (f := .glo "check_batches") rfl)
  obtain ⟨fd_deeds_with_checks, F_deeds_with_checks⟩ := c.d.def_ 16 (d := d_deeds_with_checks) rfl
  have m_deeds_with_checks := He.glo_ok X G (c.d.fact 16 (f := .glo "deeds_with_checks") rfl)
  obtain ⟨fd_fewest_checks, F_fewest_checks⟩ := c.d.def_ 17 (d := d_fewest_checks) rfl
  have m_fewest_checks := He.glo_ok X G (c.d.fact 17 (f := .glo "fewest_checks") rfl)
  obtain ⟨fd_f_law_alike, F_f_law_alike⟩ := c.d.def_ 18 (d := d_f_law_alike) rfl
  have m_f_law_alike := He.glo_ok X G (c.d.fact 18 (f := .glo "_law_alike") rfl)
  obtain ⟨fd_law, F_law⟩ := c.d.def_ 19 (d := d_law) rfl
  have m_law := He.glo_ok X G (c.d.fact 19 (f := .glo "law") rfl)
  have B : Bi mg := ⟨He.free_ok X G (c.d.fact 20 (f := .free "len") rfl), He.free_ok X G (c.d.fact 21 (f := .free "int") rfl), He.free_ok X G (c.d.fact 22 (f := .free "bool") rfl), He.free_ok X G (c.d.fact 23 (f := .free "str") rfl), He.free_ok X G (c.d.fact 24 (f := .free "tuple") rfl), He.free_ok X G (c.d.fact 25 (f := .free "list") rfl), He.free_ok X G (c.d.fact 26 (f := .free "isinstance") rfl), He.free_ok X G (c.d.fact 27 (f := .free "range") rfl), He.free_ok X G (c.d.fact 28 (f := .free "all") rfl), He.free_ok X G (c.d.fact 29 (f := .free "any") rfl), He.free_ok X G (c.d.fact 30 (f := .free "min") rfl), He.free_ok X G (c.d.fact 31 (f := .free "max") rfl), He.free_ok X G (c.d.fact 32 (f := .free "reversed") rfl), He.free_ok X G (c.d.fact 33 (f := .free "sorted") rfl), He.free_ok X G (c.d.fact 34 (f := .free "enumerate") rfl), He.free_ok X G (c.d.fact 35 (f := .free "zip") rfl), He.free_ok X G (c.d.fact 36 (f := .free "dict") rfl), He.free_ok X G (c.d.fact 37 (f := .free "sum") rfl), He.free_ok X G (c.d.fact 38 (f := .free "abs") rfl)⟩
  have c_LEAST_RING : CI mg "LEAST_RING" 2 := He.int_ok X G (c.d.fact 39 (f := .int "LEAST_RING" 2) rfl)
  have c_LONGEST_CONTENT : CI mg "LONGEST_CONTENT" 96 := He.int_ok X G (c.d.fact 40 (f := .int "LONGEST_CONTENT" 96) rfl)
  have c_MOST_BATCHES : CI mg "MOST_BATCHES" 20 := He.int_ok X G (c.d.fact 41 (f := .int "MOST_BATCHES" 20) rfl)
  have c_MOST_PAGES : CI mg "MOST_PAGES" 64 := He.int_ok X G (c.d.fact 42 (f := .int "MOST_PAGES" 64) rfl)
  have c_MOST_RING : CI mg "MOST_RING" 64 := He.int_ok X G (c.d.fact 43 (f := .int "MOST_RING" 64) rfl)
  have c_CHECK : CT K mg "CHECK" [("check" : Str)] := ct_ok X G (Bool.and_eq_true_iff.mp c0.more).1
  have e := hfa.symm.trans m_law
  cases e
  refine ⟨fd_law, tf.map (He.cT K), spF K (lSp K 1 s_law), fun p hp => ?_, fun p hp => ?_, fun p hp => ?_, fun s u => ?_, fun H a ns h1 h2 hT hS => law_sp (ts := (tf.map (He.cT K)).map (·.2)) (fun m hm => law_true h1 h2) (fun p hp => ?_) hS, fun base hK hG hTB => fn_freeze ?_⟩
  · obtain ⟨q, hq, rfl⟩ := List.mem_map.mp hp
    exact c0.empty q hq
  · obtain ⟨q, hq, rfl⟩ := List.mem_map.mp hp
    exact c0.out q hq
  · obtain ⟨q, hq, rfl⟩ := List.mem_map.mp hp
    exact PySem.W.codeHd_of_K X (c0.hd q hq)
  · exact (FunD.bindsA (ps := ["script"]) F_law fun _ _ _ _ _ _ us hl => match us, hl with | [_], _ => rfl) s [u] rfl
  · obtain ⟨q, hq, rfl⟩ := List.mem_map.mp hp
    exact hT q hq
  · skip
    have h_f_law_taken := ok_f_law_taken (P := P) (w := w) (base := base) B F_f_law_taken m_f_law_taken
    have h_f_law_pick := ok_f_law_pick (P := P) (w := w) (base := base) B h_f_law_taken F_f_law_pick m_f_law_pick
    have h_f_law_page := ok_f_law_page (P := P) (w := w) (base := base) B h_f_law_taken h_f_law_pick F_f_law_page m_f_law_page
    have h_f_law_batch := ok_f_law_batch (P := P) (w := w) (base := base) B h_f_law_taken h_f_law_page F_f_law_batch m_f_law_batch
    have h_f_law_batches := ok_f_law_batches (P := P) (w := w) (base := base) B h_f_law_taken h_f_law_batch F_f_law_batches m_f_law_batches
    have h_f_law_ways := ok_f_law_ways (P := P) (w := w) (base := base) B F_f_law_ways m_f_law_ways
    have h_f_law_with_checks := ok_f_law_with_checks (P := P) (w := w) (base := base) B F_f_law_with_checks m_f_law_with_checks
    have h_f_law_fits := ok_f_law_fits (P := P) (w := w) (base := base) B F_f_law_fits m_f_law_fits
    have h_is_tuple_of := ok_is_tuple_of (P := P) (w := w) (base := base) B F_is_tuple_of m_is_tuple_of
    have h_is_integer := ok_is_integer (P := P) (w := w) (base := base) B F_is_integer m_is_integer
    have h_check_shape := ok_check_shape (P := P) (w := w) (base := base) B c_MOST_PAGES c_MOST_RING c_LEAST_RING h_is_tuple_of h_is_integer F_check_shape m_check_shape
    have h_are_bytes := ok_are_bytes (P := P) (w := w) (base := base) B h_is_tuple_of F_are_bytes m_are_bytes
    have h_is_page := ok_is_page (P := P) (w := w) (base := base) B c_LONGEST_CONTENT h_are_bytes F_is_page m_is_page
    have h_check_batch := ok_check_batch (P := P) (w := w) (base := base) B c_MOST_PAGES h_is_tuple_of h_is_integer h_is_page F_check_batch m_check_batch
    have h_check_batch_of := ok_check_batch_of (P := P) (w := w) (base := base) B h_check_batch F_check_batch_of m_check_batch_of
    have h_check_batches := ok_check_batches (P := P) (w := w) (base := base) B c_MOST_BATCHES h_check_shape h_is_tuple_of h_check_batch_of F_check_batches m_check_batches
    have h_deeds_with_checks := ok_deeds_with_checks (P := P) (w := w) (base := base) B c_CHECK F_deeds_with_checks m_deeds_with_checks
    have h_fewest_checks := ok_fewest_checks (P := P) (w := w) (base := base) B h_check_batches h_deeds_with_checks F_fewest_checks m_fewest_checks
    have h_f_law_alike := ok_f_law_alike (P := P) (w := w) (base := base) B F_f_law_alike m_f_law_alike 7
    exact fn_law (P := P) (w := w) (base := base) B h_f_law_taken h_f_law_batches h_f_law_ways h_f_law_with_checks h_f_law_fits h_fewest_checks h_f_law_alike F_law m_law
end K32
open PySem PySem.W PySem.Calls PyProof.Rows
set_option maxRecDepth 100000 in
set_option maxHeartbeats 0 in
theorem PySem.Challenge.cw_cutledger_k32_whole_fewest_checks_holds : PySem.Challenge.rw_cutledger_k32_whole_fewest_checks.Holds := by
  w_on; o_law
  refine HandSHeadRun.head_any (r := OpenLaw.row PySem.Challenge.rw_cutledger_k32_whole_fewest_checks) (q := view (OpenLaw.row PySem.Challenge.rw_cutledger_k32_whole_fewest_checks).prog [35]) (H := K32.hk) (ob := K32.ob) (M := 4000) (loose := K32.loose) (d := HandSHeadRun.topDef (OpenLaw.row PySem.Challenge.rw_cutledger_k32_whole_fewest_checks).prog 35) (kwd := []) K32.ob_eq
    (by kernel_rfl) (fun s => by kernel_rfl) K32.run (by kernel_rfl) (by kernel_rfl) (by kernel_rfl) (by rfl) (by first | assumption | decide +kernel) (by decide +kernel) ⟨rfl, rfl, rfl, rfl, rfl, by decide +kernel⟩ ?hw ?hc
  case hw => w_witness2
  case hc =>
    refine LamX.walk_ofTsE (l := PySem.Challenge.rw_cutledger_k32_whole_fewest_checks) (n := 63) (k := 9) (x := "script") (CX := fun w => L2.CX (PySem.Challenge.rw_cutledger_k32_whole_fewest_checks).prog w) rfl (by decide) (by kernel_rfl) ⟨rfl, by decide, by decide⟩ ?F (fun _ _ _ _ _ z => Ab.cx_no z)
    intro w mg fa h Y G hmg0
    obtain ⟨K, KX, c⟩ := Y
    have hmg : mg ("law" : PySem.Str) = some (.ref fa) := by
      have e : (HandSHeadRun.topDef (OpenLaw.row PySem.Challenge.rw_cutledger_k32_whole_fewest_checks).prog 35).name = ("law" : PySem.Str) := by kernel_rfl
      rw [← e]
      exact hmg0
    exact ⟨K, KX, K32.law_at (P := (PySem.Challenge.rw_cutledger_k32_whole_fewest_checks).prog) (w := w) KX G hmg c⟩
