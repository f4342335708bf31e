import PyProof.Rows.All
import Wide.All
import OpenK.AllK
import Wide.FinOn
import HandS.HeadHook4
import HandS.ForMost
import HandS.Exc
import HandS.TryOnly
import HandS.ExcOwn
import HandS.WordsExc
import HandS.Wide
import HandS.IsInst
import HandS.Defaults
import HandS.Rev
import HandS.RevTup
import HandS.Star
import HandS.TupAny
import HandS.TupMul
import HandS.Conv
import HandS.Flow
import HandS.Small
import HandS.Lambda
import HandS.Style
import HandS.TupLe
import HandS.AnyAll
import HandS.HeadWalk
import HandS.Head2
import HandS.Deep
import HandS.Strs
import KE.DataAny
import HandS.Dict
import HandS.SortInts
import PyProof.EqKinds
import PyProof.FactsAll.dict
import KE.GoesMore
import KE.DataMinMax
import PyProof.Claim2Refuses
import HandS.Zip
import PyProof.Rows.SumAny
import HandS.ExcIs
import HandS.SetFor
import PyProof.ExcBaseAll.ValueError
import HandS.ExcInit
import HandS.ExcField
import KE.KExcIs
import KE.GoesComp
import HandS.SortKw
import KE.GoesZip
import HandS.Flt
import HandS.More
import PyProof.P3In
import HandS.DictComp
import HandS.SortRule
import HandS.ListItems
import KE.KSortTup
import KE.KDictZip
import KE.GoesEnumKw
import PyProof.CollectIter
import HandS.Gcd
import HandS.Iter
import HandS.Comp
import HandS.List
import PyProof.WalksMore
import KE.OsArith
import KE.BitLaws
import PySem.Challenge.RW_cutledger_k12_disks_refused
set_option Elab.async false
set_option linter.all false
set_option maxRecDepth 100000
set_option maxHeartbeats 4000000
namespace Ab
open PySem PySem.Spec PyProof.Rows L2
def zrR : Value → Option Str
  | .str z _ => some z
  | _ => none
def zmL (K : PySem.W.Frag) (x : Str) (zs : List Str) : Bool := match PySem.W.nsIn K mainGlobals x with
  | some (some (.ref a)) => (match K.lookup a with
    | some ⟨.type t, none, .seq its _, _⟩ => decide (t = "tuple") && (decide (its.toList.map zrR = zs.map some) && decide (zs.length ≤ 100))
    | _ => false)
  | _ => false
def zrS : Value → Option Int
  | .int z _ => some z
  | _ => none
def zoz (K : PySem.W.Frag) (x : Str) (zs : List Int) : Bool := match PySem.W.nsIn K mainGlobals x with
  | some (some (.ref b)) => (match K.lookup b with
    | some ⟨.type u, none, .seq xs _, _⟩ => decide (xs.toList.map zrS = zs.map some) && (decide (u = "tuple") && decide (zs.length ≤ 1000))
    | _ => false)
  | _ => false
def zmM (K : PySem.W.Frag) (D : Addr) : Bool := He.eqO (PySem.W.findIn K (.ref D) "__getattribute__") (some (some (.builtin "BaseException.__getattribute__"))) && (He.eqO (PySem.W.findIn K (.ref D) "__getattr__") (some none) && (decide (PySem.W.subIn K (.ref D) (.type "BaseException") = some true) && (PySem.W.hasDictIn K D &&
  (He.eqO (PySem.W.findIn K (.ref D) "__class__") (some (some (.builtin "object.__class__"))) && (He.eqO (PySem.W.specialIn K (.builtin "object.__class__") "__get__") (some (some (.builtin "getset_descriptor.__get__"))) && (decide (PySem.W.takesIn K (.builtin "object.__class__") = some true) && decide (PySem.W.mroIn K D (.type "object") = some true)))))))
def zmW (K : PySem.W.Frag) : Addr → Addr → Option Bool := fun a b => if zmM K a = true then PySem.W.kitOne K (.ref a) (.ref b) else none
def mtK (K : PySem.W.Frag) (x : Str) : Addr → Option Bool := fun a => PySem.W.exmOne K (.ref a) (.ref (He.ga K x))
def zmN (K : PySem.W.Frag) (errs : List Str) (x : Str) : Bool := errs.all fun n => decide (mtK K x (He.ga K n) = some true) && errs.all fun k => decide (zmW K (He.ga K n) (He.ga K k) = some (decide (n = k)))
def zpM (K : PySem.W.Frag) (C : Addr) : Bool := (match K.lookup C with
  | some ⟨.type "type", _, .cls cd, sl⟩ => (match cd.mro, sl.toList with
    | .ref C' :: bm, [_, _, _, _, some (.builtin n), _] => decide (C' = C) && (decide (n = "ValueError.__new__") && (!cd.hasDel && (cd.hasDict && PySem.HandSPX.refsVE bm)))
    | _, _ => false)
  | _ => false) && (He.eqO (PySem.W.findIn K (.ref C) "__setattr__") (some (some (.builtin "object.__setattr__"))) && (decide (PySem.W.subIn K (.ref C) (.type "BaseException") = some true) && (decide (PySem.W.typeIn K (.ref C) = some (.type "type")) && PySem.W.keepIn K (.ref C))))
def zmX (K : PySem.W.Frag) : Addr → Str → Bool := fun C f => xfB K C && decide (PySem.W.findIn K (.ref C) f = some none)
def efB (K : PySem.W.Frag) (x f : Str) : Bool := He.eqO (PySem.W.nsIn K mainGlobals x) (some (some (.ref (He.ga K x)))) && (zpM K (He.ga K x) && (zmX K (He.ga K x) f && (He.eqO (PySem.W.findIn K (.ref (He.ga K x)) "__init__") (some (some (.ref (He.fAd K (x, some "__init__"))))) && decide (PySem.W.typeIn K (.ref (He.fAd K (x, some "__init__"))) = some (.type "function")))))
def clsBody (s : Stmt) : List Stmt := match s with
  | .ClassDef _ _ _ b _ _ _ _ _ _ _ => b
  | _ => []
def frc {α : Type} (n : Nat) (k : Nat → α) : α := match n with
  | 0 => k 0
  | j + 1 => k (j + 1)
def zoA : List Addr → List Addr → Nat → List Addr × Nat
  | [], nw, s => (nw, s)
  | r :: rs, nw, s => frc r fun r => match Nat.beq (Nat.mod (Nat.shiftRight s r) 2) 1 with
    | true => zoA rs nw s
    | false => frc (Nat.lor s (Nat.shiftLeft 1 r)) fun s => zoA rs (r :: nw) s
def zpN (g : Addr → Option Obj) : List Addr → List Addr → Nat → List Addr × Nat
  | [], nw, s => (nw, s)
  | a :: as, nw, s => match g a with
    | some o => (match zoA (He.refsD o) nw s with | (nw, s) => frc s fun s => zpN g as nw s)
    | none => zpN g as nw s
def asB (g : Addr → Option Obj) : Nat → List Addr → List Addr → Nat → List Addr
  | 0, _, all, _ => all
  | n + 1, fr, all, s => match zpN g fr [] s with | (nw, s) => frc s fun s => asB g n nw (all ++ nw) s
def asY (g : Addr → Option Obj) (n : Nat) : List Addr := asB g n [mainGlobals] [mainGlobals] (Nat.shiftLeft 1 mainGlobals)
def zoB (n : Nat) (fa : List He.Fa) (fn : List He.DefD) (ts : List He.Tab) (tf : List He.Defn) (ex : PySem.W.Frag → Bool) (g : Addr → Option Obj) : He.AlX :=
  (He.obsT fa fn ts (He.frT g (asY g n)), ex (He.frT g (asY g n)) && He.tabsB g tf (He.frT g (asY g n)))
theorem zpO {n : Nat} {fa : List He.Fa} {fn : List He.DefD} {ts : List He.Tab} {tf : List He.Defn} {ex : PySem.W.Frag → Bool} {w : World} {h : Heap} (e : zoB n fa fn ts tf ex h.get? = He.valX fn ts w) : He.SaysX fa fn ts tf ex w h (He.frT h.get? (asY h.get? n)) := by
  have e1 := congrArg (fun z => z.1) e
  have e2 := congrArg (fun z => z.2) e
  obtain ⟨h1, h2⟩ := Bool.and_eq_true_iff.mp (show (ex _ && He.tabsB _ tf _) = true from e2)
  have key : ∀ p ∈ tf, PySem.W.codeHdIn (He.frT h.get? (asY h.get? n)) (He.cT (He.frT h.get? (asY h.get? n)) p).1 (He.cT (He.frT h.get? (asY h.get? n)) p).2 = true ∧ ∃ o, h.get? (He.cT (He.frT h.get? (asY h.get? n)) p).2 = some o ∧ He.emptyTab o = true := fun p hp => by
    obtain ⟨h3, h4⟩ := Bool.and_eq_true_iff.mp (List.all_eq_true.mp h2 p hp)
    refine ⟨h3, ?_⟩
    cases q : h.get? (He.cT (He.frT h.get? (asY h.get? n)) p).2 with
    | none => rw [q] at h4; cases h4
    | some o => rw [q] at h4; exact ⟨o, rfl, h4⟩
  exact ⟨e1, h1, fun p hp => (key p hp).1, fun p hp => by
    obtain ⟨_, o, q, z⟩ := key p hp
    exact He.frT_none q z, fun p hp => by
    obtain ⟨_, o, q, z⟩ := key p hp
    rw [q, He.emptyTab_eq z]⟩
def zql (n : Nat) (fa : List He.Fa) (fn : List He.DefD) (ts : List He.Tab) (tf : List He.Defn) (ex : PySem.W.Frag → Bool) : PySem.W.Hook where
  α := He.AlX
  obs := fun s => zoB n fa fn ts tf ex s.heap.get?
  val := fun w => He.valX fn ts w
  says := fun w h => ∃ K : PySem.W.Frag, K.In h ∧ He.SaysX fa fn ts tf ex w h K
  of := fun w s e => ⟨_, He.frT_in, zpO e⟩
  keeps := (He.hookX n fa fn ts tf ex).keeps
theorem zqS {n : Nat} {fa : List He.Fa} {fn : List He.DefD} {ts : List He.Tab} {tf : List He.Defn} {ex : PySem.W.Frag → Bool} {g : Addr → Option Obj} {s : Shared} (h : ∀ a, g a = s.heap.get? a) : zoB n fa fn ts tf ex g = (zql n fa fn ts tf ex).obs s := by
  have e : g = s.heap.get? := funext h
  subst e
  rfl
end Ab
set_option Elab.async false
set_option linter.all false
set_option maxRecDepth 100000
set_option maxHeartbeats 4000000
namespace K12
open PySem PySem.Spec PyProof.Rows L2 Ab
def top (i : Nat) : Stmt := PySem.Challenge.pw_cutledger_k12_disks_refused.main.body.getD i (.Pass ⟨0, 0, 0, 0⟩)
abbrev zck : Stmt := (clsBody (top 4)).getD 0 (.Pass ⟨0, 0, 0, 0⟩)
abbrev zcl : Stmt := (clsBody (top 6)).getD 0 (.Pass ⟨0, 0, 0, 0⟩)
abbrev zco : Stmt := (clsBody (top 7)).getD 0 (.Pass ⟨0, 0, 0, 0⟩)
abbrev zbc : Stmt := top 63
abbrev zbw : Stmt := top 64
abbrev zaA : Stmt := top 10
abbrev zbx : Stmt := top 9
abbrev zbd : Stmt := top 38
abbrev zaw : Stmt := top 42
abbrev st_blocks : Stmt := top 41
abbrev zby : Stmt := top 43
abbrev zaO : Stmt := top 45
abbrev zbz : Stmt := top 44
abbrev zaP : Stmt := top 47
abbrev zbA : Stmt := top 46
abbrev zaZ : Stmt := top 11
abbrev zcc : Stmt := top 26
abbrev zbe : Stmt := top 39
abbrev zbB : Stmt := top 40
abbrev zbC : Stmt := top 13
abbrev zbf : Stmt := top 27
abbrev zaL : Stmt := top 49
abbrev zbD : Stmt := top 48
abbrev zcp : Stmt := top 16
abbrev zcd : Stmt := top 29
abbrev zbE : Stmt := top 28
abbrev zaW : Stmt := top 51
abbrev zaM : Stmt := top 52
abbrev zbF : Stmt := top 50
abbrev zag : Stmt := top 30
abbrev zbS : Stmt := top 55
abbrev za9 : Stmt := top 54
abbrev zcO : Stmt := top 53
abbrev zbL : Stmt := top 56
abbrev zbY : Stmt := top 57
abbrev zbg : Stmt := top 58
abbrev zaH : Stmt := top 59
abbrev zbG : Stmt := top 61
abbrev zcq : Stmt := top 60
abbrev zN : Stmt := top 66
abbrev zaQ : Stmt := top 65
abbrev zbh : Stmt := top 67
abbrev zbi : Stmt := top 68
abbrev zbj : Stmt := top 69
abbrev zbT : Stmt := top 70
abbrev zbk : Stmt := top 71
abbrev zcM : Stmt := top 72
end K12
set_option Elab.async false
set_option linter.all false
set_option maxRecDepth 100000
set_option maxHeartbeats 4000000
namespace K12H
open PySem PySem.Spec PyProof.Rows L2 Ab
open K12
def zgV : He.DefD := ⟨("BadImage", some "__init__"), "__init__", "BadImage.__init__", defArgs zck, defBody zck, defScope zck, [], []⟩
def zgW : He.DefD := ⟨("BadBatch", some "__init__"), "__init__", "BadBatch.__init__", defArgs zcl, defBody zcl, defScope zcl, [], []⟩
def zhI : He.DefD := ⟨("TooMany", some "__init__"), "__init__", "TooMany.__init__", defArgs zco, defBody zco, defScope zco, [], []⟩
def ziN : He.DefD := ⟨("_law_taken", none), "_law_taken", "_law_taken", defArgs zbc, defBody zbc, defScope zbc, [], []⟩
def zjh : He.DefD := ⟨("_law_pick", none), "_law_pick", "_law_pick", defArgs zbw, defBody zbw, defScope zbw, [], []⟩
def ziO : He.DefD := ⟨("is_tuple_of", none), "is_tuple_of", "is_tuple_of", defArgs zaA, defBody zaA, defScope zaA, [], []⟩
def zji : He.DefD := ⟨("is_integer", none), "is_integer", "is_integer", defArgs zbx, defBody zbx, defScope zbx, [], []⟩
def ziP : He.DefD := ⟨("check_shape", none), "check_shape", "check_shape", defArgs zbd, defBody zbd, defScope zbd, [], []⟩
def zf6 : He.DefD := ⟨("how_many_blocks", none), "how_many_blocks", "how_many_blocks", defArgs zaw, defBody zaw, defScope zaw, [], []⟩
def zmY : He.DefD := ⟨("blocks", none), "blocks", "blocks", defArgs st_blocks, defBody st_blocks, defScope st_blocks, [], []⟩
def zjj : He.DefD := ⟨("blank_disk", none), "blank_disk", "blank_disk", defArgs zby, defBody zby, defScope zby, [], []⟩
def zgX : He.DefD := ⟨("place_of_page", none), "place_of_page", "place_of_page", defArgs zaO, defBody zaO, defScope zaO, [], []⟩
def zjk : He.DefD := ⟨("page_place", none), "page_place", "page_place", defArgs zbz, defBody zbz, defScope zbz, [], []⟩
def zgY : He.DefD := ⟨("place_in_ring", none), "place_in_ring", "place_in_ring", defArgs zaP, defBody zaP, defScope zaP, [], []⟩
def zjl : He.DefD := ⟨("ring_place", none), "ring_place", "ring_place", defArgs zbA, defBody zbA, defScope zbA, [], []⟩
def zj7 : He.DefD := ⟨("are_bytes", none), "are_bytes", "are_bytes", defArgs zaZ, defBody zaZ, defScope zaZ, [], []⟩
def zkz : He.DefD := ⟨("is_block", none), "is_block", "is_block", defArgs zcc, defBody zcc, defScope zcc, [], []⟩
def ziQ : He.DefD := ⟨("check_image", none), "check_image", "check_image", defArgs zbe, defBody zbe, defScope zbe, [], []⟩
def zjm : He.DefD := ⟨("check_disk", none), "check_disk", "check_disk", defArgs zbB, defBody zbB, defScope zbB, [], []⟩
def zjn : He.DefD := ⟨("read_fixed", none), "read_fixed", "read_fixed", defArgs zbC, defBody zbC, defScope zbC, [], []⟩
def ziR : He.DefD := ⟨("read_stamps", none), "read_stamps", "read_stamps", defArgs zbf, defBody zbf, defScope zbf, [], []⟩
def zhJ : He.DefD := ⟨("stamp_behind", none), "stamp_behind", "stamp_behind", defArgs zaL, defBody zaL, defScope zaL, [], []⟩
def zjo : He.DefD := ⟨("next_stamp", none), "next_stamp", "next_stamp", defArgs zbD, defBody zbD, defScope zbD, [], []⟩
def zl5 : He.DefD := ⟨("rest_of", none), "rest_of", "rest_of", defArgs zcp, defBody zcp, defScope zcp, [], []⟩
def zkA : He.DefD := ⟨("is_whole", none), "is_whole", "is_whole", defArgs zcd, defBody zcd, defScope zcd, [], []⟩
def zjp : He.DefD := ⟨("read_label", none), "read_label", "read_label", defArgs zbE, defBody zbE, defScope zbE, [], []⟩
def ziS : He.DefD := ⟨("read_labels", none), "read_labels", "read_labels", defArgs zaW, defBody zaW, defScope zaW, [], []⟩
def zhK : He.DefD := ⟨("epoch_behind", none), "epoch_behind", "epoch_behind", defArgs zaM, defBody zaM, defScope zaM, [], []⟩
def zjq : He.DefD := ⟨("next_epoch", none), "next_epoch", "next_epoch", defArgs zbF, defBody zbF, defScope zbF, [], []⟩
def zff : He.DefD := ⟨("has_noughts_alone", none), "has_noughts_alone", "has_noughts_alone", defArgs zag, defBody zag, defScope zag, [], []⟩
def zj8 : He.DefD := ⟨("kind_with", none), "kind_with", "kind_with", defArgs zbS, defBody zbS, defScope zbS, [], []⟩
def zjr : He.DefD := ⟨("kinds_with", none), "kinds_with", "kinds_with", defArgs za9, defBody za9, defScope za9, [], []⟩
def zn0 : He.DefD := ⟨("kinds", none), "kinds", "kinds", defArgs zcO, defBody zcO, defScope zcO, [], []⟩
def zl6 : He.DefD := ⟨("is_page", none), "is_page", "is_page", defArgs zbL, defBody zbL, defScope zbL, [], []⟩
def zkB : He.DefD := ⟨("is_state", none), "is_state", "is_state", defArgs zbY, defBody zbY, defScope zbY, [], []⟩
def ziT : He.DefD := ⟨("check_batch", none), "check_batch", "check_batch", defArgs zbg, defBody zbg, defScope zbg, [], []⟩
def zgn : He.DefD := ⟨("check_batch_of", none), "check_batch_of", "check_batch_of", defArgs zaH, defBody zaH, defScope zaH, [], []⟩
def zjs : He.DefD := ⟨("with_batch", none), "with_batch", "with_batch", defArgs zbG, defBody zbG, defScope zbG, [], []⟩
def zl7 : He.DefD := ⟨("changed", none), "changed", "changed", defArgs zcq, defBody zcq, defScope zcq, [], []⟩
def ziU : He.DefD := ⟨("_law_works", none), "_law_works", "_law_works", defArgs zN, defBody zN, defScope zN, [], []⟩
def zgZ : He.DefD := ⟨("_law_refused", none), "_law_refused", "_law_refused", defArgs zaQ, defBody zaQ, defScope zaQ, [], []⟩
def ziV : He.DefD := ⟨("_law_shape", none), "_law_shape", "_law_shape", defArgs zbh, defBody zbh, defScope zbh, [], []⟩
def ziW : He.DefD := ⟨("_law_blank", none), "_law_blank", "_law_blank", defArgs zbi, defBody zbi, defScope zbi, [], []⟩
def ziX : He.DefD := ⟨("_law_bytes", none), "_law_bytes", "_law_bytes", defArgs zbj, defBody zbj, defScope zbj, [], []⟩
def zj9 : He.DefD := ⟨("_law_crc", none), "_law_crc", "_law_crc", defArgs zbT, defBody zbT, defScope zbT, [], []⟩
def ziY : He.DefD := ⟨("_law_block", none), "_law_block", "_law_block", defArgs zbk, defBody zbk, defScope zbk, [], []⟩
def zqm : He.DefD := ⟨("law", none), "law", "law", defArgs zcM, defBody zcM, defScope zcM, [], []⟩
def fn : List He.DefD := [ziN, zjh, ziO, zji, ziP, zf6, zmY, zjj, zgX, zjk, zgY, zjl, zj7, zkz, ziQ, zjm, zjn, ziR, zhJ, zjo, zl5, zkA, zjp, ziS, zhK, zjq, zff, zj8, zjr, zn0, zl6, zkB, ziT, zgn, zjs, zl7, ziU, zgZ, ziV, ziW, ziX, zj9, ziY, zqm, zgV, zgW, zhI]
def fa : List He.Fa := [.glo "_law_taken", .glo "_law_pick", .glo "is_tuple_of", .glo "is_integer", .glo "check_shape", .glo "how_many_blocks", .glo "blocks", .glo "blank_disk", .glo "place_of_page", .glo "page_place", .glo "place_in_ring", .glo "ring_place", .glo "are_bytes", .glo "is_block", .glo "check_image", .glo "check_disk", .glo "read_fixed", .glo "read_stamps", .glo "stamp_behind", .glo "next_stamp", .glo "rest_of", .glo "is_whole", .glo "read_label", .glo "read_labels", .glo "epoch_behind", .glo "next_epoch", .glo "has_noughts_alone", .glo "kind_with", .glo "kinds_with", .glo "kinds", .glo "is_page", .glo "is_state", .glo "check_batch", .glo "check_batch_of", .glo "with_batch", .glo "changed", .glo "_law_works", .glo "_law_refused", .glo "_law_shape", .glo "_law_blank", .glo "_law_bytes", .glo "_law_crc", .glo "_law_block", .glo "law", .free "len", .free "int", .free "bool", .free "str", .free "tuple", .free "list", .free "isinstance", .free "range", .free "all", .free "any", .free "min", .free "max", .free "reversed", .free "sorted", .free "enumerate", .free "zip", .free "dict", .free "sum", .free "abs", .free "set", .int "BLOCK_BYTES" 128, .int "CHECK_AT" 122, .int "CHECK_BYTES" 2, .int "CONTENT_AT" 18, .int "GREATEST" 4294967295, .int "HEADS" 2, .int "LAST_STAMP_AT" 124, .int "LEAST_RING" 2, .int "LONGEST_CONTENT" 96, .int "MOST_PAGES" 64, .int "MOST_RING" 64, .int "STAMP_BYTES" 4, .glo "BadNumber", .exc "BadNumber", .glo "BadShape", .exc "BadShape", .glo "BadState", .exc "BadState", .glo "CutError", .exc "CutError"]
def errs : List Str := ["BadBatch", "BadImage", "BadNumber", "BadShape", "BadState", "TooMany"]
def zqn (a b : Addr) : Bool := !(decide (a = b))
def ex (K : PySem.W.Frag) : Bool := (zqn (He.tabOf K (He.codeOf K ("_law_works", none))) (He.tabOf K (He.codeOf K ("is_state", none))) && (zmL K "KINDS" [("part" : Str), ("page" : Str), ("head" : Str), ("blank" : Str)] && (zmL K "KINDS_WITH_EPOCH" [("part" : Str), ("page" : Str), ("head" : Str)] && (zoz K "NEVER_WRITTEN" (List.replicate 128 (0 : Int)) && (efB K "BadImage" "index" && (efB K "BadBatch" "index" && (efB K "TooMany" "most" && zmN K errs "CutError")))))))
def tf : List He.Defn := [("_law_works", none), ("is_state", none)]
abbrev R : PySem.W.OpenRow := PySem.W.OpenLaw.row PySem.Challenge.rw_cutledger_k12_disks_refused
abbrev hk : PySem.W.Hook := zql 4 fa fn [] tf ex
def ob (s : PySem.W.SharedT) : He.AlX := zoB 4 fa fn [] tf ex (HandSHeadRun.getT s)
theorem zsS (s : PySem.W.SharedT) : ob s = hk.obs s.abs := zqS (HandSHeadRun.getT_eq s)
def loose : List Str := (["CutError", "BadNumber", "BadShape", "BadImage", "BadState", "BadBatch", "TooMany", "is_integer", "is_tuple_of", "are_bytes", "read_fixed", "CHECK_BYTES", "rest_of", "BLOCK_BYTES", "STAMP_BYTES", "CONTENT_AT", "LONGEST_CONTENT", "CHECK_AT", "LAST_STAMP_AT", "GREATEST"] : List Str) ++ (["KINDS", "is_block", "read_stamps", "read_label", "is_whole", "has_noughts_alone", "MOST_PAGES", "LEAST_RING", "MOST_RING", "HEADS", "NEVER_WRITTEN", "KINDS_WITH_EPOCH", "check_shape", "check_image", "check_disk", "blocks", "how_many_blocks", "blank_disk", "page_place", "place_of_page"] : List Str) ++ (["ring_place", "place_in_ring", "next_stamp", "stamp_behind", "next_epoch", "read_labels", "epoch_behind", "kinds", "kinds_with", "kind_with", "is_page", "is_state", "check_batch", "check_batch_of", "changed", "with_batch", "_law_taken", "_law_pick", "_law_refused", "_law_works"] : List Str) ++ (["_law_shape", "_law_blank", "_law_bytes", "_law_crc", "_law_block"] : List Str)
theorem run (w : World) : HandSHeadRun.RunEq R (PySem.W.view R.prog [72]) hk ob 8000 loose w := by
  intro os
  kernel_rfl
section
open PySem.W PySem.Calls HandSHeadRun
theorem hf1 : opening R.prog = plainProg R.prog.main.scope.names := by kernel_rfl
theorem hf2 : ∀ s, fenceModules? R.prog s = some s := fun s => by kernel_rfl
theorem hf3 : defOf (view R.prog [72]) R.name = some (topDef R.prog 72, []) := by kernel_rfl
theorem hf4 : R.prog.theDef R.name = some ((topDef R.prog 72).params, (topDef R.prog 72).body, (topDef R.prog 72).scope) := by kernel_rfl
theorem hf5 : kwWritten? (topDef R.prog 72).params.kwonlyargs (topDef R.prog 72).params.kw_defaults = some [] := by kernel_rfl
theorem hf7 : R.wellSaid = true := by decide +kernel
theorem hf9 : R.prog.bare := ⟨rfl, rfl, rfl, rfl, rfl, by decide +kernel⟩
theorem hf8 : (chainsOk (view R.prog [72]) && opensWell R.prog && (frees R.toRowW && R.within.isEmpty)) = true := by decide +kernel
end
end K12H
set_option Elab.async false
set_option linter.all false
set_option maxRecDepth 100000
set_option maxHeartbeats 2000000
namespace Ab
open PySem PySem.Spec PyProof.Rows L2
section
inductive D where
  | non | bl (b : Bool) | int (i : Int) | str (x : Str) | tup (ds : List D) | fls (ds : List D) | ref (a : Addr) | ty (n : String)
def FrL (K : PySem.W.Frag) (H : Hp) (a : Addr) (xs : List V) : Prop := (∃ o, H a = some (.frz o (.lst xs))) ∨
    ∃ (o : Obj) (its : Array Value) (n : Nat), K.lookup a = some o ∧ o.cls = .type "list" ∧ o.dict = none ∧ o.data = .seq its n ∧ its.size ≤ sizeLine ∧ Vals xs its.toList
theorem FrL.sq {K : PySem.W.Frag} {H : Hp} {a : Addr} {xs : List V} (h : FrL K H a xs) : SqL K H a xs := by
  rcases h with ⟨o, h⟩ | h
  · exact .inl (.inr ⟨o, h⟩)
  · exact .inr h
mutual
def Rep (K : PySem.W.Frag) (H : Hp) : D → V → Prop
  | .non, v => v = .non
  | .bl b, v => v = .bl b
  | .int i, v => v = .int i
  | .str x, v => v = .str x
  | .ty n, v => v = .ty n
  | .ref a, v => v = .ref a
  | .tup ds, v => ∃ a xs, v = .ref a ∧ SqT K H a xs ∧ Reps K H ds xs
  | .fls ds, v => ∃ a xs, v = .ref a ∧ FrL K H a xs ∧ Reps K H ds xs
def Reps (K : PySem.W.Frag) (H : Hp) : List D → List V → Prop
  | [], xs => xs = []
  | d :: ds, xs => ∃ x r, xs = x :: r ∧ Rep K H d x ∧ Reps K H ds r
end
def Tx (H H' : Hp) : Prop := (∀ a xs, H a = some (.tup xs) → H' a = some (.tup xs)) ∧ ∀ a o u, H a = some (.frz o u) → H' a = some (.frz o u)
theorem Tx.refl (H : Hp) : Tx H H := ⟨fun _ _ h => h, fun _ _ _ h => h⟩
theorem Tx.trans {H H1 H2 : Hp} (a : Tx H H1) (b : Tx H1 H2) : Tx H H2 := ⟨fun x xs h => b.1 x xs (a.1 x xs h), fun x o u h => b.2 x o u (a.2 x o u h)⟩
theorem Tx.new {H : Hp} {p : Addr} {o : HO} (h : H p = none) : Tx H (upd H p o) := ⟨fun a xs e => by rw [upd_ne (ne_of_none e h)]; exact e, fun a xs u e => by rw [upd_ne (ne_of_none e h)]; exact e⟩
theorem Tx.mut {H : Hp} {p : Addr} {o u : HO} (h : H p = some u) (hu : Mut (some u)) : Tx H (upd H p o) := by
  refine ⟨fun a xs e => ?_, fun a ob x e => ?_⟩
  · rw [upd_ne fun z => ?_]; exact e
    rw [z, h] at e; cases e; exact hu
  · rw [upd_ne fun z => ?_]; exact e
    rw [z, h] at e; cases e; exact hu
section
variable {K : PySem.W.Frag} {H H' : Hp}
theorem zdg {a : Addr} {xs : List V} (t : Tx H H') (h : SqT K H a xs) : SqT K H' a xs := by
  rcases h with (h | ⟨o, h⟩) | h
  · exact .inl (.inl (t.1 _ _ h))
  · exact .inl (.inr ⟨o, t.2 _ _ _ h⟩)
  · exact .inr h
theorem FrL.tx {a : Addr} {xs : List V} (t : Tx H H') (h : FrL K H a xs) : FrL K H' a xs := by
  rcases h with ⟨o, h⟩ | h
  · exact .inl ⟨o, t.2 _ _ _ h⟩
  · exact .inr h
mutual
theorem Rep.mono (t : Tx H H') : ∀ {d : D} {v : V}, Rep K H d v → Rep K H' d v
  | .non, _, h => h
  | .bl _, _, h => h
  | .int _, _, h => h
  | .str _, _, h => h
  | .ty _, _, h => h
  | .ref _, _, h => h
  | .tup ds, _, ⟨a, xs, e, s, r⟩ => ⟨a, xs, e, zdg t s, Reps.mono t r⟩
  | .fls ds, _, ⟨a, xs, e, s, r⟩ => ⟨a, xs, e, FrL.tx t s, Reps.mono t r⟩
theorem Reps.mono (t : Tx H H') : ∀ {ds : List D} {vs : List V}, Reps K H ds vs → Reps K H' ds vs
  | [], _, h => h
  | d :: ds, _, ⟨x, r, e, h, hr⟩ => ⟨x, r, e, Rep.mono t h, Reps.mono t hr⟩
end
theorem Reps.length : ∀ {ds : List D} {vs : List V}, Reps K H ds vs → ds.length = vs.length
  | [], _, h => by rw [show _ = [] from h]; rfl
  | d :: ds, _, ⟨x, r, e, h, hr⟩ => by rw [e]; exact congrArg (· + 1) (Reps.length hr)
theorem Reps.append : ∀ {ds es : List D} {vs us : List V}, Reps K H ds vs → Reps K H es us → Reps K H (ds ++ es) (vs ++ us)
  | [], _, _, _, h, h2 => by rw [show _ = [] from h]; exact h2
  | d :: ds, _, _, _, ⟨x, r, e, h, hr⟩, h2 => by rw [e]; exact ⟨x, r ++ _, rfl, h, Reps.append hr h2⟩
theorem Reps.get : ∀ {ds : List D} {vs : List V} {i : Nat} {d : D}, Reps K H ds vs → ds[i]? = some d → ∃ v, vs[i]? = some v ∧ Rep K H d v
  | [], _, i, _, h, e => by simp at e
  | d :: ds, _, 0, _, ⟨x, r, e, h, hr⟩, q => by rw [e]; simp at q; subst q; exact ⟨x, rfl, h⟩
  | d :: ds, _, i + 1, _, ⟨x, r, e, h, hr⟩, q => by rw [e]; exact Reps.get (ds := ds) (vs := r) (i := i) hr (by simpa using q)
theorem Reps.get' : ∀ {ds : List D} {vs : List V} {i : Nat} {v : V}, Reps K H ds vs → vs[i]? = some v → ∃ d, ds[i]? = some d ∧ Rep K H d v
  | [], _, i, _, h, e => by rw [show _ = [] from h] at e; simp at e
  | d :: ds, _, 0, _, ⟨x, r, e, h, hr⟩, q => by rw [e] at q; simp at q; subst q; exact ⟨d, rfl, h⟩
  | d :: ds, _, i + 1, _, ⟨x, r, e, h, hr⟩, q => by rw [e] at q; exact Reps.get' (ds := ds) (vs := r) (i := i) hr (by simpa using q)
theorem Reps.take : ∀ {ds : List D} {vs : List V} (n : Nat), Reps K H ds vs → Reps K H (ds.take n) (vs.take n)
  | _, _, 0, _ => by simp [Reps]
  | [], _, n + 1, h => by rw [show _ = [] from h]; simp [Reps]
  | d :: ds, _, n + 1, ⟨x, r, e, h, hr⟩ => by rw [e]; exact ⟨x, _, rfl, h, Reps.take n hr⟩
theorem Reps.drop : ∀ {ds : List D} {vs : List V} (n : Nat), Reps K H ds vs → Reps K H (ds.drop n) (vs.drop n)
  | _, _, 0, h => h
  | [], _, n + 1, h => by rw [show _ = [] from h]; simp [Reps]
  | d :: ds, _, n + 1, ⟨x, r, e, h, hr⟩ => by rw [e]; exact Reps.drop (ds := ds) n hr
theorem Reps.reverse : ∀ {ds : List D} {vs : List V}, Reps K H ds vs → Reps K H ds.reverse vs.reverse
  | [], _, h => by rw [show _ = [] from h]; rfl
  | d :: ds, _, ⟨x, r, e, h, hr⟩ => by
    rw [e, List.reverse_cons, List.reverse_cons]
    exact Reps.append (Reps.reverse hr) ⟨x, [], rfl, h, rfl⟩
theorem Reps.replicate {d : D} {v : V} (h : Rep K H d v) : ∀ n : Nat, Reps K H (List.replicate n d) (List.replicate n v)
  | 0 => rfl
  | n + 1 => ⟨v, _, rfl, h, Reps.replicate h n⟩
theorem Reps.flat {ds : List D} {vs : List V} (h : Reps K H ds vs) : ∀ n : Nat, Reps K H (List.replicate n ds).flatten (List.replicate n vs).flatten
  | 0 => rfl
  | n + 1 => by rw [List.replicate_succ, List.replicate_succ, List.flatten_cons, List.flatten_cons]; exact Reps.append h (Reps.flat h n)
theorem Reps.set : ∀ {ds : List D} {vs : List V} (i : Nat) {d : D} {v : V}, Reps K H ds vs → Rep K H d v → Reps K H (ds.set i d) (vs.set i v)
  | [], _, i, _, _, h, _ => by rw [show _ = [] from h]; rfl
  | d :: ds, _, 0, _, _, ⟨x, r, e, h, hr⟩, q => by rw [e]; exact ⟨_, r, rfl, q, hr⟩
  | d :: ds, _, i + 1, _, _, ⟨x, r, e, h, hr⟩, q => by rw [e]; exact ⟨x, _, rfl, h, Reps.set i hr q⟩
theorem Reps.of_ints : ∀ ns : List Int, Reps K H (ns.map D.int) (ns.map V.int)
  | [] => rfl
  | n :: ns => ⟨_, _, rfl, rfl, Reps.of_ints ns⟩
end
def Kd (o : Obj) : HO := .frz o (.ext fun _ => True)
theorem zkC {P : Program} {w : World} {H : Hp} {h : Heap} {a : Addr} {o : Obj} (e : h.get? a = some o) : ObjOk P w H h a (Kd o) := ⟨e, trivial, ⟨o, e⟩, fun _ _ _ _ => trivial⟩
theorem zeQ {P : Program} {w : World} {H : Hp} {h : Heap} {a : Addr} {o : Obj} (x : HOk P w H h) (e : H a = some (Kd o)) : h.get? a = some o := (x a _ e).1
theorem zmO {H H' : Hp} {a : Addr} {o : Obj} (t : Tx H H') (e : H a = some (Kd o)) : H' a = some (Kd o) := t.2 a _ _ e
def CodeK (H : Hp) (c : Addr) (q : Str) : Prop := ∃ (oc : Obj) (vs : Array Value) (t : Tok), H c = some (Kd oc) ∧ oc.data = .fields vs ∧ vs[1]? = some (.str q t)
theorem CodeK.tx {H H' : Hp} {c : Addr} {q : Str} (t : Tx H H') (x : CodeK H c q) : CodeK H' c q :=
  let ⟨oc, vs, tk, a, b⟩ := x; ⟨oc, vs, tk, zmO t a, b⟩
def zpP (H : Hp) (P : Addr) (q : Str) : Prop := ∃ ps : Array Value, H P = some (.tbl ps) ∧ TriplesOk ps.toList ∧ ∀ (pos : Pos) (cv : Value), codeAmong pos ps.toList = some cv → ∃ c, cv = .ref c ∧ CodeK H c q
structure zb2 where
  params : Arguments
  body : Expr
  scope : Scope
  qual : Str
def FnK (H : Hp) (f : Addr) (L : zb2) (cl : List (Str × Addr)) : Prop := ∃ (c' : Addr) (pm ctv : Value), H f = some (Kd (PySem.W.kla_obj "<lambda>" L.qual L.params L.body L.scope cl pm c' ctv)) ∧ CodeK H c' L.qual
theorem FnK.tx {H H' : Hp} {f : Addr} {L : zb2} {cl : List (Str × Addr)} (t : Tx H H') (x : FnK H f L cl) : FnK H' f L cl :=
  let ⟨c', pm, ctv, a, b⟩ := x; ⟨c', pm, ctv, zmO t a, b.tx t⟩
def CellsK (H : Hp) (ys : List Str) (cl : List (Str × Addr)) (vs : List V) : Prop := ∀ (i : Nat) (y : Str), ys[i]? = some y → ∃ (c : Addr) (v : V) (w : Value) (o : Obj), cl.lookup y = some c ∧ vs[i]? = some v ∧ RelV v w ∧ H c = some (Kd o) ∧ o.data = .cell (some w)
structure LSc (L : zb2) (ys : List Str) : Prop where
  kind : L.scope.kind = .function
  co : L.scope.isCoroutine = false
  gen : L.scope.isGenerator = false
  own : ∀ y ∈ L.scope.names, y.2 ≠ .local ∧ y.2 ≠ .cell
  free : ∀ y ∈ L.scope.names, y.2 = .free → y.1 ∈ ys
  bind : ∀ (cl : List (Str × Addr)) (pm cv ctv : Value), bindArgs (PySem.W.kla_fn "<lambda>" L.qual L.params L.body L.scope cl pm cv ctv) ⟨[], []⟩ = pure []
structure ClK (H : Hp) (L : zb2) (ys : List Str) (cl : List (Str × Addr)) (vs : List V) : Prop where
  cells : CellsK H ys cl vs
  only : ∀ y c, cl.lookup y = some c → ∃ i : Nat, ys[i]? = some y
  mem : ∀ c, c ∈ cl.map (·.2) → ∃ y, cl.lookup y = some c
  inj : ∀ x y c, cl.lookup x = some c → cl.lookup y = some c → x = y
  len : vs.length = ys.length
  has : ∀ y ∈ L.scope.names, y.2 = .free → ∃ c, cl.lookup y.1 = some c
theorem CellsK.tx {H H' : Hp} {ys : List Str} {cl : List (Str × Addr)} {vs : List V} (t : Tx H H') (x : CellsK H ys cl vs) : CellsK H' ys cl vs := fun i y h =>
  let ⟨c, v, w, o, a1, a2, a3, a4, a5⟩ := x i y h; ⟨c, v, w, o, a1, a2, a3, zmO t a4, a5⟩
theorem ClK.tx {H H' : Hp} {L : zb2} {ys : List Str} {cl : List (Str × Addr)} {vs : List V} (t : Tx H H') (x : ClK H L ys cl vs) : ClK H' L ys cl vs := ⟨x.cells.tx t, x.only, x.mem, x.inj, x.len, x.has⟩
inductive O where
  | lst (ds : List D)
  | tab
  | dic (ps : List (Key × D))
  | ltab (q : Str)
  | fn (L : zb2) (ys : List Str) (cap : List Nat) (cl : List (Str × Addr))
  | clo (L : zb2) (ys : List Str) (ds : List D)
  | opq
  | xd (fs : List (Str × D))
  | obj (C : Addr) (fs : List (Str × D))
  | ftp (ds : List D)
  | fdc (ps : List (Key × D))
abbrev M := Addr → Option O
def mset (m : M) (a : Addr) (o : O) : M := fun b => if b = a then some o else m b
theorem zq {m : M} {a : Addr} {o : O} : mset m a o a = some o := by unfold mset; rw [if_pos rfl]
theorem zaX {m : M} {a b : Addr} {o : O} (h : b ≠ a) : mset m a o b = m b := by unfold mset; rw [if_neg h]
theorem zV {m : M} {a : Addr} {o u : O} : mset (mset m a o) a u = mset m a u := by funext b; unfold mset; split <;> rfl
def RepKV (K : PySem.W.Frag) (H : Hp) : List (Key × D) → List (Key × V) → Prop
  | [], l => l = []
  | (k, d) :: ps, l => ∃ v r, l = (k, v) :: r ∧ Rep K H d v ∧ RepKV K H ps r
theorem RepKV.mono {K : PySem.W.Frag} {H H' : Hp} (t : Tx H H') : ∀ {ps : List (Key × D)} {l : List (Key × V)}, RepKV K H ps l → RepKV K H' ps l
  | [], _, h => h
  | (k, d) :: ps, _, ⟨v, r, e, h, hr⟩ => ⟨v, r, e, h.mono t, RepKV.mono t hr⟩
def RepF (K : PySem.W.Frag) (H : Hp) : List (Str × D) → List (Str × V) → Prop
  | [], l => l = []
  | (k, d) :: ps, l => ∃ v r, l = (k, v) :: r ∧ Rep K H d v ∧ RepF K H ps r
theorem RepF.mono {K : PySem.W.Frag} {H H' : Hp} (t : Tx H H') : ∀ {ps : List (Str × D)} {l : List (Str × V)}, RepF K H ps l → RepF K H' ps l
  | [], _, h => h
  | (k, d) :: ps, _, ⟨v, r, e, h, hr⟩ => ⟨v, r, e, h.mono t, RepF.mono t hr⟩
def RelO (K : PySem.W.Frag) (H : Hp) (a : Addr) : O → Prop
  | .lst ds => ∃ xs, H a = some (.lst xs) ∧ Reps K H ds xs
  | .tab => ∃ ps, H a = some (.tbl ps) ∧ TriplesOk ps.toList
  | .dic ps => ∃ l, H a = some (.dK l) ∧ RepKV K H ps l
  | .ltab q => zpP H a q
  | .fn L _ _ cl => FnK H a L cl
  | .clo L ys ds => ∃ cl vs, FnK H a L cl ∧ ClK H L ys cl vs ∧ Reps K H ds vs
  | .opq => ∃ o fd, H a = some (Kd o) ∧ o.data = .func fd
  | .xd fs => ∃ vs, H a = some (.xd ((fs.map (·.1)).zip vs)) ∧ Reps K H (fs.map (·.2)) vs
  | .obj C fs => ∃ dx l, H a = some (.ins C dx l) ∧ RepF K H fs l
  | .ftp ds => ∃ o xs, H a = some (.frz o (.tup xs)) ∧ (o.cls = .type "tuple" ∧ o.dict = none) ∧ Reps K H ds xs
  | .fdc ps => ∃ o l, H a = some (.frz o (.dK l)) ∧ RepKV K H ps l
theorem RelO.move {K : PySem.W.Frag} {H H' : Hp} {a : Addr} (t : Tx H H') (k : ∀ u, H a = some u → H' a = some u) : ∀ {o : O}, RelO K H a o → RelO K H' a o
  | .lst _, ⟨xs, q, z⟩ => ⟨xs, k _ q, z.mono t⟩
  | .tab, ⟨ps, q, z⟩ => ⟨ps, k _ q, z⟩
  | .dic _, ⟨l, q, z⟩ => ⟨l, k _ q, z.mono t⟩
  | .ltab _, ⟨ps, e, ht, ha⟩ => ⟨ps, k _ e, ht, fun pos cv hc => let ⟨c, a1, a2⟩ := ha pos cv hc; ⟨c, a1, a2.tx t⟩⟩
  | .fn _ _ _ _, x => FnK.tx t x
  | .clo _ _ _, ⟨cl, vs, f, c, r⟩ => ⟨cl, vs, f.tx t, c.tx t, r.mono t⟩
  | .opq, ⟨o, fd, e, d⟩ => ⟨o, fd, zmO t e, d⟩
  | .xd _, ⟨vs, q, z⟩ => ⟨vs, k _ q, z.mono t⟩
  | .obj _ _, ⟨dx, l, q, z⟩ => ⟨dx, l, k _ q, z.mono t⟩
  | .ftp _, ⟨o, xs, q, c, z⟩ => ⟨o, xs, k _ q, c, z.mono t⟩
  | .fdc _, ⟨o, l, q, z⟩ => ⟨o, l, k _ q, z.mono t⟩
theorem RelO.there {K : PySem.W.Frag} {H : Hp} {a : Addr} : ∀ {o : O}, RelO K H a o → ∃ u, H a = some u
  | .lst _, ⟨_, q, _⟩ => ⟨_, q⟩
  | .tab, ⟨_, q, _⟩ => ⟨_, q⟩
  | .dic _, ⟨_, q, _⟩ => ⟨_, q⟩
  | .ltab _, ⟨_, q, _⟩ => ⟨_, q⟩
  | .fn _ _ _ _, ⟨_, _, _, q, _⟩ => ⟨_, q⟩
  | .clo _ _ _, ⟨_, _, ⟨_, _, _, q, _⟩, _⟩ => ⟨_, q⟩
  | .opq, ⟨_, _, q, _⟩ => ⟨_, q⟩
  | .xd _, ⟨_, q, _⟩ => ⟨_, q⟩
  | .obj _ _, ⟨_, _, q, _⟩ => ⟨_, q⟩
  | .ftp _, ⟨_, _, q, _⟩ => ⟨_, q⟩
  | .fdc _, ⟨_, _, q, _⟩ => ⟨_, q⟩
def RelM (K : PySem.W.Frag) (H : Hp) (m : M) : Prop := ∀ a o, m a = some o → RelO K H a o
def Sub (m m' : M) : Prop := ∀ a o, m a = some o → m' a = some o
theorem Sub.refl (m : M) : Sub m m := fun _ _ h => h
theorem Sub.trans {m m1 m2 : M} (a : Sub m m1) (b : Sub m1 m2) : Sub m m2 := fun x o h => b x o (a x o h)
theorem Sub.new {m : M} {p : Addr} {o : O} (h : m p = none) : Sub m (mset m p o) := fun a u e => by
  rw [zaX fun z => by rw [z, h] at e; cases e]; exact e
theorem Sub.mut {m m' : M} {p : Addr} {o : O} (s : Sub m m') (h : m p = none) : Sub m (mset m' p o) := fun a u e => by
  rw [zaX fun z => by rw [z, h] at e; cases e]; exact s a u e
theorem Sub.none {m m' : M} {p : Addr} (s : Sub m m') (h : m' p = none) : m p = none := by
  cases e : m p with
  | none => rfl
  | some o => rw [s p o e] at h; cases h
section
variable {K : PySem.W.Frag} {H H' : Hp} {m m' : M}
theorem RelM.sub (r : RelM K H m') (s : Sub m m') : RelM K H m := fun a o e => r a o (s a o e)
theorem RelM.free {p : Addr} (r : RelM K H m) (h : H p = none) : m p = none := by
  cases e : m p with
  | none => rfl
  | some o =>
    obtain ⟨u, q⟩ := (r p o e).there
    rw [h] at q; cases q
theorem RelM.grow {p : Addr} {o : HO} (r : RelM K H m) (h : H p = none) : RelM K (upd H p o) m := fun a u e =>
  (r a u e).move (Tx.new h) fun v q => by rw [upd_ne (ne_of_none q h)]; exact q
theorem RelM.newL {p : Addr} {xs : List V} {ds : List D} (r : RelM K H m) (h : H p = none) (z : Reps K H ds xs) : RelM K (upd H p (.lst xs)) (mset m p (.lst ds)) := fun a u e => by
  by_cases hb : a = p
  · subst hb
    rw [zq] at e; cases e
    exact ⟨xs, upd_same, z.mono (Tx.new h)⟩
  · rw [zaX hb] at e
    exact r.grow h a u e
theorem RelM.putL {p : Addr} {xs ys : List V} {ds : List D} (r : RelM K H m) (h : H p = some (.lst ys)) (z : Reps K H ds xs) : RelM K (upd H p (.lst xs)) (mset m p (.lst ds)) := fun a u e => by
  have t : Tx H (upd H p (.lst xs)) := Tx.mut h trivial
  by_cases hb : a = p
  · subst hb
    rw [zq] at e; cases e
    exact ⟨xs, upd_same, z.mono t⟩
  · rw [zaX hb] at e
    exact (r a u e).move t fun v q => by rw [upd_ne hb]; exact q
theorem RelM.newD {p : Addr} {l : List (Key × V)} {ps : List (Key × D)} (r : RelM K H m) (h : H p = none) (z : RepKV K H ps l) : RelM K (upd H p (.dK l)) (mset m p (.dic ps)) := fun a u e => by
  by_cases hb : a = p
  · subst hb
    rw [zq] at e; cases e
    exact ⟨l, upd_same, z.mono (Tx.new h)⟩
  · rw [zaX hb] at e
    exact r.grow h a u e
end
abbrev En := List (Option D)
def En.g : En → Nat → Option D
  | [], _ => none
  | x :: _, 0 => x
  | _ :: r, i + 1 => En.g r i
def En.s : En → Nat → D → En
  | [], _, _ => []
  | _ :: r, 0, d => some d :: r
  | x :: r, i + 1, d => x :: En.s r i d
def En.x : En → Nat → En
  | [], _ => []
  | _ :: r, 0 => none :: r
  | x :: r, i + 1 => x :: En.x r i
def zuc (K : PySem.W.Frag) (H : Hp) (x : Option V) : Option D → Prop
  | none => True
  | some d => ∃ v, x = some v ∧ Rep K H d v
def RelE (K : PySem.W.Frag) (H : Hp) : L2.St → En → Prop
  | [], [] => True
  | x :: σ, e :: en => zuc K H x e ∧ RelE K H σ en
  | _, _ => False
section
variable {K : PySem.W.Frag} {H H' : Hp}
theorem RelE.mono (t : Tx H H') : ∀ {σ : L2.St} {e : En}, RelE K H σ e → RelE K H' σ e
  | [], [], _ => trivial
  | x :: σ, none :: en, h => ⟨trivial, RelE.mono t h.2⟩
  | x :: σ, some d :: en, h => ⟨let ⟨v, e, r⟩ := h.1; ⟨v, e, r.mono t⟩, RelE.mono t h.2⟩
  | [], _ :: _, h => h.elim
  | _ :: _, [], h => h.elim
theorem RelE.get : ∀ {σ : L2.St} {e : En} {i : Nat} {d : D}, RelE K H σ e → e.g i = some d → ∃ v, σ[i]? = some (some v) ∧ Rep K H d v
  | [], [], _, _, _, e => by simp [En.g] at e
  | x :: σ, y :: en, 0, d, h, e => by
    have e' : y = some d := e
    subst e'
    obtain ⟨v, q, r⟩ := h.1
    exact ⟨v, by simp [q], r⟩
  | x :: σ, y :: en, i + 1, d, h, e => by
    obtain ⟨v, q, r⟩ := RelE.get (i := i) h.2 e
    exact ⟨v, by simpa using q, r⟩
  | [], _ :: _, _, _, h, _ => h.elim
  | _ :: _, [], _, _, h, _ => h.elim
theorem RelE.set : ∀ {σ : L2.St} {e : En} (i : Nat) {d : D} {v : V}, RelE K H σ e → Rep K H d v → RelE K H (σ.set i (some v)) (e.s i d)
  | [], [], _, _, _, _, _ => trivial
  | x :: σ, y :: en, 0, d, v, h, r => ⟨⟨v, rfl, r⟩, h.2⟩
  | x :: σ, y :: en, i + 1, d, v, h, r => ⟨h.1, RelE.set i h.2 r⟩
  | [], _ :: _, _, _, _, h, _ => h.elim
  | _ :: _, [], _, _, _, h, _ => h.elim
theorem RelE.unset : ∀ {σ : L2.St} {e : En} (i : Nat), RelE K H σ e → RelE K H (σ.set i none) (e.x i)
  | [], [], _, _ => trivial
  | x :: σ, y :: en, 0, h => ⟨trivial, h.2⟩
  | x :: σ, y :: en, i + 1, h => ⟨h.1, RelE.unset i h.2⟩
  | [], _ :: _, _, h => h.elim
  | _ :: _, [], _, h => h.elim
def zkD (n : Nat) (ds : List D) : En := ds.map some ++ List.replicate (n - ds.length) none
theorem RelE.nones : ∀ (n : Nat), RelE K H (List.replicate n none) (List.replicate n none)
  | 0 => trivial
  | n + 1 => ⟨trivial, RelE.nones n⟩
theorem RelE.start0 (k : Nat) : ∀ {ds : List D} {vs : List V}, Reps K H ds vs → RelE K H (vs.map some ++ List.replicate k none) (ds.map some ++ List.replicate k none)
  | [], _, h => by rw [show _ = [] from h]; exact RelE.nones k
  | d :: ds, _, ⟨x, r, e, h, hr⟩ => by rw [e]; exact ⟨⟨x, rfl, h⟩, RelE.start0 k hr⟩
theorem RelE.start {N : List Str} {ds : List D} {vs : List V} (h : Reps K H ds vs) : RelE K H (L2.start N vs) (zkD N.length ds) := by
  unfold L2.start zkD
  rw [h.length]
  exact RelE.start0 _ h
end
structure Xn where
  cls : Addr
  fs : List (Str × D)
abbrev PQ := D → M → Prop
abbrev PX := Xn → M → Prop
abbrev AE := En → M → PQ → PX → Prop
abbrev AT := En → M → (Bool → M → Prop) → PX → Prop
abbrev AA := En → M → (List D → M → Prop) → PX → Prop
abbrev AG := D → En → M → (En → M → Prop) → Prop
structure zaU where
  nx : En → M → Prop
  rt : PQ
  bk : En → M → Prop := fun _ _ => False
  ct : En → M → Prop := fun _ _ => False
  xe : En → PX
abbrev AS := zaU → En → M → Prop
abbrev ASp := List D → M → PQ → PX → Prop
abbrev AR2 := D → D → M → PQ → Prop
abbrev AR1 := D → M → PQ → Prop
abbrev ARL := List D → M → PQ → Prop
def XRep (K : PySem.W.Frag) (H : Hp) (x : Xn) (cls : Value) (dd : Option Addr) : Prop := cls = .ref x.cls ∧ match x.fs with
  | [] => dd = none
  | fs => ∃ d vs, dd = some d ∧ H d = some (.xd ((fs.map (·.1)).zip vs)) ∧ Reps K H (fs.map (·.2)) vs
structure WOk (K : PySem.W.Frag) (W : WX) (σ : L2.St) (H : Hp) (R : PX) : Prop where
  go : ∀ x m', R x m' → ∀ cls dd H', Tx H H' → XRep K H' x cls dd → RelM K H' m' → W cls dd σ H'
theorem WOk.mono {K : PySem.W.Frag} {W : WX} {σ : L2.St} {H H1 : Hp} {R : PX} (h : WOk K W σ H R) (t : Tx H H1) : WOk K W σ H1 R := ⟨fun x m' r cls dd H' t' => h.go x m' r cls dd H' (t.trans t')⟩
def QOk (K : PySem.W.Frag) (H : Hp) (P : PQ) (Q : VK) : Prop := ∀ d m', P d m' → ∀ v H', Tx H H' → Rep K H' d v → RelM K H' m' → Q v H'
theorem QOk.mono {K : PySem.W.Frag} {H H1 : Hp} {P : PQ} {Q : VK} (h : QOk K H P Q) (t : Tx H H1) : QOk K H1 P Q := fun d m' p v H' t' => h d m' p v H' (t.trans t')
def lE (K : PySem.W.Frag) (W : WX) (t : AE) : TE := fun σ H Q => ∃ e m P R, RelE K H σ e ∧ RelM K H m ∧ t e m P R ∧ QOk K H P Q ∧ WOk K W σ H R
def lT (K : PySem.W.Frag) (W : WX) (t : AT) : TT := fun σ H Q => ∃ e m P R, RelE K H σ e ∧ RelM K H m ∧ t e m P R ∧ (∀ b m', P b m' → ∀ H', Tx H H' → RelM K H' m' → Q b H') ∧ WOk K W σ H R
def lA (K : PySem.W.Frag) (W : WX) (t : AA) : TA := fun σ H Q => ∃ e m P R, RelE K H σ e ∧ RelM K H m ∧ t e m P R ∧ (∀ ds m', P ds m' → ∀ vs H', Tx H H' → Reps K H' ds vs → RelM K H' m' → Q vs H') ∧ WOk K W σ H R
def lG (K : PySem.W.Frag) (g : AG) : TG := fun v σ H Q => ∃ d e m P, Rep K H d v ∧ RelE K H σ e ∧ RelM K H m ∧ g d e m P ∧ ∀ e' m', P e' m' → ∀ σ' H', Tx H H' → RelE K H' σ' e' → RelM K H' m' → Q σ' H'
structure EndsOk (K : PySem.W.Frag) (W : WX) (H : Hp) (A : zaU) (D : Ends) : Prop where
  nx : ∀ e m, A.nx e m → ∀ σ' H', Tx H H' → RelE K H' σ' e → RelM K H' m → D.nx σ' H'
  rt : QOk K H A.rt D.rt
  bk : ∀ e m, A.bk e m → ∀ σ' H', Tx H H' → RelE K H' σ' e → RelM K H' m → D.bk σ' H'
  ct : ∀ e m, A.ct e m → ∀ σ' H', Tx H H' → RelE K H' σ' e → RelM K H' m → D.ct σ' H'
  xe : ∀ e σ' H', Tx H H' → RelE K H' σ' e → WOk K W σ' H' (A.xe e)
theorem EndsOk.mono {K : PySem.W.Frag} {W : WX} {H H1 : Hp} {A : zaU} {D : Ends} (h : EndsOk K W H A D) (t : Tx H H1) : EndsOk K W H1 A D :=
  ⟨fun e m p σ' H' t' => h.nx e m p σ' H' (t.trans t'), h.rt.mono t, fun e m p σ' H' t' => h.bk e m p σ' H' (t.trans t'), fun e m p σ' H' t' => h.ct e m p σ' H' (t.trans t'), fun e σ' H' t' => h.xe e σ' H' (t.trans t')⟩
def lS (K : PySem.W.Frag) (W : WX) (t : AS) : TS := fun D σ H => ∃ e m A, RelE K H σ e ∧ RelM K H m ∧ t A e m ∧ EndsOk K W H A D
abbrev GE (X : Cx) (W : WX) (e : Expr) (t : AE) : Prop := PE X e (lE X.K W t)
abbrev GT (X : Cx) (W : WX) (e : Expr) (t : AT) : Prop := PT X e (lT X.K W t)
abbrev GW (X : Cx) (W : WX) (e : Expr) (t : AT) : Prop := PW X e (lT X.K W t)
abbrev GA (X : Cx) (W : WX) (es : List Expr) (t : AA) : Prop := PA X es (lA X.K W t)
abbrev GS (X : Cx) (W : WX) (st : Stmt) (t : AS) : Prop := PS X st (lS X.K W t)
abbrev GSs (X : Cx) (W : WX) (st : List Stmt) (t : AS) : Prop := PSs X st (lS X.K W t)
abbrev GG (X : Cx) (tg : Expr) (g : AG) : Prop := PG X tg (lG X.K g)
theorem zbp {X : Cx} {e : Expr} {t u : TE} (h : PE X e t) (i : ∀ σ H Q, u σ H Q → t σ H Q) : PE X e u := ⟨fun p s σ H Q I q => h.run p s σ H Q I (i σ H Q q)⟩
theorem zkE {X : Cx} {e : Expr} {t u : TT} (h : PT X e t) (i : ∀ σ H Q, u σ H Q → t σ H Q) : PT X e u := ⟨fun p s σ H Q I q => h.run p s σ H Q I (i σ H Q q)⟩
theorem zpf {X : Cx} {e : Expr} {t u : TT} (h : PW X e t) (i : ∀ σ H Q, u σ H Q → t σ H Q) : PW X e u := ⟨fun w p s σ H Q I q => h.run w p s σ H Q I (i σ H Q q)⟩
theorem zpg {X : Cx} {e : List Expr} {t u : TA} (h : PA X e t) (i : ∀ σ H Q, u σ H Q → t σ H Q) : PA X e u := ⟨fun w p s σ H Q I q => h.run w p s σ H Q I (i σ H Q q)⟩
theorem zem {X : Cx} {e : Stmt} {t u : TS} (h : PS X e t) (i : ∀ D σ H, u D σ H → t D σ H) : PS X e u := ⟨fun p s σ H D I q => h.run p s σ H D I (i D σ H q)⟩
theorem zn1 {X : Cx} {e : List Stmt} {t u : TS} (h : PSs X e t) (i : ∀ D σ H, u D σ H → t D σ H) : PSs X e u := ⟨fun p s σ H D I q => h.run p s σ H D I (i D σ H q)⟩
theorem zjt {X : Cx} {e : Expr} {t u : TG} (h : PG X e t) (i : ∀ v σ H Q, u v σ H Q → t v σ H Q) : PG X e u := ⟨fun p s σ H v w Q I r q => h.run p s σ H v w Q I r (i v σ H Q q)⟩
section
variable {X : Cx} {W : WX}
def zg (i : Nat) : AE := fun e m Q _ => match e.g i with
  | some d => Q d m
  | none => False
def aC (d : D) : AE := fun _ m Q _ => Q d m
theorem zud {K : PySem.W.Frag} {i : Nat} {σ : L2.St} {H : Hp} {Q : VK} (h : lE K W (zg i) σ H Q) : tVar i σ H Q := by
  obtain ⟨e, m, P, R, rE, rM, t, q, w⟩ := h
  have t' : (match e.g i with | some d => P d m | none => False) := t
  cases g : e.g i with
  | none => rw [g] at t'; exact t'.elim
  | some d =>
    rw [g] at t'
    obtain ⟨v, s, r⟩ := rE.get g
    exact ⟨v, s, q d m t' v H (Tx.refl H) r rM⟩
theorem gv (i : Nat) {x : Str} {pos : Pos} (hN : X.N[i]? = some x := by rfl) (hv : Vis X.env.scope x := by first | exact Or.inl rfl | exact Or.inr (Or.inl rfl) | exact Or.inr (Or.inr rfl)) (hd : (x == ("__debug__" : Str)) = false := by decide)
    (hcd : (x == ("__classdict__" : Str)) = false := by decide) : GE X W (.Name x pos) (zg i) := zbp (pe_var hN hv hd hcd) fun _ _ _ h => zud h
theorem lc {K : PySem.W.Frag} {d : D} {v : V} (r : ∀ H, Rep K H d v) {σ : L2.St} {H : Hp} {Q : VK} (h : lE K W (aC d) σ H Q) : tC v σ H Q := by
  obtain ⟨e, m, P, R, rE, rM, t, q, w⟩ := h
  exact q d m t v H (Tx.refl H) (r H) rM
theorem zp {i j pos} : GE X W (.Constant (.int i) j pos) (aC (.int i)) := zbp pe_int fun _ _ _ h => lc (d := .int i) (v := .int i) (fun _ => rfl) h
theorem zei {b j pos} : GE X W (.Constant (.bool b) j pos) (aC (.bl b)) := zbp pe_bl fun _ _ _ h => lc (d := .bl b) (v := .bl b) (fun _ => rfl) h
theorem zcr {j pos} : GE X W (.Constant .none j pos) (aC .non) := zbp pe_non fun _ _ _ h => lc (d := .non) (v := .non) (fun _ => rfl) h
theorem zbn {x j pos} : GE X W (.Constant (.str x) j pos) (aC (.str x)) := zbp pe_str fun _ _ _ h => lc (d := .str x) (v := .str x) (fun _ => rfl) h
theorem zmZ {x : Str} {d : D} {v : V} {u : Value} {pos : Pos} (hg : Gl X x) (hm : X.mg x = some u) (r : RelV v u) (rd : ∀ H, Rep X.K H d v) (hd : (x == ("__debug__" : Str)) = false := by decide) : GE X W (.Name x pos) (aC d) :=
  zbp (pe_glob hg hm r hd) fun _ _ _ h => lc rd h
def lR2 (K : PySem.W.Frag) (r : AR2) : R2 := fun x y H Q => ∃ d1 d2 m P, Rep K H d1 x ∧ Rep K H d2 y ∧ RelM K H m ∧ r d1 d2 m P ∧ QOk K H P Q
def lRL (K : PySem.W.Frag) (r : ARL) : List V → Hp → VK → Prop := fun xs H Q => ∃ ds m P, Reps K H ds xs ∧ RelM K H m ∧ r ds m P ∧ QOk K H P Q
def aOp (r : AR2) (ta tb : AE) : AE := fun e m Q R => ta e m (fun x m1 => tb e m1 (fun y m2 => r x y m2 Q) R) R
def aUn (r : AR1) (ta : AE) : AE := fun e m Q R => ta e m (fun x m1 => r x m1 Q) R
theorem lop {K : PySem.W.Frag} {r : AR2} {ta tb : AE} {σ : L2.St} {H : Hp} {Q : VK} (h : lE K W (aOp r ta tb) σ H Q) : tOp (lR2 K r) (lE K W ta) (lE K W tb) σ H Q := by
  obtain ⟨e, m, P, R, rE, rM, t, q, w⟩ := h
  refine ⟨e, m, _, R, rE, rM, t, fun d1 m1 h1 x H1 t1 r1 rm1 => ?_, w⟩
  refine ⟨e, m1, _, R, rE.mono t1, rm1, h1, fun d2 m2 h2 y H2 t2 r2 rm2 => ?_, w.mono t1⟩
  exact ⟨d1, d2, m2, P, r1.mono t2, r2, rm2, h2, q.mono (t1.trans t2)⟩
theorem zL {op : Operator} {r : AR2} {a b : Expr} {ta tb : AE} {pos : Pos} (ho : OpR X (binaryOp op) (lR2 X.K r)) (ha : GE X W a ta) (hb : GE X W b tb) : GE X W (.BinOp a op b pos) (aOp r ta tb) := zbp (pe_op ho ha hb) fun _ _ _ h => lop h
theorem zkF {op : CmpOp} {r : AR2} {a b : Expr} {ta tb : AE} {pos : Pos} (ho : OpR X (compareOp op) (lR2 X.K r)) (ha : GE X W a ta) (hb : GE X W b tb) (hm : behindInMarks op b = false) : GE X W (.Compare a [op] [b] pos) (aOp r ta tb) := zbp (pe_cmpR ho ha hb hm) fun _ _ _ h => lop h
def zM (t : AE) : AT := fun e m Q R => t e m (fun d m' => match d with | .bl b => Q b m' | _ => False) R
theorem zqo {K : PySem.W.Frag} {ta : AE} {σ : L2.St} {H : Hp} {Q : Bool → Hp → Prop} (h : lT K W (zM ta) σ H Q) : lE K W ta σ H fun x H' => ∃ k, x = .bl k ∧ Q k H' := by
  obtain ⟨e, m, P, R, rE, rM, t, q, w⟩ := h
  refine ⟨e, m, _, R, rE, rM, t, fun d m1 h1 x H1 t1 r1 rm1 => ?_, w⟩
  cases d with
  | bl b => exact ⟨b, r1, q b m1 h1 H1 t1 rm1⟩
  | _ => exact h1.elim
theorem zce {op : CmpOp} {r : AR2} {a b : Expr} {ta tb : AE} {pos : Pos} (ho : OpR X (compareOp op) (lR2 X.K r)) (ha : GE X W a ta) (hb : GE X W b tb) (hm : behindInMarks op b = false) : GT X W (.Compare a [op] [b] pos) (zM (aOp r ta tb)) := zkE (pt_cmpR ho ha hb hm) fun σ H Q h => by
  obtain ⟨e, m, P, R, rE, rM, t, q, w⟩ := zqo h
  exact lop ⟨e, m, P, R, rE, rM, t, q, w⟩
def zac (r r' : AR2) (ta tb tc : AE) : AE := fun e m Q R => ta e m (fun x m1 => tb e m1 (fun y m2 => r x y m2 fun z m3 => match z with
  | .bl k => if k = true then tc e m3 (fun u m4 => r' y u m4 Q) R else Q (.bl false) m3
  | _ => False) R) R
theorem zlr {op op' : CmpOp} {r r' : AR2} {a b c : Expr} {ta tb tc : AE} {pos : Pos} (ho : OpR X (compareOp op) (lR2 X.K r)) (ho' : OpR X (compareOp op') (lR2 X.K r')) (ha : GE X W a ta) (hb : GE X W b tb) (hc : GE X W c tc)
    (hm : lastMarks [op, op'] [b, c] = false) : GE X W (.Compare a [op, op'] [b, c] pos) (zac r r' ta tb tc) := zbp (pe_chain ho ho' ha hb hc hm) fun σ H Q h => by
  obtain ⟨e, m, P, R, rE, rM, t, q, w⟩ := h
  refine ⟨e, m, _, R, rE, rM, t, fun d1 m1 h1 x H1 t1 r1 rm1 => ?_, w⟩
  refine ⟨e, m1, _, R, rE.mono t1, rm1, h1, fun d2 m2 h2 y H2 t2 r2 rm2 => ?_, w.mono t1⟩
  refine ⟨d1, d2, m2, _, r1.mono t2, r2, rm2, h2, fun d3 m3 h3 z H3 t3 r3 rm3 => ?_⟩
  cases d3 with
  | bl k =>
    refine ⟨k, r3, ?_⟩
    cases k with
    | true =>
      have h3' : tc e m3 (fun u m4 => r' d2 u m4 P) R := by simpa using h3
      refine ⟨e, m3, _, R, rE.mono (t1.trans (t2.trans t3)), rm3, h3', fun d4 m4 h4 u H4 t4 r4 rm4 => ?_, w.mono (t1.trans (t2.trans t3))⟩
      exact ⟨d2, d4, m4, P, r2.mono (t3.trans t4), r4, rm4, h4, q.mono (t1.trans (t2.trans (t3.trans t4)))⟩
    | false =>
      have h3' : P (.bl false) m3 := by simpa using h3
      exact q (.bl false) m3 h3' (.bl false) H3 (t1.trans (t2.trans t3)) rfl rm3
  | _ => exact h3.elim
def zbO (t u : AT) : AT := fun e m Q R => t e m (fun c m1 => if c = true then u e m1 Q R else Q false m1) R
def aOr (t u : AT) : AT := fun e m Q R => t e m (fun c m1 => if c = true then Q true m1 else u e m1 Q R) R
def zaI (t : AT) : AT := fun e m Q R => t e m (fun c m1 => Q (!c) m1) R
theorem zqT {a : Expr} {ta : AT} {pos : Pos} (ha : GT X W a ta) : GW X W (.BoolOp .And [a] pos) ta := pw_and1 ha
theorem zm0 {a : Expr} {ta : AT} {pos : Pos} (ha : GT X W a ta) : GW X W (.BoolOp .Or [a] pos) ta := pw_or1 ha
theorem zrT {a b : Expr} {rest : List Expr} {ta tb : AT} {pos : Pos} (ha : GT X W a ta) (hb : GW X W (.BoolOp .And (b :: rest) pos) tb) : GW X W (.BoolOp .And (a :: b :: rest) pos) (zbO ta tb) := zpf (pw_and ha hb) fun σ H Q h => by
  obtain ⟨e, m, P, R, rE, rM, t, q, w⟩ := h
  refine ⟨e, m, _, R, rE, rM, t, fun c m1 h1 H1 t1 rm1 => ?_, w⟩
  cases c with
  | true =>
    have h1' : tb e m1 P R := by simpa using h1
    exact ⟨e, m1, P, R, rE.mono t1, rm1, h1', fun b m' p H' t' => q b m' p H' (t1.trans t'), w.mono t1⟩
  | false =>
    have h1' : P false m1 := by simpa using h1
    exact q false m1 h1' H1 t1 rm1
theorem zkG {a b : Expr} {rest : List Expr} {ta tb : AT} {pos : Pos} (ha : GT X W a ta) (hb : GW X W (.BoolOp .Or (b :: rest) pos) tb) : GW X W (.BoolOp .Or (a :: b :: rest) pos) (aOr ta tb) := zpf (pw_or ha hb) fun σ H Q h => by
  obtain ⟨e, m, P, R, rE, rM, t, q, w⟩ := h
  refine ⟨e, m, _, R, rE, rM, t, fun c m1 h1 H1 t1 rm1 => ?_, w⟩
  cases c with
  | true =>
    have h1' : P true m1 := by simpa using h1
    exact q true m1 h1' H1 t1 rm1
  | false =>
    have h1' : tb e m1 P R := by simpa using h1
    exact ⟨e, m1, P, R, rE.mono t1, rm1, h1', fun b m' p H' t' => q b m' p H' (t1.trans t'), w.mono t1⟩
theorem zoC {e : Expr} {t : AT} (h : GW X W e t) : GT X W e t := h.pt
theorem zcP {a : Expr} {ta : AT} {pos : Pos} (ha : GT X W a ta) : GT X W (.UnaryOp .Not a pos) (zaI ta) := zkE (pt_not ha) fun σ H Q h => by
  obtain ⟨e, m, P, R, rE, rM, t, q, w⟩ := h
  exact ⟨e, m, _, R, rE, rM, t, fun c m1 h1 H1 t1 rm1 => q _ m1 h1 H1 t1 rm1, w⟩
def zdq (t : AE) : AT := fun e m Q R => t e m (fun d m' => match d with
  | .bl b => Q b m'
  | .non => Q false m'
  | .int i => Q (i != 0) m'
  | .str x => x.length ≤ 100000 ∧ Q ((x.length : Int) != 0) m'
  | .tup ds => Q (!ds.isEmpty) m'
  | .ref a => (match m' a with
    | some (.lst ds) => Q (!ds.isEmpty) m'
    | _ => False)
  | _ => False) R
theorem Reps.emp {K : PySem.W.Frag} {H : Hp} {ds : List D} {vs : List V} (h : Reps K H ds vs) : (!vs.isEmpty) = !ds.isEmpty := by
  cases ds with
  | nil => rw [show vs = [] from h]; rfl
  | cons d r => obtain ⟨x, r', e, _⟩ := h; rw [e]; rfl
theorem zqp {a : Expr} {ta : AE} (ha : GE X W a ta) (he : ∀ whole, isTrue a X.env whole = (do let v ← whole; standAt a.pos; holding [v] (truthy v)) := by intro _; rfl) : GT X W a (zdq ta) := zkE (pt_truth ha he) fun σ H Q h => by
  obtain ⟨e, m, P, R, rE, rM, t, q, w⟩ := h
  refine ⟨e, m, _, R, rE, rM, t, fun d m1 h1 x H1 t1 r1 rm1 => ?_, w⟩
  have go : ∀ k, TruV X.K x H1 k → P k m1 → ∃ k, TruV X.K x H1 k ∧ Q k H1 := fun k hk hp => ⟨k, hk, q k m1 hp H1 t1 rm1⟩
  cases d with
  | bl b => rw [show x = .bl b from r1] at go ⊢; exact go b rfl h1
  | non => rw [show x = .non from r1] at go ⊢; exact go false rfl h1
  | int i => rw [show x = .int i from r1] at go ⊢; exact go _ rfl h1
  | str z => rw [show x = .str z from r1] at go ⊢; exact go _ ⟨Nat.le_trans h1.1 (by decide), rfl⟩ h1.2
  | tup ds =>
    obtain ⟨p, xs, rfl, hs, hr⟩ := r1
    exact go _ (.inr (.inl ⟨xs, hs, rfl⟩)) (by rw [hr.emp]; exact h1)
  | ref a =>
    rw [show x = .ref a from r1] at go ⊢
    have h1' : (match m1 a with | some (.lst ds) => P (!ds.isEmpty) m1 | _ => False) := h1
    cases hm : m1 a with
    | none => rw [hm] at h1'; exact h1'.elim
    | some o =>
      rw [hm] at h1'
      cases o with
      | lst ds =>
        obtain ⟨xs, hx, hr⟩ := rm1 a _ hm
        exact go _ (.inl ⟨xs, SqL.of hx, rfl⟩) (by rw [hr.emp]; exact h1')
      | _ => exact h1'.elim
  | _ => exact h1.elim
def zam (ta tb : AE) : AE := fun e m Q R => ta e m (fun x m1 => match x with
  | .bl c => if c = true then tb e m1 Q R else Q (.bl false) m1
  | _ => False) R
def zb3 (ta tb : AE) : AE := fun e m Q R => ta e m (fun x m1 => match x with
  | .bl c => if c = true then Q (.bl true) m1 else tb e m1 Q R
  | _ => False) R
def zaN (ta : AE) : AE := fun e m Q R => ta e m (fun x m1 => match x with
  | .bl c => Q (.bl (!c)) m1
  | _ => False) R
def aIf (t : AT) (ta tb : AE) : AE := fun e m Q R => t e m (fun c m1 => if c = true then ta e m1 Q R else tb e m1 Q R) R
theorem zmP {op} {a : Expr} {t : AE} {pos : Pos} (h : GE X W a t) : GE X W (.BoolOp op [a] pos) t := pe_one h
theorem zf9 {a b : Expr} {rest : List Expr} {ta tb : AE} {pos : Pos} (ha : GE X W a ta) (hb : GE X W (.BoolOp .And (b :: rest) pos) tb) : GE X W (.BoolOp .And (a :: b :: rest) pos) (zam ta tb) := zbp (pe_and ha hb) fun σ H Q h => by
  obtain ⟨e, m, P, R, rE, rM, t, q, w⟩ := h
  refine ⟨e, m, _, R, rE, rM, t, fun d m1 h1 x H1 t1 r1 rm1 => ?_, w⟩
  cases d with
  | bl c =>
    refine ⟨c, r1, ?_⟩
    cases c with
    | true => exact ⟨e, m1, P, R, rE.mono t1, rm1, by simpa using h1, q.mono t1, w.mono t1⟩
    | false => exact q (.bl false) m1 (by simpa using h1) (.bl false) H1 t1 rfl rm1
  | _ => exact h1.elim
theorem zoD {a : Expr} {ta : AE} {pos : Pos} (ha : GE X W a ta) : GE X W (.UnaryOp .Not a pos) (zaN ta) := zbp (pe_not ha) fun σ H Q h => by
  obtain ⟨e, m, P, R, rE, rM, t, q, w⟩ := h
  refine ⟨e, m, _, R, rE, rM, t, fun d m1 h1 x H1 t1 r1 rm1 => ?_, w⟩
  cases d with
  | bl c => exact ⟨c, r1, q (.bl (!c)) m1 h1 (.bl (!c)) H1 t1 rfl rm1⟩
  | _ => exact h1.elim
theorem zm1 {c a b : Expr} {tc : AT} {ta tb : AE} {pos : Pos} (hc : GT X W c tc) (ha : GE X W a ta) (hb : GE X W b tb) : GE X W (.IfExp c a b pos) (aIf tc ta tb) := zbp (pe_ifExp hc ha hb) fun σ H Q h => by
  obtain ⟨e, m, P, R, rE, rM, t, q, w⟩ := h
  refine ⟨e, m, _, R, rE, rM, t, fun c m1 h1 H1 t1 rm1 => ?_, w⟩
  cases c with
  | true => exact ⟨e, m1, P, R, rE.mono t1, rm1, by simpa using h1, q.mono t1, w.mono t1⟩
  | false => exact ⟨e, m1, P, R, rE.mono t1, rm1, by simpa using h1, q.mono t1, w.mono t1⟩
def zm : AA := fun _ m Q _ => Q [] m
def zb (ta : AE) (tr : AA) : AA := fun e m Q R => ta e m (fun x m1 => tr e m1 (fun xs m2 => Q (x :: xs) m2) R) R
def zcU (ta : AE) (tr : AA) : AA := fun e m Q R => ta e m (fun x m1 => match x with
  | .tup ds => tr e m1 (fun xs m2 => Q (ds ++ xs) m2) R
  | .ref a => (match m1 a with
    | some (.lst ds) => tr e m1 (fun xs m2 => Q (ds ++ xs) m2) R
    | _ => False)
  | _ => False) R
theorem zf : GA X W [] zm := zpg pa_nil fun σ H Q h => by
  obtain ⟨e, m, P, R, rE, rM, t, q, w⟩ := h
  exact q [] m t [] H (Tx.refl H) rfl rM
theorem za {e : Expr} {es : List Expr} {te : AE} {t : AA} (ha : GE X W e te) (hr : GA X W es t) (hs : starEach (e :: es) X.env = (false, eval e X.env) :: starEach es X.env := by rfl) : GA X W (e :: es) (zb te t) := zpg (pa_cons ha hr hs) fun σ H Q h => by
  obtain ⟨e, m, P, R, rE, rM, t, q, w⟩ := h
  refine ⟨e, m, _, R, rE, rM, t, fun d m1 h1 x H1 t1 r1 rm1 => ?_, w⟩
  exact ⟨e, m1, _, R, rE.mono t1, rm1, h1, fun ds m2 h2 vs H2 t2 r2 rm2 => q (d :: ds) m2 h2 (x :: vs) H2 (t1.trans t2) ⟨x, vs, rfl, r1.mono t2, r2⟩ rm2, w.mono t1⟩
def big : Nat := 100000
theorem zd4 {n : Nat} (h : n ≤ big) : n ≤ sizeLine := Nat.le_trans h (by decide)
theorem big_lt {n : Nat} (h : n < big) : n < sizeLine := Nat.lt_of_lt_of_le h (by decide)
def zE (t : AA) : AE := fun e m Q R => t e m (fun ds m1 => ds.length ≤ big ∧ Q (.tup ds) m1) R
def zaf (t : AA) : AE := fun e m Q R => t e m (fun ds m1 => ds.length ≤ big ∧ ∀ p, m1 p = none → Q (.ref p) (mset m1 p (.lst ds))) R
theorem zF {es : List Expr} {t : AA} {x1} {pos : Pos} (h : GA X W es t) : GE X W (.Tuple es x1 pos) (zE t) := zbp (pe_tup h) fun σ H Q h => by
  obtain ⟨e, m, P, R, rE, rM, t, q, w⟩ := h
  refine ⟨e, m, _, R, rE, rM, t, fun ds m1 h1 vs H1 t1 r1 rm1 => ⟨by rw [← r1.length]; exact zd4 h1.1, fun p hp => ?_⟩, w⟩
  exact q (.tup ds) m1 h1.2 (.ref p) _ (t1.trans (Tx.new hp)) ⟨p, vs, rfl, SqT.of upd_same, r1.mono (Tx.new hp)⟩ (rm1.grow hp)
theorem zcs {es : List Expr} {t : AA} {pos : Pos} (h : GA X W es t) : GE X W (.List es pos) (zaf t) := zbp (pe_lst h) fun σ H Q h => by
  obtain ⟨e, m, P, R, rE, rM, t, q, w⟩ := h
  refine ⟨e, m, _, R, rE, rM, t, fun ds m1 h1 vs H1 t1 r1 rm1 => ⟨by rw [← r1.length]; exact zd4 h1.1, fun p hp => ?_⟩, w⟩
  exact q (.ref p) _ (h1.2 p (rm1.free hp)) (.ref p) _ (t1.trans (Tx.new hp)) rfl (rm1.newL hp r1)
structure EOk (K : PySem.W.Frag) (H : Hp) (R : PX) (E : XK) : Prop where
  go : ∀ x m', R x m' → ∀ cls dd H', Tx H H' → XRep K H' x cls dd → RelM K H' m' → E cls dd H'
def lSp (K : PySem.W.Frag) (n : Nat) (sp : ASp) : Sp := fun vs H Q E => ∃ ds m P R, ds.length = n ∧ Reps K H ds vs ∧ RelM K H m ∧ sp ds m P R ∧ QOk K H P Q ∧ EOk K H R E
def aCall (n : Nat) (sp : ASp) (t : AA) : AE := fun e m Q R => t e m (fun ds m1 => ds.length = n ∧ sp ds m1 Q R) R
section
variable {k n : Nat} {f : Addr} {fd : FuncData} {ps : List Str} {sp : ASp} {x : Str} {p pos : Pos} {e : Expr} {es : List Expr} {t : AA}
theorem zrU (F : FnOk X.prog X.w X.K X.mg X.base (L2.CX X.prog X.w) k f fd ps (lSp X.K n sp)) (tk : Takes X W) (hr : Room k X.A) (hm : X.mg x = some (.ref f)) (hk : PySem.W.keepIn X.K (.ref f) = true) (hb : Binds X.K fd ps []) (ha : GA X W (e :: es) t) (hg : Gl X x := by rfl)
    (hdb : (x == ("__debug__" : Str)) = false := by decide) (he : starEach (e :: es) X.env = (false, eval e X.env) :: starEach es X.env := by rfl) (hpl : (backTo pos (starEach es X.env)).any (·.1) = false := by rfl) :
    GE X W (.Call (.Name x p) (e :: es) [] pos) (aCall n sp t) := zbp (pe_callS F hr hg hm hk hb (fun σ => passAt tk σ) ha hdb he hpl) fun σ H Q h => by
  obtain ⟨en, m, P, R, rE, rM, t, q, w⟩ := h
  refine ⟨en, m, _, R, rE, rM, t, fun ds m1 h1 vs H1 t1 r1 rm1 => ?_, w⟩
  exact ⟨ds, m1, P, R, h1.1, r1, rm1, h1.2, q.mono t1, ⟨fun x m' r cls dd H' t' => (w.mono t1).go x m' r cls dd H' t'⟩⟩
end
def aCB (r : ARL) (t : AA) : AE := fun e m Q R => t e m (fun ds m1 => r ds m1 Q) R
theorem lcb {K : PySem.W.Frag} {r : ARL} {t : AA} {σ : L2.St} {H : Hp} {Q : VK} (h : lE K W (aCB r t) σ H Q) : tCB (lRL K r) (lA K W t) σ H Q := by
  obtain ⟨e, m, P, R, rE, rM, t, q, w⟩ := h
  exact ⟨e, m, _, R, rE, rM, t, fun ds m1 h1 vs H1 t1 r1 rm1 => ⟨ds, m1, P, r1, rm1, h1, q.mono t1⟩, w⟩
theorem zfM {r : ARL} {id : String} {x : Str} {e : Expr} {es : List Expr} {t : AA} {p pos : Pos} (hc : CallR X (.builtin id) (lRL X.K r)) (hm : X.mg x = none) (hv : bootBuiltins x = some (.builtin id)) (ha : GA X W (e :: es) t) (hg : Gl X x := by rfl) (hn : x ≠ "__name__" := by decide) (hdb : (x == ("__debug__" : Str)) = false := by decide)
    (he : starEach (e :: es) X.env = (false, eval e X.env) :: starEach es X.env := by rfl) (hpl : (backTo pos (starEach es X.env)).any (·.1) = false := by rfl) : GE X W (.Call (.Name x p) (e :: es) [] pos) (aCB r t) := zbp (pe_callB hc hg hm hv ha hn hdb he hpl) fun _ _ _ h => lcb h
theorem zfh {r : ARL} {T : String} {x : Str} {e : Expr} {es : List Expr} {t : AA} {p pos : Pos} (hc : CallR X (.type T) (lRL X.K r)) (hm : X.mg x = none) (hv : bootBuiltins x = some (.type T)) (ha : GA X W (e :: es) t) (hg : Gl X x := by rfl) (hn : x ≠ "__name__" := by decide) (hdb : (x == ("__debug__" : Str)) = false := by decide)
    (he : starEach (e :: es) X.env = (false, eval e X.env) :: starEach es X.env := by rfl) (hpl : (backTo pos (starEach es X.env)).any (·.1) = false := by rfl) : GE X W (.Call (.Name x p) (e :: es) [] pos) (aCB r t) := zbp (pe_callTy hc hg hm hv ha hn hdb he hpl) fun _ _ _ h => lcb h
theorem zcf {r : AR2} {a b : Expr} {ta tb : AE} {pos : Pos} (hr : IxR X (lR2 X.K r)) (ha : GE X W a ta) (hb : GE X W b tb) (hs : PlainIx b := by exact fun _ _ => rfl) : GE X W (.Subscript a b pos) (aOp r ta tb) := zbp (pe_ix hr ha hb hs) fun _ _ _ h => lop h
abbrev APt := En → M → (Option Int → M → Prop) → PX → Prop
def lPt (K : PySem.W.Frag) (W : WX) (t : APt) : TO := fun σ H Q => ∃ e m P R, RelE K H σ e ∧ RelM K H m ∧ t e m P R ∧ (∀ o m', P o m' → ∀ H', Tx H H' → RelM K H' m' → Q o H') ∧ WOk K W σ H R
abbrev GP (X : Cx) (W : WX) (e : Option Expr) (t : APt) : Prop := PO X e (lPt X.K W t)
def zaR : APt := fun _ m Q _ => Q none m
def aPt (t : AE) : APt := fun e m Q R => t e m (fun d m1 => match d with
  | .int i => Q (some i) m1
  | _ => False) R
theorem zph {e : Option Expr} {t u : TO} (h : PO X e t) (i : ∀ σ H Q, u σ H Q → t σ H Q) : PO X e u := ⟨fun p s σ H Q I q => h.run p s σ H Q I (i σ H Q q)⟩
theorem zeb : GP X W none zaR := zph po_none fun σ H Q h => by
  obtain ⟨e, m, P, R, rE, rM, t, q, w⟩ := h
  exact q none m t H (Tx.refl H) rM
theorem zaY {e : Expr} {te : AE} (h : GE X W e te) : GP X W (some e) (aPt te) := zph (po_some h) fun σ H Q h => by
  obtain ⟨e, m, P, R, rE, rM, t, q, w⟩ := h
  refine ⟨e, m, _, R, rE, rM, t, fun d m1 h1 x H1 t1 r1 rm1 => ?_, w⟩
  cases d with
  | int i => exact ⟨i, r1, q (some i) m1 h1 H1 t1 rm1⟩
  | _ => exact h1.elim
abbrev ARS := D → Option Int → Option Int → M → PQ → Prop
def lRS (K : PySem.W.Frag) (r : ARS) : V → Option Int → Option Int → Hp → VK → Prop := fun x lo hi H Q => ∃ d m P, Rep K H d x ∧ RelM K H m ∧ r d lo hi m P ∧ QOk K H P Q
def aSl (r : ARS) (te : AE) (tl th : APt) : AE := fun e m Q R => te e m (fun d m1 => tl e m1 (fun l m2 => th e m2 (fun u m3 => r d l u m3 Q) R) R) R
theorem zcn {r : ARS} {e : Expr} {lo hi : Option Expr} {te : AE} {tl th : APt} {p2 pos : Pos} (hr : SlR X (lRS X.K r)) (he : GE X W e te) (hl : GP X W lo tl) (hu : GP X W hi th) : GE X W (.Subscript e (.Slice lo hi none p2) pos) (aSl r te tl th) := zbp (pe_slice hr he hl hu) fun σ H Q h => by
  obtain ⟨e, m, P, R, rE, rM, t, q, w⟩ := h
  refine ⟨e, m, _, R, rE, rM, t, fun d m1 h1 x H1 t1 r1 rm1 => ?_, w⟩
  refine ⟨e, m1, _, R, rE.mono t1, rm1, h1, fun l m2 h2 H2 t2 rm2 => ?_, w.mono t1⟩
  refine ⟨e, m2, _, R, rE.mono (t1.trans t2), rm2, h2, fun u m3 h3 H3 t3 rm3 => ?_, w.mono (t1.trans t2)⟩
  exact ⟨d, m3, P, r1.mono (t2.trans t3), rm3, h3, q.mono (t1.trans (t2.trans t3))⟩
end
end
section
section
variable {X : Cx} {W : WX}
def zU : AS := fun A e m => A.nx e m
def zB (t u : AS) : AS := fun A e m => t { A with nx := u A } e m
theorem zbq : GSs X W [] zU := zn1 pss_nil fun D σ H h => by
  obtain ⟨e, m, A, rE, rM, t, ok⟩ := h
  exact ok.nx e m t σ H (Tx.refl H) rE rM
theorem zr {st : Stmt} {rest : List Stmt} {t u : AS} (h1 : GS X W st t) (h2 : GSs X W rest u) : GSs X W (st :: rest) (zB t u) := zn1 (pss_cons h1 h2) fun D σ H h => by
  obtain ⟨e, m, A, rE, rM, t, ok⟩ := h
  refine ⟨e, m, { A with nx := u A }, rE, rM, t, ⟨fun e' m' h' σ' H' t' rE' rM' => ⟨e', m', A, rE', rM', h', ok.mono t'⟩, ok.rt, ok.bk, ok.ct, ok.xe⟩⟩
theorem zH {st : Stmt} {t : AS} (h1 : GS X W st t) : GSs X W [st] t := pss_one h1
def zaJ : AS := fun _ _ _ => False
def zb4 : AS := fun A e m => A.bk e m
def zb5 : AS := fun A e m => A.ct e m
def zQ (te : AE) : AS := fun A e m => te e m (fun _ m1 => A.nx e m1) (A.xe e)
theorem zbr {e : Expr} {te : AE} {pos : Pos} (he : GE X W e te) (hs : swapsWith e none pos.line X.env = pure false := by rfl) : GS X W (.Expr e pos) (zQ te) := zem (ps_expr he hs) fun D σ H h => by
  obtain ⟨e, m, A, rE, rM, t, ok⟩ := h
  exact ⟨e, m, _, _, rE, rM, t, fun d m1 h1 v H1 t1 r1 rm1 => ok.nx e m1 h1 σ H1 t1 (rE.mono t1) rm1, ok.xe e σ H (Tx.refl H) rE⟩
def zP (te : AE) : AS := fun A e m => te e m A.rt (A.xe e)
theorem s_ret {e : Expr} {te : AE} {pos : Pos} (he : GE X W e te) : GS X W (.Return (some e) pos) (zP te) := zem (ps_ret he) fun D σ H h => by
  obtain ⟨e, m, A, rE, rM, t, ok⟩ := h
  exact ⟨e, m, _, _, rE, rM, t, ok.rt, ok.xe e σ H (Tx.refl H) rE⟩
def za4 : AS := fun A _ m => A.rt .non m
def zaa (c : AT) (t u : AS) : AS := fun A e m => c e m (fun b m1 => if b = true then t A e m1 else u A e m1) (A.xe e)
theorem s_if {c : Expr} {a b : List Stmt} {tc : AT} {t u : AS} {pos : Pos} (hc : GT X W c tc) (ha : GSs X W a t) (hb : GSs X W b u) : GS X W (.If c a b pos) (zaa tc t u) := zem (ps_if hc ha hb) fun D σ H h => by
  obtain ⟨e, m, A, rE, rM, t, ok⟩ := h
  refine ⟨e, m, _, _, rE, rM, t, fun b m1 h1 H1 t1 rm1 => ?_, ok.xe e σ H (Tx.refl H) rE⟩
  cases b with
  | true => exact ⟨e, m1, A, rE.mono t1, rm1, by simpa using h1, ok.mono t1⟩
  | false => exact ⟨e, m1, A, rE.mono t1, rm1, by simpa using h1, ok.mono t1⟩
def aN (i : Nat) : AG := fun d e m Q => Q (e.s i d) m
theorem zax {i : Nat} {x : Str} {pos : Pos} (hN : X.N.Nodup) (hi : X.N[i]? = some x := by rfl) (hx : Loc X.env.scope x := by first | exact .inl rfl | exact .inr rfl) (hf : X.fn x = true ∨ X.env.scope.names.lookup x = some .local := by first | exact .inl rfl | exact .inr rfl) : GG X (.Name x pos) (aN i) := zjt (pg_name hN hi hx hf) fun v σ H Q h => by
  obtain ⟨d, e, m, P, r, rE, rM, t, q⟩ := h
  exact q _ m t _ H (Tx.refl H) (rE.set i r) rM
abbrev AGs := List D → En → M → (En → M → Prop) → Prop
def lGs (K : PySem.W.Frag) (g : AGs) : TGs := fun vs σ H Q => ∃ ds e m P, Reps K H ds vs ∧ RelE K H σ e ∧ RelM K H m ∧ g ds e m P ∧ ∀ e' m', P e' m' → ∀ σ' H', Tx H H' → RelE K H' σ' e' → RelM K H' m' → Q σ' H'
abbrev GGs (X : Cx) (tg : List Expr) (g : AGs) : Prop := PGs X tg (lGs X.K g)
theorem zjU {X : Cx} {e : List Expr} {t u : TGs} (h : PGs X e t) (i : ∀ v σ H Q, u v σ H Q → t v σ H Q) : PGs X e u := ⟨fun p s σ H v w Q I r q => h.run p s σ H v w Q I r (i v σ H Q q)⟩
def zY : AGs := fun ds e m Q => match ds with
  | [] => Q e m
  | _ => False
def zG (g : AG) (u : AGs) : AGs := fun ds e m Q => match ds with
  | d :: r => g d e m fun e1 m1 => u r e1 m1 Q
  | [] => False
theorem zdh : GGs X [] zY := zjU pgs_nil fun vs σ H Q h => by
  obtain ⟨ds, e, m, P, r, rE, rM, t, q⟩ := h
  cases ds with
  | nil => exact ⟨r, q e m t σ H (Tx.refl H) rE rM⟩
  | cons d r => exact t.elim
theorem zao {e : Expr} {es : List Expr} {t : AG} {u : AGs} (h1 : GG X e t) (h2 : GGs X es u)
    (hs : (assignEach (e :: es) X.env).map (·.2) = assign e X.env :: (assignEach es X.env).map (·.2) := by rfl) : GGs X (e :: es) (zG t u) := zjU (pgs_cons h1 h2 hs) fun vs σ H Q h => by
  obtain ⟨ds, e, m, P, r, rE, rM, t, q⟩ := h
  cases ds with
  | nil => exact t.elim
  | cons d ds =>
    obtain ⟨x, xs, e1, rd, rr⟩ := r
    refine ⟨x, xs, e1, d, e, m, _, rd, rE, rM, t, fun e' m' h' σ' H' t' rE' rM' => ?_⟩
    exact ⟨ds, e', m', P, rr.mono t', rE', rM', h', fun e2 m2 h2 σ2 H2 t2 => q e2 m2 h2 σ2 H2 (t'.trans t2)⟩
def aTT (n : Nat) (t : AGs) : AG := fun d e m Q => match d with
  | .tup ds => ds.length = n ∧ t ds e m Q
  | _ => False
theorem zec {es : List Expr} {k : Nat} {t : AGs} {n : Nat} {pos : Pos} (hc : X.calm = true) (h : GGs X es t)
    (hn : (assignEach es X.env).length = n := by rfl) (hst : (assignEach es X.env).findIdx? (·.1) = none := by rfl) : GG X (.Tuple es k pos) (aTT n t) := zjt (pg_tup hc h hn hst) fun v σ H Q h => by
  obtain ⟨d, e, m, P, r, rE, rM, t, q⟩ := h
  cases d with
  | tup ds =>
    obtain ⟨a, xs, ex, hs, hr⟩ := r
    exact ⟨a, xs, ex, hs, by rw [← hr.length]; exact t.1, ds, e, m, P, hr, rE, rM, t.2, q⟩
  | _ => exact t.elim
def zJ (te : AE) (g : AG) : AS := fun A e m => te e m (fun d m1 => g d e m1 A.nx) (A.xe e)
theorem zue {K : PySem.W.Frag} {te : AE} {g : AG} {D : Ends} {σ : L2.St} {H : Hp} (h : lS K W (zJ te g) D σ H) : tAsg (lE K W te) (lG K g) D σ H := by
  obtain ⟨e, m, A, rE, rM, t, ok⟩ := h
  refine ⟨e, m, _, _, rE, rM, t, fun d m1 h1 v H1 t1 r1 rm1 => ?_, ok.xe e σ H (Tx.refl H) rE⟩
  exact ⟨d, e, m1, _, r1, rE.mono t1, rm1, h1, fun e' m' h' σ' H' t' rE' rM' => ok.nx e' m' h' σ' H' (t1.trans t') rE' rM'⟩
theorem s_asg {tg e : Expr} {te : AE} {g : AG} {pos : Pos} (he : GE X W e te) (hg : GG X tg g) (hs : swapsWithSole [tg] e pos.line X.env = pure false := by rfl) (hw : swappedStores [tg] e X.env = pure none := by rfl)
    (h1 : (assignEach [tg] X.env).map (·.2) = [assign tg X.env] := by rfl) : GS X W (.Assign [tg] e pos) (zJ te g) := zem (ps_asg he hg hs hw h1) fun _ _ _ h => zue h
theorem z9 {i : Nat} {x : Str} {e : Expr} {te : AE} {pos pos' : Pos} (hN : X.N.Nodup) (he : GE X W e te) (hi : X.N[i]? = some x := by rfl) (hx : Loc X.env.scope x := by first | exact .inl rfl | exact .inr rfl) (hs : swapsWith e (some (.Name x pos')) pos.line X.env = pure false := by rfl) (hf : X.fn x = true ∨ X.env.scope.names.lookup x = some .local := by first | exact .inl rfl | exact .inr rfl) :
    GS X W (.Assign [.Name x pos'] e pos) (zJ te (aN i)) := zem (ps_set hN hi hx he hs hf) fun D σ H h => by
  obtain ⟨e, m, A, rE, rM, t, ok⟩ := h
  refine ⟨e, m, _, _, rE, rM, t, fun d m1 h1 v H1 t1 r1 rm1 => ?_, ok.xe e σ H (Tx.refl H) rE⟩
  exact ok.nx _ m1 h1 _ H1 t1 ((rE.mono t1).set i r1) rm1
def zb8 (i j : Nat) (ta : AA) : AS := fun A e m => ta e m (fun ds m1 => match ds with
  | [d, d'] => A.nx ((e.s i d).s j d') m1
  | _ => False) (A.xe e)
def zm2 (c : AT) (b : AS) : Nat → zaU → En → M → Prop
  | 0, _, _, _ => False
  | n + 1, A, e, m => c e m (fun t m1 => if t = true then b { A with nx := zm2 c b n A, ct := zm2 c b n A, bk := A.nx } e m1 else A.nx e m1) (A.xe e)
def zaK (c : AT) (b : AS) : AS := fun A e m => ∃ n, zm2 c b n A e m
abbrev AI := En → M → (List D → (M → Prop) → M → Prop) → PX → Prop
structure ItR (K : PySem.W.Frag) (H : Hp) (J : It) (its : List D) (gd : M → Prop) : Prop where
  go : ∀ i H2 m2, Tx H H2 → RelM K H2 m2 → gd m2 → i < its.length → J.go i H2
  yld : ∀ i d H2 m2 x H3, Tx H H2 → RelM K H2 m2 → gd m2 → its[i]? = some d → J.yld i H2 x H3 → Tx H2 H3 ∧ Rep K H3 d x ∧ ∀ m3, RelM K H2 m3 → RelM K H3 m3
  stop : ∀ H2 m2, Tx H H2 → RelM K H2 m2 → gd m2 → J.stop its.length H2
def lI (K : PySem.W.Frag) (W : WX) (t : AI) : TI := fun σ H R => ∃ e m P E, RelE K H σ e ∧ RelM K H m ∧ t e m P E ∧ (∀ its gd m', P its gd m' → ∀ J H', Tx H H' → RelM K H' m' → ItR K H' J its gd → R J H') ∧ WOk K W σ H E
abbrev GI' (X : Cx) (W : WX) (tg iter : Expr) (t : AI) : Prop := PI X tg iter (lI X.K W t)
theorem zju {X : Cx} {tg e : Expr} {t u : TI} (h : PI X tg e t) (i : ∀ σ H Q, u σ H Q → t σ H Q) : PI X tg e u := ⟨fun p s σ H Q I q => h.run p s σ H Q I (i σ H Q q)⟩
def zas (te : AE) : AI := fun e m Q R => te e m (fun d m1 => match d with
  | .tup ds => Q ds (fun _ => True) m1
  | _ => False) R
theorem zg0 {tg e : Expr} {te : AE} (he : GE X W e te) : GI' X W tg e (zas te) := zju (pi_tup he) fun σ H Q h => by
  obtain ⟨e, m, P, R, rE, rM, t, q, w⟩ := h
  refine ⟨e, m, _, R, rE, rM, t, fun d m1 h1 x H1 t1 r1 rm1 => ?_, w⟩
  cases d with
  | tup ds =>
    obtain ⟨a, xs, rfl, hs, hr⟩ := r1
    refine ⟨a, rfl, ⟨xs, hs⟩, q ds _ m1 h1 _ H1 t1 rm1 ⟨fun i H2 m2 t2 _ _ hi => ?_, fun i d H2 m2 x H3 t2 rm2 _ hd y => ?_, fun H2 m2 t2 _ _ => ?_⟩⟩
    · have hi' : i < xs.length := by rw [← hr.length]; exact hi
      exact ⟨xs, xs[i], zdg t2 hs, by simp [hi']⟩
    · obtain ⟨e3, hx⟩ := y
      subst e3
      refine ⟨Tx.refl _, ?_, fun _ z => z⟩
      obtain ⟨v, hv, rv⟩ := hr.get hd
      have := hx xs (zdg t2 hs)
      rw [hv] at this
      cases this
      exact rv.mono t2
    · exact ⟨xs, zdg t2 hs, by rw [← hr.length]; exact Nat.le_refl _⟩
  | _ => exact h1.elim
def zaE (te : AE) : AI := fun e m Q R => te e m (fun d m1 => match d with
  | .fls ds => Q ds (fun _ => True) m1
  | .ref a => (match m1 a with
    | some (.lst ds) => Q ds (fun m2 => m2 a = some (.lst ds)) m1
    | _ => False)
  | _ => False) R
theorem zkH {tg e : Expr} {te : AE} (he : GE X W e te) : GI' X W tg e (zaE te) := zju (pi_list he) fun σ H Q h => by
  obtain ⟨e, m, P, R, rE, rM, t, q, w⟩ := h
  refine ⟨e, m, _, R, rE, rM, t, fun d m1 h1 x H1 t1 r1 rm1 => ?_, w⟩
  cases d with
  | fls ds =>
    obtain ⟨a, xs, rfl, hs, hr⟩ := r1
    refine ⟨a, rfl, ⟨xs, hs.sq⟩, q ds _ m1 h1 _ H1 t1 rm1 ⟨fun i H2 m2 t2 _ _ hi => ?_, fun i d H2 m2 x H3 t2 rm2 _ hd y => ?_, fun H2 m2 t2 _ _ => ?_⟩⟩
    · have hi' : i < xs.length := by rw [← hr.length]; exact hi
      exact ⟨xs, xs[i], (FrL.tx t2 hs).sq, by simp [hi']⟩
    · obtain ⟨e3, hx⟩ := y
      subst e3
      refine ⟨Tx.refl _, ?_, fun _ z => z⟩
      obtain ⟨v, hv, rv⟩ := hr.get hd
      have := hx xs (FrL.tx t2 hs).sq
      rw [hv] at this
      cases this
      exact rv.mono t2
    · exact ⟨xs, (FrL.tx t2 hs).sq, by rw [← hr.length]; exact Nat.le_refl _⟩
  | ref a =>
    have h1' : (match m1 a with | some (.lst ds) => P ds (fun m2 => m2 a = some (.lst ds)) m1 | _ => False) := h1
    cases hm : m1 a with
    | none => rw [hm] at h1'; exact h1'.elim
    | some o =>
      rw [hm] at h1'
      cases o with
      | lst ds =>
        obtain ⟨xs, hx, hr⟩ := rm1 a _ hm
        refine ⟨a, r1, ⟨xs, SqL.of hx⟩, q ds _ m1 h1' _ H1 t1 rm1 ⟨fun i H2 m2 t2 rm2 g2 hi => ?_, fun i d H2 m2 x H3 t2 rm2 g2 hd y => ?_, fun H2 m2 t2 rm2 g2 => ?_⟩⟩
        · obtain ⟨ys, hy, hr2⟩ := rm2 a _ g2
          have hi' : i < ys.length := by rw [← hr2.length]; exact hi
          exact ⟨ys, ys[i], SqL.of hy, by simp [hi']⟩
        · obtain ⟨ys, hy, hr2⟩ := rm2 a _ g2
          obtain ⟨e3, hx3⟩ := y
          subst e3
          refine ⟨Tx.refl _, ?_, fun _ z => z⟩
          obtain ⟨v, hv, rv⟩ := hr2.get hd
          have := hx3 ys (SqL.of hy)
          rw [hv] at this
          cases this
          exact rv
        · obtain ⟨ys, hy, hr2⟩ := rm2 a _ g2
          exact ⟨ys, SqL.of hy, by rw [← hr2.length]; exact Nat.le_refl _⟩
      | _ => exact h1'.elim
  | _ => exact h1.elim
def zej (lo : Int) (n : Nat) : List D := (List.range n).map fun i => .int (lo + (i : Nat))
theorem zrV {K : PySem.W.Frag} {H : Hp} {lo : Int} {n : Nat} : ItR K H (Itr lo n) (zej lo n) fun _ => True := by
  refine ⟨fun i H2 m2 _ _ _ hi => ?_, fun i d H2 m2 x H3 t2 rm2 _ hd y => ?_, fun H2 m2 _ _ _ => ?_⟩
  · show i < n
    simpa [zej] using hi
  · obtain ⟨e3, ex⟩ := y
    subst e3
    refine ⟨Tx.refl _, ?_, fun _ z => z⟩
    unfold zej at hd
    rw [List.getElem?_map] at hd
    cases q : (List.range n)[i]? with
    | none => rw [q] at hd; cases hd
    | some j =>
      rw [q] at hd
      have hj : j = i := by
        obtain ⟨h1, h2⟩ := List.getElem?_eq_some_iff.mp q
        rw [List.getElem_range] at h2
        exact h2.symm
      subst hj
      cases hd
      exact ex
  · show n ≤ (zej lo n).length
    simp [zej]
def zbP (ta : AA) : AI := fun e m Q R => ta e m (fun ds m1 => match ds with
  | [.int j] => (-(2 ^ 62) ≤ j ∧ j < 2 ^ 62) ∧ Q (zej 0 j.toNat) (fun _ => True) m1
  | _ => False) R
def zb6 (ta : AA) : AI := fun e m Q R => ta e m (fun ds m1 => match ds with
  | [.int i, .int j] => (-(2 ^ 62) ≤ i ∧ i < 2 ^ 62 ∧ -(2 ^ 62) ≤ j ∧ j < 2 ^ 62) ∧ Q (zej i (j - i).toNat) (fun _ => True) m1
  | _ => False) R
theorem zuf {tg a : Expr} {ta : AA} {p pos : Pos} (hm : X.mg "range" = none) (ha : GA X W [a] ta) (hg : Gl X "range" := by rfl) (hs : starEach [a] X.env = [(false, eval a X.env)] := by rfl) : GI' X W tg (.Call (.Name "range" p) [a] [] pos) (zbP ta) := zju (pi_range1 hg hm ha hs) fun σ H Q h => by
  obtain ⟨e, m, P, R, rE, rM, t, q, w⟩ := h
  refine ⟨e, m, _, R, rE, rM, t, fun ds m1 h1 vs H1 t1 r1 rm1 => ?_, w⟩
  match ds, h1, r1 with
  | [.int j], h1, r1 =>
    obtain ⟨v, r, e1, rv, e2⟩ := r1
    obtain rfl : r = [] := e2
    obtain rfl : v = .int j := rv
    exact ⟨j, e1, h1.1.1, h1.1.2, q _ _ m1 h1.2 _ H1 t1 rm1 zrV⟩
def forL (g : AG) (b : AS) (gd : M → Prop) : List D → zaU → En → M → Prop
  | [], A, e, m => gd m ∧ A.nx e m
  | d :: r, A, e, m => gd m ∧ g d e m fun e1 m1 => b { A with nx := forL g b gd r A, ct := forL g b gd r A, bk := A.nx } e1 m1
def za0 (ti : AI) (g : AG) (b : AS) : AS := fun A e m => ti e m (fun its gd m1 => forL g b gd its A e m1) (A.xe e)
theorem zga {tg iter : Expr} {body : List Stmt} {ti : AI} {g : AG} {tb : AS} {pos : Pos} (hp : PassesOwn (model X.prog X.w) X.A X.env X.xe) (hc : X.calm = true) (hi : GI' X W tg iter ti) (hg : GG X tg g) (hb : GSs X W body tb)
    (hs : ∀ x, foldedSetIterable iter X.env x = pure x := by intro _; rfl) : GS X W (.For tg iter body [] pos) (za0 ti g tb) := zem (ps_for hp hc hi hg hb hs) fun D σ H h => by
  obtain ⟨e, m, A, rE, rM, t, ok⟩ := h
  refine ⟨e, m, _, _, rE, rM, t, fun its gd m1 h1 J H1 t1 rm1 it => ?_, ok.xe e σ H (Tx.refl H) rE⟩
  refine ⟨fun i k σ2 H2 => ∃ e2 m2, k = its.length - i ∧ i ≤ its.length ∧ Tx H1 H2 ∧ RelE X.K H2 σ2 e2 ∧ RelM X.K H2 m2 ∧ forL g tb gd (its.drop i) A e2 m2, ⟨its.length, e, m1, by simp, Nat.zero_le _, Tx.refl _, rE.mono t1, rm1, h1⟩, ?_⟩
  rintro i k σ2 H2 ⟨e2, m2, rfl, hi, t2, rE2, rM2, w2⟩
  by_cases hlt : i < its.length
  · have hd : its.drop i = its[i] :: its.drop (i + 1) := List.drop_eq_getElem_cons hlt
    rw [hd] at w2
    refine .inr ⟨it.go i H2 m2 t2 rM2 w2.1 hlt, fun σ3 H3 => ∃ e3 m3, Tx H1 H3 ∧ RelE X.K H3 σ3 e3 ∧ RelM X.K H3 m3 ∧ forL g tb gd (its.drop (i + 1)) A e3 m3, fun σ3 H3 ⟨e3, m3, t3, a3, b3, c3⟩ => ⟨its.length - (i + 1), by omega, e3, m3, rfl, hlt, t3, a3, b3, c3⟩, fun x H3 y => ?_⟩
    obtain ⟨t3, rx, keep⟩ := it.yld i its[i] H2 m2 x H3 t2 rM2 w2.1 (by simp [hlt]) y
    refine ⟨its[i], e2, m2, _, rx, rE2.mono t3, keep m2 rM2, w2.2, fun e4 m4 h4 σ4 H4 t4 rE4 rM4 => ?_⟩
    have t14 := (t2.trans t3).trans t4
    have o2 := ok.mono (t1.trans t14)
    exact ⟨e4, m4, _, rE4, rM4, h4, ⟨fun e5 m5 h5 σ5 H5 t5 rE5 rM5 => ⟨e5, m5, t14.trans t5, rE5, rM5, h5⟩, o2.rt, o2.nx, fun e5 m5 h5 σ5 H5 t5 rE5 rM5 => ⟨e5, m5, t14.trans t5, rE5, rM5, h5⟩, o2.xe⟩⟩
  · have e1 : i = its.length := by omega
    subst e1
    rw [List.drop_length] at w2
    exact .inl ⟨it.stop H2 m2 t2 rM2 w2.1, ok.nx e2 m2 w2.2 σ2 H2 (t1.trans t2) rE2 rM2⟩
end
end
section
section
variable {X : Cx} {W : WX}
abbrev W0 : WX := fun _ _ _ _ => False
theorem tk0 {X : Cx} : Takes X W0 := takes0
theorem zoE {K : PySem.W.Frag} {σ : L2.St} {H : Hp} : WOk K W0 σ H fun _ _ => False := ⟨fun _ _ z => z.elim⟩
def zat (e : En) : List Nat → En
  | [] => e
  | v :: vs => (zat e vs).x v
theorem RelE.wipe {K : PySem.W.Frag} {H : Hp} {σ : L2.St} {e : En} (r : RelE K H σ e) : ∀ vs, RelE K H (L2.wipe σ vs) (zat e vs)
  | [] => r
  | v :: vs => RelE.unset v (RelE.wipe r vs)
theorem zkf {σ : L2.St} {i : Nat} {x : Option V} : ∀ {vs : List Nat}, i ∈ vs → L2.wipe (σ.set i x) vs = L2.wipe σ vs
  | v :: vs, h => by
    show (L2.wipe (σ.set i x) vs).set v none = (L2.wipe σ vs).set v none
    by_cases hv : i ∈ vs
    · rw [zkf hv]
    · have e : i = v := by
        rcases List.mem_cons.mp h with h | h
        · exact h
        · exact absurd h hv
      subst e
      have go : ∀ (us : List Nat), i ∉ us → L2.wipe (σ.set i x) us = (L2.wipe σ us).set i x := by
        intro us
        induction us with
        | nil => intro _; rfl
        | cons u us ih =>
          intro hn
          show (L2.wipe (σ.set i x) us).set u none = ((L2.wipe σ us).set u none).set i x
          rw [ih fun z => hn (List.mem_cons_of_mem _ z), List.set_comm _ _ fun z => hn (by rw [z]; exact List.mem_cons_self)]
      rw [go vs hv, List.set_set]
def lGc (K : PySem.W.Frag) (vs : List Nat) (g : AG) : TG := fun v σ H Q => ∃ d e m P, Rep K H d v ∧ RelE K H σ e ∧ RelM K H m ∧ g d e m P ∧ ∀ e' m', P e' m' → ∀ σ' H', Tx H H' → RelE K H' σ' e' → RelM K H' m' → L2.wipe σ' vs = L2.wipe σ vs → Q σ' H'
def zoF (K : PySem.W.Frag) (vs : List Nat) (g : AGs) : TGs := fun us σ H Q => ∃ ds e m P, Reps K H ds us ∧ RelE K H σ e ∧ RelM K H m ∧ g ds e m P ∧ ∀ e' m', P e' m' → ∀ σ' H', Tx H H' → RelE K H' σ' e' → RelM K H' m' → L2.wipe σ' vs = L2.wipe σ vs → Q σ' H'
theorem zen {i : Nat} {x : Str} {pos : Pos} {vs : List Nat} (hN : X.N.Nodup) (hm : i ∈ vs := by decide) (hi : X.N[i]? = some x := by rfl) (hx : Loc X.env.scope x := by first | exact .inl rfl | exact .inr rfl) (hf : X.fn x = true ∨ X.env.scope.names.lookup x = some .local := by first | exact .inl rfl | exact .inr rfl) : PG X (.Name x pos) (lGc X.K vs (aN i)) := zjt (pg_name hN hi hx hf) fun v σ H Q h => by
  obtain ⟨d, e, m, P, r, rE, rM, t, q⟩ := h
  exact q _ m t _ H (Tx.refl H) (rE.set i r) rM (zkf hm)
theorem zrW {vs : List Nat} : PGs X [] (zoF X.K vs zY) := zjU pgs_nil fun us σ H Q h => by
  obtain ⟨ds, e, m, P, r, rE, rM, t, q⟩ := h
  cases ds with
  | nil => exact ⟨r, q e m t σ H (Tx.refl H) rE rM rfl⟩
  | cons d r => exact t.elim
theorem zn2 {vs : List Nat} {e : Expr} {es : List Expr} {t : AG} {u : AGs} (h1 : PG X e (lGc X.K vs t)) (h2 : PGs X es (zoF X.K vs u))
    (hs : (assignEach (e :: es) X.env).map (·.2) = assign e X.env :: (assignEach es X.env).map (·.2) := by rfl) : PGs X (e :: es) (zoF X.K vs (zG t u)) := zjU (pgs_cons h1 h2 hs) fun us σ H Q h => by
  obtain ⟨ds, e, m, P, r, rE, rM, t, q⟩ := h
  cases ds with
  | nil => exact t.elim
  | cons d ds =>
    obtain ⟨x, xs, e1, rd, rr⟩ := r
    refine ⟨x, xs, e1, d, e, m, _, rd, rE, rM, t, fun e' m' h' σ' H' t' rE' rM' w1 => ?_⟩
    exact ⟨ds, e', m', P, rr.mono t', rE', rM', h', fun e2 m2 h2 σ2 H2 t2 a b w2 => q e2 m2 h2 σ2 H2 (t'.trans t2) a b (w2.trans w1)⟩
theorem zsT {vs : List Nat} {es : List Expr} {k : Nat} {t : AGs} {n : Nat} {pos : Pos} (hc : X.calm = true) (h : PGs X es (zoF X.K vs t))
    (hn : (assignEach es X.env).length = n := by rfl) (hst : (assignEach es X.env).findIdx? (·.1) = none := by rfl) : PG X (.Tuple es k pos) (lGc X.K vs (aTT n t)) := zjt (pg_tup hc h hn hst) fun v σ H Q h => by
  obtain ⟨d, e, m, P, r, rE, rM, t, q⟩ := h
  cases d with
  | tup ds =>
    obtain ⟨a, xs, ex, hs, hr⟩ := r
    exact ⟨a, xs, ex, hs, by rw [← hr.length]; exact t.1, ds, e, m, P, hr, rE, rM, t.2, q⟩
  | _ => exact t.elim
def zaS : AT := fun _ m Q _ => Q true m
theorem zfz {K : PySem.W.Frag} : PTs X [] (lT K W0 zaS) := ⟨fun p s σ H Q I h => pts_nil.run p s σ H Q I (by
  obtain ⟨e, m, P, R, rE, rM, t, q, w⟩ := h
  exact q true m t H (Tx.refl H) rM)⟩
theorem zsU {c : Expr} {t : AT} (h : GT X W0 c t) : PTs X [c] (lT X.K W0 t) := pts_one h
def lcL (g : AG) (tt : AT) (te : AE) (e : En) (p : Addr) (gd : M → Prop) : List D → PQ → M → Prop
  | [], Q, m => gd m ∧ Q (.ref p) m
  | d :: r, Q, m => gd m ∧ g d e m fun e1 m1 => tt e1 m1 (fun b m2 => if b = true then te e1 m2 (fun y m3 => match m3 p with
    | some (.lst acc) => acc.length < big ∧ lcL g tt te e p gd r Q (mset m3 p (.lst (acc ++ [y])))
    | _ => False) (fun _ _ => False) else lcL g tt te e p gd r Q m2) fun _ _ => False
def aLc (ti : AI) (g : AG) (tt : AT) (te : AE) (vs : List Nat) : AE := fun e m Q R => ti e m (fun its gd m1 => ∀ p, m1 p = none → lcL g tt te (zat e vs) p gd its Q (mset m1 p (.lst []))) R
theorem llc {K : PySem.W.Frag} {ti : AI} {g : AG} {tt : AT} {te : AE} {vs : List Nat} {σ : L2.St} {H : Hp} {Q : VK} (h : lE K W (aLc ti g tt te vs) σ H Q) : tLc (lI K W ti) (lGc K vs g) (lT K W0 tt) (lE K W0 te) vs σ H Q := by
  obtain ⟨e, m, P, R, rE, rM, t, q, w⟩ := h
  refine ⟨e, m, _, R, rE, rM, t, fun its gd m1 h1 J H1 t1 rm1 it p hp => ?_, w⟩
  refine ⟨fun i k H2 => ∃ m2, k = its.length - i ∧ i ≤ its.length ∧ Tx H1 H2 ∧ RelM K H2 m2 ∧ lcL g tt te (zat e vs) p gd (its.drop i) P m2, ⟨its.length, _, by simp, Nat.zero_le _, Tx.new hp, rm1.newL hp (show Reps K H1 [] [] from rfl), h1 p (rm1.free hp)⟩, ?_⟩
  rintro i k H2 ⟨m2, rfl, hi, t2, rM2, w2⟩
  by_cases hlt : i < its.length
  · have hd : its.drop i = its[i] :: its.drop (i + 1) := List.drop_eq_getElem_cons hlt
    rw [hd] at w2
    refine .inr ⟨it.go i H2 m2 t2 rM2 w2.1 hlt, fun H3 => ∃ m3, Tx H1 H3 ∧ RelM K H3 m3 ∧ lcL g tt te (zat e vs) p gd (its.drop (i + 1)) P m3, fun H3 ⟨m3, t3, b3, c3⟩ => ⟨its.length - (i + 1), by omega, m3, rfl, hlt, t3, b3, c3⟩, fun x H3 y => ?_⟩
    obtain ⟨t3, rx, keep⟩ := it.yld i its[i] H2 m2 x H3 t2 rM2 w2.1 (by simp [hlt]) y
    have rE3 : RelE K H3 (L2.wipe σ vs) (zat e vs) := (rE.mono (t1.trans (t2.trans t3))).wipe vs
    refine ⟨its[i], zat e vs, m2, _, rx, rE3, keep m2 rM2, w2.2, fun e4 m4 h4 σ4 H4 t4 rE4 rM4 wp => ⟨?_, ?_⟩⟩
    · have e9 : L2.wipe (L2.wipe σ vs) vs = L2.wipe σ vs := by
        have go : ∀ (us : List Nat) (τ : L2.St), (∀ u ∈ us, u ∈ vs) → L2.wipe (L2.wipe τ us) vs = L2.wipe τ vs := by
          intro us
          induction us with
          | nil => intro τ _; rfl
          | cons u us ih =>
            intro τ hu
            show L2.wipe ((L2.wipe τ us).set u none) vs = _
            rw [zkf (hu u List.mem_cons_self), ih τ fun z hz => hu z (List.mem_cons_of_mem _ hz)]
        exact go vs σ fun _ z => z
      rw [wp, e9]
    · refine ⟨e4, m4, _, _, rE4, rM4, h4, fun b m5 h5 H5 t5 rm5 => ?_, zoE⟩
      cases b with
      | true =>
        rw [if_pos rfl]
        refine ⟨e4, m5, _, _, rE4.mono t5, rm5, by simpa using h5, fun d6 m6 h6 v H6 t6 r6 rm6 => ?_, zoE⟩
        have h6' : (match m6 p with | some (.lst acc) => acc.length < big ∧ lcL g tt te (zat e vs) p gd (its.drop (i + 1)) P (mset m6 p (.lst (acc ++ [d6]))) | _ => False) := h6
        cases hm : m6 p with
        | none => rw [hm] at h6'; exact h6'.elim
        | some o =>
          rw [hm] at h6'
          cases o with
          | lst acc =>
            obtain ⟨xs, hx, hr⟩ := rm6 p _ hm
            exact ⟨xs, hx, by rw [← hr.length]; exact big_lt h6'.1, _, ((t2.trans t3).trans t4).trans (t5.trans (t6.trans (Tx.mut hx trivial))), rm6.putL hx (hr.append (show Reps K H6 [d6] [v] from ⟨v, [], rfl, r6, rfl⟩)), h6'.2⟩
          | _ => exact h6'.elim
      | false =>
        rw [if_neg Bool.false_ne_true]
        exact ⟨m5, ((t2.trans t3).trans t4).trans t5, rm5, by simpa using h5⟩
  · have e1 : i = its.length := by omega
    subst e1
    rw [List.drop_length] at w2
    exact .inl ⟨it.stop H2 m2 t2 rM2 w2.1, q _ m2 w2.2 _ H2 (t1.trans t2) rfl rM2⟩
abbrev Blk (X : Cx) (s : Shared) (H : Hp) (scope : Scope) (C : Addr) (cl : List (Str × Addr)) (fp : List Addr) : Cx := X.blk s H scope (compEnvC scope cl C X.env) fp
theorem zjv {elt tg iter : Expr} {ifs : List Expr} {scope : Scope} {own : List (Str × Nat)} {pos : Pos} {ti : AI} {g : AG} {tt : AT} {te : AE} (hc : X.calm = true) (hN : X.N.Nodup) (hi : GI' X W tg iter ti) (ok : BlkOk X.N X.env.scope scope own)
    (hg : ∀ (s : Shared) (H : Hp) (C : Addr) (cl : List (Str × Addr)) (fp : List Addr), PG (Blk X s H scope C cl fp) tg (lGc X.K (own.map (·.2)) g)) (ht : ∀ (s : Shared) (H : Hp) (C : Addr) (cl : List (Str × Addr)) (fp : List Addr), PTs (Blk X s H scope C cl fp) ifs (lT X.K W0 tt))
    (he : ∀ (s : Shared) (H : Hp) (C : Addr) (cl : List (Str × Addr)) (fp : List Addr), GE (Blk X s H scope C cl fp) W0 elt te) (hs : ∀ x, foldedSetIterable iter X.env x = pure x := by intro _; rfl) :
    GE X W (.ListComp elt [⟨tg, iter, ifs, 0⟩] scope pos) (aLc ti g tt te (own.map (·.2))) := zbp (pe_lc hc hN hi ok hg ht he hs) fun _ _ _ h => llc h
theorem zqU {i : Nat} {y : Str} {py : Pos} {elt tg iter : Expr} {ifs : List Expr} {scope : Scope} {own : List (Str × Nat)} {pos spos : Pos} {ti : AI} {g : AG} {tt : AT} {te : AE} (hc : X.calm = true) (hN : X.N.Nodup) (hi : GI' X W tg iter ti) (ok : BlkOk X.N X.env.scope scope own)
    (hsw : swapsWith (.ListComp elt [⟨tg, iter, ifs, 0⟩] scope pos) (some (.Name y py)) spos.line X.env = pure true)
    (hg : ∀ (s : Shared) (H : Hp) (C : Addr) (cl : List (Str × Addr)) (fp : List Addr), PG (Blk X s H scope C cl fp) tg (lGc X.K (own.map (·.2)) g)) (ht : ∀ (s : Shared) (H : Hp) (C : Addr) (cl : List (Str × Addr)) (fp : List Addr), PTs (Blk X s H scope C cl fp) ifs (lT X.K W0 tt))
    (he : ∀ (s : Shared) (H : Hp) (C : Addr) (cl : List (Str × Addr)) (fp : List Addr), GE (Blk X s H scope C cl fp) W0 elt te) (hy : X.N[i]? = some y := by rfl) (hyl : X.env.scope.names.lookup y = some .local := by rfl) (hs : ∀ x, foldedSetIterable iter X.env x = pure x := by intro _; rfl) :
    GS X W (.Assign [.Name y py] (.ListComp elt [⟨tg, iter, ifs, 0⟩] scope pos) spos) (zJ (aLc ti g tt te (own.map (·.2))) (aN i)) := zem (ps_setLc hc hN hy hyl hsw hi ok hg ht he hs) fun D σ H h => by
  obtain ⟨e, m, A, rE, rM, t, ok2⟩ := h
  refine llc ⟨e, m, _, _, rE, rM, t, fun d m1 h1 v H1 t1 r1 rm1 => ?_, ok2.xe e σ H (Tx.refl H) rE⟩
  exact ok2.nx _ m1 h1 _ H1 t1 ((rE.mono t1).set i r1) rm1
end
end
section
def M.l (m : M) (a : Addr) : Option (List D) := match m a with
  | some (.lst ds) => some ds
  | _ => none
theorem M.l_of {m : M} {a : Addr} {ds : List D} (h : m.l a = some ds) : m a = some (.lst ds) := by
  unfold M.l at h
  cases e : m a with
  | none => rw [e] at h; cases h
  | some o => rw [e] at h; cases o with
    | lst xs => cases h; rfl
    | _ => cases h
theorem M.l_ne {m : M} {a b : Addr} {o : O} (h : b ≠ a) : (mset m a o).l b = m.l b := by unfold M.l; rw [zaX h]
section
variable {X : Cx} {W : WX}
def zR : AR2
  | .int i, .int j, m, Q => Q (.int (i + j)) m
  | .tup a, .tup b, m, Q => a.length + b.length ≤ big ∧ Q (.tup (a ++ b)) m
  | .str a, .str b, m, Q => a.length + b.length ≤ big ∧ Q (.str (a ++ b)) m
  | .ref a, .ref b, m, Q => (match m.l a, m.l b with
    | some xs, some ys => xs.length + ys.length ≤ big ∧ ∀ p, m p = none → Q (.ref p) (mset m p (.lst (xs ++ ys)))
    | _, _ => False)
  | _, _, _, _ => False
theorem or_int {f : Value → Value → Sem Value} {C : Int → Int → Prop} {g : Int → Int → V} {pins : List (Addr × Obj)} {s : Shared} {σ : L2.St} {H : Hp} {x y : V} {v u : Value} {Q : VK} {i j : Int} (h : OpR X f (rI C g)) (I : Inv X pins σ H s) (rx : RelV x v) (ry : RelV y u) (ex : x = .int i) (ey : y = .int j) (c : C i j) (q : Q (g i j) H) :
    wpAny (model X.prog X.w) X.A (f v u) (EP X pins σ Q) X.xe s := h pins s σ H x y v u Q I rx ry ⟨i, j, ex, ey, c, q⟩
theorem zls {f : Value → Value → Sem Value} {g : Int → Int → V} {pins : List (Addr × Obj)} {s : Shared} {σ : L2.St} {H : Hp} {x y : V} {v u : Value} {Q : VK} {i j : Int} (h : OpR X f (rI0 g)) (I : Inv X pins σ H s) (rx : RelV x v) (ry : RelV y u) (ex : x = .int i) (ey : y = .int j) (q : Q (g i j) H) :
    wpAny (model X.prog X.w) X.A (f v u) (EP X pins σ Q) X.xe s := h pins s σ H x y v u Q I rx ry ⟨i, j, ex, ey, q⟩
theorem zay : OpR X (binaryOp .Add) (lR2 X.K zR) := by
  intro pins s σ H x y v u Q I rx ry ⟨d1, d2, m, P, r1, r2, rM, h, q⟩
  cases d1 with
  | int i => cases d2 with
    | int j => exact zls op_add I rx ry r1 r2 (q _ m h _ H (Tx.refl H) rfl rM)
    | _ => exact h.elim
  | str a => cases d2 with
    | str b => exact op_add_str pins s σ H x y v u Q I rx ry ⟨a, b, r1, r2, zd4 h.1, q _ m h.2 _ H (Tx.refl H) rfl rM⟩
    | _ => exact h.elim
  | tup a => cases d2 with
    | tup b =>
      obtain ⟨p1, xs, e1, s1, z1⟩ := r1
      obtain ⟨p2, ys, e2, s2, z2⟩ := r2
      refine op_catA pins s σ H x y v u Q I rx ry ⟨p1, p2, xs, ys, e1, e2, s1, s2, by rw [← z1.length, ← z2.length]; exact zd4 h.1, fun hx => ?_, fun hx hy => ?_, fun hx hy p hp => ?_⟩
      · refine q _ m h.2 _ H (Tx.refl H) ⟨p2, ys, rfl, s2, ?_⟩ rM
        have := z1.append z2
        rw [hx] at this
        exact this
      · refine q _ m h.2 _ H (Tx.refl H) ⟨p1, xs, rfl, s1, ?_⟩ rM
        have := z1.append z2
        rw [hy, List.append_nil] at this
        exact this
      · exact q _ m h.2 _ _ (Tx.new hp) ⟨p, xs ++ ys, rfl, SqT.of upd_same, (z1.append z2).mono (Tx.new hp)⟩ (rM.grow hp)
    | _ => exact h.elim
  | ref a => cases d2 with
    | ref b =>
      have h' : (match m.l a, m.l b with | some xs, some ys => xs.length + ys.length ≤ big ∧ ∀ p, m p = none → P (.ref p) (mset m p (.lst (xs ++ ys))) | _, _ => False) := h
      cases e1 : m.l a with
      | none => rw [e1] at h'; exact h'.elim
      | some xs => cases e2 : m.l b with
        | none => rw [e1, e2] at h'; exact h'.elim
        | some ys =>
          rw [e1, e2] at h'
          obtain ⟨xv, hx, zx⟩ := rM a _ (M.l_of e1)
          obtain ⟨yv, hy, zy⟩ := rM b _ (M.l_of e2)
          exact op_cat pins s σ H x y v u Q I rx ry ⟨a, b, xv, yv, r1, r2, hx, hy, by rw [← zx.length, ← zy.length]; exact zd4 h'.1, fun p hp => q _ _ (h'.2 p (rM.free hp)) _ _ (Tx.new hp) rfl (rM.newL hp (zx.append zy))⟩
    | _ => exact h.elim
  | _ => exact h.elim
def zct (C : Int → Int → Prop) (g : Int → Int → D) : AR2
  | .int i, .int j, m, Q => C i j ∧ Q (g i j) m
  | _, _, _, _ => False
def zb7 (g : Int → Int → D) : AR2
  | .int i, .int j, m, Q => Q (g i j) m
  | _, _, _, _ => False
theorem zjw {f : Value → Value → Sem Value} {C : Int → Int → Prop} {g : Int → Int → Int} (h : OpR X f (rI C fun i j => .int (g i j))) : OpR X f (lR2 X.K (zct C fun i j => .int (g i j))) := by
  intro pins s σ H x y v u Q I rx ry ⟨d1, d2, m, P, r1, r2, rM, hh, q⟩
  cases d1 with
  | int i => cases d2 with
    | int j => exact or_int h I rx ry r1 r2 hh.1 (q _ m hh.2 _ H (Tx.refl H) rfl rM)
    | _ => exact hh.elim
  | _ => exact hh.elim
theorem zm3 {f : Value → Value → Sem Value} {g : Int → Int → Int} (h : OpR X f (rI0 fun i j => .int (g i j))) : OpR X f (lR2 X.K (zb7 fun i j => .int (g i j))) := by
  intro pins s σ H x y v u Q I rx ry ⟨d1, d2, m, P, r1, r2, rM, hh, q⟩
  cases d1 with
  | int i => cases d2 with
    | int j => exact zls h I rx ry r1 r2 (q _ m hh _ H (Tx.refl H) rfl rM)
    | _ => exact hh.elim
  | _ => exact hh.elim
theorem zkI {f : Value → Value → Sem Value} {g : Int → Int → Bool} (h : OpR X f (rI0 fun i j => .bl (g i j))) : OpR X f (lR2 X.K (zb7 fun i j => .bl (g i j))) := by
  intro pins s σ H x y v u Q I rx ry ⟨d1, d2, m, P, r1, r2, rM, hh, q⟩
  cases d1 with
  | int i => cases d2 with
    | int j => exact zls h I rx ry r1 r2 (q _ m hh _ H (Tx.refl H) rfl rM)
    | _ => exact hh.elim
  | _ => exact hh.elim
abbrev zae : AR2 := zb7 fun i j => .int (i - j)
abbrev zad : AR2 := zct CDivW fun i j => .int (i / j)
abbrev zau : AR2 := zct (fun _ j => 0 < j) fun i j => .int (i % j)
abbrev zaF : AR2 := zct CPow fun i j => .int (i ^ j.toNat)
abbrev zaT : AR2 := zct CPow fun i j => .int (i * 2 ^ j.toNat)
abbrev zaV : AR2 := zct (fun _ j => 0 ≤ j) fun i j => .int (i / 2 ^ j.toNat)
abbrev za1 : AR2 := zb7 fun i j => .int (Builtin.bitAnd i j)
abbrev zb9 : AR2 := zb7 fun i j => .int (Builtin.bitOr i j)
abbrev zan : AR2 := zb7 fun i j => .int (Builtin.bitXor i j)
theorem zeR : OpR X (binaryOp .Sub) (lR2 X.K zae) := zm3 op_sub
theorem zhL : OpR X (binaryOp .FloorDiv) (lR2 X.K zad) := zjw op_fdivW
theorem zgb : OpR X (binaryOp .Mod) (lR2 X.K zau) := zjw op_mod
theorem zmQ : OpR X (binaryOp .Pow) (lR2 X.K zaF) := zjw op_pow
theorem zoG : OpR X (binaryOp .LShift) (lR2 X.K zaT) := zjw op_shl
theorem zqq : OpR X (binaryOp .RShift) (lR2 X.K zaV) := zjw op_shr
theorem zsV : OpR X (binaryOp .BitAnd) (lR2 X.K za1) := zm3 op_and
theorem zfv : OpR X (binaryOp .BitXor) (lR2 X.K zan) := zm3 op_xor
abbrev zbU : AR2 := zb7 fun i j => .bl (decide (i < j))
abbrev za2 : AR2 := zb7 fun i j => .bl (decide (i ≤ j))
abbrev zbu : AR2 := zb7 fun i j => .bl (decide (j < i))
abbrev zbQ : AR2 := zb7 fun i j => .bl (decide (j ≤ i))
theorem zug : OpR X (compareOp .Lt) (lR2 X.K zbU) := zkI op_lt
theorem zkg : OpR X (compareOp .LtE) (lR2 X.K za2) := zkI op_le
theorem zm4 : OpR X (compareOp .Gt) (lR2 X.K zbu) := zkI op_gt
theorem zrX : OpR X (compareOp .GtE) (lR2 X.K zbQ) := zkI op_ge
def zaj : AR2
  | .int i, .int j, m, Q => CMulW i j ∧ Q (.int (i * j)) m
  | .tup a, .int k, m, Q => (a ≠ [] ∧ 2 ≤ k ∧ k ≤ 1000 ∧ a.length ≤ 1000) ∧ Q (.tup (List.replicate k.toNat a).flatten) m
  | .ref a, .int k, m, Q => (match m.l a with
    | some xs => (-(2 ^ 62) ≤ k ∧ k < 2 ^ 62 ∧ xs.length * k.toNat ≤ big) ∧ ∀ p, m p = none → Q (.ref p) (mset m p (.lst (List.replicate k.toNat xs).flatten))
    | none => False)
  | _, _, _, _ => False
theorem Reps.nil_iff {K : PySem.W.Frag} {H : Hp} {ds : List D} {vs : List V} (h : Reps K H ds vs) (n : ds ≠ []) : vs ≠ [] := by
  intro e
  subst e
  have := h.length
  exact n (List.length_eq_zero_iff.mp this)
theorem zcu : OpR X (binaryOp .Mult) (lR2 X.K zaj) := by
  intro pins s σ H x y v u Q I rx ry ⟨d1, d2, m, P, r1, r2, rM, h, q⟩
  cases d1 with
  | int i => cases d2 with
    | int j => exact or_int op_mulW I rx ry r1 r2 h.1 (q _ m h.2 _ H (Tx.refl H) rfl rM)
    | _ => exact h.elim
  | tup a => cases d2 with
    | int k =>
      obtain ⟨p1, xs, e1, s1, z1⟩ := r1
      obtain ⟨⟨h1, h2, h3, h4⟩, h5⟩ := h
      exact op_repT pins s σ H x y v u Q I rx ry ⟨p1, k, xs, e1, r2, s1, z1.nil_iff h1, h2, h3, by rw [← z1.length]; exact h4, fun p hp => q _ m h5 _ _ (Tx.new hp) ⟨p, _, rfl, SqT.of upd_same, (z1.flat _).mono (Tx.new hp)⟩ (rM.grow hp)⟩
    | _ => exact h.elim
  | ref a => cases d2 with
    | int k =>
      have h' : (match m.l a with | some xs => (-(2 ^ 62) ≤ k ∧ k < 2 ^ 62 ∧ xs.length * k.toNat ≤ big) ∧ ∀ p, m p = none → P (.ref p) (mset m p (.lst (List.replicate k.toNat xs).flatten)) | none => False) := h
      cases e1 : m.l a with
      | none => rw [e1] at h'; exact h'.elim
      | some xs =>
        rw [e1] at h'
        obtain ⟨xv, hx, zx⟩ := rM a _ (M.l_of e1)
        exact op_rep pins s σ H x y v u Q I rx ry ⟨a, k, xv, r1, r2, hx, by omega, by omega, by rw [← zx.length]; exact zd4 h'.1.2.2, fun p hp => q _ _ (h'.2 p (rM.free hp)) _ _ (Tx.new hp) rfl (rM.newL hp (zx.flat _))⟩
    | _ => exact h.elim
  | _ => exact h.elim
def zc7 : AR1
  | .int i, m, Q => Q (.int (-i)) m
  | _, _, _ => False
mutual
def D.py : D → Option PyData
  | .non => some .none
  | .bl b => some (.bool b)
  | .int i => some (.int i)
  | .str x => some (.str x)
  | .tup ds => (D.pys ds).map .tuple
  | .fls ds => (D.pys ds).map .list
  | _ => none
def D.pys : List D → Option (List PyData)
  | [] => some []
  | d :: ds => match D.py d, D.pys ds with
    | some p, some ps => some (p :: ps)
    | _, _ => none
end
mutual
theorem zgc {K : PySem.W.Frag} {H : Hp} : ∀ {d : D} {p : PyData} {v : V}, d.py = some p → Rep K H d v → Dp K H v p
  | .non, _, _, e, r => by cases e; rw [show _ = V.non from r]; exact .non
  | .bl b, _, _, e, r => by cases e; rw [show _ = V.bl b from r]; exact .bl b
  | .int i, _, _, e, r => by cases e; rw [show _ = V.int i from r]; exact .int i
  | .str x, _, _, e, r => by cases e; rw [show _ = V.str x from r]; exact .str x
  | .tup ds, p, v, e, ⟨a, xs, ev, hs, hr⟩ => by
    have e' : (D.pys ds).map PyData.tuple = some p := e
    cases q : D.pys ds with
    | none => rw [q] at e'; cases e'
    | some ps => rw [q] at e'; cases e'; rw [ev]; exact .tup hs (zhM q hr)
  | .fls ds, p, v, e, ⟨a, xs, ev, hs, hr⟩ => by
    have e' : (D.pys ds).map PyData.list = some p := e
    cases q : D.pys ds with
    | none => rw [q] at e'; cases e'
    | some ps => rw [q] at e'; cases e'; rw [ev]; exact .lst hs.sq (zhM q hr)
  | .ref _, _, _, e, _ => by cases e
  | .ty _, _, _, e, _ => by cases e
theorem zhM {K : PySem.W.Frag} {H : Hp} : ∀ {ds : List D} {ps : List PyData} {vs : List V}, D.pys ds = some ps → Reps K H ds vs → DpAll K H vs ps
  | [], _, _, e, r => by cases e; rw [show _ = [] from r]; exact .nil
  | d :: ds, ps, _, e, ⟨x, r, ev, hx, hr⟩ => by
    have e' : (match D.py d, D.pys ds with | some p, some ps => some (p :: ps) | _, _ => none) = some ps := e
    cases q1 : D.py d with
    | none => rw [q1] at e'; cases e'
    | some p => cases q2 : D.pys ds with
      | none => rw [q1, q2] at e'; cases e'
      | some qs => rw [q1, q2] at e'; cases e'; rw [ev]; exact .cons (zgc q1 hx) (zhM q2 hr)
end
def D.pyM (m : M) : D → Option PyData
  | .ref a => (match m.l a with
    | some ds => (D.pys ds).map .list
    | none => none)
  | d => d.py
theorem zpi {K : PySem.W.Frag} {H : Hp} {m : M} (rM : RelM K H m) : ∀ {d : D} {p : PyData} {v : V}, d.pyM m = some p → Rep K H d v → Dp K H v p
  | .ref a, p, v, e, r => by
    have e' : (match m.l a with | some ds => (D.pys ds).map PyData.list | none => none) = some p := e
    cases q : m.l a with
    | none => rw [q] at e'; cases e'
    | some ds =>
      rw [q] at e'
      obtain ⟨xs, hx, hr⟩ := rM a _ (M.l_of q)
      cases q2 : D.pys ds with
      | none => simp only [q2, Option.map_none] at e'; cases e'
      | some ps => simp only [q2, Option.map_some] at e'; cases e'; rw [show v = .ref a from r]; exact .lst (SqL.of hx) (zhM q2 hr)
  | .non, p, v, e, r => zgc e r
  | .bl _, p, v, e, r => zgc e r
  | .int _, p, v, e, r => zgc e r
  | .str _, p, v, e, r => zgc e r
  | .tup _, p, v, e, r => zgc e r
  | .fls _, p, v, e, r => zgc e r
  | .ty _, p, v, e, r => by cases e
def eqA (x y : D) (m : M) (k : Bool → Prop) : Prop := match x, y with
  | .int i, .int j => k (decide (i = j))
  | .str i, .str j => k (decide (i = j))
  | .bl i, .bl j => k (decide (i = j))
  | .non, .non => k true
  | x, y => match x.pyM m, y.pyM m with
    | some p, some q => (SeqAt.shaped p = true ∧ SeqAt.shaped q = true) ∧ k (PyData.eqv p q)
    | _, _ => False
def zbV : AR2 := fun x y m Q => eqA x y m fun b => Q (.bl b) m
def zcv : AR2 := fun x y m Q => eqA x y m fun b => Q (.bl (!b)) m
theorem zqr {op : CmpOp} {n : Bool → Bool} (hs : ∀ {x y : V}, scal x y = true → ∀ (pins : List (Addr × Obj)) (s : Shared) (σ : L2.St) (H : Hp) (v u : Value) (Q : VK), Inv X pins σ H s → RelV x v → RelV y u → Q (.bl (n (decide (x = y)))) H → wpAny (model X.prog X.w) X.A (compareOp op v u) (EP X pins σ Q) X.xe s)
    (hd : ∀ (pins : List (Addr × Obj)) (s : Shared) (σ : L2.St) (H : Hp) (x y : V) (v u : Value) (Q : VK) (d e : PyData), Inv X pins σ H s → RelV x v → RelV y u → Dp X.K H x d → Dp X.K H y e → SeqAt.shaped d = true → SeqAt.shaped e = true → Q (.bl (n (PyData.eqv d e))) H → wpAny (model X.prog X.w) X.A (compareOp op v u) (EP X pins σ Q) X.xe s) :
    OpR X (compareOp op) (lR2 X.K fun x y m Q => eqA x y m fun b => Q (.bl (n b)) m) := by
  intro pins s σ H x y v u Q I rx ry ⟨d1, d2, m, P, r1, r2, rM, h, q⟩
  have fin : ∀ b, P (.bl (n b)) m → Q (.bl (n b)) H := fun b p => q _ m p _ H (Tx.refl H) rfl rM
  have gen : (match d1.pyM m, d2.pyM m with | some p, some q => (SeqAt.shaped p = true ∧ SeqAt.shaped q = true) ∧ P (.bl (n (PyData.eqv p q))) m | _, _ => False) → wpAny (model X.prog X.w) X.A (compareOp op v u) (EP X pins σ Q) X.xe s := fun h => by
    cases e1 : d1.pyM m with
    | none => rw [e1] at h; exact h.elim
    | some p => cases e2 : d2.pyM m with
      | none => rw [e1, e2] at h; exact h.elim
      | some p2 =>
        rw [e1, e2] at h
        exact hd pins s σ H x y v u Q p p2 I rx ry (zpi rM e1 r1) (zpi rM e2 r2) h.1.1 h.1.2 (fin _ h.2)
  cases d1 with
  | int i => cases d2 with
    | int j =>
      obtain rfl : x = .int i := r1
      obtain rfl : y = .int j := r2
      refine hs (x := .int i) (y := .int j) rfl pins s σ H v u Q I rx ry ?_
      have : decide (V.int i = V.int j) = decide (i = j) := by simp
      rw [this]
      exact fin _ h
    | _ => exact gen h
  | str i => cases d2 with
    | str j =>
      obtain rfl : x = .str i := r1
      obtain rfl : y = .str j := r2
      refine hs (x := .str i) (y := .str j) rfl pins s σ H v u Q I rx ry ?_
      have : decide (V.str i = V.str j) = decide (i = j) := by simp
      rw [this]
      exact fin _ h
    | _ => exact gen h
  | bl i => cases d2 with
    | bl j =>
      obtain rfl : x = .bl i := r1
      obtain rfl : y = .bl j := r2
      refine hs (x := .bl i) (y := .bl j) rfl pins s σ H v u Q I rx ry ?_
      have : decide (V.bl i = V.bl j) = decide (i = j) := by simp
      rw [this]
      exact fin _ h
    | _ => exact gen h
  | non => cases d2 with
    | non =>
      obtain rfl : x = .non := r1
      obtain rfl : y = .non := r2
      refine hs (x := .non) (y := .non) rfl pins s σ H v u Q I rx ry ?_
      have : decide (V.non = V.non) = true := by simp
      rw [this]
      exact fin _ h
    | _ => exact gen h
  | _ => exact gen h
theorem zkh (hu : X.A.units + 64 < cLine) : OpR X (compareOp .Eq) (lR2 X.K zbV) := zqr (n := id) (fun {x y} hxy pins s σ H v u Q I rx ry q => op_eq pins s σ H x y v u Q I rx ry ⟨hxy, q⟩) fun pins s σ H x y v u Q d e I rx ry dx dy sx sy q => op_eqD hu pins s σ H x y v u Q I rx ry ⟨d, e, dx, dy, sx, sy, q⟩
theorem zki (hu : X.A.units + 64 < cLine) : OpR X (compareOp .NotEq) (lR2 X.K zcv) := zqr (n := not) (fun {x y} hxy pins s σ H v u Q I rx ry q => op_ne pins s σ H x y v u Q I rx ry ⟨hxy, q⟩) fun pins s σ H x y v u Q d e I rx ry dx dy sx sy q => op_neD hu pins s σ H x y v u Q I rx ry ⟨d, e, dx, dy, sx, sy, q⟩
end
end
section
section
variable {X : Cx} {W : WX}
def D.isNon : D → Bool
  | .non => true
  | _ => false
def zdr : AR2 := fun x y m Q => match x, y with
  | .bl a, .bl b => Q (.bl (decide (a = b))) m
  | x, .non => Q (.bl x.isNon) m
  | _, _ => False
def zbt : AR2 := fun x y m Q => match x, y with
  | .bl a, .bl b => Q (.bl (!decide (a = b))) m
  | x, .non => Q (.bl (!x.isNon)) m
  | _, _ => False
theorem zpQ {K : PySem.W.Frag} {H : Hp} {d : D} {v : V} (r : Rep K H d v) : decide (v = V.non) = d.isNon := by
  cases d with
  | non => rw [show v = .non from r]; rfl
  | bl _ => rw [show v = .bl _ from r]; rfl
  | int _ => rw [show v = .int _ from r]; rfl
  | str _ => rw [show v = .str _ from r]; rfl
  | ty _ => rw [show v = .ty _ from r]; rfl
  | ref _ => rw [show v = .ref _ from r]; rfl
  | tup _ => obtain ⟨a, xs, e, _⟩ := r; rw [e]; rfl
  | fls _ => obtain ⟨a, xs, e, _⟩ := r; rw [e]; rfl
theorem zsW {op : CmpOp} {n : Bool → Bool} (h1 : OpR X (compareOp op) fun x y H Q => ∃ a b : Bool, x = .bl a ∧ y = .bl b ∧ Q (.bl (n (decide (a = b)))) H)
    (h2 : OpR X (compareOp op) fun x y H Q => y = .non ∧ Q (.bl (n (decide (x = .non)))) H) : OpR X (compareOp op) (lR2 X.K fun x y m Q => match x, y with
  | .bl a, .bl b => Q (.bl (n (decide (a = b)))) m
  | x, .non => Q (.bl (n x.isNon)) m
  | _, _ => False) := by
  intro pins s σ H x y v u Q I rx ry ⟨d1, d2, m, P, r1, r2, rM, h, q⟩
  have non : d2 = .non → P (.bl (n d1.isNon)) m → wpAny (model X.prog X.w) X.A (compareOp op v u) (EP X pins σ Q) X.xe s := fun e p => by
    subst e
    refine h2 pins s σ H x y v u Q I rx ry ⟨r2, ?_⟩
    rw [zpQ r1]
    exact q _ m p _ H (Tx.refl H) rfl rM
  cases d2 with
  | bl b => cases d1 with
    | bl a => exact h1 pins s σ H x y v u Q I rx ry ⟨a, b, r1, r2, q _ m h _ H (Tx.refl H) rfl rM⟩
    | _ => exact h.elim
  | non => exact non rfl (by cases d1 <;> exact h)
  | _ => cases d1 <;> exact h.elim
theorem zn3 : OpR X (compareOp .IsNot) (lR2 X.K zbt) := zsW (n := not) op_notBl op_notN
def zdi (m : M) : D → Option Nat
  | .tup ds => some ds.length
  | .fls ds => some ds.length
  | .str x => if x.length ≤ big then some x.length else none
  | .ref a => (m.l a).map List.length
  | _ => none
def zah : ARL := fun ds m Q => match ds with
  | [d] => (match zdi m d with
    | some n => Q (.int (n : Int)) m
    | none => False)
  | _ => False
theorem zg1 {K : PySem.W.Frag} {H : Hp} {d : D} {vs : List V} (r : Reps K H [d] vs) : ∃ v, vs = [v] ∧ Rep K H d v := by
  obtain ⟨v, r, e, rv, e2⟩ := r
  obtain rfl : r = [] := e2
  exact ⟨v, e, rv⟩
theorem zsX {K : PySem.W.Frag} {H : Hp} {d d' : D} {vs : List V} (r : Reps K H [d, d'] vs) : ∃ v v', vs = [v, v'] ∧ Rep K H d v ∧ Rep K H d' v' := by
  obtain ⟨v, r, e, rv, r2⟩ := r
  obtain ⟨v', e2, rv'⟩ := zg1 r2
  subst e2
  exact ⟨v, v', e, rv, rv'⟩
theorem zg2 : CallR X (.builtin "len") (lRL X.K zah) := by
  intro pins s σ H xs us Q I r ⟨ds, m, P, rs, rM, h, q⟩
  match ds, h, rs with
  | [d], h, rs =>
    obtain ⟨v, rfl, rv⟩ := zg1 rs
    have h' : (match zdi m d with | some n => P (.int (n : Int)) m | none => False) := h
    have go : ∀ n : Nat, LenV X.K v H n → P (.int (n : Int)) m → wpAny (model X.prog X.w) X.A (call (.builtin "len") us) (EP X pins σ Q) X.xe s := fun n ln p => call_len pins s σ H [v] us Q I r ⟨v, n, rfl, ln, q _ m p _ H (Tx.refl H) rfl rM⟩
    cases d with
    | tup es => obtain ⟨a, zs, e, hs, hr⟩ := rv; subst e; exact go _ (.inr ⟨zs, hs, hr.length⟩) h'
    | fls es => obtain ⟨a, zs, e, hs, hr⟩ := rv; subst e; exact go _ (.inl ⟨zs, hs.sq, hr.length⟩) h'
    | str z =>
      obtain rfl : v = .str z := rv
      have h2 : (match (if z.length ≤ big then some z.length else none) with | some n => P (.int (n : Int)) m | none => False) := h'
      by_cases c : z.length ≤ big
      · rw [if_pos c] at h2; exact go _ ⟨zd4 c, rfl⟩ h2
      · rw [if_neg c] at h2; exact h2.elim
    | ref a =>
      have h2 : (match (m.l a).map List.length with | some n => P (.int (n : Int)) m | none => False) := h'
      cases e : m.l a with
      | none => rw [e] at h2; exact h2.elim
      | some es =>
        rw [e] at h2
        have h' : P (.int (es.length : Int)) m := h2
        obtain ⟨zs, hz, hr⟩ := rM a _ (M.l_of e)
        obtain rfl : v = .ref a := rv
        exact go _ (.inl ⟨zs, SqL.of hz, hr.length⟩) h'
    | _ => exact h'.elim
def zbR : ARL := fun ds m Q => match ds with
  | [.int i] => Q (.int i) m
  | [.bl k] => Q (.int (if k then 1 else 0)) m
  | _ => False
theorem zg3 : CallR X (.type "int") (lRL X.K zbR) := by
  intro pins s σ H xs us Q I r ⟨ds, m, P, rs, rM, h, q⟩
  match ds, h, rs with
  | [.int i], h, rs =>
    obtain ⟨v, rfl, rv⟩ := zg1 rs
    exact call_int1 pins s σ H [v] us Q I r (.inl ⟨i, by rw [show v = .int i from rv], q _ m h _ H (Tx.refl H) rfl rM⟩)
  | [.bl k], h, rs =>
    obtain ⟨v, rfl, rv⟩ := zg1 rs
    exact call_int1 pins s σ H [v] us Q I r (.inr ⟨k, by rw [show v = .bl k from rv], q _ m h _ H (Tx.refl H) rfl rM⟩)
def za5 : ARL := fun ds m Q => match ds with
  | [.tup es] => Q (.tup es) m
  | [.fls es] => Q (.tup es) m
  | [.ref a] => (match m.l a with
    | some es => Q (.tup es) m
    | none => False)
  | _ => False
theorem zlt : CallR X (.type "tuple") (lRL X.K za5) := by
  intro pins s σ H xs us Q I r ⟨ds, m, P, rs, rM, h, q⟩
  match ds, h, rs with
  | [.tup es], h, rs =>
    obtain ⟨v, rfl, a, zs, e, hs, hr⟩ := zg1 rs
    subst e
    exact call_tuple_of pins s σ H _ us Q I r ⟨a, zs, rfl, .inr ⟨hs, q _ m h _ H (Tx.refl H) ⟨a, zs, rfl, hs, hr⟩ rM⟩⟩
  | [.fls es], h, rs =>
    obtain ⟨v, rfl, a, zs, e, hs, hr⟩ := zg1 rs
    subst e
    exact call_tuple_of pins s σ H _ us Q I r ⟨a, zs, rfl, .inl ⟨hs.sq, fun p hp => q _ m h _ _ (Tx.new hp) ⟨p, zs, rfl, SqT.of upd_same, hr.mono (Tx.new hp)⟩ (rM.grow hp)⟩⟩
  | [.ref a], h, rs =>
    obtain ⟨v, rfl, rv⟩ := zg1 rs
    have h' : (match m.l a with | some es => P (.tup es) m | none => False) := h
    cases e : m.l a with
    | none => rw [e] at h'; exact h'.elim
    | some es =>
      rw [e] at h'
      obtain ⟨zs, hz, hr⟩ := rM a _ (M.l_of e)
      exact call_tuple_of pins s σ H _ us Q I r ⟨a, zs, by rw [show v = .ref a from rv], .inl ⟨SqL.of hz, fun p hp => q _ m h' _ _ (Tx.new hp) ⟨p, zs, rfl, SqT.of upd_same, hr.mono (Tx.new hp)⟩ (rM.grow hp)⟩⟩
def zaB (m : M) : D → Option (List D)
  | .tup ds => some ds
  | .fls ds => some ds
  | .ref a => m.l a
  | _ => none
def zak : ARL := fun ds m Q => match ds with
  | [d] => (match zaB m d with
    | some es => ∀ p, m p = none → Q (.ref p) (mset m p (.lst es))
    | none => False)
  | _ => False
theorem zm5 {K : PySem.W.Frag} {H : Hp} {m : M} {d : D} {es : List D} {v : V} (rM : RelM K H m) (e : zaB m d = some es) (r : Rep K H d v) : ∃ a xs, v = .ref a ∧ (SqL K H a xs ∨ SqT K H a xs) ∧ Reps K H es xs := by
  cases d with
  | tup ds => cases e; obtain ⟨a, xs, ev, hs, hr⟩ := r; exact ⟨a, xs, ev, .inr hs, hr⟩
  | fls ds => cases e; obtain ⟨a, xs, ev, hs, hr⟩ := r; exact ⟨a, xs, ev, .inl hs.sq, hr⟩
  | ref a => obtain ⟨xs, hx, hr⟩ := rM a _ (M.l_of e); exact ⟨a, xs, r, .inl (SqL.of hx), hr⟩
  | _ => cases e
theorem zpj : CallR X (.type "list") (lRL X.K zak) := by
  intro pins s σ H xs us Q I r ⟨ds, m, P, rs, rM, h, q⟩
  match ds, h, rs with
  | [d], h, rs =>
    obtain ⟨v, rfl, rv⟩ := zg1 rs
    have h' : (match zaB m d with | some es => ∀ p, m p = none → P (.ref p) (mset m p (.lst es)) | none => False) := h
    cases e : zaB m d with
    | none => rw [e] at h'; exact h'.elim
    | some es =>
      rw [e] at h'
      obtain ⟨a, zs, ev, hs, hr⟩ := zm5 rM e rv
      subst ev
      exact call_list_of pins s σ H _ us Q I r ⟨a, zs, rfl, hs, fun p hp => q _ _ (h' p (rM.free hp)) _ _ (Tx.new hp) rfl (rM.newL hp hr)⟩
def zc8 : ARL := fun ds m Q => match ds with
  | [.int i, .int j] => Q (.int (if j < i then j else i)) m
  | _ => False
def zcV : ARL := fun ds m Q => match ds with
  | [.int i, .int j] => Q (.int (if j > i then j else i)) m
  | _ => False
theorem zsY (hc : X.calm = true) : CallR X (.builtin "max") (lRL X.K zcV) := by
  intro pins s σ H xs us Q I r ⟨ds, m, P, rs, rM, h, q⟩
  match ds, h, rs with
  | [.int i, .int j], h, rs =>
    obtain ⟨v, w, rfl, rv, rw'⟩ := zsX rs
    exact call_max2 hc pins s σ H _ us Q I r ⟨i, j, by rw [show v = .int i from rv, show w = .int j from rw'], q _ m h _ H (Tx.refl H) rfl rM⟩
inductive Ty where
  | non | bool | int | str | tuple | list | dict
  deriving DecidableEq
def Ty.n : Ty → String
  | .non => "NoneType" | .bool => "bool" | .int => "int" | .str => "str" | .tuple => "tuple" | .list => "list" | .dict => "dict"
def Ty.sub (a b : Ty) : Bool := decide (a = b) || (decide (a = .bool) && decide (b = .int))
theorem zn4 {K : PySem.W.Frag} (a b : Ty) : PySem.W.kitOne K (.type a.n) (.type b.n) = some (a.sub b) := by
  refine kit_ty ?_
  cases a <;> cases b <;> decide +kernel
def tyD (m : M) : D → Option Ty
  | .non => some .non
  | .bl _ => some .bool
  | .int _ => some .int
  | .str _ => some .str
  | .tup _ => some .tuple
  | .fls _ => some .list
  | .ref a => if (m.l a).isSome then some .list else (match m a with | some (.dic _) => some .dict | _ => none)
  | .ty _ => none
theorem zrY {K : PySem.W.Frag} {H : Hp} {a : Addr} {xs : List V} (h : SqT K H a xs) : TyX K H (.ref a) (.type "tuple") := by
  rcases h with (h | ⟨o, h⟩) | ⟨o, _, _, h, c, _⟩
  · exact .base (.tup h)
  · exact .fTuple h
  · exact .kTuple h c
theorem zrZ {K : PySem.W.Frag} {H : Hp} {a : Addr} {xs : List V} (h : FrL K H a xs) : TyX K H (.ref a) (.type "list") := by
  rcases h with ⟨o, h⟩ | ⟨o, _, _, h, c, _⟩
  · exact .base (.frz h)
  · exact .kList h c
theorem zsZ {K : PySem.W.Frag} {H : Hp} {m : M} {d : D} {t : Ty} {v : V} (rM : RelM K H m) (e : tyD m d = some t) (r : Rep K H d v) : TyX K H v (.type t.n) := by
  cases d with
  | non => cases e; rw [show v = .non from r]; exact .base .non
  | bl b => cases e; rw [show v = .bl b from r]; exact .base (.bl b)
  | int b => cases e; rw [show v = .int b from r]; exact .base (.int b)
  | str b => cases e; rw [show v = .str b from r]; exact .base (.str b)
  | tup ds => cases e; obtain ⟨a, xs, ev, hs, hr⟩ := r; rw [ev]; exact zrY hs
  | fls ds => cases e; obtain ⟨a, xs, ev, hs, hr⟩ := r; rw [ev]; exact zrZ hs
  | ref a =>
    have e' : (if (m.l a).isSome then some Ty.list else (match m a with | some (.dic _) => some .dict | _ => none)) = some t := e
    cases q : m.l a with
    | none =>
      rw [q] at e'
      replace e' : (match m a with | some (.dic _) => some Ty.dict | _ => none) = some t := by simpa using e'
      cases q2 : m a with
      | none => rw [q2] at e'; cases e'
      | some ob =>
        rw [q2] at e'
        cases ob with
        | dic ps =>
          cases e'
          obtain ⟨l, hl, _⟩ := rM a _ q2
          rw [show v = .ref a from r]
          exact .base (.dK hl)
        | _ => cases e'
    | some es =>
      rw [q] at e'
      have e2 : t = .list := by simpa using e'.symm
      subst e2
      obtain ⟨xs, hx, hr⟩ := rM a _ (M.l_of q)
      rw [show v = .ref a from r]
      exact .base (.lst hx)
  | ty n => cases e
def zbl (c : Ty) (ta : AE) : AE := fun e m Q R => ta e m (fun d m1 => match tyD m1 d with
  | some t => Q (.bl (t.sub c)) m1
  | none => False) R
def za7 (c c' : Ty) (ta : AE) : AE := fun e m Q R => ta e m (fun d m1 => match tyD m1 d with
  | some t => Q (.bl (t.sub c || t.sub c')) m1
  | none => False) R
theorem zkJ (c : Ty) {a : Expr} {y : Str} {ta : AE} {p p2 pos : Pos} (ha : GE X W a ta) (hm : X.mg "isinstance" = none) (hmy : X.mg y = none) (hv : bootBuiltins y = some (.type c.n)) (hg : Gl X "isinstance" := by rfl) (hgy : Gl X y := by rfl) (hn : y ≠ "__name__" := by decide) (hd : (y == ("__debug__" : Str)) = false := by decide)
    (hb : bootBuiltins "isinstance" = some (.builtin "isinstance") := by decide +kernel) (he : starEach [a, .Name y p2] X.env = (false, eval a X.env) :: starEach [.Name y p2] X.env := by rfl) (he2 : starEach [.Name y p2] X.env = (false, eval (.Name y p2) X.env) :: starEach [] X.env := by rfl) (hpl : (backTo pos (starEach [.Name y p2] X.env)).any (·.1) = false := by rfl) :
    GE X W (.Call (.Name "isinstance" p) [a, .Name y p2] [] pos) (zbl c ta) := zbp (pe_callB call_isi hg hm hb (pa_cons ha (pa_cons (pe_bltn (v := .ty c.n) hgy hmy hv rfl hn hd) pa_nil he2) he) (by decide) (by decide) he hpl) fun σ H Q h => by
  obtain ⟨e, m, P, R, rE, rM, t, q, w⟩ := h
  refine ⟨e, m, _, R, rE, rM, t, fun d m1 h1 v H1 t1 r1 rm1 => ?_, w⟩
  have h1' : (match tyD m1 d with | some t => P (.bl (t.sub c)) m1 | none => False) := h1
  cases e1 : tyD m1 d with
  | none => rw [e1] at h1'; exact h1'.elim
  | some t =>
    rw [e1] at h1'
    exact ⟨v, .ty c.n, _, _, t.sub c, rfl, .ty c.n, zsZ rm1 e1 r1, zn4 t c, q _ m1 h1' _ H1 t1 rfl rm1⟩
def zap : AR2 := fun x y m Q => match y with
  | .int i => (match x with
    | .str z => z.length ≤ big ∧ (match atI z.cps.toList i with
      | some c => Q (.str ⟨#[c]⟩) m
      | none => False)
    | x => (match zaB m x with
      | some ds => (match atI ds i with
        | some d => Q d m
        | none => False)
      | none => False))
  | _ => False
theorem Reps.at {K : PySem.W.Frag} {H : Hp} {ds : List D} {vs : List V} {i : Int} {d : D} (r : Reps K H ds vs) (h : atI ds i = some d) : ∃ v, atI vs i = some v ∧ Rep K H d v := by
  unfold atI at h ⊢
  rw [← r.length]
  cases e : ixN ds.length i with
  | none => rw [e] at h; cases h
  | some j =>
    rw [e] at h
    obtain ⟨v, h1, h2⟩ := r.get (i := j) h
    exact ⟨v, h1, h2⟩
theorem zbo : IxR X (lR2 X.K zap) := by
  intro value slice pins s σ H x y v u Q I rx ry ⟨d1, d2, m, P, r1, r2, rM, h, q⟩ hs
  cases d2 with
  | int i =>
    obtain rfl : y = .int i := r2
    have gen : (match zaB m d1 with | some ds => (match atI ds i with | some d => P d m | none => False) | none => False) → wpAny (model X.prog X.w) X.A (subscriptTail value slice v u) (EP X pins σ Q) X.xe s := fun h => by
      cases e1 : zaB m d1 with
      | none => rw [e1] at h; exact h.elim
      | some ds =>
        rw [e1] at h
        cases e2 : atI ds i with
        | none => simp only [e2] at h
        | some d =>
          simp only [e2] at h
          obtain ⟨a, xs, ev, hq, hr⟩ := zm5 rM e1 r1
          subst ev
          obtain ⟨z, hz, rz⟩ := hr.at e2
          rcases hq with hq | hq
          · exact ix_list value slice pins s σ H _ _ v u Q I rx ry ⟨a, xs, i, z, rfl, rfl, hq, hz, q d m h z H (Tx.refl H) rz rM⟩ hs
          · exact ix_tup value slice pins s σ H _ _ v u Q I rx ry ⟨a, xs, i, z, rfl, rfl, hq, hz, q d m h z H (Tx.refl H) rz rM⟩ hs
    cases d1 with
    | str z =>
      obtain rfl : x = .str z := r1
      have h' : z.length ≤ big ∧ (match atI z.cps.toList i with | some c => P (.str ⟨#[c]⟩) m | none => False) := h
      cases e2 : atI z.cps.toList i with
      | none => rw [e2] at h'; exact h'.2.elim
      | some c =>
        rw [e2] at h'
        exact ix_str value slice pins s σ H _ _ v u Q I rx ry ⟨z, i, c, rfl, rfl, zd4 h'.1, e2, q _ m h'.2 _ H (Tx.refl H) rfl rM⟩ hs
    | _ => exact gen h
  | _ => exact h.elim
def cutD (xs : List D) (lo hi : Option Int) : List D := (xs.drop (HT.sIx xs.length 0 lo)).take (HT.sIx xs.length xs.length hi - HT.sIx xs.length 0 lo)
theorem Reps.cut {K : PySem.W.Frag} {H : Hp} {ds : List D} {vs : List V} {lo hi : Option Int} (r : Reps K H ds vs) : Reps K H (cutD ds lo hi) (cutV vs lo hi) := by
  unfold cutD cutV
  rw [r.length]
  exact (r.drop _).take _
def rSlA : ARS := fun x lo hi m Q => match x with
  | .tup ds => Q (.tup (cutD ds lo hi)) m
  | .fls ds => ∀ p, m p = none → Q (.ref p) (mset m p (.lst (cutD ds lo hi)))
  | .ref a => (match m.l a with
    | some ds => ∀ p, m p = none → Q (.ref p) (mset m p (.lst (cutD ds lo hi)))
    | none => False)
  | _ => False
theorem zcE : SlR X (lRS X.K rSlA) := by
  intro pins s σ H x v vl vu lo hi sl Q I rx hs pl pu ⟨d, m, P, r, rM, h, q⟩
  cases d with
  | tup ds =>
    obtain ⟨a, xs, ev, hq, hr⟩ := r
    refine sl_tupA pins s σ H x v vl vu lo hi sl Q I rx hs pl pu ⟨a, xs, ev, hq, fun hw => ?_, fun hw p hp => ?_⟩
    · refine q _ m h _ H (Tx.refl H) ⟨a, xs, rfl, hq, ?_⟩ rM
      have := hr.cut (lo := lo) (hi := hi)
      have e : cutV xs lo hi = xs := by
        unfold cutV
        rw [hw.1, hw.2]
        simp
      rw [e] at this
      exact this
    · exact q _ m h _ _ (Tx.new hp) ⟨p, _, rfl, SqT.of upd_same, hr.cut.mono (Tx.new hp)⟩ (rM.grow hp)
  | fls ds =>
    obtain ⟨a, xs, ev, hq, hr⟩ := r
    exact sl_list pins s σ H x v vl vu lo hi sl Q I rx hs pl pu ⟨a, xs, ev, hq.sq, fun p hp => q _ _ (h p (rM.free hp)) _ _ (Tx.new hp) rfl (rM.newL hp hr.cut)⟩
  | ref a =>
    have h' : (match m.l a with | some ds => ∀ p, m p = none → P (.ref p) (mset m p (.lst (cutD ds lo hi))) | none => False) := h
    cases e : m.l a with
    | none => rw [e] at h'; exact h'.elim
    | some ds =>
      rw [e] at h'
      obtain ⟨xs, hx, hr⟩ := rM a _ (M.l_of e)
      exact sl_list pins s σ H x v vl vu lo hi sl Q I rx hs pl pu ⟨a, xs, r, SqL.of hx, fun p hp => q _ _ (h' p (rM.free hp)) _ _ (Tx.new hp) rfl (rM.newL hp hr.cut)⟩
  | _ => exact h.elim
def zaG (to ti : AE) : AG := fun v e m Q => to e m (fun o m1 => ti e m1 (fun i m2 => match o, i with
  | .ref a, .int k => (match m2.l a with
    | some ds => (match ixN ds.length k with
      | some j => Q e (mset m2 a (.lst (ds.set j v)))
      | none => False)
    | none => False)
  | _, _ => False) fun _ _ => False) fun _ _ => False
theorem zjV {o i : Expr} {to ti : AE} {pos : Pos} (ho : GE X W0 o to) (hi : GE X W0 i ti)
    (ha : ∀ v, assign (.Subscript o i pos) X.env v = (do
      let ov ← holding [v] (eval o X.env)
      let iv ← holding [v, ov] (eval i X.env)
      standAt pos
      holding [v, ov, iv] (setItem ov iv v)
      release [v, ov, iv] []) := by intro _; rfl) : GG X (.Subscript o i pos) (zaG to ti) := zjt (pg_sub ho hi set_list ha) fun v σ H Q h => by
  obtain ⟨d, e, m, P, r, rE, rM, t, q⟩ := h
  refine ⟨e, m, _, _, rE, rM, t, fun d1 m1 h1 x1 H1 t1 r1 rm1 => ?_, zoE⟩
  refine ⟨e, m1, _, _, rE.mono t1, rm1, h1, fun d2 m2 h2 x2 H2 t2 r2 rm2 => ?_, zoE⟩
  cases d1 with
  | ref a => cases d2 with
    | int k =>
      have h2' : (match m2.l a with | some ds => (match ixN ds.length k with | some j => P e (mset m2 a (.lst (ds.set j d))) | none => False) | none => False) := h2
      cases e1 : m2.l a with
      | none => rw [e1] at h2'; exact h2'.elim
      | some ds =>
        rw [e1] at h2'
        cases e2 : ixN ds.length k with
        | none => simp only [e2] at h2'
        | some j =>
          simp only [e2] at h2'
          obtain ⟨xs, hx, hr⟩ := rm2 a _ (M.l_of e1)
          have tm : Tx H2 (upd H2 a (.lst (xs.set j v))) := Tx.mut hx trivial
          exact ⟨a, xs, k, j, r1, r2, hx, by rw [← hr.length]; exact e2, q e _ h2' σ _ ((t1.trans t2).trans tm) (rE.mono ((t1.trans t2).trans tm)) (rm2.putL hx (hr.set j (r.mono (t1.trans t2))))⟩
    | _ => exact h2.elim
  | _ => cases d2 <;> exact h2.elim
def zab (to ta : AE) : AE := fun e m Q R => to e m (fun o m1 => match o with
  | .ref a => (match m1.l a with
    | some _ => ta e m1 (fun d m2 => match m2.l a with
      | some ds => ds.length < big ∧ Q .non (mset m2 a (.lst (ds ++ [d])))
      | none => False) R
    | none => False)
  | _ => False) R
theorem zds {o a : Expr} {to ta : AE} {apos cpos : Pos} (ho : GE X W o to) (ha : GE X W a ta) (hbase : attributeBase o "append" X.env (eval o X.env) = eval o X.env := by rfl)
    (hfew : ((backTo cpos (starEach [a] X.env)).all (fun x => !x.1) && (backToKw cpos (keywordEach [] X.env)).all (fun x => x.1.isSome)
      && decide ([a].length + ([] : List Keyword).length + (if ([] : List Keyword).isEmpty then 0 else 1) < 30)) = true := by rfl)
    (hline : (apos.endLine == cpos.line) = true := by rfl) (hs : starEach [a] X.env = (false, eval a X.env) :: starEach [] X.env := by rfl) (hplain : (backTo cpos (starEach [] X.env)).any (·.1) = false := by rfl) :
    GE X W (.Call (.Attribute o "append" apos) [a] [] cpos) (zab to ta) := zbp (pe_bm PySem.F.plainAttrs_list PySem.F.slot_list_append PySem.F.type_list_append mt_append ho (pa_cons ha pa_nil hs) hbase hfew hline hs hplain) fun σ H Q h => by
  obtain ⟨e, m, P, R, rE, rM, t, q, w⟩ := h
  refine ⟨e, m, _, R, rE, rM, t, fun d m1 h1 v H1 t1 r1 rm1 => ?_, w⟩
  cases d with
  | ref b =>
    obtain rfl : v = .ref b := r1
    have h1' : (match m1.l b with | some _ => ta e m1 (fun d m2 => match m2.l b with | some ds => ds.length < big ∧ P .non (mset m2 b (.lst (ds ++ [d]))) | none => False) R | none => False) := h1
    cases e1 : m1.l b with
    | none => rw [e1] at h1'; exact h1'.elim
    | some ds1 =>
      rw [e1] at h1'
      obtain ⟨xs1, hx1, _⟩ := rm1 b _ (M.l_of e1)
      refine ⟨.inl ⟨rfl, _, SqL.of hx1⟩, e, m1, _, R, rE.mono t1, rm1, h1', fun d2 m2 h2 v2 H2 t2 r2 rm2 => ?_, w.mono t1⟩
      have h2' : (match m2.l b with | some ds => ds.length < big ∧ P .non (mset m2 b (.lst (ds ++ [d2]))) | none => False) := h2
      cases e2 : m2.l b with
      | none => rw [e2] at h2'; exact h2'.elim
      | some ds =>
        rw [e2] at h2'
        obtain ⟨xs, hx, hr⟩ := rm2 b _ (M.l_of e2)
        exact ⟨b, xs, v2, rfl, rfl, hx, by rw [← hr.length]; exact big_lt h2'.1, q _ _ h2'.2 _ _ ((t1.trans t2).trans (Tx.mut hx trivial)) rfl (rm2.putL hx (hr.append (show Reps X.K H2 [d2] [v2] from ⟨v2, [], rfl, r2, rfl⟩)))⟩
  | _ => exact h1.elim
def zai (te : AE) : AE := fun e m Q R => te e m (fun d m1 => match d with
  | .ref a => (match m1.l a with
    | some ds => Q (.tup ds.reverse) m1
    | none => False)
  | _ => False) R
def aDef (n : Nat) (b : AS) : ASp := fun ds m Q R => b { nx := fun _ m' => ∃ m2, Sub m2 m' ∧ Q .non m2, rt := fun d m' => ∃ m2, Sub m2 m' ∧ Q d m2, xe := fun _ x m' => ∃ m2, Sub m2 m' ∧ R x m2 } (zkD n ds) m
end
section
variable {P : Program} {w : World} {K : PySem.W.Frag} {mg : Str → Option Value} {base : Heap} {x qual : Str} {params : Arguments} {body : List Stmt} {scope : Scope} {f : Addr} {fd : FuncData} {N ps : List Str} {k n : Nat} {b : AS}
abbrev WD (E : XK) : WX := fun cls d _ H => E cls d H
theorem zpk (F : FunD K x qual params body scope [] [] f fd) (S : FnScope N ps scope) (hn : ps.length = n)
    (hb : ∀ (cdv : Value) (A : Around) (outer : List Env) (s : Shared) (H : Hp) (E : XK), Room k (A.deeper (envOfC qual scope s.heap.objs.size f cdv)) → GSs (cxOf (L2.CX P w) P w K mg base N qual scope f cdv A outer s H E) (WD E) body b) :
    FnOk P w K mg base (L2.CX P w) (k + 1) f fd ps (lSp K n (aDef N.length b)) := by
  refine F.ok S (fun vs H Q E h => ?_) (fun cdv A outer s H vs Q E hr h => ⟨_, hb cdv A outer s H E hr, ?_⟩)
  · obtain ⟨ds, m, P', R, e, r, _⟩ := h
    rw [← r.length, e, hn]
  · obtain ⟨ds, m, P', R, e, r, rM, t, q, w'⟩ := h
    refine ⟨_, m, _, RelE.start r, rM, t, ⟨fun e' m' h σ' H' t' rE rM' => ?_, fun d m' h v H' t' rv rM' => ?_, fun _ _ h => h.elim, fun _ _ h => h.elim, fun e' σ' H' t' rE => ⟨fun x' m' h cls dd H2 t2 xr rM2 => ?_⟩⟩⟩
    · obtain ⟨m2, s2, h⟩ := h
      exact q .non m2 h .non H' t' rfl (rM'.sub s2)
    · obtain ⟨m2, s2, h⟩ := h
      exact q d m2 h v H' t' rv (rM'.sub s2)
    · obtain ⟨m2, s2, h⟩ := h
      exact w'.go x' m2 h cls dd H2 (t'.trans t2) xr (rM2.sub s2)
end
end
section
set_option maxHeartbeats 4000000
def Kn (h : Heap) (u : Value) : Ty → Prop
  | .non => u = .none
  | .bool => ∃ b, u = .bool b
  | .int => ∃ n t, u = .int n t
  | .str => ∃ x t, u = .str x t
  | .tuple => ∃ a, u = .ref a ∧ PySem.W.KitAt a "tuple" h
  | .list => ∃ a, u = .ref a ∧ PySem.W.KitAt a "list" h
  | .dict => ∃ a, u = .ref a ∧ PySem.W.KitAt a "dict" h
theorem Kn.kit {K : PySem.W.Frag} {h : Heap} {u : Value} : ∀ {t : Ty}, Kn h u t → ∃ P : Heap → Prop, PySem.W.KitX K u (.type t.n) P ∧ P h ∧ u ≠ .builtin "__main__.__loader__#opaque"
  | .non, k => by rw [show u = .none from k]; exact ⟨_, PySem.W.kitx_none, trivial, fun z => nomatch z⟩
  | .bool, ⟨b, e⟩ => by rw [e]; exact ⟨_, PySem.W.kitx_bool, trivial, fun z => nomatch z⟩
  | .int, ⟨n, t, e⟩ => by rw [e]; exact ⟨_, PySem.W.kitx_int, trivial, fun z => nomatch z⟩
  | .str, ⟨n, t, e⟩ => by rw [e]; exact ⟨_, PySem.W.kitx_str, trivial, fun z => nomatch z⟩
  | .tuple, ⟨a, e, k⟩ => by rw [e]; exact ⟨_, PySem.W.kitx_tuple, k, fun z => nomatch z⟩
  | .list, ⟨a, e, k⟩ => by rw [e]; exact ⟨_, PySem.W.kitx_list, k, fun z => nomatch z⟩
  | .dict, ⟨a, e, k⟩ => by rw [e]; exact ⟨_, PySem.W.kitx_dict, k, fun z => nomatch z⟩
theorem Kn.keep {h h' : Heap} {u : Value} (k : ∀ a o n, u = .ref a → h.get? a = some o → o.cls = .type n → h'.get? a = some o) : ∀ {t : Ty}, Kn h u t → Kn h' u t
  | .non, z => z
  | .bool, z => z
  | .int, z => z
  | .str, z => z
  | .tuple, ⟨a, e, o, h1, h2⟩ => ⟨a, e, o, k a o _ e h1 h2, h2⟩
  | .list, ⟨a, e, o, h1, h2⟩ => ⟨a, e, o, k a o _ e h1 h2, h2⟩
  | .dict, ⟨a, e, o, h1, h2⟩ => ⟨a, e, o, k a o _ e h1 h2, h2⟩
theorem zqs {X : Cx} {pins : List (Addr × Obj)} {σ : L2.St} {H : Hp} {s : Shared} {m : M} {d : D} {t : Ty} {v : V} {u : Value} (I : Inv X pins σ H s) (rM : RelM X.K H m) (e : tyD m d = some t) (r : Rep X.K H d v) (ru : RelV v u) : Kn s.heap u t := by
  cases d with
  | non => cases e; rw [show v = .non from r] at ru; exact ru
  | bl b => cases e; rw [show v = .bl b from r] at ru; exact ⟨b, ru⟩
  | int b => cases e; rw [show v = .int b from r] at ru; obtain ⟨t, h⟩ := ru; exact ⟨b, t, h⟩
  | str b => cases e; rw [show v = .str b from r] at ru; obtain ⟨t, h⟩ := ru; exact ⟨b, t, h⟩
  | tup ds =>
    cases e
    obtain ⟨a, xs, ev, hs, hr⟩ := r
    subst ev
    obtain ⟨its, _, ⟨o, h1, h2, _⟩, _⟩ := I.tuple hs
    exact ⟨a, ru, o, h1, h2⟩
  | fls ds =>
    cases e
    obtain ⟨a, xs, ev, hs, hr⟩ := r
    subst ev
    obtain ⟨its, _, ⟨o, n, h1, h2, _⟩, _⟩ := I.list hs.sq
    exact ⟨a, ru, o, h1, h2⟩
  | ref a =>
    have e' : (if (m.l a).isSome then some Ty.list else (match m a with | some (.dic _) => some .dict | _ => none)) = some t := e
    cases q : m.l a with
    | none =>
      rw [q] at e'
      replace e' : (match m a with | some (.dic _) => some Ty.dict | _ => none) = some t := by simpa using e'
      cases q2 : m a with
      | none => rw [q2] at e'; cases e'
      | some ob =>
        rw [q2] at e'
        cases ob with
        | dic ps =>
          cases e'
          obtain ⟨l, hl, _⟩ := rM a _ q2
          rw [show v = .ref a from r] at ru
          obtain ⟨_, _, vs, _, o, es, ep, h1, h2, _⟩ := I.hok a _ hl
          exact ⟨a, ru, o, h1, h2.1⟩
        | _ => cases e'
    | some es =>
      rw [q] at e'
      have e2 : t = .list := by simpa using e'.symm
      subst e2
      obtain ⟨xs, hx, hr⟩ := rM a _ (M.l_of q)
      rw [show v = .ref a from r] at ru
      obtain ⟨its, _, ⟨o, n, h1, h2, _⟩, _⟩ := I.list (SqL.of hx)
      exact ⟨a, ru, o, h1, h2⟩
  | ty n => cases e
def zcg (lo hi : Int) : D → Bool
  | .int i => decide (lo ≤ i) && decide (i ≤ hi)
  | _ => false
def zr0 (lo hi : Int) : Value → Bool
  | .int n _ => decide (lo ≤ n) && decide (n ≤ hi)
  | _ => false
theorem zqV {K : PySem.W.Frag} {H : Hp} {d : D} {v : V} {u : Value} {lo hi : Int} (r : Rep K H d v) (ru : RelV v u) : zcg lo hi d = zr0 lo hi u := by
  cases d with
  | int i => rw [show v = .int i from r] at ru; obtain ⟨t, e⟩ := ru; rw [e]; rfl
  | non => rw [show v = .non from r] at ru; rw [show u = _ from ru]; rfl
  | bl b => rw [show v = .bl b from r] at ru; rw [show u = _ from ru]; rfl
  | str b => rw [show v = .str b from r] at ru; obtain ⟨t, e⟩ := ru; rw [e]; rfl
  | ty b => rw [show v = .ty b from r] at ru; rw [show u = _ from ru]; rfl
  | ref a => rw [show v = .ref a from r] at ru; rw [show u = _ from ru]; rfl
  | tup ds => obtain ⟨a, xs, e, _⟩ := r; rw [e] at ru; rw [show u = _ from ru]; rfl
  | fls ds => obtain ⟨a, xs, e, _⟩ := r; rw [e] at ru; rw [show u = _ from ru]; rfl
theorem zl8 {K : PySem.W.Frag} {mg : Str → Option Value} {h h' : Heap} (m : Mod K mg h) (k : ∀ b o, h.get? b = some o → h'.get? b = some o) : Mod K mg h' :=
  ⟨m.kin.keeps k, m.glob.keeps k, let ⟨mb, a, b⟩ := m.blt; ⟨mb, a.keeps k, b⟩, m.nolimit.keeps k⟩
section
variable {prog : Program} {w : World} {A : Around} {E : Value → Shared → Prop} {s : Shared} {K : PySem.W.Frag} {mg : Str → Option Value}
theorem ldL {env : Env} {m : Str → Option Value} {x : Str} {pos : Pos} {v : Value} {Q : Value → Shared → Prop} (hk : env.scope.kind = .function) (hn : s.heap.Ns env.locals m) (hv : m x = some v) (h : Q v s)
    (hl : env.kindOf x = some .local := by rfl) (hd : (x == ("__debug__" : Str)) = false := by decide) :
    wpAny (model prog w) A (eval (.Name x pos) env) Q E s := wpAny_Name (wpAny_loadName_local hk hl hn hv h) hd
theorem ldB {env : Env} {x : Str} {u : Value} {pos : Pos} {Q : Value → Shared → Prop} (M : Mod K mg s.heap) (hk : env.scope.kind = .function) (hG : env.globals = mainGlobals) (hB : env.builtins = builtinsNs) (hm : mg x = none) (hv : bootBuiltins x = some u) (h : Q u s)
    (hg : env.kindOf x = some .globalImplicit := by rfl) (hn : x ≠ "__name__" := by decide) (hd : (x == ("__debug__" : Str)) = false := by decide) : wpAny (model prog w) A (eval (.Name x pos) env) Q E s := by
  obtain ⟨mb, h1, h2⟩ := M.blt
  exact Calls.Name_function_global hk hg (Calls.loadGlobal_builtin (by rw [hG]; exact M.glob) hm (by rw [hB]; exact h1) ((h2 x hn).trans hv) h) hd
theorem ldF {env : Env} {x : Str} {u : Value} {pos : Pos} {Q : Value → Shared → Prop} (M : Mod K mg s.heap) (hk : env.scope.kind = .function) (hG : env.globals = mainGlobals) (hm : mg x = some u) (h : Q u s)
    (hg : env.kindOf x = some .globalImplicit) (hd : (x == ("__debug__" : Str)) = false := by decide) : wpAny (model prog w) A (eval (.Name x pos) env) Q E s :=
  Calls.Name_function_global hk hg (Calls.loadGlobal_global (by rw [hG]; exact M.glob) hm h) hd
theorem zjW {env : Env} {m : Str → Option Value} {x y : Str} {p1 p2 p3 p4 : Pos} {v : Value} {t c : Ty} {Q : Value → Shared → Prop} (M : Mod K mg s.heap) (hk : env.scope.kind = .function) (hG : env.globals = mainGlobals) (hB : env.builtins = builtinsNs)
    (hi : mg "isinstance" = none) (hy : mg y = none) (hv : bootBuiltins y = some (.type c.n)) (hn : s.heap.Ns env.locals m) (hx : m x = some v) (k : Kn s.heap v t) (h : ∀ tk, Q (.bool (t.sub c)) { s with toks := tk })
    (hl : env.kindOf x = some .local := by rfl) (hgi : env.kindOf "isinstance" = some .globalImplicit := by rfl) (hgy : env.kindOf y = some .globalImplicit := by rfl) (hd : (x == ("__debug__" : Str)) = false := by decide) (hny : y ≠ "__name__" := by decide) (hdy : (y == ("__debug__" : Str)) = false := by decide) :
    wpAny (model prog w) A (eval (.Call (.Name "isinstance" p1) [.Name x p2, .Name y p3] [] p4) env) Q E s := by
  refine wpAny_Call_Name_kw (ldB M hk hG hB hi (show bootBuiltins "isinstance" = some (.builtin "isinstance") by decide +kernel) ?_ hgi)
  refine PyProof.Rows.callWith_builtin1 (args_cons (ldL hk hn hx ?_ hl hd))
  refine args_cons (ldB M hk hG hB hy hv (args_nil ?_) hgy hny hdy)
  obtain ⟨P, Z, p, hx'⟩ := k.kit (K := K)
  exact PySem.W.kia_one Z M.kin p (zn4 t c) hx' h
structure zuN (K : PySem.W.Frag) (name : Str) (params : Arguments) (body : List Stmt) (scope : Scope) (f : Addr) : Prop where
  ex : ∃ (oc : Value) (od : Option Addr) (dV kV doc pm : Value) (an : Option Addr) (cdv ct : Value) (osl : Array (Option Value)),
    K.lookup f = some ⟨oc, od, .func (PySem.W.fnOf name name params body scope dV kV doc pm an cdv ct), osl⟩ ∧ PySem.W.codeIn K cdv name = true
end
section
open GxR
variable {X : Cx} {W : WX} {pins : List (Addr × Obj)} {σ : L2.St} {H : Hp} {s : Shared}
def trD (pb : D → Bool) (l : List D) (j : Nat) : Bool := match l[j]? with
  | some b => pb b
  | none => false
theorem zkj {pb : D → Bool} {l : List D} {j : Nat} {b : D} (h : l[j]? = some b) : trD pb l j = pb b := by
  unfold trD
  rw [h]
def zr1 (X : Cx) (pins : List (Addr × Obj)) (σ : L2.St) (H1 : Hp) (P : Addr) (l : List D) (pb : D → Bool) (g : Addr) (s5 : Shared) : Prop :=
  ∃ (fp wr : List Addr) (G : Array GenState → Array GenState → Prop) (F : Nat → Value → Prop) (St : Nat → Shared → Prop),
    WalksS X.prog X.w X.A.in1 g fp wr G l.length F St ∧ St 0 s5 ∧
    TruthOf X.prog X.w X.A.in1 F (trD pb l) ∧
    ∀ s', Moved wr G s5 s' → ∃ H2, Tabbed P H1 H2 ∧ Inv X pins σ H2 s'
theorem zoH {K : PySem.W.Frag} {H H2 : Hp} {m : M} {P : Addr} (r : RelM K H m) (hm : m P = some .tab) (t : Tabbed P H H2) : RelM K H2 m ∧ Tx H H2 := by
  obtain ⟨ps, hp, _⟩ := r P _ hm
  have tx : Tx H H2 := ⟨fun a xs e => by rw [t.2 a fun z => by rw [z, hp] at e; cases e]; exact e, fun a o u e => by rw [t.2 a fun z => by rw [z, hp] at e; cases e]; exact e⟩
  refine ⟨fun a o e => ?_, tx⟩
  by_cases h : a = P
  · subst h
    rw [hm] at e; cases e
    exact t.1
  · exact (r a o e).move tx fun v q => by rw [t.2 a h]; exact q
def zca (P : Addr) (pb : D → Bool) (te : AE) : AE := fun e m Q R => te e m (fun d m1 => match d with
  | .tup ds => m1 P = some .tab ∧ (∀ d ∈ ds, ∃ t, tyD m1 d = some t) ∧ Q (.bl (ds.all pb)) m1
  | _ => False) R
theorem zqW (l : List D) (pb : D → Bool) : (List.range l.length).all (trD pb l) = l.all pb := by
  rw [Bool.eq_iff_iff, List.all_eq_true, List.all_eq_true]
  constructor
  · intro h b hb
    obtain ⟨j, hj, e⟩ := List.getElem_of_mem hb
    have q := h j (List.mem_range.mpr hj)
    rw [zkj (List.getElem?_eq_getElem hj), e] at q
    exact q
  · intro h j hj
    have hj' := List.mem_range.mp hj
    rw [zkj (List.getElem?_eq_getElem hj')]
    exact h _ (List.getElem_mem hj')
end
end
section
set_option maxHeartbeats 4000000
structure Cal (P : Program) (w : World) (K : PySem.W.Frag) (mg : Str → Option Value) (base : Heap) (x : Str) (k n : Nat) (sp : ASp) : Prop where
  ex : ∃ (f : Addr) (fd : FuncData) (ps : List Str), FnOk P w K mg base (L2.CX P w) k f fd ps (lSp K n sp) ∧ mg x = some (.ref f) ∧ PySem.W.keepIn K (.ref f) = true ∧ Binds K fd ps []
theorem Cal.mono {P : Program} {w : World} {K : PySem.W.Frag} {mg : Str → Option Value} {base : Heap} {x : Str} {k j n : Nat} {sp : ASp} (c : Cal P w K mg base x k n sp) (h : k ≤ j) : Cal P w K mg base x j n sp :=
  let ⟨f, fd, ps, a, b⟩ := c.ex; ⟨f, fd, ps, a.mono h, b⟩
section
variable {X : Cx} {W : WX}
theorem g_c {x : Str} {k n : Nat} {sp : ASp} {p pos : Pos} {e : Expr} {es : List Expr} {t : AA} (C : Cal X.prog X.w X.K X.mg X.base x k n sp) (tk : Takes X W) (hr : Room k X.A) (ha : GA X W (e :: es) t) (hg : Gl X x := by rfl)
    (hdb : (x == ("__debug__" : Str)) = false := by decide) (he : starEach (e :: es) X.env = (false, eval e X.env) :: starEach es X.env := by rfl) (hpl : (backTo pos (starEach es X.env)).any (·.1) = false := by rfl) :
    GE X W (.Call (.Name x p) (e :: es) [] pos) (aCall n sp t) := by
  obtain ⟨f, fd, ps, F, hm, hk, hb⟩ := C.ex
  exact zrU F tk hr hm hk hb ha hg hdb he hpl
def CI (mg : Str → Option Value) (x : Str) (i : Int) : Prop := ∃ t, mg x = some (.int i t)
theorem zcC {x : Str} {i : Int} {pos : Pos} (c : CI X.mg x i) (hg : Gl X x := by rfl) (hd : (x == ("__debug__" : Str)) = false := by decide) : GE X W (.Name x pos) (aC (.int i)) := by
  obtain ⟨t, h⟩ := c
  exact zmZ (v := .int i) hg h ⟨t, rfl⟩ (fun _ => rfl) hd
theorem zeA {a : Expr} {ta : AE} (ha : GE X W a ta) (he : ∀ whole, isTrue a X.env whole = (do let v ← whole; standAt a.pos; holding [v] (truthy v)) := by intro _; rfl) : GT X W a (zM ta) := zkE (pt_val ha he) fun σ H Q h => by
  obtain ⟨e, m, P, R, rE, rM, t, q, w⟩ := zqo h
  exact ⟨e, m, P, R, rE, rM, t, q, w⟩
end
structure Bi (mg : Str → Option Value) : Prop where
  len : mg "len" = none
  int : mg "int" = none
  bool : mg "bool" = none
  str : mg "str" = none
  tuple : mg "tuple" = none
  list : mg "list" = none
  isinstance : mg "isinstance" = none
  range : mg "range" = none
  all : mg "all" = none
  any : mg "any" = none
  min : mg "min" = none
  max : mg "max" = none
  reversed : mg "reversed" = none
  sorted : mg "sorted" = none
  enumerate : mg "enumerate" = none
  zip : mg "zip" = none
  dict : mg "dict" = none
  sum : mg "sum" = none
  abs : mg "abs" = none
  set : mg "set" = none
theorem zfA : bootBuiltins "len" = some (.builtin "len") := by decide +kernel
theorem zeo : bootBuiltins "int" = some (.type "int") := by decide +kernel
theorem zn5 : bootBuiltins "bool" = some (.type "bool") := by decide +kernel
theorem zig : bootBuiltins "tuple" = some (.type "tuple") := by decide +kernel
theorem zn6 : bootBuiltins "list" = some (.type "list") := by decide +kernel
theorem zm6 : bootBuiltins "max" = some (.builtin "max") := by decide +kernel
section
variable {P : Program} {w : World} {K : PySem.W.Frag} {mg : Str → Option Value} {base : Heap}
theorem zX {x : Str} {params : Arguments} {body : List Stmt} {scope : Scope} {f : Addr} {fd : FuncData} {N ps : List Str} {k n : Nat} {b : AS} (F : FunD K x x params body scope [] [] f fd) (hm : mg x = some (.ref f)) (bd : Binds K fd ps []) (S : FnScope N ps scope) (hn : ps.length = n)
    (hb : ∀ (cdv : Value) (A : Around) (outer : List Env) (s : Shared) (H : Hp) (E : XK), Room k (A.deeper (envOfC x scope s.heap.objs.size f cdv)) → GSs (cxOf (L2.CX P w) P w K mg base N x scope f cdv A outer s H E) (WD E) body b) :
    Cal P w K mg base x (k + 1) n (aDef N.length b) := ⟨f, fd, ps, zpk F S hn hb, hm, F.kp, bd⟩
end
end
section
set_option maxHeartbeats 4000000
section
variable {P : Program} {w : World} {K : PySem.W.Frag} {mg : Str → Option Value} {base : Heap}
def spF (K : PySem.W.Frag) (sp : Sp) : Sp := fun vs H Q E => ∃ a xs, vs = [.ref a] ∧ ((FrL K H a xs ∧ sp vs H Q E) ∨ (H a = some (.lst xs) ∧ ∀ o, sp vs (upd H a (.frz o (.lst xs))) Q E))
theorem zpl {k : Nat} {f : Addr} {fd : FuncData} {x : Str} {sp : Sp} (F : FnOk P w K mg base (L2.CX P w) k f fd [x] sp) : FnOk P w K mg base (L2.CX P w) k f fd [x] (spF K sp) := by
  refine ⟨fun vs H Q E h => ?_, fun A outer s H args us vs Q E hr e0 hb hv h => ?_⟩
  · obtain ⟨a, xs, rfl, _⟩ := h
    rfl
  · obtain ⟨a, xs, e, h⟩ := h
    rcases h with ⟨_, h⟩ | ⟨hl, h⟩
    · exact F.run A outer s H args us vs Q E hr e0 hb hv h
    · obtain ⟨z, its, n, rv, ho⟩ := (show ObjOk P w H s.heap a (.lst xs) from e0.hok a _ hl)
      have at_ : ∀ b, b ≠ a → (upd H a (.frz { cls := .type "list", data := .seq its.toArray n } (.lst xs))) b = H b := fun b hb => upd_ne hb
      have ne : ∀ b u, H b = some u → (∀ ys, u ≠ .lst ys) → b ≠ a := fun b u q hu z => by rw [z, hl] at q; cases q; exact hu xs rfl
      have nn : ∀ b, H b = none → b ≠ a := fun b q z => by rw [z, hl] at q; cases q
      have e1 : Env0 P w K mg base A outer s (upd H a (.frz { cls := .type "list", data := .seq its.toArray n } (.lst xs))) := by
        refine ⟨e0.frames, e0.mod, fun b o q => ⟨(e0.bs b o q).1, by rw [at_ b (nn b (e0.bs b o q).2)]; exact (e0.bs b o q).2⟩, e0.bsz, e0.funs, fun b q => by rw [at_ b (nn b (e0.frf b q))]; exact e0.frf b q, fun b u q => ?_, e0.bare⟩
        by_cases hb : b = a
        · subst hb
          rw [upd_same] at q
          cases q
          exact ⟨ho, z, its, n, rv, ho⟩
        · rw [at_ b hb] at q
          refine (e0.hok b u q).stay (fun c v _ y => y) (fun c y => by rw [at_ c (ne c _ y fun ys t => by cases t)]; exact y) fun c ys y => by rw [at_ c (ne c _ y fun ys t => by cases t)]; exact y
      refine codeAny_mono (F.run A outer s _ args us vs Q E hr e1 hb hv (h _)) fun r s' q => ?_
      cases r with
      | error e =>
        obtain ⟨ax, B, H', cls, d, q1, q2, q3, u, q4⟩ := q
        refine ⟨ax, B, H', cls, d, q1, q2, q3, ⟨fun b o e n hb => u.keep b o e (by rw [at_ b (nn b n)]; exact n) hb, u.slot, fun b o e n => u.free b o e (by rw [at_ b (nn b n)]; exact n), u.there, fun b ys y => u.tups b ys (by rw [at_ b (ne b _ y fun ys t => by cases t)]; exact y), fun b o ys y => u.frzs b o ys (by rw [at_ b (ne b _ y fun ys t => by cases t)]; exact y), fun b ps y => u.tbls b ps (by rw [at_ b (ne b _ y fun ys t => by cases t)]; exact y)⟩, q4⟩
      | ok fl =>
        cases fl with
        | ret v =>
          obtain ⟨x', H', q1, q2, u, q4⟩ := q
          exact ⟨x', H', q1, q2, ⟨fun b o e n hb hx => u.keep b o e (by rw [at_ b (nn b n)]; exact n) hb hx, fun b o e n hb hx => u.slot b o e (by rw [at_ b (nn b n)]; exact n) hb hx, fun b o e n hx => u.free b o e (by rw [at_ b (nn b n)]; exact n) hx, u.there, fun b ys y => u.tups b ys (by rw [at_ b (ne b _ y fun ys t => by cases t)]; exact y), fun b o ys y => u.frzs b o ys (by rw [at_ b (ne b _ y fun ys t => by cases t)]; exact y), fun b ps y => u.tbls b ps (by rw [at_ b (ne b _ y fun ys t => by cases t)]; exact y)⟩, q4⟩
        | next => exact q
        | brk => exact q
        | cont => exact q
theorem zpR {x : Str} {params : Arguments} {body : List Stmt} {scope : Scope} {fd : FuncData} {N ps : List Str} {k n : Nat} {b : AS} (F : FunD K x x params body scope [] [] (He.fAd K (x, none)) fd) (hm : mg x = some (.ref (He.fAd K (x, none)))) (bd : Binds K fd ps []) (S : FnScope N ps scope) (hn : ps.length = n)
    (hb : ∀ (A : Around) (outer : List Env) (s : Shared) (H : Hp) (E : XK), Room k (A.deeper (envOfC x scope s.heap.objs.size (He.fAd K (x, none)) (.ref (He.codeOf K (x, none))))) → GSs (cxOf (L2.CX P w) P w K mg base N x scope (He.fAd K (x, none)) (.ref (He.codeOf K (x, none))) A outer s H E) (WD E) body b) :
    Cal P w K mg base x (k + 1) n (aDef N.length b) := by
  refine ⟨_, fd, ps, ?_, hm, F.kp, bd⟩
  obtain ⟨oc, od, dV, kV, doc, pm, an, cdv, ct, osl, rfl, lk, hcd, _, _⟩ := F.ex
  obtain ⟨c, rfl⟩ := He.codeIn_ref hcd
  have ec : He.codeOf K (x, none) = c := He.codeOf_eq (p := (x, none)) lk rfl
  rw [ec] at hb
  refine fn_of lk hcd S (fun vs H Q E h => ?_) (fun A outer s H vs Q E hr h => ⟨_, hb A outer s H E hr, ?_⟩)
  · obtain ⟨ds, m, P', R, e, r, _⟩ := h
    rw [← r.length, e, hn]
  · obtain ⟨ds, m, P', R, e, r, rM, t, q, w'⟩ := h
    refine ⟨_, m, _, RelE.start r, rM, t, ⟨fun e' m' h σ' H' t' rE rM' => ?_, fun d m' h v H' t' rv rM' => ?_, fun _ _ h => h.elim, fun _ _ h => h.elim, fun e' σ' H' t' rE => ⟨fun x' m' h cls dd H2 t2 xr rM2 => ?_⟩⟩⟩
    · obtain ⟨m2, s2, h⟩ := h
      exact q .non m2 h .non H' t' rfl (rM'.sub s2)
    · obtain ⟨m2, s2, h⟩ := h
      exact q d m2 h v H' t' rv (rM'.sub s2)
    · obtain ⟨m2, s2, h⟩ := h
      exact w'.go x' m2 h cls dd H2 (t'.trans t2) xr (rM2.sub s2)
end
end
theorem zr2 {l : List (Str × NameKind)} {p : Str × NameKind → Prop} (h : (l.all fun y => !decide (y.2 = .free)) = true) : ∀ y ∈ l, y.2 = .free → p y := fun y hy hf => by
  have := List.all_eq_true.mp h y hy
  rw [decide_eq_true hf] at this
  cases this
theorem zs1 {P : Program} {w : World} {H : Hp} {s : Shared} {e : Value} {s' : Shared} (h : L2.CX P w [] H s (fun _ _ _ => False) e s') : False := by
  obtain ⟨_, _, _, _, _, _, _, _, _, _, _, _, z⟩ := h
  exact z
section
theorem z7 {m : M} {a : Addr} {ds : List D} : (mset m a (.lst ds)).l a = some ds := by unfold M.l; rw [zq]
theorem l_ne {m : M} {a b : Addr} {o : O} (h : b ≠ a) : (mset m a o).l b = m.l b := by unfold M.l; rw [zaX h]
theorem l_of {m : M} {a : Addr} {ds : List D} (h : m a = some (.lst ds)) : m.l a = some ds := by unfold M.l; rw [h]
theorem atI_nat {α : Type} {xs : List α} {i : Int} (h0 : 0 ≤ i) (h1 : i < xs.length) : atI xs i = xs[i.toNat]? := by
  unfold atI ixN
  rw [if_pos h0, if_pos h1]
  rfl
section
variable {α : Type} {a b c d e f g h i j : α} {l : List α}
theorem at0 : atI (a :: l) 0 = some a := by rw [atI_nat (by decide) (by simp only [List.length_cons]; omega)]; rfl
theorem at1 : atI (a :: b :: l) 1 = some b := by rw [atI_nat (by decide) (by simp only [List.length_cons]; omega)]; rfl
theorem at2 : atI (a :: b :: c :: l) 2 = some c := by rw [atI_nat (by decide) (by simp only [List.length_cons]; omega)]; rfl
theorem at3 : atI (a :: b :: c :: d :: l) 3 = some d := by rw [atI_nat (by decide) (by simp only [List.length_cons]; omega)]; rfl
theorem at4 : atI (a :: b :: c :: d :: e :: l) 4 = some e := by rw [atI_nat (by decide) (by simp only [List.length_cons]; omega)]; rfl
theorem at5 : atI (a :: b :: c :: d :: e :: f :: l) 5 = some f := by rw [atI_nat (by decide) (by simp only [List.length_cons]; omega)]; rfl
theorem ix0 {n : Nat} : ixN (n + 1) 0 = some 0 := by unfold ixN; rw [if_pos (by decide), if_pos (by omega)]; rfl
theorem ix1 {n : Nat} : ixN (n + 2) 1 = some 1 := by unfold ixN; rw [if_pos (by decide), if_pos (by omega)]; rfl
theorem ix2 {n : Nat} : ixN (n + 3) 2 = some 2 := by unfold ixN; rw [if_pos (by decide), if_pos (by omega)]; rfl
theorem ix3 {n : Nat} : ixN (n + 4) 3 = some 3 := by unfold ixN; rw [if_pos (by decide), if_pos (by omega)]; rfl
end
theorem zc2 {p : Prop} [Decidable p] {a b : Prop} (h : p → a) (h' : ¬p → b) : if p then a else b := by
  split
  · exact h ‹_›
  · exact h' ‹_›
end
section
set_option maxHeartbeats 4000000
def zcA : D → Bool
  | .non => true
  | .bl _ => true
  | .int _ => true
  | .str _ => true
  | _ => false
def D.fv : D → V
  | .bl b => .bl b
  | .int i => .int i
  | .str x => .str x
  | _ => .non
section
variable {K : PySem.W.Frag} {H : Hp}
theorem zkk {d : D} {v : V} (f : zcA d = true) (r : Rep K H d v) : v = d.fv ∧ flatV v = true := by
  cases d with
  | non => rw [show v = .non from r]; exact ⟨rfl, rfl⟩
  | bl b => rw [show v = .bl b from r]; exact ⟨rfl, rfl⟩
  | int i => rw [show v = .int i from r]; exact ⟨rfl, rfl⟩
  | str x => rw [show v = .str x from r]; exact ⟨rfl, rfl⟩
  | _ => cases f
theorem zjx : ∀ {ds : List D} {vs : List V}, ds.all zcA = true → Reps K H ds vs → vs = ds.map D.fv ∧ vs.all flatV = true
  | [], _, _, h => by rw [show _ = [] from h]; exact ⟨rfl, rfl⟩
  | d :: ds, _, f, ⟨x, r, e, h, hr⟩ => by
    rw [List.all_cons, Bool.and_eq_true] at f
    obtain ⟨a, b⟩ := zkk f.1 h
    obtain ⟨c, d'⟩ := zjx f.2 hr
    rw [e, List.all_cons, b, d', a, c]
    exact ⟨rfl, rfl⟩
end
def inF (x : D) (ds : List D) : Bool := ds.any fun z => eqV z.fv x.fv
def zdj (neg : Bool) : AR2 := fun x y m Q => match zaB m y with
  | some ds => (zcA x = true ∧ ds.all zcA = true) ∧ Q (.bl (if neg = true then !inF x ds else inF x ds)) m
  | none => False
section
variable {X : Cx} {W : WX}
theorem zl9 {K : PySem.W.Frag} {H : Hp} {m : M} {d : D} {v : V} {ds : List D} (rM : RelM K H m) (e : zaB m d = some ds) (r : Rep K H d v) : ∃ p xs, v = .ref p ∧ (SqL K H p xs ∨ SqT K H p xs) ∧ Reps K H ds xs := by
  cases d with
  | tup es => cases e; obtain ⟨a, xs, ev, hs, hr⟩ := r; exact ⟨a, xs, ev, .inr hs, hr⟩
  | fls es => cases e; obtain ⟨a, xs, ev, hs, hr⟩ := r; exact ⟨a, xs, ev, .inl hs.sq, hr⟩
  | ref a =>
    obtain ⟨xs, hx, hr⟩ := rM a _ (M.l_of (show m.l a = some ds from e))
    exact ⟨a, xs, r, .inl (SqL.of hx), hr⟩
  | _ => cases e
theorem zr3 {K : PySem.W.Frag} {neg : Bool} {x y : V} {H : Hp} {Q : VK} (h : lR2 K (zdj neg) x y H Q) : rIn K neg x y H Q := by
  obtain ⟨d1, d2, m, P, r1, r2, rM, h, q⟩ := h
  have h' : (match zaB m d2 with | some ds => (zcA d1 = true ∧ ds.all zcA = true) ∧ P (.bl (if neg = true then !inF d1 ds else inF d1 ds)) m | none => False) := h
  cases e : zaB m d2 with
  | none => rw [e] at h'; exact h'.elim
  | some ds =>
    rw [e] at h'
    obtain ⟨⟨f1, f2⟩, p⟩ := h'
    obtain ⟨a, xs, ev, hs, hr⟩ := zl9 rM e r2
    obtain ⟨e1, g1⟩ := zkk f1 r1
    obtain ⟨e2, g2⟩ := zjx f2 hr
    refine ⟨a, xs, ev, hs, g1, g2, ?_⟩
    have : inV x xs = inF d1 ds := by
      unfold inV inF
      rw [e1, e2, List.any_map]
      rfl
    rw [this]
    exact q _ m p _ H (Tx.refl H) rfl rM
theorem zuh : OpR X (compareOp .In) (lR2 X.K (zdj false)) := fun pins s σ H x y v u Q I rx ry h => op_in_seq pins s σ H x y v u Q I rx ry (zr3 h)
def D.tr : D → Bool
  | .bl b => b
  | .int i => i != 0
  | _ => false
def D.isNum : D → Bool
  | .bl _ => true
  | .int _ => true
  | _ => false
def D.pd : D → PyData
  | .bl b => .bool b
  | .int i => .int i
  | _ => .none
def zkK : ARL := fun ds m Q => match ds with
  | [.tup es] => es.all D.isNum = true ∧ Q (.bl (es.any D.tr)) m
  | _ => False
theorem zpm : ∀ {es : List D}, es.all D.isNum = true → PyData.plainAll (es.map D.pd) = true ∧ (∀ x ∈ es.map D.pd, x.fits63) ∧ (es.map D.pd).any PyData.truthy = es.any D.tr
  | [], _ => ⟨rfl, fun _ h => by simp at h, rfl⟩
  | d :: es, h => by
    rw [List.all_cons, Bool.and_eq_true] at h
    obtain ⟨a, b, c⟩ := zpm h.2
    cases d with
    | bl k =>
      refine ⟨by rw [List.map_cons, PyData.plainAll, a]; rfl, fun x hx => ?_, ?_⟩
      · rcases List.mem_cons.mp hx with e | e
        · rw [e]; trivial
        · exact b x e
      · rw [List.map_cons, List.any_cons, c]; rfl
    | int i =>
      refine ⟨by rw [List.map_cons, PyData.plainAll, a]; rfl, fun x hx => ?_, ?_⟩
      · rcases List.mem_cons.mp hx with e | e
        · rw [e]; trivial
        · exact b x e
      · rw [List.map_cons, List.any_cons, c]; rfl
    | _ => cases h.1
theorem zm7 {K : PySem.W.Frag} {H : Hp} : ∀ {es : List D} {vs : List V}, es.all D.isNum = true → Reps K H es vs → DpAll K H vs (es.map D.pd)
  | [], _, _, r => by rw [show _ = [] from r]; exact .nil
  | d :: es, _, h, ⟨x, r, e, hx, hr⟩ => by
    rw [List.all_cons, Bool.and_eq_true] at h
    rw [e]
    cases d with
    | bl k => rw [show x = .bl k from hx]; exact .cons (.bl k) (zm7 h.2 hr)
    | int k => rw [show x = .int k from hx]; exact .cons (.int k) (zm7 h.2 hr)
    | _ => cases h.1
theorem zpn (hc : X.calm = true) : CallR X (.builtin "any") (lRL X.K zkK) := by
  intro pins s σ H vs us Q I r h
  obtain ⟨ds, m, P, rs, rM, h, q⟩ := h
  match ds, h, rs with
  | [.tup es], h, rs =>
    obtain ⟨v, r', e, ⟨a, xs, ev, hs, hr⟩, e2⟩ := rs
    obtain rfl : r' = [] := e2
    subst e ev
    obtain ⟨its, rv, ht, _⟩ := I.tuple hs
    obtain ⟨n1, n2, n3⟩ := zpm h.1
    obtain ⟨as, ra⟩ := Dp.readsAll I _ _ its (zm7 h.1 hr) rv
    rw [Vals.ref1 r]
    refine PySem.W.any_tuple_data (vs := its.toArray) (I.ok.hd hc) ht (by simpa using ra) n1 n2 fun h' tk hk => ?_
    exact ⟨.bl _, H, I.kept hk, by rw [n3]; rfl, q _ m h.2 _ H (Tx.refl H) rfl rM⟩
def zbM (to ta : AE) : AE := fun e m Q R => to e m (fun o m1 => match o with
  | .ref a => (match m1.l a with
    | some _ => ta e m1 (fun d m2 => match m2.l a with
      | some ds => (zcA d = true ∧ ds.all zcA = true) ∧ ∃ j z, ds[j]? = some z ∧ eqV z.fv d.fv = true ∧ (∀ (i : Nat) z', i < j → ds[i]? = some z' → eqV z'.fv d.fv = false) ∧ Q (.int (j : Nat)) m2
      | none => False) R
    | none => False)
  | _ => False) R
theorem zn7 {o a : Expr} {to ta : AE} {apos cpos : Pos} (ho : GE X W o to) (ha : GE X W a ta) (hbase : attributeBase o "index" X.env (eval o X.env) = eval o X.env := by rfl)
    (hfew : ((backTo cpos (starEach [a] X.env)).all (fun x => !x.1) && (backToKw cpos (keywordEach [] X.env)).all (fun x => x.1.isSome)
      && decide ([a].length + ([] : List Keyword).length + (if ([] : List Keyword).isEmpty then 0 else 1) < 30)) = true := by rfl)
    (hline : (apos.endLine == cpos.line) = true := by rfl) (hs : starEach [a] X.env = (false, eval a X.env) :: starEach [] X.env := by rfl) (hplain : (backTo cpos (starEach [] X.env)).any (·.1) = false := by rfl) :
    GE X W (.Call (.Attribute o "index" apos) [a] [] cpos) (zbM to ta) := zbp (pe_bm PySem.F.plainAttrs_list PySem.F.slot_list_index PySem.F.type_list_index mt_index ho (pa_cons ha pa_nil hs) hbase hfew hline hs hplain) fun σ H Q h => by
  obtain ⟨e, m, P, R, rE, rM, t, q, w⟩ := h
  refine ⟨e, m, _, R, rE, rM, t, fun d m1 h1 v H1 t1 r1 rm1 => ?_, w⟩
  cases d with
  | ref b =>
    obtain rfl : v = .ref b := r1
    have h1' : (match m1.l b with | some _ => ta e m1 (fun d m2 => match m2.l b with | some ds => (zcA d = true ∧ ds.all zcA = true) ∧ ∃ j z, ds[j]? = some z ∧ eqV z.fv d.fv = true ∧ (∀ (i : Nat) z', i < j → ds[i]? = some z' → eqV z'.fv d.fv = false) ∧ P (.int (j : Nat)) m2 | none => False) R | none => False) := h1
    cases e1 : m1.l b with
    | none => rw [e1] at h1'; exact h1'.elim
    | some ds1 =>
      rw [e1] at h1'
      obtain ⟨xs1, hx1, _⟩ := rm1 b _ (M.l_of e1)
      refine ⟨.inl ⟨rfl, _, SqL.of hx1⟩, e, m1, _, R, rE.mono t1, rm1, h1', fun d2 m2 h2 v2 H2 t2 r2 rm2 => ?_, w.mono t1⟩
      have h2' : (match m2.l b with | some ds => (zcA d2 = true ∧ ds.all zcA = true) ∧ ∃ j z, ds[j]? = some z ∧ eqV z.fv d2.fv = true ∧ (∀ (i : Nat) z', i < j → ds[i]? = some z' → eqV z'.fv d2.fv = false) ∧ P (.int (j : Nat)) m2 | none => False) := h2
      cases e2 : m2.l b with
      | none => rw [e2] at h2'; exact h2'.elim
      | some ds =>
        rw [e2] at h2'
        obtain ⟨⟨f1, f2⟩, j, z, hj, hz, hn, p⟩ := h2'
        obtain ⟨xs, hx, hr⟩ := rm2 b _ (M.l_of e2)
        obtain ⟨k1, k2⟩ := zkk f1 r2
        obtain ⟨k3, k4⟩ := zjx f2 hr
        refine ⟨b, xs, v2, j, z.fv, rfl, rfl, SqL.of hx, k2, k4, by rw [k3, List.getElem?_map, hj]; rfl, by rw [k1]; exact hz, fun i z' hi hz' => ?_, q _ m2 p _ H2 (t1.trans t2) rfl rm2⟩
        rw [k3, List.getElem?_map] at hz'
        cases e3 : ds[i]? with
        | none => rw [e3] at hz'; cases hz'
        | some y => rw [e3] at hz'; cases hz'; rw [k1]; exact hn i y hi e3
  | _ => exact h1.elim
structure CT (K : PySem.W.Frag) (mg : Str → Option Value) (x : Str) (zs : List Str) : Prop where
  ex : ∃ (a : Addr) (o : Obj) (its : Array Value) (n : Nat), mg x = some (.ref a) ∧ K.lookup a = some o ∧ o.cls = .type "tuple" ∧ o.dict = none ∧ o.data = .seq its n ∧ its.size ≤ sizeLine ∧ Vals (zs.map V.str) its.toList
theorem zma : ∀ {l : List Value} {zs : List Str}, l.map zrR = zs.map some → Vals (zs.map V.str) l
  | [], [], _ => .nil
  | [], _ :: _, h => by cases h
  | _ :: _, [], h => by cases h
  | v :: l, z :: zs, h => by
    rw [List.map_cons, List.map_cons] at h
    obtain ⟨a, b⟩ := List.cons.inj h
    refine .cons ?_ (zma b)
    cases v with
    | str y t => cases a; exact ⟨t, rfl⟩
    | _ => cases a
theorem zqt {K : PySem.W.Frag} {h : Heap} {mg : Str → Option Value} {x : Str} {zs : List Str} (KX : K.In h) (G : h.Ns mainGlobals mg) (c : zmL K x zs = true) : CT K mg x zs := by
  unfold zmL at c
  split at c
  · next a ea =>
    split at c
    · next t its n sl eo =>
      obtain ⟨c1, c2⟩ := Bool.and_eq_true_iff.mp c
      obtain ⟨c2, c3⟩ := Bool.and_eq_true_iff.mp c2
      have c1 := of_decide_eq_true c1
      have c2 := of_decide_eq_true c2
      have c3 := of_decide_eq_true c3
      subst c1
      have lz : its.size ≤ 100 := by
        have := congrArg List.length c2
        simp at this
        omega
      exact ⟨a, _, its, n, PySem.W.mg_of KX G ea, eo, rfl, rfl, rfl, Nat.le_trans lz (by decide), zma c2⟩
    · cases c
  · cases c
theorem zmb {K : PySem.W.Frag} {H : Hp} : ∀ zs : List Str, Reps K H (zs.map D.str) (zs.map V.str)
  | [] => rfl
  | z :: zs => ⟨_, _, rfl, rfl, zmb zs⟩
theorem zr4 {K : PySem.W.Frag} {mg : Str → Option Value} {x : Str} {zs : List Str} (c : CT K mg x zs) : ∃ a, mg x = some (.ref a) ∧ (∃ o, K.lookup a = some o ∧ o.cls = .type "tuple" ∧ o.dict = none) ∧ ∀ H, SqT K H a (zs.map V.str) := by
  obtain ⟨a, o, its, n, h1, h2, h3, h4, h5, h6, h7⟩ := c
  exact ⟨a, h1, ⟨o, h2, h3, h4⟩, fun H => .inr ⟨o, its, n, h2, h3, h5, h6, h7⟩⟩
theorem zm8 {x : Str} {zs : List Str} {pos : Pos} (c : CT X.K X.mg x zs) (hg : Gl X x := by rfl) (hd : (x == ("__debug__" : Str)) = false := by decide) : GE X W (.Name x pos) (aC (.tup (zs.map D.str))) := by
  obtain ⟨a, h, _, s⟩ := zr4 c
  exact zmZ (v := .ref a) hg h rfl (fun H => ⟨a, _, rfl, s H, zmb zs⟩) hd
def zcW (zs : List Str) (ta : AE) : AE := fun e m Q R => ta e m (fun d m1 => match d with
  | .str z => ∃ j, zs[j]? = some z ∧ (∀ i, i < j → zs[i]? ≠ some z) ∧ Q (.int (j : Nat)) m1
  | _ => False) R
end
end
section
section
variable {ds es : List D} {i j k : Int} {m : M} {Q : PQ} {a b : Addr} {x : Str} {p q : Bool}
theorem ixT : zap (.tup ds) (.int i) m Q = (match atI ds i with | some d => Q d m | none => False) := rfl
theorem ixF : zap (.fls ds) (.int i) m Q = (match atI ds i with | some d => Q d m | none => False) := rfl
theorem ixR : zap (.ref a) (.int i) m Q = (match m.l a with | some ds => (match atI ds i with | some d => Q d m | none => False) | none => False) := rfl
theorem zdM : zbR [.int i] m Q = Q (.int i) m := rfl
theorem zdN : zbR [.bl p] m Q = Q (.int (if p then 1 else 0)) m := rfl
theorem zdO : za5 [.tup ds] m Q = Q (.tup ds) m := rfl
theorem zdP : za5 [.fls ds] m Q = Q (.tup ds) m := rfl
theorem zdt : za5 [.ref a] m Q = (match m.l a with | some es => Q (.tup es) m | none => False) := rfl
theorem zdk : zR (.int i) (.int j) m Q = Q (.int (i + j)) m := rfl
theorem zcH : zR (.tup ds) (.tup es) m Q = (ds.length + es.length ≤ big ∧ Q (.tup (ds ++ es)) m) := rfl
theorem zdu : zR (.ref a) (.ref b) m Q = (match m.l a, m.l b with | some xs, some ys => xs.length + ys.length ≤ big ∧ ∀ p, m p = none → Q (.ref p) (mset m p (.lst (xs ++ ys))) | _, _ => False) := rfl
theorem zdQ : zaj (.int i) (.int j) m Q = (CMulW i j ∧ Q (.int (i * j)) m) := rfl
theorem zdv : zaj (.tup ds) (.int k) m Q = ((ds ≠ [] ∧ 2 ≤ k ∧ k ≤ 1000 ∧ ds.length ≤ 1000) ∧ Q (.tup (List.replicate k.toNat ds).flatten) m) := rfl
theorem zdw : zaj (.ref a) (.int k) m Q = (match m.l a with
    | some xs => (-(2 ^ 62) ≤ k ∧ k < 2 ^ 62 ∧ xs.length * k.toNat ≤ big) ∧ ∀ p, m p = none → Q (.ref p) (mset m p (.lst (List.replicate k.toNat xs).flatten))
    | none => False) := rfl
theorem slT {l u : Option Int} : Ab.rSlA (.tup ds) l u m Q = Q (.tup (Ab.cutD ds l u)) m := rfl
theorem slR {l u : Option Int} : Ab.rSlA (.ref a) l u m Q = (match m.l a with | some ds => ∀ p, m p = none → Q (.ref p) (mset m p (.lst (Ab.cutD ds l u))) | none => False) := rfl
theorem i2 {f : Int → Int → D} : zb7 f (.int i) (.int j) m Q = Q (f i j) m := rfl
theorem c2 {C : Int → Int → Prop} {f : Int → Int → D} : zct C f (.int i) (.int j) m Q = (C i j ∧ Q (f i j) m) := rfl
theorem zdR : zc7 (.int i) m Q = Q (.int (-i)) m := rfl
theorem isB : zdr (.bl p) (.bl q) m Q = Q (.bl (decide (p = q))) m := rfl
theorem isN {d : D} : zdr d .non m Q = Q (.bl d.isNon) m := by cases d <;> rfl
theorem zdS : zbt (.bl p) (.bl q) m Q = Q (.bl (!decide (p = q))) m := rfl
theorem zdx {d : D} : zbt d .non m Q = Q (.bl (!d.isNon)) m := by cases d <;> rfl
theorem eqI : zbV (.int i) (.int j) m Q = Q (.bl (decide (i = j))) m := rfl
theorem eqS {y : Str} : zbV (.str x) (.str y) m Q = Q (.bl (decide (x = y))) m := rfl
theorem eqB : zbV (.bl p) (.bl q) m Q = Q (.bl (decide (p = q))) m := rfl
theorem neI : zcv (.int i) (.int j) m Q = Q (.bl (!decide (i = j))) m := rfl
theorem neB : zcv (.bl p) (.bl q) m Q = Q (.bl (!decide (p = q))) m := rfl
theorem zdT : D.isNon .non = true := rfl
theorem zdU : D.isNon (.tup ds) = false := rfl
theorem zdl : zdi m (.tup ds) = some ds.length := rfl
theorem zdV : zdi m (.fls ds) = some ds.length := rfl
theorem zdW : zdi m (.ref a) = (m.l a).map List.length := rfl
theorem itT : zaB m (.tup ds) = some ds := rfl
theorem itF : zaB m (.fls ds) = some ds := rfl
theorem itR : zaB m (.ref a) = m.l a := rfl
theorem zdX : zc8 [.int i, .int j] m Q = Q (.int (if j < i then j else i)) m := rfl
theorem zdY : zcV [.int i, .int j] m Q = Q (.int (if j > i then j else i)) m := rfl
theorem zde : zkK [.tup es] m Q = (es.all D.isNum = true ∧ Q (.bl (es.any D.tr)) m) := rfl
def zkL (x : D) (m : M) (k : List D → Prop) : Prop := match x with
  | .tup ds => k ds
  | .ref a => (match m a with
    | some (.lst ds) => k ds
    | _ => False)
  | _ => False
theorem zcw {ta : AE} {tr : AA} {e : En} {Q' : List D → M → Prop} {R : PX} : zcU ta tr e m Q' R = ta e m (fun x m1 => zkL x m1 fun ds => tr e m1 (fun xs m2 => Q' (ds ++ xs) m2) R) R := by
  unfold zcU
  congr 1
theorem zcX {k : List D → Prop} : zkL (.tup ds) m k = k ds := rfl
theorem zcY {k : List D → Prop} : zkL (.ref a) m k = (match m a with | some (.lst ds) => k ds | _ => False) := rfl
end
theorem zpo : bootBuiltins "any" = some (.builtin "any") := by decide +kernel
end
section
section
variable {e : En} {m : M} {Q : PQ} {R : PX} {A : zaU} {ta tb te : AE} {t u : AS} {i : Nat} {d : D}
theorem zal (h : t { A with nx := u A } e m) : zB t u A e m := h
theorem zgo (h : te e m A.rt (A.xe e)) : zP te A e m := h
theorem zdZ {g : AG} (h : te e m (fun d m1 => g d e m1 A.nx) (A.xe e)) : zJ te g A e m := h
theorem zoI (h : te e m (fun d m1 => A.nx (e.s i d) m1) (A.xe e)) : zJ te (aN i) A e m := h
theorem zcx (h : te e m (fun _ m1 => A.nx e m1) (A.xe e)) : zQ te A e m := h
theorem nextI (h : A.nx e m) : zU A e m := h
theorem ifI {c : AT} (h : c e m (fun b m1 => if b = true then t A e m1 else u A e m1) (A.xe e)) : zaa c t u A e m := h
theorem zdf {P : Bool → M → Prop} (h : te e m (fun d m' => match d with | .bl b => P b m' | _ => False) R) : zM te e m P R := h
theorem zlu {ti : AI} {g : AG} {b : AS} (h : ti e m (fun its gd m1 => forL g b gd its A e m1) (A.xe e)) : za0 ti g b A e m := h
theorem r1I {P : List D → (M → Prop) → M → Prop} (h : ta e m (fun d m1 => match d with | .int j => (-(2 ^ 62) ≤ j ∧ j < 2 ^ 62) ∧ P (zej 0 j.toNat) (fun _ => True) m1 | _ => False) R) : zbP (zb ta zm) e m P R := by
  show ta e m _ R
  refine (show (fun x m1 => zm e m1 (fun xs m2 => (match x :: xs with | [.int j] => (-(2 ^ 62) ≤ j ∧ j < 2 ^ 62) ∧ P (zej 0 j.toNat) (fun _ => True) m2 | _ => False)) R) = (fun (d : D) m1 => match d with | .int j => (-(2 ^ 62) ≤ j ∧ j < 2 ^ 62) ∧ P (zej 0 j.toNat) (fun _ => True) m1 | _ => False) from ?_) ▸ h
  funext x m1
  cases x <;> rfl
theorem tupI {a : AA} (h : a e m (fun ds m1 => ds.length ≤ big ∧ Q (.tup ds) m1) R) : zE a e m Q R := h
theorem zfi {a : AA} (h : a e m (fun ds m1 => ds.length ≤ big ∧ ∀ p, m1 p = none → Q (.ref p) (mset m1 p (.lst ds))) R) : zaf a e m Q R := h
theorem zs2 {tr : AA} {P : List D → M → Prop} (h : ta e m (fun x m1 => zkL x m1 fun ds => tr e m1 (fun xs m2 => P (ds ++ xs) m2) R) R) : zcU ta tr e m P R := by rw [zcw]; exact h
theorem zj {tr : AA} {P : List D → M → Prop} (h : ta e m (fun x m1 => tr e m1 (fun xs m2 => P (x :: xs) m2) R) R) : zb ta tr e m P R := h
theorem zA {P : List D → M → Prop} (h : P [] m) : zm e m P R := h
theorem zK {n : Nat} {sp : ASp} {a : AA} (h : a e m (fun ds m1 => ds.length = n ∧ sp ds m1 Q R) R) : aCall n sp a e m Q R := h
theorem cbI {r : ARL} {a : AA} (h : a e m (fun ds m1 => r ds m1 Q) R) : aCB r a e m Q R := h
theorem zu (g : e.g i = some d) (h : Q d m) : zg i e m Q R := by unfold zg; rw [g]; exact h
theorem cI (h : Q d m) : aC d e m Q R := h
theorem opI {r : AR2} (h : ta e m (fun x m1 => tb e m1 (fun y m2 => r x y m2 Q) R) R) : aOp r ta tb e m Q R := h
theorem zd0 (h : ta e m (fun x m1 => match x with | .bl c => if c = true then tb e m1 Q R else Q (.bl false) m1 | _ => False) R) : zam ta tb e m Q R := h
theorem notI (h : ta e m (fun x m1 => match x with | .bl c => Q (.bl (!c)) m1 | _ => False) R) : zaN ta e m Q R := h
theorem lcI {ti : AI} {g : AG} {tt : AT} {vs : List Nat} (h : ti e m (fun its gd m1 => ∀ p, m1 p = none → lcL g tt te (zat e vs) p gd its Q (mset m1 p (.lst []))) R) : aLc ti g tt te vs e m Q R := h
theorem leI {i j : Int} : za2 (.int i) (.int j) m Q = Q (.bl (decide (i ≤ j))) m := rfl
theorem zui {i j : Int} : zae (.int i) (.int j) m Q = Q (.int (i - j)) m := rfl
theorem zuj {i j : Int} : zaF (.int i) (.int j) m Q = (CPow i j ∧ Q (.int (i ^ j.toNat)) m) := rfl
end
end
section
set_option maxHeartbeats 4000000
def zqu (ps : List (Key × D)) (k : Key) (d : D) : List (Key × D) :=
  if (ps.any fun p => decide (p.1 = k)) = true then ps.map (fun p => if p.1 = k then (p.1, d) else p) else ps ++ [(k, d)]
def keyD : Key → D
  | .inl i => .int i
  | .inr x => .str x
section
variable {K : PySem.W.Frag} {H : Hp}
theorem RepKV.any {k : Key} : ∀ {ps : List (Key × D)} {l : List (Key × V)}, RepKV K H ps l → (l.any fun p => decide (p.1 = k)) = ps.any fun p => decide (p.1 = k)
  | [], _, h => by rw [show _ = [] from h]; rfl
  | (k', d) :: ps, _, ⟨v, r, e, h, hr⟩ => by rw [e, List.any_cons, List.any_cons, RepKV.any hr]
theorem RepKV.map {k : Key} {d : D} {v : V} (hd : Rep K H d v) : ∀ {ps : List (Key × D)} {l : List (Key × V)}, RepKV K H ps l → RepKV K H (ps.map fun p => if p.1 = k then (p.1, d) else p) (l.map fun p => if p.1 = k then (p.1, v) else p)
  | [], _, h => by rw [show _ = [] from h]; rfl
  | (k', d') :: ps, _, ⟨v', r, e, h, hr⟩ => by
    rw [e, List.map_cons, List.map_cons]
    by_cases c : k' = k
    · rw [if_pos c, if_pos c]
      exact ⟨v, _, rfl, hd, RepKV.map hd hr⟩
    · rw [if_neg c, if_neg c]
      exact ⟨v', _, rfl, h, RepKV.map hd hr⟩
theorem RepKV.snoc {k : Key} {d : D} {v : V} (hd : Rep K H d v) : ∀ {ps : List (Key × D)} {l : List (Key × V)}, RepKV K H ps l → RepKV K H (ps ++ [(k, d)]) (l ++ [(k, v)])
  | [], _, h => by rw [show _ = [] from h]; exact ⟨v, [], rfl, hd, rfl⟩
  | (k', d') :: ps, _, ⟨v', r, e, h, hr⟩ => by
    rw [e]
    exact ⟨v', _, rfl, h, RepKV.snoc hd hr⟩
theorem RepKV.put {k : Key} {d : D} {v : V} {ps : List (Key × D)} {l : List (Key × V)} (h : RepKV K H ps l) (hd : Rep K H d v) : RepKV K H (zqu ps k d) (putK l k v) := by
  unfold zqu putK
  rw [h.any]
  by_cases c : (ps.any fun p => decide (p.1 = k)) = true
  · rw [if_pos c, if_pos c]; exact RepKV.map hd h
  · rw [if_neg c, if_neg c]; exact RepKV.snoc hd h
theorem RepKV.length : ∀ {ps : List (Key × D)} {l : List (Key × V)}, RepKV K H ps l → ps.length = l.length
  | [], _, h => by rw [show _ = [] from h]; rfl
  | (k', d) :: ps, _, ⟨v, r, e, h, hr⟩ => by rw [e]; exact congrArg (· + 1) (RepKV.length hr)
theorem RepKV.keys : ∀ {ps : List (Key × D)} {l : List (Key × V)}, RepKV K H ps l → Reps K H (ps.map fun p => keyD p.1) (l.map fun p => kV p.1)
  | [], _, h => by rw [show _ = [] from h]; rfl
  | (k', d) :: ps, _, ⟨v, r, e, h, hr⟩ => by
    rw [e]
    refine ⟨kV k', _, rfl, ?_, RepKV.keys hr⟩
    cases k' <;> rfl
end
section
variable {X : Cx} {W : WX}
def zmR : AE := fun _ m Q _ => ∀ p, m p = none → Q (.ref p) (mset m p (.dic []))
theorem zpp {pos : Pos} : GE X W (.Dict [] [] pos) zmR := zbp pe_dnewK fun σ H Q h => by
  obtain ⟨e, m, P, R, rE, rM, t, q, w⟩ := h
  intro p hp
  exact q (.ref p) _ (t p (rM.free hp)) (.ref p) _ (Tx.new hp) rfl (rM.newD hp rfl)
end
end
section
section
variable {e : En} {m : M} {Q : PQ} {R : PX} {A : zaU} {ta tb te : AE} {t u : AS} {i j k : Int} {d : D} {C : Int → Int → Prop} {f : Int → Int → D} {p q : Bool} {x y : Str} {a b : Addr} {ds es : List D} {ct cu : AT}
theorem zaz {b : Bool} {p q : Prop} (hb : b = false) (h : q) : (if b = true then p else q) := by rw [hb]; exact h
theorem zaD {b : Bool} {p q : Prop} (hb : b = true) (h : p) : (if b = true then p else q) := by rw [hb]; exact h
theorem zdy {P : Bool → M → Prop} (h : ct e m (fun b m1 => P (!b) m1) R) : zaI ct e m P R := h
theorem zs3 {P : Bool → M → Prop} (h : ct e m (fun c m1 => if c = true then cu e m1 P R else P false m1) R) : zbO ct cu e m P R := h
theorem zm9 {P : Bool → M → Prop} (h : ct e m (fun c m1 => if c = true then P true m1 else cu e m1 P R) R) : aOr ct cu e m P R := h
theorem zuk (h : ct e m (fun c m1 => if c = true then ta e m1 Q R else tb e m1 Q R) R) : aIf ct ta tb e m Q R := h
theorem zul (h : ta e m (fun x m1 => match x with | .bl c => if c = true then Q (.bl true) m1 else tb e m1 Q R | _ => False) R) : zb3 ta tb e m Q R := h
theorem slI {l u : APt} {r : ARS} (h : ta e m (fun d m1 => l e m1 (fun l m2 => u e m2 (fun u m3 => r d l u m3 Q) R) R) R) : aSl r ta l u e m Q R := h
theorem zjy {P : Option Int → M → Prop} (h : P none m) : zaR e m P R := h
theorem ptI {P : Option Int → M → Prop} (h : ta e m (fun d m1 => match d with | .int i => P (some i) m1 | _ => False) R) : aPt ta e m P R := h
theorem unI {r : AR1} (h : ta e m (fun x m1 => r x m1 Q) R) : aUn r ta e m Q R := h
theorem zs4 {P : List D → (M → Prop) → M → Prop} (h : te e m (fun d m1 => match d with | .tup ds => P ds (fun _ => True) m1 | _ => False) R) : zas te e m P R := h
theorem rIC (h : Q (f i j) m) (c : C i j) : zct C f (.int i) (.int j) m Q := ⟨c, h⟩
theorem rI0 (h : Q (f i j) m) : zb7 f (.int i) (.int j) m Q := h
theorem zqv (h : Q (.int (i + j)) m) : zR (.int i) (.int j) m Q := h
theorem zih (h : Q (.tup (ds ++ es)) m) (c : ds.length + es.length ≤ big) : zR (.tup ds) (.tup es) m Q := ⟨c, h⟩
theorem zs5 (h : Q (.str (x ++ y)) m) (c : x.length + y.length ≤ big) : zR (.str x) (.str y) m Q := ⟨c, h⟩
theorem zs6 (h : Q (.int (i * j)) m) (c : CMulW i j) : zaj (.int i) (.int j) m Q := ⟨c, h⟩
theorem zs7 (h : Q (.int (-i)) m) : zc7 (.int i) m Q := h
theorem zum (h : Q (.bl (decide (i = j))) m) : zbV (.int i) (.int j) m Q := h
theorem zun (h : Q (.bl (decide (x = y))) m) : zbV (.str x) (.str y) m Q := h
theorem zuo (h : Q (.bl (decide (p = q))) m) : zbV (.bl p) (.bl q) m Q := h
theorem zup (h : Q (.bl (!decide (i = j))) m) : zcv (.int i) (.int j) m Q := h
theorem zr5 (h : Q (.bl (!decide (x = y))) m) : zcv (.str x) (.str y) m Q := h
theorem zuq (h : Q (.bl (!decide (p = q))) m) : zcv (.bl p) (.bl q) m Q := h
theorem zur (h : Q (.bl d.isNon) m) : zdr d .non m Q := by rw [isN]; exact h
theorem zqX (h : Q (.bl (!d.isNon)) m) : zbt d .non m Q := by rw [zdx]; exact h
theorem zus (h : Q (.bl (decide (p = q))) m) : zdr (.bl p) (.bl q) m Q := h
theorem zqY (h : Q (.bl (!decide (p = q))) m) : zbt (.bl p) (.bl q) m Q := h
theorem zii (ha : atI ds i = some d) (h : Q d m) : zap (.tup ds) (.int i) m Q := by rw [ixT, ha]; exact h
theorem zjz (hl : m.l a = some ds) (ha : atI ds i = some d) (h : Q d m) : zap (.ref a) (.int i) m Q := by rw [ixR, hl]; simp only [ha]; exact h
theorem zs8 (h : Q (.int (ds.length : Nat)) m) : zah [.tup ds] m Q := h
theorem zs9 (h : Q (.int (ds.length : Nat)) m) : zah [.fls ds] m Q := h
theorem zta (h : Q (.int i) m) : zbR [.int i] m Q := h
theorem ztb (h : Q (.int (if p then 1 else 0)) m) : zbR [.bl p] m Q := h
theorem ztc (h : Q (.tup ds) m) : za5 [.tup ds] m Q := h
theorem zqw (hl : m.l a = some ds) (h : Q (.tup ds) m) : za5 [.ref a] m Q := by rw [zdt, hl]; exact h
theorem ztd (h : Q (.int (if j < i then j else i)) m) : zc8 [.int i, .int j] m Q := h
theorem zte (h : Q (.int (if j > i then j else i)) m) : zcV [.int i, .int j] m Q := h
theorem zlv {l u : Option Int} (h : Q (.tup (Ab.cutD ds l u)) m) : Ab.rSlA (.tup ds) l u m Q := h
theorem zr6 {k : List D → Prop} (h : k ds) : zkL (.tup ds) m k := h
theorem zav {n : Nat} (h : Nat.ble n 64 = true) : n ≤ big := Nat.le_trans (Nat.le_of_ble_eq_true h) (by decide)
theorem zpS {P : Bool → M → Prop} (h : te e m (fun d m' => match d with
  | .bl b => P b m'
  | .non => P false m'
  | .int i => P (i != 0) m'
  | .str x => x.length ≤ 100000 ∧ P ((x.length : Int) != 0) m'
  | .tup ds => P (!ds.isEmpty) m'
  | .ref a => (match m' a with
    | some (.lst ds) => P (!ds.isEmpty) m'
    | _ => False)
  | _ => False) R) : zdq te e m P R := h
theorem zut {aa : AA} {P : List D → (M → Prop) → M → Prop} (h : aa e m (fun ds m1 => match ds with
  | [.int i, .int j] => (-(2 ^ 62) ≤ i ∧ i < 2 ^ 62 ∧ -(2 ^ 62) ≤ j ∧ j < 2 ^ 62) ∧ P (zej i (j - i).toNat) (fun _ => True) m1
  | _ => False) R) : zb6 aa e m P R := h
theorem zna {r r' : AR2} {tc : AE} (h : ta e m (fun x m1 => tb e m1 (fun y m2 => r x y m2 fun z m3 => match z with
  | .bl b => if b = true then tc e m3 (fun w m4 => r' y w m4 Q) R else Q (.bl false) m3
  | _ => False) R) R) : zac r r' ta tb tc e m Q R := h
theorem zuu (h : A.bk e m) : zb4 A e m := h
theorem zuv (h : A.ct e m) : zb5 A e m := h
theorem ztf (h : A.rt .non m) : za4 A e m := h
theorem ttI {n : Nat} {g : AGs} {P : En → M → Prop} (hl : ds.length = n) (h : g ds e m P) : aTT n g (.tup ds) e m P := ⟨hl, h⟩
theorem gcI {g : AG} {v : AGs} {P : En → M → Prop} (h : g d e m fun e1 m1 => v ds e1 m1 P) : zG g v (d :: ds) e m P := h
theorem gnI {P : En → M → Prop} (h : P e m) : zY [] e m P := h
theorem aNI {n : Nat} {P : En → M → Prop} (h : P (e.s n d) m) : aN n d e m P := h
end
end
section
theorem zij (l : Addr) (es : Array DictEntry) (ep : Nat) (dd : Option Addr) (sl : Array (Option Value)) (b : Str) (u : Tok) :
    Meets (Builtin.«dict.__eq__» ⟨[.ref l, .str b u], []⟩) (fun _ R s => s.heap.get? l = some { cls := .type "dict", dict := dd, data := .dict es ep, slots := sl } ∧ R (.ok (.ret .notImplemented)) s) :=
  .of_wp fun prog w A R s h => by obtain ⟨hp, g, d, tk, os⟩ := s; obtain ⟨hl, h⟩ := h; have f1 := F.sub_str_dict; wp_walk using AutoSeq1.wpAny_loadPart' hl, wpAny_load hl; exact ⟨_, rfl, h⟩
theorem zik (b : Str) (u : Tok) (l : Addr) (es : Array DictEntry) (ep : Nat) (dd : Option Addr) (sl : Array (Option Value)) :
    Meets (Builtin.«str.__eq__» ⟨[.str b u, .ref l], []⟩) (fun _ R s => s.heap.get? l = some { cls := .type "dict", dict := dd, data := .dict es ep, slots := sl } ∧ R (.ok (.ret .notImplemented)) s) :=
  .of_wp fun prog w A R s h => by obtain ⟨hp, g, d, tk, os⟩ := s; obtain ⟨hl, h⟩ := h; wp_walk using AutoSeq1.wpAny_loadPart' hl, wpAny_load hl; exact ⟨_, rfl, h⟩
section
variable {A : Around} {s : Shared}
theorem zmk {l : Addr} {es : Array DictEntry} {ep : Nat} {o : Obj} (b : Str) (u : Tok) (hl : s.heap.get? l = some o) (hc : o.cls = .type "dict") (hd : o.data = .dict es ep) (hu : A.units < cLine) : SeqAt.EqAt A s (.str b u) (.ref l) false := fun prog w E Q h => by
  unfold eqBool
  refine wpAny_holding ?_
  refine wpAny_ite_split (fun hab => absurd (eq_of_beq hab) nofun) (fun _ => ?_)
  obtain ⟨cls, dd, data, sl⟩ := o
  simp only at hc hd
  subst hc hd
  refine wpAny_bind (SeqAt.rc_eq_decline_or (k := false) (typeIs_str s b u) ⟨_, hl, rfl⟩ (by decide) F.sub_dict_str F.slot_str_eq F.slot_dict_eq_refl
    (fun _ hq => call_meets F.slot_str_eq (typeIs_str s b u) F.entry_str_eq (F.args_str_eq_2 _ _) (zik b u l es ep dd sl) ⟨hl, hq⟩)
    (fun _ hq => call_meets F.slot_dict_eq_refl ⟨_, hl, rfl⟩ F.entry_dict_eq (F.args_dict_eq_2 _ _) (zij l es ep dd sl b u) ⟨hl, hq⟩)
    (fun _ hq => wpAny_of_eq (rfl : isSame (.str b u) (.ref l) = pure false) hq) (.inr hu) ?_)
  exact wpAny_truthy_bool h
end
def D.isStr : D → Bool
  | .str _ => true
  | _ => false
def zoJ (m : M) : D → Bool
  | .tup _ => true
  | .ref a => (m.l a).isSome || (match m a with | some (.dic _) => true | _ => false)
  | _ => false
def zmS : AR2 := fun x y m Q => match zaB m y with
  | some ds => ((zcA x = true ∧ ds.all zcA = true) ∧ Q (.bl (inF x ds)) m) ∨ ((zoJ m x = true ∧ ds.all D.isStr = true) ∧ Q (.bl false) m)
  | none => False
section
variable {X : Cx} {W : WX}
theorem strs_at {K : PySem.W.Frag} {H : Hp} {A : Around} {s : Shared} {v : Value} (h : ∀ b u, SeqAt.EqAt A s (.str b u) v false) : ∀ {ds : List D} {xs : List V} {us : List Value}, ds.all D.isStr = true → Reps K H ds xs → Vals xs us → ∀ u ∈ us, SeqAt.EqAt A s u v false
  | [], xs, us, _, r, rv => fun u hu => by
    have e : xs = [] := r
    subst e
    cases rv
    cases hu
  | d :: ds, xs, us, f, ⟨x, r, e, hx, hr⟩, rv => fun u hu => by
    subst e
    rw [List.all_cons, Bool.and_eq_true] at f
    cases rv with
    | cons r1 r2 =>
      rcases List.mem_cons.mp hu with z | z
      · cases d with
        | str b =>
          obtain rfl : x = .str b := hx
          obtain ⟨t, et⟩ := r1
          rw [z, et]
          exact h b t
        | _ => cases f.1
      · exact strs_at h f.2 hr r2 u z
theorem zqZ {pins : List (Addr × Obj)} {σ : L2.St} {H : Hp} {s : Shared} {m : M} {x : D} {v : V} {u : Value} {A : Around} (I : Inv X pins σ H s) (hu : A.units < cLine) (rM : RelM X.K H m) (hx : zoJ m x = true) (r : Rep X.K H x v) (ru : RelV v u) (b : Str) (t : Tok) : SeqAt.EqAt A s (.str b t) u false := by
  cases x with
  | tup ds =>
    obtain ⟨a, xs, ev, hs, hr⟩ := r
    subst ev
    cases ru
    obtain ⟨its, _, ht, _⟩ := I.tuple hs
    exact SeqAt.EqAt.str_tuple b t ht hu
  | ref a =>
    rw [show v = .ref a from r] at ru
    cases ru
    have hx' : ((m.l a).isSome || (match m a with | some (.dic _) => true | _ => false)) = true := hx
    cases q : m.l a with
    | some ds =>
      obtain ⟨xs, hl, hr⟩ := rM a _ (M.l_of q)
      obtain ⟨its, _, hl, _⟩ := I.list (SqL.of hl)
      exact SeqAt.EqAt.str_list b t hl.isList hu
    | none =>
      rw [q] at hx'
      cases q2 : m a with
      | none => rw [q2] at hx'; cases hx'
      | some ob =>
        rw [q2] at hx'
        cases ob with
        | dic ps =>
          obtain ⟨l, hl, _⟩ := rM a _ q2
          obtain ⟨_, _, vs, _, o, es, ep, h1, h2, h3, _⟩ := I.hok a _ hl
          exact zmk b t h1 h2.1 h3 hu
        | _ => cases hx'
  | _ => cases hx
theorem ztg (hu : X.A.units + 64 < cLine) : OpR X (compareOp .In) (lR2 X.K zmS) := by
  intro pins s σ H x y v u Q I rx ry h
  obtain ⟨d1, d2, m, P, r1, r2, rM, h, q⟩ := h
  have h' : (match zaB m d2 with | some ds => ((zcA d1 = true ∧ ds.all zcA = true) ∧ P (.bl (inF d1 ds)) m) ∨ ((zoJ m d1 = true ∧ ds.all D.isStr = true) ∧ P (.bl false) m) | none => False) := h
  cases e : zaB m d2 with
  | none => rw [e] at h'; exact h'.elim
  | some ds =>
    rw [e] at h'
    rcases h' with h' | ⟨⟨f1, f2⟩, p⟩
    · refine zuh pins s σ H x y v u Q I rx ry ⟨d1, d2, m, P, r1, r2, rM, ?_, q⟩
      show (match zaB m d2 with | some ds => (zcA d1 = true ∧ ds.all zcA = true) ∧ P (.bl (if false = true then !inF d1 ds else inF d1 ds)) m | none => False)
      rw [e]
      exact h'
    · obtain ⟨a, xs, ev, hs, hr⟩ := zl9 rM e r2
      subst ev
      cases ry
      have key := fun b t => zqZ (A := X.A.in1) I (by simp only [Around.in1_units]; omega) rM f1 r1 rx b t
      have nil : ∀ us : List Value, us.any (fun _ => false) = false := fun us => by induction us <;> simp_all
      rcases hs with hs | hs
      · obtain ⟨its, rv, pl, hz⟩ := I.list hs
        refine SeqAt.in_listAt (fun _ => false) pl.isList (fun w hw => strs_at key f2 hr rv w (by simpa using hw)) ⟨.bl _, H, I, rfl, ?_⟩
        rw [show its.toArray.any (fun _ => false) = false by simp [nil]]
        exact q _ m p _ H (Tx.refl H) rfl rM
      · obtain ⟨its, rv, pl, hz⟩ := I.tuple hs
        refine SeqAt.in_tupleAt (fun _ => false) pl (fun w hw => strs_at key f2 hr rv w (by simpa using hw)) ⟨.bl _, H, I, rfl, ?_⟩
        rw [show its.toArray.any (fun _ => false) = false by simp [nil]]
        exact q _ m p _ H (Tx.refl H) rfl rM
theorem zoK {x y : D} {m : M} {Q : PQ} {ds : List D} (hy : zaB m y = some ds) (h1 : zcA x = true) (h2 : ds.all zcA = true) (q : Q (.bl (inF x ds)) m) : zmS x y m Q := by
  unfold zmS; simp only [hy]; exact .inl ⟨⟨h1, h2⟩, q⟩
end
end
end Ab
set_option Elab.async false
set_option linter.all false
set_option maxRecDepth 100000
set_option maxHeartbeats 4000000
namespace Ab
open PySem PySem.Spec PyProof.Rows L2
open Sem (wp)
open AutoSeq1 (wpAny_loadPart')
theorem zil (l : Addr) (items : Array Value) (n : Nat) (dct : Option Addr) (sl : Array (Option Value)) :
    Meets (Builtin.«enumerate.__new__» ⟨[.type "enumerate", .ref l], []⟩) (fun _ R s => s.heap.get? l = some { cls := .type "tuple", dict := dct, data := .seq items n, slots := sl } ∧
      R (.ok (.ret (.ref (s.heap.push { cls := .type "tuple_iterator", data := .fields #[.ref l, .int 0 0] }).objs.size)))
        { s with heap := (s.heap.push { cls := .type "tuple_iterator", data := .fields #[.ref l, .int 0 0] }).push { cls := .type "enumerate", data := .fields #[.none, .bool false, .ref s.heap.objs.size, rawInt 0, .none, .none] } }) :=
  .of_wp fun prog w A R s h => by
    obtain ⟨hp, g, d, tk, os⟩ := s; obtain ⟨hl, h⟩ := h
    have hsub := sub_enumerate
    have hL : Heap.IsTuple (Shared.heap ⟨hp, g, d, tk, os⟩) l items := ⟨_, hl, rfl, n, rfl⟩
    wp_walk using wpAny_loadPart' hl
    refine wpAny_stack_any fun st => wpAny_pure ?_
    split
    · rename_i c _ _ _ _ _
      cases (c == Value.type "enumerate")
      · wp_walk using wpAny_loadPart' hl, wpAny_pyIter_tuple hL
        exact ⟨_, rfl, h⟩
      · wp_walk using wpAny_loadPart' hl, wpAny_pyIter_tuple hL
        exact ⟨_, rfl, h⟩
    · wp_walk using wpAny_loadPart' hl, wpAny_pyIter_tuple hL
      exact ⟨_, rfl, h⟩
theorem zim {prog : Program} {w : World} {A : Around} {E : Value → Shared → Prop} {s : Shared} {l : Addr} {items : Array Value} {Q : Value → Shared → Prop} (hL : s.heap.IsTuple l items)
    (h : ∀ h', IsEnum h' (s.heap.objs.size + 1) s.heap.objs.size 0 .none → h'.IsTupleIter s.heap.objs.size l 0 → h'.objs.size = s.heap.objs.size + 2 →
      (∀ b o, s.heap.get? b = some o → h'.get? b = some o) → Q (.ref (s.heap.objs.size + 1)) { s with heap := h' }) :
    wpAny (model prog w) A (call (.type "enumerate") [.ref l]) Q E s := by
  obtain ⟨⟨c, dct, dt, sl⟩, hl, hc, n, hd⟩ := hL
  replace hc : c = .type "tuple" := hc
  replace hd : dt = .seq items n := hd
  subst hc hd
  refine callType_new F.called_enumerate (by decide) (F.typeCall_enumerate_1 _) (F.newCall_enumerate_1 _) (fun obj => F.args_object_init_2 obj _) F.entry_enumerate_new
    (zil l items n dct sl) ⟨hl, ?_⟩
  have hz : (s.heap.push { cls := .type "tuple_iterator", data := .fields #[.ref l, .int 0 0] }).objs.size = s.heap.objs.size + 1 := Heap.size_push ..
  show _ ∧ _
  rw [hz]
  have he : IsEnum ((s.heap.push { cls := .type "tuple_iterator", data := .fields #[.ref l, .int 0 0] }).push
      { cls := .type "enumerate", data := .fields #[.none, .bool false, .ref s.heap.objs.size, rawInt 0, .none, .none] }) (s.heap.objs.size + 1) s.heap.objs.size 0 .none := by
    have := Heap.get?_push_size (s.heap.push { cls := .type "tuple_iterator", data := .fields #[.ref l, .int 0 0] })
      (o := { cls := .type "enumerate", data := .fields #[.none, .bool false, .ref s.heap.objs.size, rawInt 0, .none, .none] }) rfl
    rw [hz] at this; exact this
  refine ⟨⟨_, he, rfl⟩, h _ he ⟨_, Heap.get?_push_of_some _ (Heap.get?_push_size _ rfl), rfl, rfl⟩ (by rw [Heap.size_push, hz]) fun b o x => Heap.get?_push_of_some _ (Heap.get?_push_of_some _ x)⟩
theorem zhA {prog : Program} {w : World} {A : Around} {E : Value → Shared → Prop} {s : Shared} {e it l : Addr} {i : Nat} {items : Array Value} {old : Value} {Q : Option Value → Shared → Prop} (hh : A.handled = none)
    (he : IsEnum s.heap e it i old) (hit : s.heap.IsTupleIter it l i) (hl : s.heap.IsTuple l items) (hx : items[i]? = none)
    (hQ : ∀ h', Heap.ExtBut it s.heap h' → Q none { s with heap := h' }) : wpAny (model prog w) A (pyNext (.ref e)) Q E s := by
  have hT : s.TypeIs (.ref e) "enumerate" := ⟨_, he, rfl⟩
  unfold pyNext
  refine wpAny_bind (wpAny_attempt (wpAny_callSpecial?_slot (name := Str.ofString "__next__") hT F.slot_enumerate_next
    (wpAny_call_entry F.slot_enumerate_next hT F.entry_enumerate_next ?_ (F.args_enumerate_next_1 _))))
  show wpAny _ _ (field (.ref e) 2 >>= _) _ _ _
  refine wpAny_bind (wpAny_field he rfl (x := .ref it) rfl ?_)
  refine wpAny_bind (wpAny_nextOf_tuple_end hh hit hl hx fun h' x he' hx' => ?_)
  obtain ⟨o, ho, hc⟩ := hx'
  refine wpAny_bind (wpAny_isInstance (T := "StopIteration") (b := true) ⟨o, ho, hc⟩ isSubtype_stop ?_)
  exact wpAny_pure (hQ _ he')
def zr7 (K : PySem.W.Frag) (a : Addr) : It :=
  ⟨fun i H => ∃ (xs : List V) (x : V), SqT K H a xs ∧ xs[i]? = some x, fun i H v H' => ∃ T x, v = .ref T ∧ H T = none ∧ H' = upd H T (.tup [.int (i : Nat), x]) ∧ ∀ xs, SqT K H a xs → xs[i]? = some x, fun i H => ∃ xs : List V, SqT K H a xs ∧ xs.length ≤ i⟩
theorem zoL {P : Program} {w : World} {K : PySem.W.Frag} {elts : List Expr} {kk : Nat} {tpos : Pos} (a e it : Addr) :
    Turn P w K (.Tuple elts kk tpos) (zr7 K a) [e, it] e (fun i h => (∃ old, IsEnum h e it ((i : Nat) : Int) old) ∧ h.IsTupleIter it a i ∧ e ≠ it ∧ a ≠ it ∧ e ≠ a) where
  mem := by simp
  obj := fun i h st b hb => by
    obtain ⟨⟨old, he⟩, ⟨o, ho, hc, hd⟩, _⟩ := st
    have e' : b = e ∨ b = it := by simpa using hb
    rcases e' with z | z
    · rw [z]; exact ⟨_, he, fun v q => nomatch q⟩
    · rw [z]; exact ⟨o, ho, fun v q => by rw [hd] at q; cases q⟩
  keep := fun i h h' st k => let ⟨⟨old, he⟩, hi, hne⟩ := st; ⟨⟨old, k e (by simp) _ he⟩, hi.at fun o q => k it (by simp) o q, hne⟩
  item := by
    intro X hP hw hK hc i pins s σ H E I hf st hg
    subst hP hw hK
    obtain ⟨⟨old, he⟩, hit, hne, hai, hea⟩ := st
    obtain ⟨xs, x, hq, hx⟩ := hg
    obtain ⟨its, rv, p, hz⟩ := I.tuple hq
    obtain ⟨u, hu, ru⟩ := rv.get hx
    have hel : e < s.heap.objs.size := Heap.lt_size he
    have hil : it < s.heap.objs.size := by obtain ⟨_, q, _⟩ := hit; exact Heap.lt_size q
    have hlt : i < its.toArray.size := by
      rw [List.size_toArray]; exact (List.getElem?_eq_some_iff.mp hu).1
    refine wpAny_pyNext_enum_itemD (Draws.tuple (A := X.A.in1) (I.ok.hd hc) it a hai its.toArray) he ⟨hit, p⟩ hlt hne (by simp [hne, hea]) fun y h' tk hy ho hst' hT hsz hk => ?_
    obtain rfl : y = u := by
      have h1 : its.toArray[i]? = some y := hy
      have h2 : its[i]? = some y := by simpa using h1
      rw [hu] at h2; cases h2; rfl
    refine ⟨_, rfl, wpAny_letOwnedTupleGo_enum (s := { s with heap := h', toks := tk + 1 }) ho fun h'' he' sb => ?_⟩
    have hT2 : h''.get? s.heap.objs.size = some { cls := .type "tuple", data := .seq #[.int i tk, y] } := (sb.2 _ (Nat.ne_of_gt hel)).trans hT
    have new : ObjOk X.prog X.w (upd H s.heap.objs.size (.tup [.int (i : Nat), x])) h'' s.heap.objs.size (.tup [.int (i : Nat), x]) :=
      ⟨by show 2 ≤ sizeLine; decide, [.int i tk, y], .cons ⟨_, rfl⟩ (.cons ru .nil), ⟨_, hT2, rfl, _, rfl⟩⟩
    have I1 : Inv X pins σ (upd H s.heap.objs.size (.tup [.int (i : Nat), x])) { s with heap := h'', toks := tk + 1 } :=
      I.turnedNew (ch := [e, it]) (fun b ob hb q => (sb.2 b (fun z => hb (by simp [z]))).trans (hk b ob (fun z => hb (by simp [z])) (fun z => hb (by simp [z])) q)) hf (Nat.le_refl _) new
    refine ⟨.ref s.heap.objs.size, _, I1, rfl, ⟨_, x, rfl, I.hok.fresh (Nat.le_refl _), rfl, fun ys hy => by rw [I.tuple_inj hy hq]; exact hx⟩, ⟨⟨y, ?_⟩, hst'.1.at fun o q => (sb.2 it (Ne.symm hne)).trans q, hne, hai, hea⟩, fun b hb => ?_⟩
    · have e1 : ((i + 1 : Nat) : Int) = (i : Int) + 1 := by omega
      rw [e1]; exact he'
    · have hb' : b < s.heap.objs.size := by
        have e' : b = e ∨ b = it := by simpa using hb
        rcases e' with z | z
        · rw [z]; exact hel
        · rw [z]; exact hil
      rw [upd_ne (Nat.ne_of_lt hb')]
      exact (hf b hb).1
  done := by
    intro X hP hw hK hc i pins s σ H E I hf st hg
    subst hP hw hK
    obtain ⟨⟨old, he⟩, hit, hne, hai, hea⟩ := st
    obtain ⟨xs, hq, hx⟩ := hg
    obtain ⟨its, rv, p, hz⟩ := I.tuple hq
    obtain ⟨f0, f1, f2, f3, f4, f5⟩ := hf it (by simp)
    have hl := rv.length
    exact zhA (I.ok.hd hc) he hit p (by simp; omega) fun h' eb => ⟨rfl, I.turned (t' := s.toks) (fun b o hb q => eb b o hb q) f0 f1 f3 f4 f5⟩
  self := fun A i s Q E st h => let ⟨⟨_, he⟩, _⟩ := st; wpAny_pyIter_enum he h
def enD (its : List D) : List D := (List.range its.length).map fun (i : Nat) => .tup [.int (i : Nat), its.getD i .non]
def zhN (te : AE) : AI := fun e m Q R => te e m (fun d m1 => match d with
  | .tup ds => Q (enD ds) (fun _ => True) m1
  | .fls ds => Q (enD ds) (fun _ => True) m1
  | .ref a => (match m1 a with
    | some (.lst ds) => Q (enD ds) (fun m2 => m2 a = some (.lst ds)) m1
    | _ => False)
  | _ => False) R
def zr8 (K : PySem.W.Frag) (ta : TA) : TI := fun σ H R => ta σ H fun vs H1 => ∃ a xs, vs = [.ref a] ∧ ((SqL K H1 a xs ∧ R (Ite K a) H1) ∨ (SqT K H1 a xs ∧ R (zr7 K a) H1))
theorem zpT {X : Cx} {e : Expr} {ta : TA} {p pos tpos : Pos} {elts : List Expr} {kk : Nat} (hg : Gl X "enumerate") (hm : X.mg "enumerate" = none) (ha : PA X [e] ta) (hs : starEach [e] X.env = [(false, eval e X.env)] := by rfl) :
    PI X (.Tuple elts kk tpos) (.Call (.Name "enumerate" p) [e] [] pos) (zr8 X.K ta) := by
  refine ⟨fun pins s σ H R I h => ?_⟩
  refine Call_ (ld_blt I hg hm boot_enumerate (PyProof.Rows.callWith_type1 (thn (ha.run pos pins s σ H _ I h) fun us s1 ⟨vs, H1, I1, r1, q1⟩ => ?_) hs rfl))
  obtain ⟨a, xs, ex, hq⟩ := q1
  subst ex
  cases r1 with
  | cons r rr =>
    cases rr
    cases r
    have hle0 : ∀ b, (b = s1.heap.objs.size + 1 ∨ b = s1.heap.objs.size) → s1.heap.objs.size ≤ b := fun b e' => by
      rcases e' with z | z
      · rw [z]; exact Nat.le_add_right _ _
      · rw [z]; exact Nat.le_refl _
    rcases hq with ⟨hq, q⟩ | ⟨hq, q⟩
    · obtain ⟨its, rv, p', hz⟩ := I1.list hq
      refine call_enumerate_list p'.isList fun h' he hit hsz hk => wpAny_pyIter_enum he ?_
      have I2 : Inv X pins σ H1 { s1 with heap := h' } := I1.kept (t' := s1.toks) hk
      refine ⟨s1.heap.objs.size + 1, [s1.heap.objs.size + 1, s1.heap.objs.size], _, _, H1, rfl, I2, turn_enum a (s1.heap.objs.size + 1) s1.heap.objs.size, ⟨⟨.none, he⟩, hit, Nat.succ_ne_self _⟩, fun b hb => ?_, q⟩
      have hle := hle0 b (by simpa using hb)
      exact I1.fpOk hle (I1.hok.fresh hle)
    · obtain ⟨its, rv, p', hz⟩ := I1.tuple hq
      have al : a < s1.heap.objs.size := by obtain ⟨_, q, _⟩ := id p'; exact Heap.lt_size q
      refine zim p' fun h' he hit hsz hk => wpAny_pyIter_enum he ?_
      have I2 : Inv X pins σ H1 { s1 with heap := h' } := I1.kept (t' := s1.toks) hk
      refine ⟨s1.heap.objs.size + 1, [s1.heap.objs.size + 1, s1.heap.objs.size], _, _, H1, rfl, I2, zoL a (s1.heap.objs.size + 1) s1.heap.objs.size, ⟨⟨.none, he⟩, hit, Nat.succ_ne_self _, Nat.ne_of_lt al, Nat.ne_of_gt (Nat.lt_succ_of_lt al)⟩, fun b hb => ?_, q⟩
      have hle := hle0 b (by simpa using hb)
      exact I1.fpOk hle (I1.hok.fresh hle)
section
variable {X : Cx} {W : WX}
theorem zgk (ds : List D) : (enD ds).length = ds.length := by simp [enD]
theorem zlw {ds : List D} {i : Nat} {d : D} (h : (enD ds)[i]? = some d) : ∃ x, ds[i]? = some x ∧ d = .tup [.int (i : Nat), x] := by
  unfold enD at h
  rw [List.getElem?_map] at h
  by_cases hi : i < ds.length
  · rw [List.getElem?_range hi] at h
    cases h
    refine ⟨ds[i], by simp [hi], ?_⟩
    show D.tup [_, ds.getD i .non] = _
    rw [List.getD_eq_getElem?_getD, List.getElem?_eq_getElem hi]
    rfl
  · rw [List.getElem?_eq_none (by simpa using hi)] at h
    cases h
theorem zjA {K : PySem.W.Frag} {H : Hp} {T : Addr} {i : Nat} {x : V} {d : D} (hT : H T = none) (r : Rep K H d x) : Rep K (upd H T (.tup [.int (i : Nat), x])) (.tup [.int (i : Nat), d]) (.ref T) :=
  ⟨T, [.int (i : Nat), x], rfl, SqT.of upd_same, ⟨_, _, rfl, rfl, ⟨_, _, rfl, r.mono (Tx.new hT), rfl⟩⟩⟩
theorem znb {elts : List Expr} {kk : Nat} {p pos tpos : Pos} {e : Expr} {te : AE} (hm : X.mg "enumerate" = none) (he : GE X W e te) (hg : Gl X "enumerate" := by rfl) (hs : starEach [e] X.env = (false, eval e X.env) :: starEach [] X.env := by rfl) (hs2 : starEach [e] X.env = [(false, eval e X.env)] := by rfl) :
    GI' X W (.Tuple elts kk tpos) (.Call (.Name "enumerate" p) [e] [] pos) (zhN te) := zju (zpT hg hm (pa_cons he pa_nil hs) hs2) fun σ H Q h => by
  obtain ⟨e, m, P, R, rE, rM, t, q, w⟩ := h
  refine ⟨e, m, _, R, rE, rM, t, fun d m1 h1 x H1 t1 r1 rm1 => ?_, w⟩
  show ∃ a xs, [x] = [V.ref a] ∧ _
  cases d with
  | tup ds =>
    obtain ⟨a, xs, rfl, hs, hr⟩ := r1
    refine ⟨a, xs, rfl, .inr ⟨hs, q (enD ds) _ m1 h1 _ H1 t1 rm1 ⟨fun i H2 m2 t2 _ _ hi => ?_, fun i d H2 m2 x H3 t2 rm2 _ hd y => ?_, fun H2 m2 t2 _ _ => ?_⟩⟩⟩
    · have hi' : i < xs.length := by rw [← hr.length, ← zgk]; exact hi
      exact ⟨xs, xs[i], zdg t2 hs, by simp [hi']⟩
    · obtain ⟨T, z, ev, hT, e3, hx⟩ := y
      subst e3 ev
      obtain ⟨d', hd', rfl⟩ := zlw hd
      obtain ⟨v, hv, rv⟩ := hr.get hd'
      have := hx xs (zdg t2 hs)
      rw [hv] at this
      cases this
      exact ⟨Tx.new hT, zjA hT (rv.mono t2), fun m3 z => z.grow hT⟩
    · exact ⟨xs, zdg t2 hs, by rw [zgk, ← hr.length]; exact Nat.le_refl _⟩
  | fls ds =>
    obtain ⟨a, xs, rfl, hs, hr⟩ := r1
    refine ⟨a, xs, rfl, .inl ⟨hs.sq, q (enD ds) _ m1 h1 _ H1 t1 rm1 ⟨fun i H2 m2 t2 _ _ hi => ?_, fun i d H2 m2 x H3 t2 rm2 _ hd y => ?_, fun H2 m2 t2 _ _ => ?_⟩⟩⟩
    · have hi' : i < xs.length := by rw [← hr.length, ← zgk]; exact hi
      exact ⟨xs, xs[i], (FrL.tx t2 hs).sq, by simp [hi']⟩
    · obtain ⟨T, z, ev, hT, e3, hx⟩ := y
      subst e3 ev
      obtain ⟨d', hd', rfl⟩ := zlw hd
      obtain ⟨v, hv, rv⟩ := hr.get hd'
      have := hx xs (FrL.tx t2 hs).sq
      rw [hv] at this
      cases this
      exact ⟨Tx.new hT, zjA hT (rv.mono t2), fun m3 z => z.grow hT⟩
    · exact ⟨xs, (FrL.tx t2 hs).sq, by rw [zgk, ← hr.length]; exact Nat.le_refl _⟩
  | ref a =>
    have h1' : (match m1 a with | some (.lst ds) => P (enD ds) (fun m2 => m2 a = some (.lst ds)) m1 | _ => False) := h1
    cases hm : m1 a with
    | none => rw [hm] at h1'; exact h1'.elim
    | some o =>
      rw [hm] at h1'
      cases o with
      | lst ds =>
        obtain ⟨xs, hx, hr⟩ := rm1 a _ hm
        obtain rfl : x = V.ref a := r1
        refine ⟨a, xs, rfl, .inl ⟨SqL.of hx, q (enD ds) _ m1 h1' _ H1 t1 rm1 ⟨fun i H2 m2 t2 rm2 g2 hi => ?_, fun i d H2 m2 x H3 t2 rm2 g2 hd y => ?_, fun H2 m2 t2 rm2 g2 => ?_⟩⟩⟩
        · obtain ⟨ys, hy, hr2⟩ := rm2 a _ g2
          have hi' : i < ys.length := by rw [← hr2.length, ← zgk]; exact hi
          exact ⟨ys, ys[i], SqL.of hy, by simp [hi']⟩
        · obtain ⟨ys, hy, hr2⟩ := rm2 a _ g2
          obtain ⟨T, z, ev, hT, e3, hx3⟩ := y
          subst e3 ev
          obtain ⟨d', hd', rfl⟩ := zlw hd
          obtain ⟨v, hv, rv⟩ := hr2.get hd'
          have := hx3 ys (SqL.of hy)
          rw [hv] at this
          cases this
          exact ⟨Tx.new hT, zjA hT rv, fun m3 z => z.grow hT⟩
        · obtain ⟨ys, hy, hr2⟩ := rm2 a _ g2
          exact ⟨ys, SqL.of hy, by rw [zgk, ← hr2.length]; exact Nat.le_refl _⟩
      | _ => exact h1'.elim
  | _ => exact h1.elim
def znc : ARL := fun ds m Q => match ds with
  | [.int i, .int j] => Q (.int (if j > i then j else i)) m
  | [.ref a] => ∃ es p ps, m.l a = some es ∧ D.pys es = some (p :: ps) ∧ PySem.W.AlikeAll (p :: ps) ∧ PyData.depthAll (p :: ps) ≤ 40 ∧ ∀ d, d ∈ es → d.py = some (PySem.W.maxD p ps) → Q d m
  | _ => False
theorem zlx : ∀ {ds : List D} {ps : List PyData} {i : Nat} {d : D}, D.pys ds = some ps → ds[i]? = some d → ∃ p, d.py = some p ∧ ps[i]? = some p
  | [], _, _, _, _, h => by simp at h
  | x :: ds, ps, i, d, e, h => by
    have e' : (match D.py x, D.pys ds with | some p, some ps => some (p :: ps) | _, _ => none) = some ps := e
    cases q1 : D.py x with
    | none => rw [q1] at e'; cases e'
    | some p => cases q2 : D.pys ds with
      | none => rw [q1, q2] at e'; cases e'
      | some qs =>
        rw [q1, q2] at e'
        cases e'
        cases i with
        | zero => simp at h; subst h; exact ⟨p, q1, by simp⟩
        | succ i =>
          obtain ⟨p', a, b⟩ := zlx q2 (by simpa using h)
          exact ⟨p', a, by simpa using b⟩
theorem zn8 : ∀ {ds : List D} {ps : List PyData}, D.pys ds = some ps → ps.length = ds.length
  | [], _, h => by cases h; rfl
  | x :: ds, ps, e => by
    have e' : (match D.py x, D.pys ds with | some p, some ps => some (p :: ps) | _, _ => none) = some ps := e
    cases q1 : D.py x with
    | none => rw [q1] at e'; cases e'
    | some p => cases q2 : D.pys ds with
      | none => rw [q1, q2] at e'; cases e'
      | some qs => rw [q1, q2] at e'; cases e'; simp [zn8 q2]
theorem zn9 {pins : List (Addr × Obj)} {σ : L2.St} {H : Hp} {s : Shared} {m : M} {P : PQ} {Q : VK} {a : Addr} {es : List D} {p : PyData} {ps : List PyData} {b : PyData} (I : Inv X pins σ H s) (rM : RelM X.K H m) (hl : m.l a = some es) (hp : D.pys es = some (p :: ps))
    (q : QOk X.K H P Q) (h : ∀ d, d ∈ es → d.py = some b → P d m) :
    ∃ (its : List Value) (as : List Addr), s.heap.IsList a its.toArray ∧ ReadsAll s.heap its (p :: ps) as ∧
      ∀ (i : Nat) v h' tk bs, its.toArray[i]? = some v → Reads h' v b bs → (∀ b o, s.heap.get? b = some o → h'.get? b = some o) → EP X pins σ Q v { s with heap := h', toks := tk } := by
  obtain ⟨xs, hx, hr⟩ := rM a _ (M.l_of hl)
  obtain ⟨its, rv, pl, _⟩ := I.list (SqL.of hx)
  obtain ⟨as, ra⟩ := Dp.readsAll I _ _ its (zhM hp hr) rv
  refine ⟨its, as, pl.isList, ra, fun i v h' tk bs hi r hk => ?_⟩
  have hv : its[i]? = some v := by simpa using hi
  obtain ⟨hlt, _⟩ := List.getElem?_eq_some_iff.mp hv
  have hlx : i < xs.length := by rw [rv.length]; exact hlt
  obtain ⟨u', hu', rvu⟩ := rv.get (List.getElem?_eq_getElem hlx)
  rw [hv] at hu'
  cases hu'
  obtain ⟨d, hd, rd⟩ := hr.get' (List.getElem?_eq_getElem hlx)
  obtain ⟨pd, hpd, hps⟩ := zlx hp hd
  obtain ⟨as2, r2⟩ := Dp.reads I pd _ _ (zgc hpd rd) rvu
  have e := (PySem.Reads.unique (PyProof.Rows.Reads.keeps hk r2) _ _ r).1
  subst e
  exact ⟨_, H, I.kept hk, rvu, q d m (h d (List.mem_of_getElem? hd) hpd) _ H (Tx.refl H) rd rM⟩
theorem zr9 (hc : X.calm = true) (hu : X.A.units + 64 < cLine) : CallR X (.builtin "max") (lRL X.K znc) := by
  intro pins s σ H vs us Q I r h
  obtain ⟨ds, m, P, rs, rM, h, q⟩ := h
  match ds, h, rs with
  | [.int i, .int j], h, rs => exact zsY hc pins s σ H vs us Q I r ⟨[.int i, .int j], m, P, rs, rM, h, q⟩
  | [.ref a], ⟨es, p, ps, hl, hp, ha, hd, h⟩, ⟨v, r', ev, hv, hr⟩ =>
    obtain rfl : r' = [] := hr
    obtain rfl : v = .ref a := hv
    subst ev
    obtain ⟨its, as, il, ra, fin⟩ := zn9 I rM hl hp q h
    rw [Vals.ref1 r]
    exact PySem.W.max_list_data (I.ok.hd hc) il (by simpa using ra) ha (by omega) fin
end
end Ab
set_option Elab.async false
set_option linter.all false
set_option maxRecDepth 100000
set_option maxHeartbeats 4000000
namespace Ab
open PySem PySem.Spec PyProof.Rows L2
section
def okQ : Nat → D → Prop
  | _, .non => True
  | _, .bl _ => True
  | _, .int _ => True
  | _, .str x => PyData.strOk x = true
  | n + 1, .tup ds => ∀ d ∈ ds, okQ n d
  | _, _ => False
theorem zjB {n : Nat} : ∀ {ds : List D}, (∀ d ∈ ds, ∃ p, d.py = some p ∧ p.canLay0 = true ∧ p.depth ≤ n) → ∃ ps, D.pys ds = some ps ∧ PyData.canLayAll0 ps = true ∧ PyData.depthAll ps ≤ n
  | [], _ => ⟨[], rfl, rfl, Nat.zero_le _⟩
  | d :: ds, h => by
    obtain ⟨p, a, b, c⟩ := h d (by simp)
    obtain ⟨ps, a2, b2, c2⟩ := zjB (ds := ds) fun d hd => h d (by simp [hd])
    refine ⟨p :: ps, ?_, ?_, ?_⟩
    · show (match D.py d, D.pys ds with | some p, some ps => some (p :: ps) | _, _ => none) = _
      rw [a, a2]
    · simp only [PyData.canLayAll0, b, b2, Bool.and_self]
    · simp only [PyData.depthAll]; omega
theorem zg4 : ∀ {n : Nat} {d : D}, okQ n d → ∃ p, d.py = some p ∧ p.canLay0 = true ∧ p.depth ≤ n + 1
  | _, .non, _ => ⟨.none, rfl, rfl, by simp [PyData.depth]⟩
  | _, .bl b, _ => ⟨.bool b, rfl, rfl, by simp [PyData.depth]⟩
  | _, .int i, _ => ⟨.int i, rfl, rfl, by simp [PyData.depth]⟩
  | _, .str x, h => by
    refine ⟨.str x, rfl, ?_, by simp [PyData.depth]⟩
    simp only [PyData.canLay0]
    rename_i n
    cases n <;> exact h
  | 0, .tup ds, h => h.elim
  | n + 1, .tup ds, h => by
    obtain ⟨ps, a, b, c⟩ := zjB (n := n + 1) (ds := ds) fun d hd => zg4 (h d hd)
    refine ⟨.tuple ps, ?_, ?_, ?_⟩
    · show (D.pys ds).map PyData.tuple = _
      rw [a]; rfl
    · simpa [PyData.canLay0] using b
    · simp only [PyData.depth]; omega
  | 0, .fls ds, h => h.elim
  | _ + 1, .fls ds, h => h.elim
  | 0, .ref _, h => h.elim
  | _ + 1, .ref _, h => h.elim
  | 0, .ty _, h => h.elim
  | _ + 1, .ty _, h => h.elim
theorem zfB {p : PyData} {n : Nat} (h : p.canLay0 = true) (hd : p.depth ≤ n) (hn : n ≤ 64) : SeqAt.shaped p = true := by
  unfold SeqAt.shaped
  rw [h, Bool.true_and]
  exact decide_eq_true (Nat.le_trans hd hn)
theorem zsa {ds : List D} {p : PyData} (h : D.py (.tup ds) = some p) : ∃ ps, p = .tuple ps ∧ D.pys ds = some ps := by
  have e' : (D.pys ds).map PyData.tuple = some p := h
  cases q : D.pys ds with
  | none => rw [q] at e'; cases e'
  | some ps => rw [q] at e'; cases e'; exact ⟨ps, rfl, rfl⟩
section
variable {m : M} {Q : PQ} {d e : D} {ds es : List D} {n : Nat} {a b : Addr}
theorem zsb {k : Bool → Prop} (hd : okQ n (.tup ds)) (he : okQ n (.tup es)) (hn : n ≤ 60) (q : ∀ p q, D.py (.tup ds) = some p → D.py (.tup es) = some q → p.canLay0 = true → k (PyData.eqv p q)) : eqA (.tup ds) (.tup es) m k := by
  obtain ⟨p, a1, a2, a3⟩ := zg4 hd
  obtain ⟨p', b1, b2, b3⟩ := zg4 he
  show (match D.pyM m (.tup ds), D.pyM m (.tup es) with
    | some p, some q => (SeqAt.shaped p = true ∧ SeqAt.shaped q = true) ∧ k (PyData.eqv p q)
    | _, _ => False)
  rw [show D.pyM m (.tup ds) = some p from a1, show D.pyM m (.tup es) = some p' from b1]
  exact ⟨⟨zfB a2 a3 (by omega), zfB b2 b3 (by omega)⟩, q p p' a1 b1 a2⟩
theorem zsc (h : okQ n (.tup ds)) (hn : n ≤ 60) (q : Q (.bl true) m) : zbV (.tup ds) (.tup ds) m Q :=
  zsb h h hn fun p p' a b c => by
    rw [a] at b; cases b
    rw [SeqAt.eqv_refl p c]; exact q
theorem zsd {k : Bool → Prop} (ha : m.l a = some ds) (hb : m.l b = some es) (hd : ∀ d ∈ ds, okQ n d) (he : ∀ d ∈ es, okQ n d) (hn : n ≤ 60) (q : ∀ ps qs, D.pys ds = some ps → D.pys es = some qs → PyData.canLayAll0 ps = true → k (PyData.eqvAll ps qs)) : eqA (.ref a) (.ref b) m k := by
  obtain ⟨ps, a1, a2, a3⟩ := zjB (n := n + 1) (ds := ds) fun d hd' => zg4 (hd d hd')
  obtain ⟨qs, b1, b2, b3⟩ := zjB (n := n + 1) (ds := es) fun d hd' => zg4 (he d hd')
  have e : ∀ c ds ps, m.l c = some ds → D.pys ds = some ps → D.pyM m (.ref c) = some (.list ps) := fun c ds ps h1 h2 => by
    show (match m.l c with | some ds => (D.pys ds).map PyData.list | none => none) = _
    rw [h1]
    simp only [h2, Option.map_some]
  show (match D.pyM m (.ref a), D.pyM m (.ref b) with
    | some p, some q => (SeqAt.shaped p = true ∧ SeqAt.shaped q = true) ∧ k (PyData.eqv p q)
    | _, _ => False)
  rw [e a ds ps ha a1, e b es qs hb b1]
  have sh : ∀ ps : List PyData, PyData.canLayAll0 ps = true → PyData.depthAll ps ≤ n + 1 → SeqAt.shaped (.list ps) = true := fun ps h1 h2 =>
    zfB (n := n + 2) (by simpa [PyData.canLay0] using h1) (by simp only [PyData.depth]; omega) (by omega)
  refine ⟨⟨sh _ a2 a3, sh _ b2 b3⟩, ?_⟩
  have := q ps qs a1 b1 a2
  simpa only [PyData.eqv] using this
theorem eqvAll_refl : ∀ ps : List PyData, PyData.canLayAll0 ps = true → PyData.eqvAll ps ps = true
  | [], _ => by simp [PyData.eqvAll]
  | p :: ps, h => by
    simp only [PyData.canLayAll0, Bool.and_eq_true] at h
    simp only [PyData.eqvAll, SeqAt.eqv_refl p h.1, eqvAll_refl ps h.2, Bool.and_self]
theorem znd (ha : m.l a = some ds) (hb : m.l b = some ds) (hd : ∀ d ∈ ds, okQ n d) (hn : n ≤ 60) (q : Q (.bl false) m) : zcv (.ref a) (.ref b) m Q :=
  zsd ha hb hd hd hn fun ps qs x y c => by
    rw [x] at y; cases y
    rw [eqvAll_refl ps c]; exact q
def enL : Nat → List D → List D
  | _, [] => []
  | i, d :: ds => .tup [.int (i : Nat), d] :: enL (i + 1) ds
theorem zoa : ∀ (ds : List D) (i j : Nat), (enL i ds)[j]? = (ds[j]?).map fun d => .tup [.int ((i + j : Nat) : Int), d]
  | [], i, j => by simp [enL]
  | d :: ds, i, 0 => by simp [enL]
  | d :: ds, i, j + 1 => by
    rw [enL, List.getElem?_cons_succ, List.getElem?_cons_succ, zoa ds (i + 1) j, show i + 1 + j = i + (j + 1) by omega]
theorem zq0 (ds : List D) : enD ds = enL 0 ds := by
  apply List.ext_getElem?
  intro j
  rw [zoa]
  unfold enD
  rw [List.getElem?_map, Nat.zero_add]
  by_cases h : j < ds.length
  · rw [List.getElem?_range h, List.getElem?_eq_getElem h]
    show some (D.tup [_, ds.getD j .non]) = some _
    rw [List.getD_eq_getElem?_getD, List.getElem?_eq_getElem h]
    rfl
  · rw [List.getElem?_eq_none (by simpa using h), List.getElem?_eq_none (by omega)]
    rfl
theorem zne {te : AE} {e : En} {m : M} {P : List D → (M → Prop) → M → Prop} {R : PX} (h : te e m (fun d m1 => match d with
  | .tup ds => P (enL 0 ds) (fun _ => True) m1
  | .fls ds => P (enL 0 ds) (fun _ => True) m1
  | .ref a => (match m1 a with
    | some (.lst ds) => P (enL 0 ds) (fun m2 => m2 a = some (.lst ds)) m1
    | _ => False)
  | _ => False) R) : zhN te e m P R := by
  unfold zhN
  simp only [zq0]
  exact h
end
end
section
def zoM (f : Str) (v : D) : List (Str × D) → List (Str × D)
  | [] => [(f, v)]
  | (g, x) :: r => if g = f then (g, v) :: r else (g, x) :: zoM f v r
section
variable {K : PySem.W.Frag} {H : Hp}
theorem RepF.look {f : Str} : ∀ {fs : List (Str × D)} {l : List (Str × V)} {d : D}, RepF K H fs l → fs.lookup f = some d → ∃ v, l.lookup f = some v ∧ Rep K H d v
  | [], _, _, h, e => by simp at e
  | (k, x) :: r, _, d, ⟨v, l, e1, hv, hr⟩, e => by
    subst e1
    by_cases q : f = k
    · subst q
      simp at e
      subst e
      exact ⟨v, by simp, hv⟩
    · have b : (f == k) = false := by simpa using q
      simp only [List.lookup, b] at e ⊢
      exact RepF.look hr e
theorem RepF.len : ∀ {fs : List (Str × D)} {l : List (Str × V)}, RepF K H fs l → fs.length = l.length
  | [], _, h => by rw [show _ = [] from h]; rfl
  | (k, x) :: r, _, ⟨v, l, e1, hv, hr⟩ => by rw [e1]; simp [RepF.len hr]
theorem RepF.put {f : Str} {d : D} {u : V} (hu : Rep K H d u) : ∀ {fs : List (Str × D)} {l : List (Str × V)}, RepF K H fs l → RepF K H (zoM f d fs) (putF f u l)
  | [], _, h => by rw [show _ = [] from h]; exact ⟨u, [], rfl, hu, rfl⟩
  | (k, x) :: r, _, ⟨v, l, e1, hv, hr⟩ => by
    subst e1
    unfold zoM putF
    by_cases q : k = f
    · rw [if_pos q, if_pos q]; exact ⟨u, l, rfl, hu, hr⟩
    · rw [if_neg q, if_neg q]; exact ⟨v, _, rfl, hv, RepF.put hu hr⟩
end
section
variable {X : Cx} {W : WX}
structure CalM (P : Program) (w : World) (K : PySem.W.Frag) (mg : Str → Option Value) (base : Heap) (C : Addr) (x : Str) (k n : Nat) (sp : ASp) : Prop where
  ex : ∃ (f : Addr) (fd : FuncData) (ps : List Str), FnOk P w K mg base (L2.CX P w) k f fd ps (lSp K n sp) ∧ Cls K C ∧ Meth K C x f ∧ Binds K fd ps []
theorem CalM.mono {P : Program} {w : World} {K : PySem.W.Frag} {mg : Str → Option Value} {base : Heap} {C : Addr} {x : Str} {k j n : Nat} {sp : ASp} (c : CalM P w K mg base C x k n sp) (h : k ≤ j) : CalM P w K mg base C x j n sp :=
  let ⟨f, fd, ps, a, b⟩ := c.ex; ⟨f, fd, ps, a.mono h, b⟩
section
variable {k n : Nat} {C f : Addr} {fd : FuncData} {ps : List Str} {sp : Sp} {E : L2.St → XK} {x mt : Str} {p pos apos : Pos} {o e : Expr} {es : List Expr} {ta : TE} {t : TA}
end
structure zuO (P : Program) (w : World) (K : PySem.W.Frag) (mg : Str → Option Value) (base : Heap) (C : Addr) (x : Str) (k n : Nat) (sp : ASp) : Prop where
  ex : ∃ (f : Addr) (fd : FuncData) (ps : List Str), FnOk P w K mg base (L2.CX P w) k f fd ps (lSp K n sp) ∧ Mk K C f ∧ mg x = some (.ref C) ∧ Binds K fd ps []
end
section
variable {P : Program} {w : World} {K : PySem.W.Frag} {mg : Str → Option Value} {base : Heap}
end
end
section
def zpD : List D → List D → List D
  | d :: ds, e :: es => .tup [d, e] :: zpD ds es
  | _, _ => []
theorem zly : ∀ {ds es : List D} {i : Nat} {d : D}, (zpD ds es)[i]? = some d → ∃ x y, ds[i]? = some x ∧ es[i]? = some y ∧ d = .tup [x, y]
  | [], _, _, _, h => by simp [zpD] at h
  | _ :: _, [], _, _, h => by simp [zpD] at h
  | a :: ds, b :: es, 0, d, h => by simp [zpD] at h; exact ⟨a, b, rfl, rfl, h.symm⟩
  | a :: ds, b :: es, i + 1, d, h => by
    obtain ⟨x, y, h1, h2, h3⟩ := zly (ds := ds) (es := es) (i := i) (by simpa [zpD] using h)
    exact ⟨x, y, by simpa using h1, by simpa using h2, h3⟩
theorem zhO : ∀ (ds es : List D), (zpD ds es).length = min ds.length es.length
  | [], _ => by simp [zpD]
  | _ :: _, [] => by simp [zpD]
  | a :: ds, b :: es => by simp [zpD, zhO ds es]
def zoN (ta tb : AE) : AI := fun e m Q R => ta e m (fun x m1 => tb e m1 (fun y m2 => match x, y with
  | .tup ds, .tup es => Q (zpD ds es) (fun _ => True) m2
  | .ref a, .ref b => (match m2 a, m2 b with
    | some (.lst ds), some (.lst es) => Q (zpD ds es) (fun m3 => m3 a = some (.lst ds) ∧ m3 b = some (.lst es)) m2
    | _, _ => False)
  | _, _ => False) R) R
section
variable {X : Cx} {W : WX}
theorem zob {K : PySem.W.Frag} {H : Hp} {T : Addr} {x y : V} {d e : D} (hT : H T = none) (r : Rep K H d x) (r2 : Rep K H e y) : Rep K (upd H T (.tup [x, y])) (.tup [d, e]) (.ref T) :=
  ⟨T, [x, y], rfl, SqT.of upd_same, ⟨_, _, rfl, r.mono (Tx.new hT), ⟨_, _, rfl, r2.mono (Tx.new hT), rfl⟩⟩⟩
theorem zth   {elts : List Expr} {kk : Nat} {p pos tpos : Pos} {a b : Expr} {ta tb : AE} (hm : X.mg "zip" = none) (ha : GE X W a ta) (hb : GE X W b tb) (hg : Gl X "zip" := by rfl)
    (hs0 : starEach [a, b] X.env = (false, eval a X.env) :: starEach [b] X.env := by rfl) (hs1 : starEach [b] X.env = (false, eval b X.env) :: starEach [] X.env := by rfl) (hpl : (backTo pos (starEach [b] X.env)).any (·.1) = false := by rfl) :
    GI' X W (.Tuple elts kk tpos) (.Call (.Name "zip" p) [a, b] [] pos) (zoN ta tb) := zju (RZ.pi_zipA hg hm (pa_cons ha (pa_cons hb pa_nil hs1) hs0) hs0 hpl) fun σ H Q h => by
  obtain ⟨e, m, P, R, rE, rM, t, q, w⟩ := h
  refine ⟨e, m, _, R, rE, rM, t, fun d1 m1 h1 x H1 t1 r1 rm1 => ?_, w⟩
  refine ⟨e, m1, _, R, rE.mono t1, rm1, h1, fun d2 m2 h2 y H2 t2 r2 rm2 => ?_, w.mono t1⟩
  show ∃ a b xs ys, [x, y] = [V.ref a, V.ref b] ∧ _
  have r1' := r1.mono t2
  have tt := t1.trans t2
  cases d1 with
  | tup ds =>
    cases d2 with
    | tup es =>
      obtain ⟨a, xs, rfl, hs, hr⟩ := r1'
      obtain ⟨b, ys, rfl, ks, kr⟩ := r2
      refine ⟨a, b, xs, ys, rfl, .inr ⟨hs, ks, q (zpD ds es) _ m2 h2 _ H2 tt rm2 ⟨fun i H3 m3 t3 _ _ hi => ?_, fun i d H3 m3 x H4 t3 rm3 _ hd y => ?_, fun H3 m3 t3 _ _ => ?_⟩⟩⟩
      · rw [zhO, hr.length, kr.length] at hi
        have i1 : i < xs.length := by omega
        have i2 : i < ys.length := by omega
        exact ⟨xs, ys, xs[i], ys[i], zdg t3 hs, zdg t3 ks, by simp [i1], by simp [i2]⟩
      · obtain ⟨T, u, v, ev, hT, e3, hx, hy⟩ := y
        subst e3 ev
        obtain ⟨d1, d2, hd1, hd2, rfl⟩ := zly hd
        obtain ⟨v1, hv1, rv1⟩ := hr.get hd1
        obtain ⟨v2, hv2, rv2⟩ := kr.get hd2
        have z1 := hx xs (zdg t3 hs)
        have z2 := hy ys (zdg t3 ks)
        rw [hv1] at z1
        rw [hv2] at z2
        cases z1
        cases z2
        exact ⟨Tx.new hT, zob hT (rv1.mono t3) (rv2.mono t3), fun m3 z => z.grow hT⟩
      · refine ⟨xs, ys, zdg t3 hs, zdg t3 ks, ?_⟩
        rw [zhO, hr.length, kr.length]; omega
    | _ => exact h2.elim
  | ref a =>
    cases d2 with
    | ref b =>
      obtain rfl : x = V.ref a := r1
      obtain rfl : y = V.ref b := r2
      have h2' : (match m2 a, m2 b with | some (.lst ds), some (.lst es) => P (zpD ds es) (fun m3 => m3 a = some (.lst ds) ∧ m3 b = some (.lst es)) m2 | _, _ => False) := h2
      cases e1 : m2 a with
      | none => rw [e1] at h2'; exact h2'.elim
      | some o1 =>
        cases e2 : m2 b with
        | none => rw [e1, e2] at h2'; cases o1 <;> exact h2'.elim
        | some o2 =>
          rw [e1, e2] at h2'
          cases o1 with
          | lst ds =>
            cases o2 with
            | lst es =>
              obtain ⟨xs, hx, hr⟩ := rm2 a _ e1
              obtain ⟨ys, hy, kr⟩ := rm2 b _ e2
              refine ⟨a, b, xs, ys, rfl, .inl ⟨SqL.of hx, SqL.of hy, q (zpD ds es) _ m2 h2' _ H2 tt rm2 ⟨fun i H3 m3 t3 rm3 g3 hi => ?_, fun i d H3 m3 x H4 t3 rm3 g3 hd y => ?_, fun H3 m3 t3 rm3 g3 => ?_⟩⟩⟩
              · obtain ⟨us, hu, ru⟩ := rm3 a _ g3.1
                obtain ⟨vs, hv, rv⟩ := rm3 b _ g3.2
                rw [zhO, ru.length, rv.length] at hi
                have i1 : i < us.length := by omega
                have i2 : i < vs.length := by omega
                exact ⟨us, vs, us[i], vs[i], SqL.of hu, SqL.of hv, by simp [i1], by simp [i2]⟩
              · obtain ⟨us, hu, ru⟩ := rm3 a _ g3.1
                obtain ⟨vs, hv, rv⟩ := rm3 b _ g3.2
                obtain ⟨T, u, v, ev, hT, e3, hx3, hy3⟩ := y
                subst e3 ev
                obtain ⟨d1, d2, hd1, hd2, rfl⟩ := zly hd
                obtain ⟨v1, hv1, rv1⟩ := ru.get hd1
                obtain ⟨v2, hv2, rv2⟩ := rv.get hd2
                have z1 := hx3 us (SqL.of hu)
                have z2 := hy3 vs (SqL.of hv)
                rw [hv1] at z1
                rw [hv2] at z2
                cases z1
                cases z2
                exact ⟨Tx.new hT, zob hT rv1 rv2, fun m3 z => z.grow hT⟩
              · obtain ⟨us, hu, ru⟩ := rm3 a _ g3.1
                obtain ⟨vs, hv, rv⟩ := rm3 b _ g3.2
                refine ⟨us, vs, SqL.of hu, SqL.of hv, ?_⟩
                rw [zhO, ru.length, rv.length]; omega
            | _ => exact h2'.elim
          | _ => cases o2 <;> exact h2'.elim
    | _ => exact h2.elim
  | _ => cases d2 <;> exact h2.elim
theorem zuw {ta tb : AE} {e : En} {m : M} {P : List D → (M → Prop) → M → Prop} {R : PX} (h : ta e m (fun x m1 => tb e m1 (fun y m2 => match x, y with
  | .tup ds, .tup es => P (zpD ds es) (fun _ => True) m2
  | .ref a, .ref b => (match m2 a, m2 b with
    | some (.lst ds), some (.lst es) => P (zpD ds es) (fun m3 => m3 a = some (.lst ds) ∧ m3 b = some (.lst es)) m2
    | _, _ => False)
  | _, _ => False) R) R) : zoN ta tb e m P R := h
end
end
section
def valD (ps : List (Key × D)) (k : Key) : Option D := (ps.find? fun p => decide (p.1 = k)).map (·.2)
theorem zmc {p : Key × D} {ps : List (Key × D)} {k : Key} : valD (p :: ps) k = if p.1 = k then some p.2 else valD ps k := by
  unfold valD
  rw [List.find?_cons]
  by_cases e : p.1 = k
  · simp [e]
  · simp [e]
section
variable {K : PySem.W.Frag} {H : Hp}
theorem RepKV.some {k : Key} : ∀ {ps : List (Key × D)} {l : List (Key × V)} {d : D}, RepKV K H ps l → valD ps k = some d → ∃ v, valV l k = some v ∧ Rep K H d v
  | [], _, _, h, e => by cases e
  | (k', d') :: ps, _, d, ⟨v, r, el, hv, hr⟩, e => by
    subst el
    rw [zmc] at e
    by_cases q : k' = k
    · rw [if_pos q] at e
      cases e
      exact ⟨v, by unfold valV; rw [List.find?_cons]; simp [q], hv⟩
    · rw [if_neg q] at e
      obtain ⟨u, h1, h2⟩ := RepKV.some hr e
      exact ⟨u, by unfold valV at h1 ⊢; rw [List.find?_cons]; simpa [q] using h1, h2⟩
theorem RepKV.none {k : Key} : ∀ {ps : List (Key × D)} {l : List (Key × V)}, RepKV K H ps l → valD ps k = none → valV l k = none
  | [], _, h, e => by rw [show _ = [] from h]; rfl
  | (k', d') :: ps, _, ⟨v, r, el, hv, hr⟩, e => by
    subst el
    rw [zmc] at e
    by_cases q : k' = k
    · rw [if_pos q] at e; cases e
    · rw [if_neg q] at e
      have h1 := RepKV.none hr e
      unfold valV at h1 ⊢
      rw [List.find?_cons]; simpa [q] using h1
end
section
variable {X : Cx} {W : WX}
structure GPs (X : Cx) (W : WX) (pos : Pos) (keys : List (Option Expr)) (values : List Expr) (trs : List (AE × AE)) : Prop where
  ps : PPs X pos keys values (trs.map fun t => (lE X.K W t.1, lE X.K W t.2))
end
end
section
set_option maxHeartbeats 2000000
section
variable {X : Cx} {pins : List (Addr × Obj)} {σ : L2.St} {H : Hp} {s : Shared}
theorem zpq {P : Addr} {H' : Hp} {h' : Heap} {t' : Nat} (I : Inv X pins σ H s) (hP : ∃ ps, H P = some (.tbl ps)) (kp : ∀ b o, b ≠ P → s.heap.get? b = some o → h'.get? b = some o) (th : ∃ o, h'.get? P = some o)
    (new : ∀ b, (∃ o, s.heap.get? b = some o) → b ≠ P → H' b = H b) (old : ∀ b, b ≠ P → H b ≠ none → H' b = H b) (tb : ∀ ps, H P = some (.tbl ps) → ∃ more, H' P = some (.tbl (ps ++ more)))
    (ok : ∀ b o, H b = none → H' b = some o → ObjOk X.prog X.w H' h' b o) (okP : ∀ ps, H' P = some (.tbl ps) → h'.get? P = some { cls := .none, data := .fields ps }) :
    Inv X pins σ H' { s with heap := h', toks := t' } := by
  obtain ⟨psP, hP⟩ := hP
  have neP : ∀ b u, H b = some u → (∀ q, u ≠ .tbl q) → b ≠ P := fun b u e q z => by
    rw [z, hP] at e
    exact q psP (Option.some.inj e).symm
  have nP : ∀ b, H b = none → b ≠ P := fun b e z => by rw [z, hP] at e; cases e
  refine I.step (g' := s.gens) (d' := s.drawn) (ch := []) (fun b hb => absurd hb (by simp)) (fun b o _ _ _ e n => kp b o (nP b n) e) (fun b o _ _ _ e n => ⟨o.slots, kp b o (nP b n) e⟩)
    (fun b o _ e n => by rw [new b ⟨o, e⟩ (nP b n)]; exact n) (fun b o _ e => ?_) (fun b xs e => ?_) (fun b o u e => ?_) (fun b ps e => ?_) (fun m hn => ?_) (fun b u e => ?_) I.bare
  · by_cases hb : b = P
    · subst hb; exact th
    · exact ⟨o, kp b o hb e⟩
  · rw [old b (neP b _ e fun q z => by cases z) (by rw [e]; simp)]; exact e
  · rw [old b (neP b _ e fun q z => by cases z) (by rw [e]; simp)]; exact e
  · by_cases hb : b = P
    · subst hb; exact tb ps e
    · exact ⟨#[], by rw [old b hb (by rw [e]; simp), e]; simp⟩
  · obtain ⟨ob, es, ep, ho, r⟩ := hn
    exact ⟨ob, es, ep, kp _ ob (nP _ I.free) ho, r⟩
  · by_cases hb : b = P
    · subst hb
      obtain ⟨more, e2⟩ := tb psP hP
      rw [e2] at e
      cases e
      exact okP _ e2
    · cases hn : H b with
      | none => exact ok b u hn e
      | some v =>
        have e' : H b = some u := by rw [← old b hb (by rw [hn]; simp)]; exact e
        refine (I.hok b u e').stay (fun d x hd q => kp d x ?_ q) (fun d q => by rw [old d (neP d _ q fun _ z => by cases z) (by rw [q]; simp)]; exact q) fun d xs q => by rw [old d (neP d _ q fun _ z => by cases z) (by rw [q]; simp)]; exact q
        rcases hd with z | z
        · rw [z]; exact hb
        · exact neP d _ z fun _ z => by cases z
theorem zpU {c P : Addr} {L : zb2} {pos : Pos} {E : Value → Shared → Prop} {Q : Value → Shared → Prop} (I : Inv X pins σ H s) (TB : LamX.TabB X.base X.mg c P) (hcode : X.env.code = .ref c) (hq : L.qual = X.env.qual ++ "<lambda>")
    (hT : zpP H P L.qual) (hdef : defaultsOf L.params X.env = ([], [])) (hfree : ∀ y ∈ L.scope.names, y.2 = .free → ∃ c, X.env.cells.lookup y.1 = some c)
    (h : ∀ (f : Addr) (H1 : Hp) (s' : Shared), Inv X pins σ H1 s' → Tx H H1 → (∀ b o, b ≠ P → H b = some o → H1 b = some o) → zpP H1 P L.qual → H f = none → FnK H1 f L (cloFrom X.env.cells L.scope.names []) → Q (.ref f) s') :
    wpAny (model X.prog X.w) X.A (eval (.Lambda L.params L.body L.scope pos) X.env) Q E s := by
  obtain ⟨ps, hP, ht, ha⟩ := hT
  refine PySem.W.kla_eval hdef ?_
  rw [← hq]
  have bP : s.heap.BuiltinsAt X.mg P := TB.bm.keeps I.bk
  have atP : s.heap.get? P = some { cls := .none, data := .fields ps } := I.hok P _ hP
  have ltP : P < s.heap.objs.size := Heap.lt_size atP
  cases hc : codeAmong pos ps.toList with
  | none =>
    refine PySem.W.kla_makeFunction (mg := X.mg) (ps := ps) (closure_ok hfree) I.ok.glob (I.mod.glob.keeps I.bk) hcode (TB.code.keeps I.bk) atP ht hc TB.gP bP fun c' ctv h1 tk hx hge hlt hrec htb => ?_
    obtain ⟨c2, oc, vs, t, e2, hoc, hd, hv⟩ := hrec
    cases e2
    have hsz : s.heap.objs.size ≤ h1.objs.size := Nat.le_trans hge (Nat.le_of_lt hlt)
    have nC : H c' = none := I.hok.fresh hge
    have nF : H h1.objs.size = none := I.hok.fresh hsz
    have fc : h1.objs.size ≠ c' := Nat.ne_of_gt hlt
    have fP : h1.objs.size ≠ P := Nat.ne_of_gt (Nat.lt_of_lt_of_le ltP hsz)
    have cP : c' ≠ P := Nat.ne_of_gt (Nat.lt_of_lt_of_le ltP hge)
    generalize hfo : PySem.W.kla_obj "<lambda>" L.qual L.params L.body L.scope (cloFrom X.env.cells L.scope.names []) ((X.mg "__name__").getD .none) c' ctv = fo
    generalize hH1 : (fun b => if b = h1.objs.size then some (Kd fo) else if b = c' then some (Kd oc) else if b = P then some (HO.tbl (ps ++ #[rawInt pos.line, rawInt pos.col, .ref c'])) else H b : Hp) = H1
    have e1 : H1 h1.objs.size = some (Kd fo) := by rw [← hH1]; exact if_pos rfl
    have e2 : H1 c' = some (Kd oc) := by rw [← hH1]; exact (if_neg (Ne.symm fc)).trans (if_pos rfl)
    have e3 : H1 P = some (.tbl (ps ++ #[rawInt pos.line, rawInt pos.col, .ref c'])) := by rw [← hH1]; exact (if_neg (Ne.symm fP)).trans ((if_neg (Ne.symm cP)).trans (if_pos rfl))
    have e4 : ∀ b, b ≠ h1.objs.size → b ≠ c' → b ≠ P → H1 b = H b := fun b x y z => by rw [← hH1]; exact (if_neg x).trans ((if_neg y).trans (if_neg z))
    have old : ∀ b, b ≠ P → H b ≠ none → H1 b = H b := fun b hb hn => e4 b (fun z => hn (z ▸ nF)) (fun z => hn (z ▸ nC)) hb
    have gf : (h1.push fo).get? h1.objs.size = some fo := Heap.get?_push_size _ (by rw [← hfo]; rfl)
    have gc : (h1.push fo).get? c' = some oc := Heap.get?_push_of_some _ hoc
    have gP : (h1.push fo).get? P = some { cls := .none, data := .fields (ps ++ #[rawInt pos.line, rawInt pos.col, .ref c']) } := Heap.get?_push_of_some _ htb
    have tx : Tx H H1 := by
      refine ⟨fun a xs e => ?_, fun a o u e => ?_⟩
      · rw [old a (fun z => by rw [z, hP] at e; cases e) (by rw [e]; simp)]; exact e
      · rw [old a (fun z => by rw [z, hP] at e; cases e) (by rw [e]; simp)]; exact e
    have I1 := zpq (t' := tk) (H' := H1) (h' := h1.push fo) I ⟨ps, hP⟩ (fun b o hb e => Heap.get?_push_of_some _ (hx b o hb e)) ⟨_, gP⟩
      (fun b ⟨o, e⟩ hb => e4 b (Nat.ne_of_lt (Nat.lt_of_lt_of_le (Heap.lt_size e) hsz)) (Nat.ne_of_lt (Nat.lt_of_lt_of_le (Heap.lt_size e) hge)) hb) old
      (fun qs e => by rw [hP] at e; cases e; exact ⟨_, e3⟩)
      (fun b o hn e => by
        by_cases b1 : b = h1.objs.size
        · subst b1; rw [e1] at e; cases e; exact zkC gf
        · by_cases b2 : b = c'
          · subst b2; rw [e2] at e; cases e; exact zkC gc
          · by_cases b3 : b = P
            · rw [b3, hP] at hn; cases hn
            · rw [e4 b b1 b2 b3, hn] at e; cases e)
      (fun qs e => by rw [e3] at e; cases e; exact gP)
    have code1 : CodeK H1 c' L.qual := ⟨oc, vs, t, e2, hd, hv⟩
    refine h _ H1 _ I1 tx (fun b o hb e => by rw [old b hb (by rw [e]; simp)]; exact e) ⟨_, e3, ?_, fun p' cv hcv => ?_⟩ nF ⟨c', _, ctv, by rw [e1, ← hfo], code1⟩
    · rw [show (ps ++ #[rawInt pos.line, rawInt pos.col, .ref c']).toList = ps.toList ++ [rawInt pos.line, rawInt pos.col, .ref c'] by simp]
      exact PySem.TriplesOk_snoc _ _ _ _ ht
    · rw [show (ps ++ #[rawInt pos.line, rawInt pos.col, .ref c']).toList = ps.toList ++ [rawInt pos.line, rawInt pos.col, .ref c'] by simp] at hcv
      rcases LamX.among_app _ ht hcv with z | z
      · obtain ⟨c0, a1, a2⟩ := ha p' cv z
        exact ⟨c0, a1, a2.tx tx⟩
      · exact ⟨c', z, code1⟩
  | some cv =>
    obtain ⟨c', ec, hco⟩ := ha pos cv hc
    subst ec
    refine PySem.W.kla_makeFunctionHit (mg := X.mg) (ps := ps) (closure_ok hfree) I.ok.glob (I.mod.glob.keeps I.bk) hcode (TB.code.keeps I.bk) atP ht hc bP fun ctv h1 tk hx hsz => ?_
    have nF : H h1.objs.size = none := I.hok.fresh hsz
    have fP : h1.objs.size ≠ P := Nat.ne_of_gt (Nat.lt_of_lt_of_le ltP hsz)
    have tx : Tx H (upd H h1.objs.size (Kd (PySem.W.kla_obj "<lambda>" L.qual L.params L.body L.scope (cloFrom X.env.cells L.scope.names []) ((X.mg "__name__").getD .none) c' ctv))) := Tx.new nF
    have gf : (h1.push (PySem.W.kla_obj "<lambda>" L.qual L.params L.body L.scope (cloFrom X.env.cells L.scope.names []) ((X.mg "__name__").getD .none) c' ctv)).get? h1.objs.size = some _ := Heap.get?_push_size _ rfl
    have I1 := I.laid (t' := tk) (a := h1.objs.size) (o := Kd (PySem.W.kla_obj "<lambda>" L.qual L.params L.body L.scope (cloFrom X.env.cells L.scope.names []) ((X.mg "__name__").getD .none) c' ctv)) (fun b o e => Heap.get?_push_of_some _ (hx b o e)) hsz (zkC gf)
    refine h _ _ _ I1 tx (fun b o _ e => by rw [upd_ne (ne_of_none e nF)]; exact e) ⟨ps, by rw [upd_ne (Ne.symm fP)]; exact hP, ht, fun p' cv hcv => ?_⟩ nF ⟨c', _, ctv, upd_same, hco.tx tx⟩
    obtain ⟨c0, a1, a2⟩ := ha p' cv hcv
    exact ⟨c0, a1, a2.tx tx⟩
end
end
section
set_option maxHeartbeats 2000000
def dropC (H : Hp) (cs : List Addr) : Hp := fun b => if b ∈ cs then none else H b
def zcZ (H H1 : Hp) (cs : List Addr) : Hp := fun b => if b ∈ cs then H b else H1 b
theorem zeB {H : Hp} {cs : List Addr} {b : Addr} (h : b ∈ cs) : dropC H cs b = none := if_pos h
theorem zW {H : Hp} {cs : List Addr} {b : Addr} (h : b ∉ cs) : dropC H cs b = H b := if_neg h
theorem zin {H H1 : Hp} {cs : List Addr} {b : Addr} (h : b ∈ cs) : zcZ H H1 cs b = H b := if_pos h
theorem zbW {H H1 : Hp} {cs : List Addr} {b : Addr} (h : b ∉ cs) : zcZ H H1 cs b = H1 b := if_neg h
section
variable {P : Program} {w : World} {K : PySem.W.Frag} {mg : Str → Option Value} {base : Heap}
def zg5 (H : Hp) (cs : List Addr) : Prop := ∀ c ∈ cs, ∃ o, H c = some (Kd o)
theorem ClK.kd {H : Hp} {L : zb2} {ys : List Str} {cl : List (Str × Addr)} {vs : List V} (x : ClK H L ys cl vs) : zg5 H (cl.map (·.2)) := fun c hc => by
  obtain ⟨y, e⟩ := x.mem c hc
  obtain ⟨i, hi⟩ := x.only y c e
  obtain ⟨c2, v, wv, o, e2, _, _, e3, _⟩ := x.cells i y hi
  rw [e] at e2; cases e2
  exact ⟨o, e3⟩
theorem zc9 {H : Hp} {cs : List Addr} (k : zg5 H cs) {b : Addr} {u : HO} (e : H b = some u) (h : ∀ o v, u ≠ .frz o v) : b ∉ cs := fun z => by
  obtain ⟨o, q⟩ := k b z
  rw [q] at e
  cases e
  exact h _ _ rfl
theorem zdz {H : Hp} {cs : List Addr} (k : zg5 H cs) {b : Addr} (e : H b = none) : b ∉ cs := fun z => by
  obtain ⟨o, q⟩ := k b z
  rw [q] at e; cases e
theorem zpV {H : Hp} {h : Heap} {cs : List Addr} (k : zg5 H cs) (x : HOk P w H h) : HOk P w (dropC H cs) h := fun a o e => by
  by_cases ha : a ∈ cs
  · rw [zeB ha] at e; cases e
  · rw [zW ha] at e
    exact (x a o e).stay (fun _ _ _ q => q) (fun b q => by rw [zW (zc9 k q fun _ _ z => by cases z)]; exact q) fun b xs q => by rw [zW (zc9 k q fun _ _ z => by cases z)]; exact q
theorem znf {H H1 : Hp} {h B : Heap} {cs : List Addr} (k : zg5 H cs) (x : HOk P w H h) (x1 : HOk P w H1 B) (kp : ∀ c ∈ cs, ∀ o, h.get? c = some o → B.get? c = some o ∧ H1 c = none) : HOk P w (zcZ H H1 cs) B := fun a o e => by
  have nin : ∀ b u, H1 b = some u → b ∉ cs := fun b u q z => by
    obtain ⟨ob, e2⟩ := k b z
    have := (kp b z ob (zeQ x e2)).2
    rw [q] at this; cases this
  by_cases ha : a ∈ cs
  · rw [zin ha] at e
    obtain ⟨ob, e2⟩ := k a ha
    rw [e2] at e; cases e
    exact zkC (kp a ha ob (zeQ x e2)).1
  · rw [zbW ha] at e
    exact (x1 a o e).stay (fun _ _ _ q => q) (fun b q => by rw [zbW (nin b _ q)]; exact q) fun b xs q => by rw [zbW (nin b _ q)]; exact q
theorem zq1 {fs : List Addr} {H H1 : Hp} {h h1 : Heap} {cs : List Addr} (k : zg5 H cs) (u : Un fs [] (dropC H cs) H1 h h1) : Un fs [] H (zcZ H H1 cs) h h1 := by
  refine ⟨fun b o e n hb hx => u.keep b o e (by rw [zW (zdz k n)]; exact n) hb hx, fun b o e n hb hx => u.slot b o e (by rw [zW (zdz k n)]; exact n) hb hx, fun b o e n hx => ?_, u.there, fun b xs e => ?_, fun b o v e => ?_, fun b ps e => ?_⟩
  · rw [zbW (zdz k n)]
    exact u.free b o e (by rw [zW (zdz k n)]; exact n) hx
  · have q := zc9 k e fun _ _ z => by cases z
    rw [zbW q]
    exact u.tups b xs (by rw [zW q]; exact e)
  · by_cases hb : b ∈ cs
    · rw [zin hb]; exact e
    · rw [zbW hb]
      exact u.frzs b o v (by rw [zW hb]; exact e)
  · have q := zc9 k e fun _ _ z => by cases z
    rw [zbW q]
    exact u.tbls b ps (by rw [zW q]; exact e)
theorem zq2 {fs : List Addr} {H H1 : Hp} {h B h1 : Heap} {cs : List Addr} (k : zg5 H cs) (u : UB fs (dropC H cs) H1 h B h1) : UB fs H (zcZ H H1 cs) h B h1 := by
  refine ⟨fun b o e n hb => u.keep b o e (by rw [zW (zdz k n)]; exact n) hb, u.slot, fun b o e n => ?_, u.there, fun b xs e => ?_, fun b o v e => ?_, fun b ps e => ?_⟩
  · rw [zbW (zdz k n)]
    exact u.free b o e (by rw [zW (zdz k n)]; exact n)
  · have q := zc9 k e fun _ _ z => by cases z
    rw [zbW q]
    exact u.tups b xs (by rw [zW q]; exact e)
  · by_cases hb : b ∈ cs
    · rw [zin hb]; exact e
    · rw [zbW hb]
      exact u.frzs b o v (by rw [zW hb]; exact e)
  · have q := zc9 k e fun _ _ z => by cases z
    rw [zbW q]
    exact u.tbls b ps (by rw [zW q]; exact e)
abbrev zgp (L : zb2) (s : Shared) (f c' : Addr) (cl : List (Str × Addr)) : Env := PySem.W.envX L.qual L.scope s.heap.objs.size f (.ref c') cl
def zd3 (P : Program) (w : World) (K : PySem.W.Frag) (mg : Str → Option Value) (base : Heap) (ys : List Str) (L : zb2) (f c' : Addr) (cl : List (Str × Addr)) (A : Around) (outer : List Env) (s : Shared) (H : Hp) (E : XK) : Cx where
  prog := P
  w := w
  K := K
  mg := mg
  base := base
  A := A.deeper (zgp L s f c' cl)
  N := ys
  s_0 := s
  H_0 := H
  env := zgp L s f c' cl
  outer := outer
  stack := zgp L s f c' cl :: outer
  ex := []
  fn := fun _ => false
  calm := true
  pn := []
  xe := fun e s' => wpAny (model P w) (A.deeper (zgp L s f c' cl)) (leaving (zgp L s f c' cl) e) (fun _ s'' => L2.CX P w outer H s E e s'') (fun e' s'' => L2.CX P w outer H s E e' s'') s'
theorem zpr {ys : List Str} {L : zb2} {f c' : Addr} {cl : List (Str × Addr)} {A : Around} {outer : List Env} {s : Shared} {H : Hp} {E : XK} {vs : List V} {h₁ : Heap} {tk : Nat} (S : LSc L ys) (C : ClK H L ys cl vs) (hd : A.handled = none) (e0 : Env0 P w K mg base A outer s H)
    (hns : h₁.Ns s.heap.objs.size fun y => ([] : List (Str × Value)).reverse.lookup y) (kp : ∀ b o, s.heap.get? b = some o → h₁.get? b = some o) :
    Inv (zd3 P w K mg base ys L f c' cl A outer s (dropC H (cl.map (·.2))) E) [] (vs.map some) (dropC H (cl.map (·.2))) { s with heap := h₁, toks := tk } := by
  have KD := C.kd
  have inC : ∀ {y c}, cl.lookup y = some c → c ∈ cl.map (·.2) := fun {y c} e => List.mem_map.mpr ⟨(y, c), PySem.mem_of_lookup e, rfl⟩
  have dn : ∀ {b}, H b = none → dropC H (cl.map (·.2)) b = none := fun {b} n => by rw [zW (zdz KD n)]; exact n
  have fr : dropC H (cl.map (·.2)) s.heap.objs.size = none := dn (e0.hok.fresh (Nat.le_refl _))
  have cellAt : ∀ {i y}, ys[i]? = some y → ∃ c v wv o, cl.lookup y = some c ∧ vs[i]? = some v ∧ RelV v wv ∧ s.heap.get? c = some o ∧ o.data = .cell (some wv) := fun {i y} hi => by
    obtain ⟨c, v, wv, o, a1, a2, a3, a4, a5⟩ := C.cells i y hi
    exact ⟨c, v, wv, o, a1, a2, a3, zeQ e0.hok a4, a5⟩
  refine ⟨⟨e0.mod, S.kind, rfl, rfl, Nat.le_refl _, C.inj, fun y hy => ?_, fun y c z _ => ?_, fun _ => hd, Around.frames_deeper e0.frames, .inr ⟨rfl, rfl⟩, fun b z => absurd z (by simp [zd3]), fun b o e => ⟨(e0.bs b o e).1, dn (e0.bs b o e).2⟩, e0.bsz, fun b _ _ z => absurd z (by simp [zd3]),
      fun b z => absurd z (by simp [zd3]), e0.funs, fun b hb => dn (e0.frf b hb)⟩, rfl, e0.bare, Un.kept kp, ⟨_, hns, fun i y v e1 e2 e3 => ?_⟩, fun y c e => ?_, fr, fun y c e => zeB (inC e), fun q hq => absurd (show q ∈ ([] : List (Addr × Obj)) ++ [] from hq) (by simp), (zpV KD e0.hok).kept kp, ?_⟩
  · have hy : L.scope.names.lookup y = some .cell ∨ L.scope.names.lookup y = some .free := hy
    rcases hy with hy | hy
    · exact absurd rfl (S.own _ (PySem.mem_of_lookup hy)).2
    · exact C.has _ (PySem.mem_of_lookup hy) rfl
  · exact absurd (show false = true from z) (by simp)
  · have e3 : Vis L.scope y := e3
    have e1 : ys[i]? = some y := e1
    rcases e3 with k | k | k
    · exact absurd rfl (S.own _ (PySem.mem_of_lookup k)).1
    · exact absurd rfl (S.own _ (PySem.mem_of_lookup k)).2
    · obtain ⟨c, v', wv, o, a1, a2, a3, a4, a5⟩ := cellAt e1
      have ev : v' = v := by
        rw [List.getElem?_map, a2] at e2
        exact Option.some.inj (Option.some.inj e2)
      subst ev
      exact ⟨wv, a3, .inr ⟨.inr k, c, a1, ⟨o, kp _ _ a4, a5⟩⟩⟩
  · have e : cl.lookup y = some c := e
    obtain ⟨i, hi⟩ := C.only y c e
    obtain ⟨c2, v, wv, o, a1, a2, a3, a4, a5⟩ := cellAt hi
    rw [e] at a1; cases a1
    exact ⟨_, ⟨o, kp _ _ a4, a5⟩⟩
  · show (vs.map some).length = ys.length
    rw [List.length_map, C.len]
theorem zq3 {ys : List Str} {L : zb2} {f : Addr} {cl : List (Str × Addr)} {A : Around} {outer : List Env} {s : Shared} {H : Hp} {Q : VK} {E : XK} {vs : List V} {k : Nat} {t : TE} (S : LSc L ys) (C : ClK H L ys cl vs) (F : FnK H f L cl) (hr : Room (k + 1) A) (e0 : Env0 P w K mg base A outer s H)
    (hb : ∀ c', PE (zd3 P w K mg base ys L f c' cl A outer s (dropC H (cl.map (·.2))) (fun cls d H1 => (∀ c ∈ cl.map (·.2), H1 c = none) → E cls d (zcZ H H1 (cl.map (·.2))))) L.body t)
    (ht : t (vs.map some) (dropC H (cl.map (·.2))) fun v H1 => (∀ c ∈ cl.map (·.2), H1 c = none) → Q v (zcZ H H1 (cl.map (·.2)))) :
    codeAny (model P w) A (.call (.ref f) ⟨[], []⟩) (CR (L2.CX P w) outer P w H s Q E) s := by
  have KD := C.kd
  obtain ⟨c', pm, ctv, hf, oc, vc, tq, hoc, hdc, hvc⟩ := F
  have nfr : ∀ c ∈ cl.map (·.2), c ∉ frs outer := fun c hc z => zdz KD (e0.frf c z) hc
  refine PySem.W.kla_callFunE hr.depth (zeQ e0.hok hf) rfl S.co S.gen rfl ⟨c', oc, vc, tq, rfl, zeQ e0.hok hoc, hdc, hvc⟩ ?_
  rw [S.bind]
  refine wpAny_pure (wpAny_newFunctionEnv (fun y hy => (S.own y hy).2) (fun y hy => absurd hy (by simp)) (fun h₁ hns hsb => ⟨(e0.mod.nolimit.keeps fun b o e => (e0.bs b o e).1).fresh _ hsb, ?_⟩) S.kind)
  show codeAny _ _ (.expr L.body (zgp L s f c' cl)) _ _
  have kp : ∀ b o, s.heap.get? b = some o → h₁.get? b = some o := fun b o e => hsb.extBut b o (Nat.ne_of_lt (Heap.lt_size e)) (Heap.get?_push_of_some _ e)
  have J := zpr (P := P) (w := w) (K := K) (mg := mg) (base := base) (f := f) (c' := c') (E := fun cls d H1 => (∀ c ∈ cl.map (·.2), H1 c = none) → E cls d (zcZ H H1 (cl.map (·.2)))) (tk := s.toks + ([] : List (Str × Value)).length) S C hr.hd e0 hns kp
  have cx : ∀ e s', L2.CX P w outer (dropC H (cl.map (·.2))) s (fun cls d H1 => (∀ c ∈ cl.map (·.2), H1 c = none) → E cls d (zcZ H H1 (cl.map (·.2)))) e s' → L2.CX P w outer H s E e s' := fun e s' ⟨a, B, H1, cls, d, q1, q2, q3, q4, q5, q6, q7, q8⟩ => by
    have kb : ∀ c ∈ cl.map (·.2), ∀ o, s.heap.get? c = some o → B.get? c = some o ∧ H1 c = none := fun c hc o ho => ⟨q4.keep c o ho (zeB hc) (nfr c hc), q4.free c o ho (zeB hc)⟩
    have nH : ∀ c ∈ cl.map (·.2), H1 c = none := fun c hc => by
      obtain ⟨o, e2⟩ := KD c hc
      exact (kb c hc o (zeQ e0.hok e2)).2
    refine ⟨a, B, zcZ H H1 (cl.map (·.2)), cls, d, q1, q2, znf KD e0.hok q3 kb, zq2 KD q4, ?_, q6, q7, q8 nH⟩
    have na : a ∉ cl.map (·.2) := fun z => by
      obtain ⟨o, e2⟩ := KD a z
      have := (kb a z o (zeQ e0.hok e2)).1
      rw [q2.2.1] at this; cases this
    rw [zbW na]; exact q5
  refine PySem.W.kla_codeExpr (wpAny_mono ((hb c').run [] _ _ _ _ J ht) (fun u s' hq => ?_) fun e s' hq => ?_)
  · obtain ⟨v, H1, I1, rv, q⟩ := hq
    have u1 : Un (frs outer) [] (dropC H (cl.map (·.2))) H1 s.heap s'.heap := I1.base
    refine ⟨v, zcZ H H1 (cl.map (·.2)), I1.os, I1.bare, zq1 KD u1, znf KD e0.hok I1.hok fun c hc o ho => ⟨u1.keep c o ho (zeB hc) (nfr c hc) (by simp), u1.free c o ho (zeB hc) (by simp)⟩, rv, q fun c hc => ?_⟩
    obtain ⟨o, e2⟩ := KD c hc
    exact u1.free c o (zeQ e0.hok e2) (zeB hc) (by simp)
  · exact wpAny_mono hq (fun _ s'' z => cx _ _ z) fun e' s'' z => cx _ _ z
end
end
section
set_option maxHeartbeats 2000000
structure zkM (X : Cx) (σ : L2.St) (H H' : Hp) : Prop where
  same : ∀ b, (∀ y, X.env.cells.lookup y ≠ some b) → H' b = H b
  cell : ∀ (i : Nat) (y : Str) (v : V), X.N[i]? = some y → σ[i]? = some (some v) → X.env.scope.names.lookup y = some .cell → ∃ (c : Addr) (u : Value) (o : Obj), X.env.cells.lookup y = some c ∧ RelV v u ∧ H' c = some (Kd o) ∧ o.data = .cell (some u)
  free : ∀ y c, X.env.cells.lookup y = some c → H c = none
  inj : ∀ x y c, X.env.cells.lookup x = some c → X.env.cells.lookup y = some c → x = y
  tx : Tx H H'
open Classical in
theorem zpW {X : Cx} {pins : List (Addr × Obj)} {σ : L2.St} {H : Hp} {s : Shared} (J : Inv X pins σ H s) (hx : X.ex = []) (hf : ∀ y, X.fn y = true) :
    ∃ H', zkM X σ H H' ∧ Un X.fs [] X.H_0 H' X.s_0.heap s.heap ∧ HOk X.prog X.w H' s.heap := by
  have base : Un X.fs [] X.H_0 H X.s_0.heap s.heap := by have := J.base; rw [hx] at this; exact this
  let H' : Hp := fun b => if (∃ y, X.env.cells.lookup y = some b) then (s.heap.get? b).map Kd else H b
  have at_ : ∀ y c, X.env.cells.lookup y = some c → H' c = (s.heap.get? c).map Kd := fun y c e => if_pos ⟨y, e⟩
  have off : ∀ b, (∀ y, X.env.cells.lookup y ≠ some b) → H' b = H b := fun b h => if_neg fun ⟨y, e⟩ => h y e
  have off2 : ∀ b u, H b = some u → H' b = H b := fun b u e => off b fun y z => by rw [J.freeC y b z] at e; cases e
  have tx : Tx H H' := ⟨fun a xs e => by rw [off2 a _ e]; exact e, fun a o u e => by rw [off2 a _ e]; exact e⟩
  refine ⟨H', ⟨off, fun i y v e1 e2 e3 => ?_, J.freeC, J.ok.inj, tx⟩, ⟨base.keep, base.slot, fun b o e n hb => ?_, base.there, fun b xs e => tx.1 b xs (base.tups b xs e), fun b o u e => tx.2 b o u (base.frzs b o u e), fun b ps e => ?_⟩, fun a o e => ?_⟩
  · obtain ⟨m, hn, hl⟩ := J.loc
    obtain ⟨u, r, lk⟩ := hl i y v e1 e2 (.inr (.inl e3))
    rcases lk with ⟨k, _⟩ | ⟨_, c, ec, ob, ho, hd⟩
    · have k : X.env.scope.names.lookup y = some .local := k
      rw [e3] at k; cases k
    · exact ⟨c, u, ob, ec, r, by rw [at_ y c ec, ho]; rfl, hd⟩
  · rw [off b fun y z => ?_]
    · exact base.free b o e n hb
    · exact absurd (Nat.lt_of_lt_of_le (Heap.lt_size e) (J.ok.cab y b (hf y) z)) (Nat.lt_irrefl _)
  · obtain ⟨more, q⟩ := base.tbls b ps e
    exact ⟨more, by rw [off2 b _ q]; exact q⟩
  · by_cases ha : ∃ y, X.env.cells.lookup y = some a
    · obtain ⟨y, ey⟩ := ha
      rw [at_ y a ey] at e
      cases ho : s.heap.get? a with
      | none => rw [ho] at e; cases e
      | some ob => rw [ho] at e; cases e; exact zkC ho
    · rw [off a fun y z => ha ⟨y, z⟩] at e
      exact (J.hok a o e).stay (fun _ _ _ q => q) (fun b q => by rw [off2 b _ q]; exact q) fun b xs q => by rw [off2 b _ q]; exact q
abbrev TR := (L2.St → V → Hp → Prop) → L2.St → Hp → Prop
structure PSr (X : Cx) (body : List Stmt) (t : TR) : Prop where
  run : ∀ (pins : List (Addr × Obj)) (s : Shared) (σ : L2.St) (H : Hp) (G : L2.St → V → Hp → Prop), Inv X pins σ H s → t G σ H →
    wpAny (model X.prog X.w) X.A (execs body X.env) (fun fl s' => ∃ u v σ' H', fl = .ret u ∧ Inv X pins σ' H' s' ∧ RelV v u ∧ G σ' v H') X.xe s
section
variable {X : Cx}
theorem zoc {body : List Stmt} {t u : TR} (h : PSr X body t) (i : ∀ G σ H, u G σ H → t G σ H) : PSr X body u := ⟨fun p s σ H G I q => h.run p s σ H G I (i G σ H q)⟩
theorem zq4 {e : Expr} {te : TE} {pos : Pos} (he : PE X e te) : PSr X [.Return (some e) pos] fun G σ H => te σ H (G σ) := by
  refine ⟨fun pins s σ H G I h => wpAny_execs_cons (wpAny_Return_some (thn (he.run pins s σ H _ I h) fun u s1 ⟨v, H1, I1, r, q⟩ => ?_))⟩
  exact ⟨u, v, σ, H1, rfl, I1, r, q⟩
theorem zpX {st : Stmt} {rest : List Stmt} {t : TS} {u : TR} (h1 : PS X st t) (h2 : PSr X rest u) : PSr X (st :: rest) fun G σ H => t { nx := u G, rt := fun _ _ => False } σ H := by
  refine ⟨fun pins s σ H G I h => wpAny_execs_cons (thn (h1.run pins s σ H _ I h) fun f s1 q => ?_)⟩
  cases f with
  | next =>
    obtain ⟨σ1, H1, I1, q⟩ := q
    exact h2.run pins s1 σ1 H1 G I1 q
  | ret v => obtain ⟨_, _, _, _, _, z⟩ := q; exact z.elim
  | brk => obtain ⟨_, _, _, z⟩ := q; exact z.elim
  | cont => obtain ⟨_, _, _, z⟩ := q; exact z.elim
end
section
variable {P : Program} {w : World} {K : PySem.W.Frag} {mg : Str → Option Value} {base : Heap}
theorem zq5 {CX : CXT} {x qual : Str} {params : Arguments} {body : List Stmt} {scope : Scope} {f : Addr} {N ps : List Str} {k : Nat} {sp : Sp} {cdv : Value} {oc dV kV doc pm ct : Value} {an od : Option Addr} {osl : Array (Option Value)}
    (lk : K.lookup f = some ⟨oc, od, .func (PySem.W.fnOf x qual params body scope dV kV doc pm an cdv ct), osl⟩) (hcd : PySem.W.codeIn K cdv qual = true) (S : FnScope N ps scope) (len : ∀ vs H Q E, sp vs H Q E → vs.length = ps.length)
    (hb : ∀ (A : Around) (outer : List Env) (s : Shared) (H : Hp) (vs : List V) (Q : VK) (E : XK), Room k (A.deeper (envOfC qual scope s.heap.objs.size f cdv)) → sp vs H Q E →
      ∃ t, PSr (cxOf CX P w K mg base N qual scope f cdv A outer s H E) body t ∧ t (fun σ v H1 => ∀ H2, zkM (cxOf CX P w K mg base N qual scope f cdv A outer s H E) σ H1 H2 → Q v H2) (L2.start N vs) H) :
    FnOk P w K mg base CX (k + 1) f (PySem.W.fnOf x qual params body scope dV kV doc pm an cdv ct) ps sp := by
  refine ⟨len, fun A outer s H args us vs Q E room env0 bnd rel promise => ?_⟩
  have kin := env0.mod.kin.keeps fun b o e => (env0.bs b o e).1
  have kinds : ∀ y ∈ ps.zip us, scope.names.lookup y.1 = some .local ∨ (scope.names.lookup y.1 = some .cell ∧ ((cellsFrom (s.heap.objs.size + 1) scope.names []).lookup y.1).isSome = true) := by
    rintro ⟨n, v⟩ hy
    exact (S.par n (List.of_mem_zip hy).1).imp id fun q => ⟨q, PySem.W.cellsFrom_some _ _ _ (.inl q)⟩
  refine codeAny_call_function room.depth (kin _ _ lk) rfl S.co S.gen rfl (PySem.W.codeRec_of kin hcd) (bnd _ _ _ _ (wpAny_newFunctionEnv_cells S.kind kinds fun env he s1 x1 => ?_))
  subst he
  refine ⟨(env0.mod.nolimit.keeps fun b o e => (env0.bs b o e).1).keeps x1.toInCall.keep, codeAny_func ?_⟩
  obtain ⟨t, ht, hq⟩ := hb A outer s H vs Q E (room.deeper _) promise
  have I0 := inv_start (CX := CX) (P := P) (w := w) (K := K) (mg := mg) (base := base) (E := E) S room.hd env0 (len _ _ _ _ promise) rel x1
  refine wpAny_mono (ht.run [] s1 _ H _ I0 hq) (fun fl s' z => ?_) fun _ _ z => z
  obtain ⟨u, v, σ', H', rfl, J, rv, g⟩ := z
  obtain ⟨H2, sl, un, ok⟩ := zpW J rfl fun _ => rfl
  exact ⟨v, H2, J.os, J.bare, un, ok, rv, g H2 sl⟩
end
end
section
set_option maxHeartbeats 2000000
def AllCell (H : Hp) (cs : List Addr) : Prop := ∀ c ∈ cs, ∃ o v, H c = some (Kd o) ∧ o.data = .cell v
theorem AllCell.kd {H : Hp} {cs : List Addr} (h : AllCell H cs) : zg5 H cs := fun c hc => let ⟨o, _, e, _⟩ := h c hc; ⟨o, e⟩
theorem ClK.allCell {H : Hp} {L : zb2} {ys : List Str} {cl : List (Str × Addr)} {vs : List V} (x : ClK H L ys cl vs) : AllCell H (cl.map (·.2)) := fun c hc => by
  obtain ⟨y, e⟩ := x.mem c hc
  obtain ⟨i, hi⟩ := x.only y c e
  obtain ⟨c2, v, wv, o, e2, _, _, e3, e4⟩ := x.cells i y hi
  rw [e] at e2; cases e2
  exact ⟨o, _, e3, e4⟩
section
variable {K : PySem.W.Frag} {H H1 : Hp} {cs : List Addr}
theorem zod (h : AllCell H cs) {a : Addr} {o : Obj} {u : HO} (e : H a = some (.frz o u)) (hu : u ≠ .ext fun _ => True) : a ∉ cs := fun z => by
  obtain ⟨ob, v, q, _⟩ := h a z
  rw [q] at e
  cases e
  exact hu rfl
theorem zkN (h : AllCell H cs) {a : Addr} {o : Obj} (e : H a = some (Kd o)) (hd : ∀ v, o.data ≠ .cell v) : a ∉ cs := fun z => by
  obtain ⟨ob, v, q, q2⟩ := h a z
  rw [q] at e
  cases e
  exact hd v q2
theorem zpY (h : AllCell H cs) {a : Addr} {xs : List V} (x : SqT K H a xs) : SqT K (dropC H cs) a xs := by
  rcases x with (x | ⟨o, x⟩) | x
  · exact .inl (.inl (by rw [zW (zc9 h.kd x fun _ _ z => by cases z)]; exact x))
  · exact .inl (.inr ⟨o, by rw [zW (zod h x fun z => by cases z)]; exact x⟩)
  · exact .inr x
theorem zpZ (h : AllCell H cs) {a : Addr} {xs : List V} (x : FrL K H a xs) : FrL K (dropC H cs) a xs := by
  rcases x with ⟨o, x⟩ | x
  · exact .inl ⟨o, by rw [zW (zod h x fun z => by cases z)]; exact x⟩
  · exact .inr x
mutual
theorem Rep.drop (h : AllCell H cs) : ∀ {d : D} {v : V}, Rep K H d v → Rep K (dropC H cs) d v
  | .non, _, x => x
  | .bl _, _, x => x
  | .int _, _, x => x
  | .str _, _, x => x
  | .ty _, _, x => x
  | .ref _, _, x => x
  | .tup _, _, ⟨a, xs, e, s, r⟩ => ⟨a, xs, e, zpY h s, Reps.dropC h r⟩
  | .fls _, _, ⟨a, xs, e, s, r⟩ => ⟨a, xs, e, zpZ h s, Reps.dropC h r⟩
theorem Reps.dropC (h : AllCell H cs) : ∀ {ds : List D} {vs : List V}, Reps K H ds vs → Reps K (Ab.dropC H cs) ds vs
  | [], _, x => x
  | _ :: _, _, ⟨x, r, e, q, qs⟩ => ⟨x, r, e, Rep.drop h q, Reps.dropC h qs⟩
end
theorem RepKV.drop (h : AllCell H cs) : ∀ {ps : List (Key × D)} {l : List (Key × V)}, RepKV K H ps l → RepKV K (dropC H cs) ps l
  | [], _, x => x
  | _ :: _, _, ⟨v, r, e, q, qs⟩ => ⟨v, r, e, q.drop h, RepKV.drop h qs⟩
theorem RepF.dropC (h : AllCell H cs) : ∀ {ps : List (Str × D)} {l : List (Str × V)}, RepF K H ps l → RepF K (dropC H cs) ps l
  | [], _, x => x
  | (_, _) :: _, _, ⟨v, r, e, q, qs⟩ => ⟨v, r, e, q.drop h, RepF.dropC h qs⟩
theorem CodeK.drop (h : AllCell H cs) {c : Addr} {q : Str} (x : CodeK H c q) : CodeK (dropC H cs) c q := by
  obtain ⟨oc, vs, t, a, b, d⟩ := x
  exact ⟨oc, vs, t, by rw [zW (zkN h a fun v z => by rw [b] at z; cases z)]; exact a, b, d⟩
theorem FnK.drop (h : AllCell H cs) {f : Addr} {L : zb2} {cl : List (Str × Addr)} (x : FnK H f L cl) : FnK (dropC H cs) f L cl ∧ f ∉ cs := by
  obtain ⟨c', pm, ctv, a, b⟩ := x
  have n := zkN h a fun v z => by cases z
  exact ⟨⟨c', pm, ctv, by rw [zW n]; exact a, b.drop h⟩, n⟩
def za6 (m : M) : M := fun a => match m a with
  | some (.clo _ _ _) => some .opq
  | o => o
def zfw (m m1 : M) : M := fun a => match m a with
  | some (.clo L ys ds) => some (.clo L ys ds)
  | _ => m1 a
theorem RelO.dropC (h : AllCell H cs) {a : Addr} : ∀ {o : O}, RelO K H a o → RelO K (Ab.dropC H cs) a (match o with | .clo _ _ _ => .opq | o => o)
  | .lst _, ⟨xs, q, z⟩ => ⟨xs, by rw [zW (zc9 h.kd q fun _ _ z => by cases z)]; exact q, Reps.dropC h z⟩
  | .tab, ⟨ps, q, z⟩ => ⟨ps, by rw [zW (zc9 h.kd q fun _ _ z => by cases z)]; exact q, z⟩
  | .dic _, ⟨l, q, z⟩ => ⟨l, by rw [zW (zc9 h.kd q fun _ _ z => by cases z)]; exact q, z.drop h⟩
  | .ltab _, ⟨ps, q, ht, ha⟩ => ⟨ps, by rw [zW (zc9 h.kd q fun _ _ z => by cases z)]; exact q, ht, fun pos cv hc => let ⟨c, a1, a2⟩ := ha pos cv hc; ⟨c, a1, a2.drop h⟩⟩
  | .fn _ _ _ _, x => (FnK.drop h x).1
  | .clo _ _ _, ⟨_, _, ⟨c', pm, ctv, q, _⟩, _, _⟩ => ⟨_, _, by rw [zW (zkN h q fun v z => by cases z)]; exact q, rfl⟩
  | .opq, ⟨o, fd, q, hd⟩ => ⟨o, fd, by rw [zW (zkN h q fun v z => by rw [hd] at z; cases z)]; exact q, hd⟩
  | .xd _, ⟨vs, q, z⟩ => ⟨vs, by rw [zW (zc9 h.kd q fun _ _ z => by cases z)]; exact q, Reps.dropC h z⟩
  | .obj _ _, ⟨dx, l, q, z⟩ => ⟨dx, l, by rw [zW (zc9 h.kd q fun _ _ z => by cases z)]; exact q, RepF.dropC h z⟩
  | .ftp _, ⟨o, xs, q, c, z⟩ => ⟨o, xs, by rw [zW (fun w => by obtain ⟨ob, v, q1, _⟩ := h a w; rw [q1] at q; cases q)]; exact q, c, Reps.dropC h z⟩
  | .fdc _, ⟨o, l, q, z⟩ => ⟨o, l, by rw [zW (fun w => by obtain ⟨ob, v, q1, _⟩ := h a w; rw [q1] at q; cases q)]; exact q, z.drop h⟩
theorem RelM.dropC {m : M} (h : AllCell H cs) (r : RelM K H m) : RelM K (Ab.dropC H cs) (za6 m) := fun a o e => by
  unfold za6 at e
  cases hm : m a with
  | none => rw [hm] at e; cases e
  | some u =>
    rw [hm] at e
    have q := (r a u hm).dropC h
    cases u <;> (cases e; exact q)
theorem zlz (h : AllCell H cs) (t : Tx (Ab.dropC H cs) H1) : Tx H (zcZ H H1 cs) := by
  refine ⟨fun a xs e => ?_, fun a o u e => ?_⟩
  · have n := zc9 h.kd e fun _ _ z => by cases z
    rw [zbW n]
    exact t.1 a xs (by rw [zW n]; exact e)
  · by_cases n : a ∈ cs
    · rw [zin n]; exact e
    · rw [zbW n]
      exact t.2 a o u (by rw [zW n]; exact e)
theorem zjX (n : ∀ c ∈ cs, H1 c = none) {a : Addr} {u : HO} (e : H1 a = some u) : zcZ H H1 cs a = some u := by
  rw [zbW fun z => by rw [n a z] at e; cases e]
  exact e
theorem zkl (n : ∀ c ∈ cs, H1 c = none) : Tx H1 (zcZ H H1 cs) := ⟨fun _ _ e => zjX n e, fun _ _ _ e => zjX n e⟩
theorem RelM.back {m m1 : M} (h : AllCell H cs) (r : RelM K H m) (t : Tx (Ab.dropC H cs) H1) (n : ∀ c ∈ cs, H1 c = none) (r1 : RelM K H1 m1) : RelM K (zcZ H H1 cs) (zfw m m1) := fun a o e => by
  have old : ∀ o, m1 a = some o → RelO K (zcZ H H1 cs) a o := fun o e => (r1 a o e).move (zkl n) fun u q => zjX n q
  unfold zfw at e
  cases hm : m a with
  | none => rw [hm] at e; exact old o e
  | some u =>
    rw [hm] at e
    cases u with
    | clo L ys ds =>
      cases e
      obtain ⟨cl, vs, f, c, rp⟩ := r a _ hm
      have tt := zlz h t
      exact ⟨cl, vs, f.tx tt, c.tx tt, rp.mono tt⟩
    | _ => exact old o e
end
structure zeS (P : Program) (w : World) (K : PySem.W.Frag) (mg : Str → Option Value) (base : Heap) (k : Nat) (L : zb2) (ys : List Str) (t : AE) : Prop where
  sc : LSc L ys
  ok : ∀ (f c' : Addr) (cl : List (Str × Addr)) (A : Around) (outer : List Env) (s : Shared) (H : Hp) (E : XK), (∀ y ∈ L.scope.names, y.2 = .free → ∃ c, cl.lookup y.1 = some c) → Room k (A.deeper (zgp L s f c' cl)) →
    GE (zd3 P w K mg base ys L f c' cl A outer s H E) (WD E) L.body t
def zgq (T : zb2 → List Str → AE → Prop) (i : Nat) : AE := fun e m Q R => match e.g i with
  | some (.ref f) => (match m f with
    | some (.clo L ys ds) => ∃ t, T L ys t ∧ t (ds.map some) (za6 m) (fun d m1 => Q d (zfw m m1)) (fun x m1 => R x (zfw m m1))
    | _ => False)
  | _ => False
theorem RelE.somes {K : PySem.W.Frag} {H : Hp} : ∀ {ds : List D} {vs : List V}, Reps K H ds vs → RelE K H (vs.map some) (ds.map some)
  | [], _, h => by rw [show _ = [] from h]; trivial
  | d :: ds, _, ⟨x, r, e, h, hr⟩ => by rw [e]; exact ⟨⟨x, rfl, h⟩, RelE.somes hr⟩
theorem XRep.back {K : PySem.W.Frag} {H H1 : Hp} {cs : List Addr} {x : Xn} {cls : Value} {dd : Option Addr} (n : ∀ c ∈ cs, H1 c = none) (h : XRep K H1 x cls dd) : XRep K (zcZ H H1 cs) x cls dd := by
  refine ⟨h.1, ?_⟩
  have h2 := h.2
  cases hf : x.fs with
  | nil => rw [hf] at h2; exact h2
  | cons p fs =>
    rw [hf] at h2
    obtain ⟨d, vs, e, q, r⟩ := h2
    exact ⟨d, vs, e, zjX n q, r.mono (zkl n)⟩
section
variable {X : Cx} {W : WX}
theorem zq6 {T : zb2 → List Str → AE → Prop} {k i : Nat} {x : Str} {p1 p2 : Pos} (hT : ∀ L ys t, T L ys t → zeS X.prog X.w X.K X.mg X.base k L ys t) (tk : Takes X W) (hr : Room (k + 1) X.A) (hN : X.N[i]? = some x := by rfl) (hv : Vis X.env.scope x := by first | exact .inl rfl | exact .inr (.inl rfl) | exact .inr (.inr rfl))
    (hd : (x == ("__debug__" : Str)) = false := by decide) (hcd : (x == ("__classdict__" : Str)) = false := by decide) : GE X W (.Call (.Name x p1) [] [] p2) (zgq T i) := by
  refine ⟨fun pins s σ H Q I h => ?_⟩
  obtain ⟨e, m, P, R, rE, rM, t0, q, w⟩ := h
  unfold zgq at t0
  cases eg : e.g i with
  | none => rw [eg] at t0; exact t0.elim
  | some d =>
    rw [eg] at t0
    cases d with
    | ref f =>
      obtain ⟨v0, hs, rv⟩ := rE.get eg
      obtain rfl : v0 = .ref f := rv
      replace t0 : (match m f with | some (.clo L ys ds) => ∃ t, T L ys t ∧ t (ds.map some) (za6 m) (fun d m1 => P d (zfw m m1)) (fun x m1 => R x (zfw m m1)) | _ => False) := t0
      cases em : m f with
      | none => rw [em] at t0; exact t0.elim
      | some ob =>
        rw [em] at t0
        cases ob with
        | clo L ys ds =>
          obtain ⟨t, hTt, ht⟩ := t0
          have ok := hT L ys t hTt
          obtain ⟨cl, vs, F, C, rp⟩ := rM f _ em
          refine wpAny_Call_Name_kw (thn ((pe_var (pos := p1) hN hv hd hcd).run pins s σ H (fun v H1 => v = .ref f ∧ H1 = H) I ⟨.ref f, hs, rfl, rfl⟩) fun u s1 ⟨v, H1, I1, r1, q1⟩ => ?_)
          obtain ⟨ev, eH⟩ := q1
          subst ev
          subst eH
          obtain rfl : u = Value.ref f := r1
          obtain ⟨c', pm, ctv, hf, _⟩ := id F
          refine PySem.W.callWith_F0 ⟨_, _, _, _, zeQ I1.hok hf⟩ ?_
          have AC := C.allCell
          have rc := zq3 (P := X.prog) (w := X.w) (K := X.K) (mg := X.mg) (base := X.base) (A := X.A) (outer := X.stack) (s := s1) (Q := Q) (E := fun cls dd H' => W cls dd σ H') (t := lE X.K (WD fun cls dd H' => (∀ c ∈ cl.map (·.2), H' c = none) → W cls dd σ (zcZ H1 H' (cl.map (·.2)))) t) ok.sc C F hr I1.env0
            (fun c' => ok.ok f c' cl X.A X.stack s1 _ _ C.has (hr.deeper _))
            ⟨_, za6 m, _, _, RelE.somes (Reps.dropC AC rp), rM.dropC AC, ht, fun d m1 hp v H2 t2 rv rm n => ?_, ⟨fun x m1 hx cls dd H2 t2 xr rm n => ?_⟩⟩
          · refine wpAny_call (codeAny_mono rc fun r s' hq => ?_)
            cases r with
            | error ex => exact passAt tk σ pins H1 s1 ex s' I1 hq
            | ok fl =>
              cases fl with
              | ret u => exact I1.after hq
              | next => exact False.elim hq
              | brk => exact False.elim hq
              | cont => exact False.elim hq
          · exact q d _ hp v _ (zlz AC t2) (rv.mono (zkl n)) (RelM.back AC rM t2 n rm)
          · exact w.go x _ hx cls dd _ (zlz AC t2) (XRep.back n xr) (RelM.back AC rM t2 n rm)
        | _ => exact t0.elim
    | _ => exact t0.elim
end
end
section
set_option maxHeartbeats 2000000
def zgr (P : Addr) (L : zb2) (ys : List Str) (cap : List Nat) (cells : List (Str × Addr)) : AE := fun _ m Q _ => m P = some (.ltab L.qual) ∧ ∀ f, m f = none → Q (.ref f) (mset m f (.fn L ys cap (cloFrom cells L.scope.names [])))
section
variable {X : Cx} {W : WX}
theorem zg6 {c P : Addr} {L : zb2} {ys : List Str} {cap : List Nat} {pos : Pos} (TB : LamX.TabB X.base X.mg c P) (hcode : X.env.code = .ref c) (hq : L.qual = X.env.qual ++ "<lambda>") (hdef : defaultsOf L.params X.env = ([], []))
    (hfree : ∀ y ∈ L.scope.names, y.2 = .free → X.env.scope.names.lookup y.1 = some .cell) : GE X W (.Lambda L.params L.body L.scope pos) (zgr P L ys cap X.env.cells) := by
  refine ⟨fun pins s σ H Q I h => ?_⟩
  obtain ⟨e, m, P', R, rE, rM, ⟨t0, t1⟩, q, w⟩ := h
  refine zpU I TB hcode hq (rM P _ t0) hdef (fun y hy hf => I.ok.has _ (.inl (hfree y hy hf))) fun f H1 s' I1 tx keep tab nf fk => ?_
  refine ⟨.ref f, H1, I1, rfl, q (.ref f) _ (t1 f (rM.free nf)) (.ref f) H1 tx rfl fun a o ea => ?_⟩
  by_cases ha : a = f
  · subst ha
    rw [zq] at ea; cases ea
    exact fk
  · rw [zaX ha] at ea
    by_cases hP : a = P
    · subst hP
      rw [t0] at ea; cases ea
      exact tab
    · exact (rM a o ea).move tx fun u qu => keep a u hP qu
end
abbrev AR := (En → D → M → Prop) → En → M → Prop
def lR (K : PySem.W.Frag) (t : AR) : TR := fun G σ H => ∃ e m A, RelE K H σ e ∧ RelM K H m ∧ t A e m ∧ ∀ e' d m', A e' d m' → ∀ σ' v H', Tx H H' → RelE K H' σ' e' → Rep K H' d v → RelM K H' m' → G σ' v H'
def zp0 (te : AE) : AR := fun A e m => te e m (fun d m1 => A e d m1) fun _ _ => False
def zgs (t : AS) (u : AR) : AR := fun A e m => t { nx := u A, rt := fun _ _ => False, xe := fun _ _ _ => False } e m
section
variable {X : Cx} {W : WX}
theorem zti {e : Expr} {te : AE} {pos : Pos} (he : GE X W e te) : PSr X [.Return (some e) pos] (lR X.K (zp0 te)) := zoc (zq4 he) fun G σ H h => by
  obtain ⟨e, m, A, rE, rM, t, q⟩ := h
  exact ⟨e, m, _, _, rE, rM, t, fun d m1 hp v H1 t1 rv rm => q e d m1 hp σ v H1 t1 (rE.mono t1) rv rm, ⟨fun _ _ z => z.elim⟩⟩
theorem zeT {st : Stmt} {rest : List Stmt} {t : AS} {u : AR} (h1 : GS X W st t) (h2 : PSr X rest (lR X.K u)) : PSr X (st :: rest) (lR X.K (zgs t u)) := zoc (zpX h1 h2) fun G σ H h => by
  obtain ⟨e, m, A, rE, rM, t, q⟩ := h
  refine ⟨e, m, _, rE, rM, t, ⟨fun e1 m1 hp σ1 H1 t1 rE1 rm => ?_, fun _ _ z => z.elim, fun _ _ z => z.elim, fun _ _ z => z.elim, fun _ _ _ _ _ => ⟨fun _ _ z => z.elim⟩⟩⟩
  exact ⟨e1, m1, A, rE1, rm, hp, fun e2 d m2 ha σ2 v H2 t2 => q e2 d m2 ha σ2 v H2 (t1.trans t2)⟩
end
structure zed (N : List Str) (sc : Scope) (L : zb2) (ys : List Str) (cap : List Nat) : Prop where
  len : cap.length = ys.length
  at_ : ∀ (i : Nat) (y : Str), ys[i]? = some y → ∃ j, cap[i]? = some j ∧ N[j]? = some y ∧ sc.names.lookup y = some .cell
  free : ∀ y ∈ L.scope.names, y.2 = .free → y.1 ∈ ys
  only : ∀ y ∈ ys, (y, NameKind.free) ∈ L.scope.names
def zgt (e : En) : List Nat → Option (List D)
  | [] => some []
  | i :: r => match e.g i, zgt e r with
    | some d, some ds => some (d :: ds)
    | _, _ => none
theorem zng {e : En} : ∀ {cap : List Nat} {ds : List D}, zgt e cap = some ds → ds.length = cap.length
  | [], _, h => by cases h; rfl
  | k :: cap, ds, h => by
    have h' : (match e.g k, zgt e cap with | some d, some ds => some (d :: ds) | _, _ => none) = some ds := h
    cases e1 : e.g k with
    | none => rw [e1] at h'; cases h'
    | some d =>
      cases e2 : zgt e cap with
      | none => rw [e1, e2] at h'; cases h'
      | some es => rw [e1, e2] at h'; cases h'; exact congrArg (· + 1) (zng e2)
theorem zmd {K : PySem.W.Frag} {H : Hp} {e : En} {σ : L2.St} (rE : RelE K H σ e) : ∀ {cap : List Nat} {ds : List D}, zgt e cap = some ds → ∃ vs : List V, Reps K H ds vs ∧ ∀ (i j : Nat), cap[i]? = some j → ∃ v, vs[i]? = some v ∧ σ[j]? = some (some v)
  | [], _, h => by cases h; exact ⟨[], rfl, fun i j hi => by simp at hi⟩
  | k :: cap, ds, h => by
    have h' : (match e.g k, zgt e cap with | some d, some ds => some (d :: ds) | _, _ => none) = some ds := h
    cases e1 : e.g k with
    | none => rw [e1] at h'; cases h'
    | some d =>
      cases e2 : zgt e cap with
      | none => rw [e1, e2] at h'; cases h'
      | some es =>
        rw [e1, e2] at h'
        cases h'
        obtain ⟨v, q1, q2⟩ := rE.get e1
        obtain ⟨vs, r, at_⟩ := zmd rE e2
        refine ⟨v :: vs, ⟨v, vs, rfl, q2, r⟩, fun i j hi => ?_⟩
        cases i with
        | zero => simp at hi; subst hi; exact ⟨v, rfl, q1⟩
        | succ i =>
          obtain ⟨u, a, b⟩ := at_ i j (by simpa using hi)
          exact ⟨u, by simpa using a, b⟩
def zio (fs : List Addr) (e : En) (m : M) : M := fun a => if a ∈ fs then (match m a with
  | some (.fn L ys cap _) => (match zgt e cap with
    | some ds => some (.clo L ys ds)
    | none => none)
  | _ => none) else m a
def zux (N : List Str) (sc : Scope) (cells : List (Str × Addr)) (P : D → M → Prop) : En → D → M → Prop := fun e d m => ∃ fs : List Addr, (∀ f ∈ fs, ∃ L ys cap, m f = some (.fn L ys cap (cloFrom cells L.scope.names [])) ∧ zed N sc L ys cap) ∧ P d (zio fs e m)
theorem zhP {cells : List (Str × Addr)} {names : List (Str × NameKind)} {y : Str} {c : Addr} (h : (cloFrom cells names []).lookup y = some c) : (y, NameKind.free) ∈ names ∧ c = ((cells.lookup y).getD 0) := by
  rcases cloFrom_mem (PySem.mem_of_lookup h) with z | ⟨a, b⟩
  · cases z
  · exact ⟨a, b⟩
end
section
set_option maxHeartbeats 2000000
theorem zoO {cells : List (Str × Addr)} {names : List (Str × NameKind)} {y : Str} (h : (y, NameKind.free) ∈ names) : (cloFrom cells names []).lookup y = some ((cells.lookup y).getD 0) := by
  obtain ⟨c, e⟩ := mem_lookup (cloFrom_has (cells := cells) (acc := []) h)
  rw [e, (zhP e).2]
theorem zse {X : Cx} {σ : L2.St} {H H2 : Hp} {L : zb2} {ys : List Str} {cap : List Nat} {vs : List V} (sl : zkM X σ H H2) (C : zed X.N X.env.scope L ys cap) (hl : vs.length = ys.length) (hv : ∀ (i j : Nat), cap[i]? = some j → ∃ v, vs[i]? = some v ∧ σ[j]? = some (some v)) :
    ClK H2 L ys (cloFrom X.env.cells L.scope.names []) vs := by
  have look : ∀ (i : Nat) (y : Str), ys[i]? = some y → ∃ (c : Addr) (v : V) (u : Value) (o : Obj), X.env.cells.lookup y = some c ∧ vs[i]? = some v ∧ RelV v u ∧ H2 c = some (Kd o) ∧ o.data = .cell (some u) ∧ (cloFrom X.env.cells L.scope.names []).lookup y = some c := fun i y hi => by
    obtain ⟨j, h1, h2, h3⟩ := C.at_ i y hi
    obtain ⟨v, h4, h5⟩ := hv i j h1
    obtain ⟨c, u, o, h6, h7, h8, h9⟩ := sl.cell j y v h2 h5 h3
    refine ⟨c, v, u, o, h6, h4, h7, h8, h9, ?_⟩
    rw [zoO (C.only y (List.mem_of_getElem? hi)), h6]
    rfl
  have ix : ∀ y c, (cloFrom X.env.cells L.scope.names []).lookup y = some c → ∃ i : Nat, ys[i]? = some y := fun y c e => List.getElem?_of_mem (C.free _ (zhP e).1 rfl)
  have real : ∀ y c, (cloFrom X.env.cells L.scope.names []).lookup y = some c → X.env.cells.lookup y = some c := fun y c e => by
    obtain ⟨i, hi⟩ := ix y c e
    obtain ⟨c2, v, u, o, a1, _, _, _, _, a6⟩ := look i y hi
    rw [e] at a6; cases a6
    exact a1
  refine ⟨fun i y hi => ?_, ix, fun c hc => ?_, fun x y c e1 e2 => sl.inj x y c (real x c e1) (real y c e2), hl, fun y hy hf => ?_⟩
  · obtain ⟨c, v, u, o, a1, a2, a3, a4, a5, a6⟩ := look i y hi
    exact ⟨c, v, u, o, a6, a2, a3, a4, a5⟩
  · obtain ⟨⟨y, c'⟩, hm, rfl⟩ := List.mem_map.mp hc
    rcases cloFrom_mem hm with z | ⟨z1, z2⟩
    · cases z
    · exact ⟨y, by rw [zoO z1, z2]⟩
  · obtain ⟨y, k⟩ := y
    have hf : k = .free := hf
    subst hf
    exact ⟨_, zoO hy⟩
theorem zp1 {X : Cx} {σ : L2.St} {H H2 : Hp} {e : En} {m : M} {fs : List Addr} (sl : zkM X σ H H2) (rE : RelE X.K H σ e) (rM : RelM X.K H m) (h : ∀ f ∈ fs, ∃ L ys cap, m f = some (.fn L ys cap (cloFrom X.env.cells L.scope.names [])) ∧ zed X.N X.env.scope L ys cap) :
    RelM X.K H2 (zio fs e m) := fun a o ea => by
  unfold zio at ea
  by_cases ha : a ∈ fs
  · rw [if_pos ha] at ea
    obtain ⟨L, ys, cap, em, C⟩ := h a ha
    rw [em] at ea
    replace ea : (match zgt e cap with | some ds => some (O.clo L ys ds) | none => none) = some o := ea
    cases ec : zgt e cap with
    | none => rw [ec] at ea; cases ea
    | some ds =>
      rw [ec] at ea
      cases ea
      obtain ⟨vs, r, hv⟩ := zmd rE ec
      have f := rM a _ em
      exact ⟨_, vs, FnK.tx sl.tx f, zse sl C (by rw [← r.length, zng ec, C.len]) hv, r.mono sl.tx⟩
  · rw [if_neg ha] at ea
    refine (rM a o ea).move sl.tx fun u q => ?_
    rw [sl.same a fun y z => by rw [sl.free y a z] at q; cases q]
    exact q
def znh (N : List Str) (sc : Scope) (rb : List (Str × Addr) → AR) : ASp := fun ds m Q _ => ∀ cells, rb cells (zux N sc cells fun d m' => ∃ m2, Sub m2 m' ∧ Q d m2) (zkD N.length ds) m
section
variable {P : Program} {w : World} {K : PySem.W.Frag} {mg : Str → Option Value} {base : Heap}
theorem zps {x : Str} {params : Arguments} {body : List Stmt} {scope : Scope} {fd : FuncData} {N ps : List Str} {k n : Nat} {rb : List (Str × Addr) → AR} (F : FunD K x x params body scope [] [] (He.fAd K (x, none)) fd) (hm : mg x = some (.ref (He.fAd K (x, none)))) (bd : Binds K fd ps []) (S : FnScope N ps scope) (hn : ps.length = n)
    (hb : ∀ (A : Around) (outer : List Env) (s : Shared) (H : Hp) (E : XK), Room k (A.deeper (envOfC x scope s.heap.objs.size (He.fAd K (x, none)) (.ref (He.codeOf K (x, none))))) →
      PSr (cxOf (L2.CX P w) P w K mg base N x scope (He.fAd K (x, none)) (.ref (He.codeOf K (x, none))) A outer s H E) body (lR K (rb (cellsFrom (s.heap.objs.size + 1) scope.names [])))) :
    Cal P w K mg base x (k + 1) n (znh N scope rb) := by
  refine ⟨_, fd, ps, ?_, hm, F.kp, bd⟩
  obtain ⟨oc, od, dV, kV, doc, pm, an, cdv, ct, osl, rfl, lk, hcd, _, _⟩ := F.ex
  obtain ⟨c, rfl⟩ := He.codeIn_ref hcd
  have ec : He.codeOf K (x, none) = c := He.codeOf_eq (p := (x, none)) lk rfl
  rw [ec] at hb
  refine zq5 lk hcd S (fun vs H Q E h => ?_) fun A outer s H vs Q E hr h => ⟨_, hb A outer s H E hr, ?_⟩
  · obtain ⟨ds, m, P', R, e, r, _⟩ := h
    rw [← r.length, e, hn]
  · obtain ⟨ds, m, P', R, e, r, rM, t, q, w'⟩ := h
    refine ⟨_, m, _, RelE.start r, rM, t _, fun e' d m' hE σ' v H1 t1 rE' rv rm H2 sl => ?_⟩
    obtain ⟨fs, hfs, m2, s2, hp⟩ := hE
    have rs := zp1 (fs := fs) sl rE' rm hfs
    exact q d m2 hp v H2 (t1.trans sl.tx) (rv.mono sl.tx) (rs.sub s2)
end
end
section
set_option maxHeartbeats 2000000
structure zeC (K : PySem.W.Frag) (mg : Str → Option Value) (x : Str) (C : Addr) : Prop where
  glo : mg x = some (.ref C)
  exc : PySem.W.excIn K C He.veBase "ValueError.__new__" = true
  keep : PySem.W.keepIn K (.ref C) = true
  sub : PySem.W.subIn K (.ref C) (.type "BaseException") = some true
  typ : PySem.W.typeIn K (.ref C) = some (.type "type")
section
variable {X : Cx} {W : WX}
theorem zp2 {x : Str} {C : Addr} {p pos : Pos} (F : zeC X.K X.mg x C) (hg : Gl X x) (hdb : (x == ("__debug__" : Str)) = false := by decide) : PMk X (.Call (.Name x p) [] [] pos) fun _ H Q => Q (.ref C) none H := by
  intro pins s σ H Q I h
  refine wpAny_Call_Name_kw (ld_glob I hg F.glo (PySem.W.callWith_K0 (first := []) I.kIn F.keep ?_) hdb)
  show wpAny _ _ (call (.ref C) []) _ _ _
  obtain ⟨bm, N, nm, qn, bs, hdct, sn, sub, ab, col, dd, k0, k1, k2, k3, k5, mN, hC, hN, hni, T⟩ := exc_obj I.kIn F.exc
  exact wpAny_call_exc_subT PySem.F.excBase_ValueError T hC hN hni (fun h' e mk => mk_of I mk (raises_own F.sub F.typ) h (I.hok.gone mk.new)) (Nat.zero_le _)
def aRaise (C : Addr) : AS := fun A e m => A.xe e ⟨C, []⟩ m
theorem zhQ {x : Str} {C : Addr} {p pos pos' : Pos} (F : zeC X.K X.mg x C) (tk : Takes X W) (hc : X.calm = true := by rfl) (hg : Gl X x := by rfl) (hdb : (x == ("__debug__" : Str)) = false := by decide) : GS X W (.Raise (some (.Call (.Name x p) [] [] pos)) none pos') (aRaise C) := zem (ps_raise hc tk (zp2 F hg hdb)) fun D σ H h => by
  obtain ⟨e, m, A, rE, rM, t, ok⟩ := h
  exact (ok.xe e σ H (Tx.refl H) rE).go _ m t _ _ H (Tx.refl H) ⟨rfl, rfl⟩ rM
end
def eqb (k : Bool) : Value → Bool
  | .bool c => c == k
  | _ => false
theorem zni : ∀ {bs : List Bool} {us : List Value}, Vals (bs.map V.bl) us → us = bs.map Value.bool
  | [], us, r => by
    rw [List.map_nil] at r
    cases r
    rfl
  | b :: bs, us, r => by
    rw [List.map_cons] at r
    cases r with
    | cons h t =>
      rw [List.map_cons, ← zni t]
      congr 1
def zq7 (K : PySem.W.Frag) : V → List V → Hp → VK → Prop := fun x xs H Q => ∃ (p : Addr) (bs : List Bool) (k : Bool), x = .ref p ∧ xs = [.bl k] ∧ SqL K H p (bs.map V.bl) ∧ Q (.int (bs.count k : Nat)) H
theorem zme (k : Bool) : ∀ bs : List Bool, (bs.map Value.bool).countP (eqb k) = bs.count k
  | [] => rfl
  | b :: bs => by
    rw [List.map_cons, List.countP_cons, List.count_cons, zme k bs]
    rfl
theorem zpt {X : Cx} : MtR X "list.count" (zq7 X.K) := by
  intro pins s σ H x xs v us Q I rx rxs h
  obtain ⟨p, bs, k, rfl, rfl, hs, q⟩ := h
  cases rx
  obtain ⟨u, rfl, ru⟩ := rxs.one
  obtain rfl : u = .bool k := ru
  obtain ⟨its, rv, ⟨⟨cls, dd, data, sl⟩, n, ho, hc, hdn, hd⟩, hlen⟩ := I.list hs
  simp only at hc hd
  subst hc hd
  have hi := zni rv
  subst hi
  refine call_meets PySem.F.slot_list_count ⟨_, ho, rfl⟩ PySem.F.entry_list_count (PySem.F.args_list_count_2 _ _) (SeqAt.list_countAt p _ n dd sl (.bool k) (eqb k)) ⟨ho, fun y hy => ?_, ?_⟩
  · have hy' : y ∈ bs.map Value.bool := by simpa using hy
    obtain ⟨c, _, rfl⟩ := List.mem_map.mp hy'
    exact SeqAt.EqAt.bool_bool c k
  · have e0 : (bs.map Value.bool).toArray.toList.countP (eqb k) = bs.count k := zme k bs
    refine ⟨.int (bs.count k : Nat), H, I.tok _, ⟨s.toks, ?_⟩, q⟩
    rw [e0]
def zgd : List D → Option (List Bool)
  | [] => some []
  | .bl b :: r => (zgd r).map (b :: ·)
  | _ :: _ => none
theorem zkO {K : PySem.W.Frag} {H : Hp} : ∀ {ds : List D} {bs : List Bool} {vs : List V}, zgd ds = some bs → Reps K H ds vs → vs = bs.map V.bl
  | [], bs, vs, e, r => by cases e; exact r
  | .bl b :: ds, bs, vs, e, ⟨x, r, ex, hx, hr⟩ => by
    have e' : (zgd ds).map (b :: ·) = some bs := e
    cases q : zgd ds with
    | none => rw [q] at e'; cases e'
    | some cs =>
      rw [q] at e'
      cases e'
      rw [ex, show x = .bl b from hx, zkO q hr]
      rfl
  | .non :: _, _, _, e, _ => by cases e
  | .int _ :: _, _, _, e, _ => by cases e
  | .str _ :: _, _, _, e, _ => by cases e
  | .tup _ :: _, _, _, e, _ => by cases e
  | .fls _ :: _, _, _, e, _ => by cases e
  | .ref _ :: _, _, _, e, _ => by cases e
  | .ty _ :: _, _, _, e, _ => by cases e
def zjC (to ta : AE) : AE := fun e m Q R => to e m (fun o m1 => match o with
  | .ref a => (match m1.l a with
    | some _ => ta e m1 (fun d m2 => match d, m2.l a with
      | .bl k, some ds => (match zgd ds with
        | some bs => Q (.int (bs.count k : Nat)) m2
        | none => False)
      | _, _ => False) R
    | none => False)
  | _ => False) R
theorem zq8 {X : Cx} {W : WX} {o a : Expr} {to ta : AE} {apos cpos : Pos} (ho : GE X W o to) (ha : GE X W a ta) (hbase : attributeBase o "count" X.env (eval o X.env) = eval o X.env := by rfl)
    (hfew : ((backTo cpos (starEach [a] X.env)).all (fun x => !x.1) && (backToKw cpos (keywordEach [] X.env)).all (fun x => x.1.isSome)
      && decide ([a].length + ([] : List Keyword).length + (if ([] : List Keyword).isEmpty then 0 else 1) < 30)) = true := by rfl)
    (hline : (apos.endLine == cpos.line) = true := by rfl) (hs : starEach [a] X.env = (false, eval a X.env) :: starEach [] X.env := by rfl) (hplain : (backTo cpos (starEach [] X.env)).any (·.1) = false := by rfl) :
    GE X W (.Call (.Attribute o "count" apos) [a] [] cpos) (zjC to ta) := zbp (pe_bm PySem.F.plainAttrs_list PySem.F.slot_list_count PySem.F.type_list_count zpt ho (pa_cons ha pa_nil hs) hbase hfew hline hs hplain) fun σ H Q h => by
  obtain ⟨e, m, P, R, rE, rM, t, q, w⟩ := h
  refine ⟨e, m, _, R, rE, rM, t, fun d m1 h1 v H1 t1 r1 rm1 => ?_, w⟩
  cases d with
  | ref b =>
    obtain rfl : v = .ref b := r1
    have h1' : (match m1.l b with | some _ => ta e m1 (fun d m2 => match d, m2.l b with | .bl k, some ds => (match zgd ds with | some bs => P (.int (bs.count k : Nat)) m2 | none => False) | _, _ => False) R | none => False) := h1
    cases e1 : m1.l b with
    | none => rw [e1] at h1'; exact h1'.elim
    | some ds1 =>
      rw [e1] at h1'
      obtain ⟨xs1, hx1, _⟩ := rm1 b _ (M.l_of e1)
      refine ⟨.inl ⟨rfl, _, SqL.of hx1⟩, e, m1, _, R, rE.mono t1, rm1, h1', fun d2 m2 h2 v2 H2 t2 r2 rm2 => ?_, w.mono t1⟩
      cases d2 with
      | bl k =>
        obtain rfl : v2 = .bl k := r2
        have h2' : (match m2.l b with | some ds => (match zgd ds with | some bs => P (.int (bs.count k : Nat)) m2 | none => False) | none => False) := by
          cases e2 : m2.l b with
          | none => simp only [e2] at h2
          | some ds => simp only [e2] at h2; exact h2
        cases e2 : m2.l b with
        | none => rw [e2] at h2'; exact h2'.elim
        | some ds =>
          rw [e2] at h2'
          obtain ⟨xs, hx, hr⟩ := rm2 b _ (M.l_of e2)
          cases e3 : zgd ds with
          | none => simp only [e3] at h2'
          | some bs =>
            simp only [e3] at h2'
            have ev := zkO e3 hr
            subst ev
            exact ⟨b, bs, k, rfl, rfl, SqL.of hx, q _ m2 h2' _ H2 (t1.trans t2) rfl rm2⟩
      | _ => exact h2.elim
  | _ => exact h1.elim
end
section
set_option maxHeartbeats 2000000
structure Pm where
  cA : Str → Addr
  mt : Addr → Option Bool
  isT : Addr → Addr → Option Bool
  L : Nat → zb2
  P : Addr
  sc : Scope
  Pt : Addr
  fld : Addr → Str → Bool := fun _ _ => false
  mto : Str → Addr → Option Bool := fun _ _ => none
structure zsf (p : Pm) (errs : List Str) (N : List Str) (cs : List (List Str × List Nat)) (q : Str) : Prop where
  mt : ∀ n ∈ errs, p.mt (p.cA n) = some true
  isT : ∀ n ∈ errs, ∀ k ∈ errs, p.isT (p.cA n) (p.cA k) = some (decide (n = k))
  cap : ∀ (j : Nat) (c : List Str × List Nat), cs[j]? = some c → zed N p.sc (p.L j) c.1 c.2
  qual : ∀ j, j < cs.length → (p.L j).qual = q
def ztj (st : Stmt) (q : Str) : zb2 := match st with
  | .Expr (.Call _ [.Lambda ps b sc _] _ _) _ => ⟨ps, b, sc, q⟩
  | _ => ⟨{ posonlyargs := [], args := [], vararg := none, kwonlyargs := [], kw_defaults := [], kwarg := none, defaults := [] }, .Constant .none 0 ⟨0, 0, 0, 0⟩, { kind := .function, names := [], isGenerator := false, isCoroutine := false, more := [] }, q⟩
def zsg (N : List Str) (sc : Scope) (L : zb2) (ys : List Str) (cap : List Nat) : Bool :=
  decide (cap.length = ys.length) && (List.range ys.length).all (fun i => match ys[i]?, cap[i]? with
    | some y, some j => decide (N[j]? = some y) && decide (sc.names.lookup y = some .cell)
    | _, _ => false) && L.scope.names.all (fun y => !decide (y.2 = .free) || decide (y.1 ∈ ys)) && ys.all fun y => decide ((y, NameKind.free) ∈ L.scope.names)
theorem zd5 {N : List Str} {sc : Scope} {L : zb2} {ys : List Str} {cap : List Nat} (h : zsg N sc L ys cap = true) : zed N sc L ys cap := by
  unfold zsg at h
  simp only [Bool.and_eq_true] at h
  obtain ⟨⟨⟨h1, h2⟩, h3⟩, h4⟩ := h
  refine ⟨of_decide_eq_true h1, fun i y hi => ?_, fun y hy hf => ?_, fun y hy => of_decide_eq_true (List.all_eq_true.mp h4 y hy)⟩
  · have q := List.all_eq_true.mp h2 i (List.mem_range.mpr (List.getElem?_eq_some_iff.mp hi).1)
    rw [hi] at q
    cases e : cap[i]? with
    | none => rw [e] at q; cases q
    | some j =>
      rw [e] at q
      simp only [Bool.and_eq_true] at q
      exact ⟨j, rfl, of_decide_eq_true q.1, of_decide_eq_true q.2⟩
  · have q := List.all_eq_true.mp h3 y hy
    rw [hf] at q
    simpa using q
def zsh (L : zb2) (ys : List Str) : Bool := decide (L.scope.kind = .function) && (!L.scope.isCoroutine && (!L.scope.isGenerator && L.scope.names.all fun y => !decide (y.2 = .local) && (!decide (y.2 = .cell) && (!decide (y.2 = .free) || decide (y.1 ∈ ys)))))
theorem zfC {L : zb2} {ys : List Str} (h : zsh L ys = true) (hb : ∀ (cl : List (Str × Addr)) (pm cv ctv : Value), bindArgs (PySem.W.kla_fn "<lambda>" L.qual L.params L.body L.scope cl pm cv ctv) ⟨[], []⟩ = pure []) : LSc L ys := by
  unfold zsh at h
  simp only [Bool.and_eq_true, Bool.not_eq_true'] at h
  obtain ⟨h1, h2, h3, h4⟩ := h
  have key : ∀ y ∈ L.scope.names, y.2 ≠ .local ∧ y.2 ≠ .cell ∧ (y.2 = .free → y.1 ∈ ys) := fun y hy => by
    have q := List.all_eq_true.mp h4 y hy
    simp only [Bool.and_eq_true, Bool.not_eq_true', Bool.or_eq_true, decide_eq_false_iff_not, decide_eq_true_eq] at q
    exact ⟨q.1, q.2.1, fun e => q.2.2.resolve_left fun z => z e⟩
  exact ⟨of_decide_eq_true h1, h2, h3, fun y hy => ⟨(key y hy).1, (key y hy).2.1⟩, fun y hy => (key y hy).2.2, hb⟩
section
variable {K : PySem.W.Frag} {h : Heap} {mg : Str → Option Value}
theorem zkP (X : K.In h) (G : h.Ns mainGlobals mg) {x : Str} (c : (He.Fa.glo x).ok K = true) (e : (He.Fa.exc x).ok K = true) : zeC K mg x (He.ga K x) :=
  let ⟨a, b, d, f⟩ := He.exc_ok e; ⟨He.glo_ok X G c, a, b, d, f⟩
theorem zq9 {D : Addr} (h : zmM K D = true) : ExcC K D := by
  unfold zmM at h
  simp only [Bool.and_eq_true, decide_eq_true_eq] at h
  obtain ⟨h1, h2, h3, h4, h5, h6, h7, h8⟩ := h
  exact ⟨He.eqO_ok h1, He.eqO_ok h2, h3, h4, He.eqO_ok h5, He.eqO_ok h6, h7, h8⟩
theorem zra : ∀ a1 a2 b, zmW K a1 a2 = some b → PySem.W.kitOne K (.ref a1) (.ref a2) = some b ∧ ExcC K a1 := fun a1 a2 b e => by
  unfold zmW at e
  by_cases c : zmM K a1 = true
  · rw [if_pos c] at e; exact ⟨e, zq9 c⟩
  · rw [if_neg c] at e; cases e
theorem zrb {errs : List Str} {x : Str} (h : zmN K errs x = true) : (∀ n ∈ errs, mtK K x (He.ga K n) = some true) ∧ ∀ n ∈ errs, ∀ k ∈ errs, zmW K (He.ga K n) (He.ga K k) = some (decide (n = k)) := by
  unfold zmN at h
  have q := List.all_eq_true.mp h
  refine ⟨fun n hn => ?_, fun n hn k hk => ?_⟩
  · have z := q n hn
    simp only [Bool.and_eq_true] at z
    exact of_decide_eq_true z.1
  · have z := q n hn
    simp only [Bool.and_eq_true] at z
    exact of_decide_eq_true (List.all_eq_true.mp z.2 k hk)
theorem znj : ∀ (l : List (Addr × Str)) (p : Addr) (q : Str), l.lookup p = some q → (p, q) ∈ l
  | [], _, _, e => by cases e
  | (a, z) :: l, p, q, e => by
    rw [List.lookup_cons] at e
    by_cases c : p = a
    · subst c
      simp at e
      subst e
      exact List.mem_cons_self
    · rw [show (p == a) = false from beq_eq_false_iff_ne.mpr c] at e
      exact List.mem_cons_of_mem _ (znj l p q e)
theorem zrc {sp : ASp} {ts : List Addr} {tl : List (Addr × Str)} {H : Hp} {a : Addr} {ns : List Int} (h : ∀ m : M, (∀ p ∈ tl, m p.1 = some (.ltab p.2)) → (∀ p ∈ ts, (∀ z ∈ tl, z.1 ≠ p) → m p = some .tab) → sp [.fls (ns.map D.int)] m (fun d _ => d = .bl true) fun _ _ => False)
    (hd : ∀ p ∈ tl, tl.lookup p.1 = some p.2) (hT : ∀ p ∈ ts, H p = some (.tbl #[])) (hL : ∀ p ∈ tl, p.1 ∈ ts) (hS : SqL K H a (ns.map V.int)) : spF K (lSp K 1 sp) [.ref a] H (fun v _ => v = .bl true) fun _ _ _ => False := by
  have lk : ∀ {l : List (Addr × Str)} {p : Addr} {q : Str}, l.lookup p = some q → (p, q) ∈ l := fun {l p q} => znj l p q
  have go : ∀ H' : Hp, (∀ p ∈ ts, H' p = some (.tbl #[])) → FrL K H' a (ns.map V.int) → lSp K 1 sp [.ref a] H' (fun v _ => v = .bl true) fun _ _ _ => False := fun H' hT' hF => by
    refine ⟨[.fls (ns.map D.int)], fun p => match tl.lookup p with | some q => some (.ltab q) | none => if p ∈ ts then some .tab else none, _, _, rfl, ⟨_, _, rfl, ⟨a, _, rfl, hF, Reps.of_ints ns⟩, rfl⟩, fun p o e => ?_, h _ (fun p hp => by show (match tl.lookup p.1 with | some q => some (O.ltab q) | none => _) = _; rw [hd p hp]) (fun p hp hn => ?_), fun d m' e v H2 _ r _ => by subst e; exact r, ⟨fun _ _ z => z.elim⟩⟩
    · have e : (match tl.lookup p with | some q => some (O.ltab q) | none => if p ∈ ts then some .tab else none) = some o := e
      cases eq : tl.lookup p with
      | some q =>
        rw [eq] at e
        cases e
        refine ⟨#[], hT' p (hL (p, q) (lk eq)), by simp [TriplesOk], fun pos cv hc => ?_⟩
        simp [codeAmong] at hc
      | none =>
        rw [eq] at e
        replace e : (if p ∈ ts then some O.tab else none) = some o := e
        by_cases hp : p ∈ ts
        · rw [if_pos hp] at e
          cases e
          exact ⟨#[], hT' p hp, by simp [TriplesOk]⟩
        · rw [if_neg hp] at e
          cases e
    · show (match tl.lookup p with | some q => some (O.ltab q) | none => if p ∈ ts then some O.tab else none) = _
      cases eq : tl.lookup p with
      | some q => exact absurd rfl (hn (p, q) (lk eq))
      | none => exact if_pos hp
  rcases hS with (hS | ⟨o, hS⟩) | hS
  · refine ⟨a, _, rfl, .inr ⟨hS, fun o => go _ (fun p hp => ?_) (.inl ⟨o, upd_same⟩)⟩⟩
    rw [upd_ne fun z => by rw [← z, hT p hp] at hS; cases hS]
    exact hT p hp
  · exact ⟨a, _, rfl, .inl ⟨.inl ⟨o, hS⟩, go H hT (.inl ⟨o, hS⟩)⟩⟩
  · exact ⟨a, _, rfl, .inl ⟨.inr hS, go H hT (.inr hS)⟩⟩
end
end
section
set_option maxHeartbeats 2000000
def zhR (K : PySem.W.Frag) (C : Addr) (f : Str) : Sp := fun vs H Q E => ∃ a v, vs = [.ref a, v] ∧ OexC K C ∧ PySem.W.findIn K (.ref C) f = some none ∧ H a = some (exo a C none) ∧ ∀ dx, H dx = none → dx ≠ a → Q .non (upd (upd H dx (exd dx [(f, v)])) a (exo a C (some dx)))
section
variable {P : Program} {w : World} {K : PySem.W.Frag} {mg : Str → Option Value} {base : Heap}
theorem zlA {q f s0 s1 : Str} {params : Arguments} {body : List Stmt} {scope : Scope} {fI C : Addr} {fd : FuncData} (F : FunD K "__init__" q params body scope [] [] fI fd) (S : FnScope [s0, s1] [s0, s1] scope)
    (hb : ∀ (cdv : Value) (A : Around) (outer : List Env) (s : Shared) (H : Hp) (E : XK), PSs (cxOf (L2.CX P w) P w K mg base [s0, s1] q scope fI cdv A outer s H E) body (tOst K f (tVar 0) (tVar 1))) :
    FnOk P w K mg base (L2.CX P w) 1 fI fd [s0, s1] (zhR K C f) := by
  refine F.ok S (fun vs H Q E h => ?_) (fun cdv A outer s H vs Q E hr h => ⟨_, hb cdv A outer s H E, ?_⟩)
  · obtain ⟨a, v, rfl, _⟩ := h
    rfl
  · obtain ⟨a, v, rfl, T, hno, ea, q⟩ := h
    exact ⟨v, rfl, .ref a, rfl, a, C, rfl, T, hno, .inl ⟨ea, fun dx h1 h2 => q dx h1 h2⟩⟩
structure zfj (P : Program) (w : World) (K : PySem.W.Frag) (mg : Str → Option Value) (base : Heap) (x : Str) (C : Addr) (f : Str) : Prop where
  glo : mg x = some (.ref C)
  T : OexC K C
  no : PySem.W.findIn K (.ref C) f = some none
  ini : ∃ (fI : Addr) (fd : FuncData) (ps : List Str), PySem.W.findIn K (.ref C) "__init__" = some (some (.ref fI)) ∧ PySem.W.typeIn K (.ref fI) = some (.type "function") ∧ FnOk P w K mg base (L2.CX P w) 1 fI fd ps (zhR K C f) ∧ Binds K fd ps []
end
def zdJ (C : Addr) (f : Str) (ta : AA) : AS := fun A e m => ta e m (fun ds m1 => match ds with
  | [d] => A.xe e ⟨C, [(f, d)]⟩ m1
  | _ => False) (A.xe e)
section
variable {X : Cx} {W : WX}
theorem zd6 {x f : Str} {C : Addr} {e : Expr} {es : List Expr} {ta : AA} {p pos pos' : Pos} (F : zfj X.prog X.w X.K X.mg X.base x C f) (tk : Takes X W) (hr : Room 2 X.A) (ha : GA X W (e :: es) ta) (hx : Passes (L2.CX X.prog X.w) X (fun _ _ _ => False)) (hc : X.calm = true := by rfl) (hg : Gl X x := by rfl) (hdb : (x == ("__debug__" : Str)) = false := by decide)
    (he : starEach (e :: es) X.env = (false, eval e X.env) :: starEach es X.env := by rfl) (hpl : (backTo pos (starEach es X.env)).any (·.1) = false := by rfl) : GS X W (.Raise (some (.Call (.Name x p) (e :: es) [] pos)) none pos') (zdJ C f ta) := by
  obtain ⟨fI, fd, ps, iC, tI, F1, hb⟩ := F.ini
  refine zem (ps_raise hc tk (pmk_oex (dvs := []) F.T iC tI F1 hr hb .nil hx hg F.glo ha hdb he hpl)) fun D σ H h => ?_
  obtain ⟨e, m, A, rE, rM, t, ok⟩ := h
  refine ⟨e, m, _, _, rE, rM, t, fun ds m1 h1 vs H1 t1 r1 rm1 => ?_, ok.xe e σ H (Tx.refl H) rE⟩
  match ds, h1, r1 with
  | [d], h1, r1 =>
    obtain ⟨v, r', e1, rv, e2⟩ := r1
    obtain rfl : r' = [] := e2
    subst e1
    refine ⟨by simp, fun a ha => ⟨a, v, rfl, F.T, F.no, upd_same, fun dx hd hne => ⟨rfl, dx, [(f, v)], upd_same, by rw [upd_ne hne]; exact upd_same, ?_, ?_⟩⟩⟩
    · rw [upd_ne hne] at hd; exact hd
    · rw [upd_ne hne] at hd
      have keep : ∀ b u, H1 b = some u → (upd (del (upd (upd (upd H1 a (exo a C none)) dx (exd dx [(f, v)])) a (exo a C (some dx))) a) dx (.xd [(f, v)])) b = some u := fun b u hb => by
        have n1 : b ≠ dx := fun z => by rw [z, hd] at hb; cases hb
        have n2 : b ≠ a := fun z => by rw [z, ha] at hb; cases hb
        rw [upd_ne n1, del_ne n2, upd_ne n2, upd_ne n1, upd_ne n2]
        exact hb
      have tt : Tx H1 (upd (del (upd (upd (upd H1 a (exo a C none)) dx (exd dx [(f, v)])) a (exo a C (some dx))) a) dx (.xd [(f, v)])) := ⟨fun b xs hb => keep b _ hb, fun b o u hb => keep b _ hb⟩
      refine (ok.xe e σ H (Tx.refl H) rE).go ⟨C, [(f, d)]⟩ m1 h1 _ _ _ (t1.trans tt) ⟨rfl, dx, [v], rfl, upd_same, ⟨v, [], rfl, rv.mono tt, rfl⟩⟩ fun b o ho => (rm1 b o ho).move tt fun u hu => keep b u hu
end
theorem RelM.setX {K : PySem.W.Frag} {H : Hp} {m : M} {d : Addr} {fs : List (Str × D)} {vs : List V} (r : RelM K H m) (h : H d = some (.xd ((fs.map (·.1)).zip vs))) (z : Reps K H (fs.map (·.2)) vs) : RelM K H (mset m d (.xd fs)) := fun a u e => by
  by_cases hb : a = d
  · subst hb
    rw [zq] at e; cases e
    exact ⟨vs, h, z⟩
  · rw [zaX hb] at e
    exact r a u e
theorem zrd {K : PySem.W.Frag} {H : Hp} {m : M} {d : Addr} {g : List (Str × V)} (r : RelM K H m) (h : H d = some (.xd g)) : ∀ o, m d = some o → ∃ fs, o = .xd fs := fun o e => by
  have q := r d o e
  cases o with
  | xd fs => exact ⟨fs, rfl⟩
  | lst ds => obtain ⟨_, q, _⟩ := q; rw [h] at q; cases q
  | tab => obtain ⟨_, q, _⟩ := q; rw [h] at q; cases q
  | dic ps => obtain ⟨_, q, _⟩ := q; rw [h] at q; cases q
  | ltab s => obtain ⟨_, q, _⟩ := q; rw [h] at q; cases q
  | fn L ys cap cl => obtain ⟨_, _, _, q, _⟩ := q; rw [h] at q; cases q
  | clo L ys ds => obtain ⟨_, _, ⟨_, _, _, q, _⟩, _⟩ := q; rw [h] at q; cases q
  | opq => obtain ⟨_, _, q, _⟩ := q; rw [h] at q; cases q
  | obj C fs => obtain ⟨_, _, q, _⟩ := q; rw [h] at q; cases q
  | ftp ds => obtain ⟨_, _, q, _⟩ := q; rw [h] at q; cases q
  | fdc ps => obtain ⟨_, _, q, _⟩ := q; rw [h] at q; cases q
def zjY (mt : Addr → Option Bool) (i : Nat) (tb : AS) (ts : Addr → Xn → Option Addr → AS) : AS := fun A e m => tb { A with xe := fun e1 x m1 => match mt x.cls with
  | some true => ∀ a, (x.fs = [] → ts a x none { nx := fun e2 m2 => A.nx (e2.x i) m2, rt := A.rt, bk := fun e2 m2 => A.bk (e2.x i) m2, ct := fun e2 m2 => A.ct (e2.x i) m2, xe := fun _ _ _ => False } (e1.s i (.ref a)) m1) ∧
      (x.fs ≠ [] → ∀ d, (∀ o, m1 d = some o → ∃ fs, o = .xd fs) → ts a x (some d) { nx := fun e2 m2 => A.nx (e2.x i) m2, rt := A.rt, bk := fun e2 m2 => A.bk (e2.x i) m2, ct := fun e2 m2 => A.ct (e2.x i) m2, xe := fun _ _ _ => False } (e1.s i (.ref a)) (mset m1 d (.xd x.fs)))
  | some false => A.xe e1 x m1
  | none => False } e m
theorem zsi {X : Cx} {W : WX} {x n : Str} {c : Value} {i : Nat} {body suite : List Stmt} {b₀ : Stmt} {np pos pos' : Pos} {mt : Addr → Option Bool} {tb : AS} {ts : Addr → Xn → Option Addr → AS} (hs : X.stack = X.env :: X.outer) (hf : X.env.frame = some X.env.locals) (hN : X.N.Nodup) (hc : Names X x c) (tk : Takes X W)
    (hmt : ∀ a b, mt a = some b → PySem.W.exmOne X.K (.ref a) c = some b)
    (hb : ∀ (W' : WX) (pn : List (Addr × Obj)) (xe : Value → Shared → Prop), Takes (X.tr pn xe) W' → PassesOwn (model X.prog X.w) X.A X.env xe → GSs (X.tr pn xe) W' body tb)
    (hsu : ∀ (a : Addr) (oe : Obj) (x : Xn) (d : Option Addr) (pn : List (Addr × Obj)), Zc (.ref x.cls) d oe → (∃ vs, oe.data = .fields vs) → GSs (X.suite a ((a, oe) :: pn)) W0 (b₀ :: suite) (ts a x d))
    (hi : X.N[i]? = some n := by rfl) (hln : X.env.kindOf n = some .local := by rfl) : GS X W (.Try body [.ExceptHandler (some (.Name x np)) (some n) (b₀ :: suite) pos'] [] [] pos) (zjY mt i tb ts) :=
  zem (ps_try_as (tb := fun W' => lS X.K W' tb) (ts := fun a cls d D σ H => ∃ y : Xn, cls = .ref y.cls ∧ lS X.K W0 (ts a y d) D σ H) hs hf hN hi hln hc tk hb fun a oe cls d pn hz hd => ⟨fun pins s σ H D I h => by
      obtain ⟨y, rfl, h⟩ := h
      exact (hsu a oe y d pn hz hd).run pins s σ H D I h⟩) fun D σ H h => by
    obtain ⟨e, m, A, rE, rM, t, ok⟩ := h
    refine ⟨e, m, _, rE, rM, t, ⟨ok.nx, ok.rt, ok.bk, ok.ct, fun e1 σ1 H1 t1 rE1 => ⟨fun y m1 hy cls dd H2 t2 xr rm => ?_⟩⟩⟩
    have hy' : (match mt y.cls with
      | some true => ∀ a, (y.fs = [] → ts a y none { nx := fun e2 m2 => A.nx (e2.x i) m2, rt := A.rt, bk := fun e2 m2 => A.bk (e2.x i) m2, ct := fun e2 m2 => A.ct (e2.x i) m2, xe := fun _ _ _ => False } (e1.s i (.ref a)) m1) ∧
          (y.fs ≠ [] → ∀ d, (∀ o, m1 d = some o → ∃ fs, o = .xd fs) → ts a y (some d) { nx := fun e2 m2 => A.nx (e2.x i) m2, rt := A.rt, bk := fun e2 m2 => A.bk (e2.x i) m2, ct := fun e2 m2 => A.ct (e2.x i) m2, xe := fun _ _ _ => False } (e1.s i (.ref a)) (mset m1 d (.xd y.fs)))
      | some false => A.xe e1 y m1
      | none => False) := hy
    obtain ⟨ec, ed⟩ := id xr
    cases em : mt y.cls with
    | none => rw [em] at hy'; exact hy'.elim
    | some b =>
      rw [em] at hy'
      refine ⟨b, by rw [ec]; exact hmt _ _ em, fun hb1 a na => ?_, fun hb0 => ?_⟩
      · subst hb1
        have tt := t1.trans t2
        obtain ⟨h1, h2⟩ := hy' a
        cases hfs : y.fs with
        | nil =>
          rw [hfs] at ed
          have ed' : dd = none := ed
          subst ed'
          refine ⟨y, ec, _, m1, _, (rE1.mono t2).set i (d := .ref a) (v := .ref a) rfl, rm, h1 hfs, ⟨fun e2 m2 p σ2 H3 t3 r3 rm3 => ?_, ok.rt.mono tt, fun e2 m2 p σ2 H3 t3 r3 rm3 => ?_, fun e2 m2 p σ2 H3 t3 r3 rm3 => ?_, fun _ _ _ _ _ => ⟨fun _ _ z => z.elim⟩⟩⟩
          · exact ok.nx _ m2 p _ H3 (tt.trans t3) (r3.unset i) rm3
          · exact ok.bk _ m2 p _ H3 (tt.trans t3) (r3.unset i) rm3
          · exact ok.ct _ m2 p _ H3 (tt.trans t3) (r3.unset i) rm3
        | cons q fs =>
          rw [hfs] at ed
          have ed' : ∃ d vs, dd = some d ∧ H2 d = some (.xd (((q :: fs).map (·.1)).zip vs)) ∧ Reps X.K H2 ((q :: fs).map (·.2)) vs := ed
          obtain ⟨d, vs, e1', e2', e3'⟩ := ed'
          subst e1'
          refine ⟨y, ec, _, mset m1 d (.xd y.fs), _, (rE1.mono t2).set i (d := .ref a) (v := .ref a) rfl, rm.setX (by rw [hfs]; exact e2') (by rw [hfs]; exact e3'), h2 (by rw [hfs]; simp) d (zrd rm e2'), ⟨fun e2 m2 p σ2 H3 t3 r3 rm3 => ?_, ok.rt.mono tt, fun e2 m2 p σ2 H3 t3 r3 rm3 => ?_, fun e2 m2 p σ2 H3 t3 r3 rm3 => ?_, fun _ _ _ _ _ => ⟨fun _ _ z => z.elim⟩⟩⟩
          · exact ok.nx _ m2 p _ H3 (tt.trans t3) (r3.unset i) rm3
          · exact ok.bk _ m2 p _ H3 (tt.trans t3) (r3.unset i) rm3
          · exact ok.ct _ m2 p _ H3 (tt.trans t3) (r3.unset i) rm3
      · subst hb0
        exact (ok.xe e1 σ1 H1 t1 rE1).go y m1 hy' cls dd H2 t2 xr rm
theorem zp3 {X : Cx} {a D : Addr} {d : Option Addr} {oe : Obj} {pn : List (Addr × Obj)} (C : ExcC X.K D) (hz : Zc (.ref D) d oe) (hf : ∃ vs, oe.data = .fields vs) : CallR (X.suite a ((a, oe) :: pn)) (.builtin "isinstance") fun xs H Q => (∀ dd, d = some dd → ∃ g, H dd = some (.xd g)) ∧ rIsE X.K D a xs H Q := by
  intro pins s σ H xs us Q I r h
  obtain ⟨hx, c, cv, b, rfl, hcv, e, q⟩ := h
  cases r with
  | cons rx rr =>
    cases rr with
    | cons rt rr =>
      cases rr
      cases rx
      have ec := hcv _ rt
      subst ec
      obtain ⟨hget, _⟩ := I.pin (a, oe) (List.mem_append.mpr (.inl List.mem_cons_self))
      obtain ⟨vs, hv⟩ := hf
      have J : ∃ od, PySem.W.InstAt s.heap a oe D od := by
        obtain ⟨oc, od, oda, osl⟩ := oe
        obtain ⟨h1, h2⟩ := hz
        dsimp only at h1 h2 hv
        subst h1 h2 hv
        cases od with
        | none => exact ⟨none, hget, rfl, rfl, trivial⟩
        | some dd =>
          obtain ⟨g, hg⟩ := hx dd rfl
          obtain ⟨_, ⟨o, _, _, e, _⟩, _⟩ := (I.hok dd _ hg : ObjOk X.prog X.w H s.heap dd (.xd g))
          exact ⟨some o, hget, rfl, rfl, e⟩
      obtain ⟨od, J⟩ := J
      have hcl : (PySem.W.clsIn X.K D).isSome = true := by
        obtain ⟨cd, hc, _⟩ := PySem.W.any_some C.hd
        rw [hc]; rfl
      exact PySem.W.kia_one (PySem.W.kitx_exc hcl C.hg C.hk C.hs C.ha C.hn C.ht C.hm) I.kIn J e (fun z => nomatch z) fun tk => ⟨.bl b, H, I.kept (t' := tk) fun _ _ z => z, rfl, q⟩
def zeD (isT : Addr → Addr → Option Bool) (a : Addr) (x : Xn) (d : Option Addr) (i : Nat) (C : Addr) : AE := fun e m Q _ => e.g i = some (.ref a) ∧ (∀ dd, d = some dd → ∃ fs, m dd = some (.xd fs)) ∧ ∃ b, isT x.cls C = some b ∧ Q (.bl b) m
theorem zjZ {X : Cx} {W : WX} {a C : Addr} {oe : Obj} {x : Xn} {d : Option Addr} {pn : List (Addr × Obj)} {isT : Addr → Addr → Option Bool} {i : Nat} {n z : Str} {p1 p2 p3 pos : Pos} (hz : Zc (.ref x.cls) d oe) (hf : ∃ vs, oe.data = .fields vs) (his : ∀ a1 a2 b, isT a1 a2 = some b → PySem.W.kitOne X.K (.ref a1) (.ref a2) = some b ∧ ExcC X.K a1)
    (hm : X.mg "isinstance" = none) (hgz : X.mg z = some (.ref C)) (hN : X.N[i]? = some n := by rfl) (hv : Vis X.env.scope n := by first | exact .inl rfl | exact .inr (.inl rfl) | exact .inr (.inr rfl)) (hg : Gl X "isinstance" := by rfl) (hgl : Gl X z := by rfl) (hn1 : (n == ("__debug__" : Str)) = false := by decide) (hn2 : (n == ("__classdict__" : Str)) = false := by decide) (hz1 : (z == ("__debug__" : Str)) = false := by decide)
    (he : starEach [.Name n p2, .Name z p3] X.env = (false, eval (.Name n p2) X.env) :: starEach [.Name z p3] X.env := by rfl) (he2 : starEach [.Name z p3] X.env = (false, eval (.Name z p3) X.env) :: starEach [] X.env := by rfl) (hpl : (backTo pos (starEach [.Name z p3] X.env)).any (·.1) = false := by rfl) :
    GE (X.suite a ((a, oe) :: pn)) W (.Call (.Name "isinstance" p1) [.Name n p2, .Name z p3] [] pos) (zeD isT a x d i C) := by
  refine ⟨fun pins s σ H Q I h => ?_⟩
  obtain ⟨e, m, P, R, rE, rM, ⟨hi, hx, b, hb, t⟩, q, w⟩ := h
  obtain ⟨hk, hE⟩ := his _ _ _ hb
  obtain ⟨v, h1, h2⟩ := rE.get hi
  obtain rfl : v = .ref a := h2
  have ha : PA (X.suite a ((a, oe) :: pn)) [.Name n p2, .Name z p3] (tCons (tVar i) (tCons (tC (.ref C)) tNil)) := pa_cons (pe_var hN hv hn1 hn2) (pa_cons (pe_glob hgl hgz rfl hz1) pa_nil he2) he
  refine (pe_callB (zp3 (D := x.cls) (d := d) hE hz hf) hg hm (by decide +kernel) ha (by decide) (by decide) he hpl).run pins s σ H Q I ?_
  refine ⟨.ref a, h1, fun dd hd => ?_, .ref C, .ref C, b, rfl, fun u r => r, hk, q _ m t _ H (Tx.refl H) rfl rM⟩
  obtain ⟨fs, hm⟩ := hx dd hd
  obtain ⟨vs, e, _⟩ := rM dd _ hm
  exact ⟨_, e⟩
theorem zip_look {K : PySem.W.Frag} {H : Hp} {f : Str} {v : D} : ∀ {fs : List (Str × D)} {vs : List V}, Reps K H (fs.map (·.2)) vs → fs.lookup f = some v → ∃ u, ((fs.map (·.1)).zip vs).lookup f = some u ∧ Rep K H v u
  | [], _, _, e => by cases e
  | (g, d) :: fs, vs, ⟨x, r, e1, h, hr⟩, e => by
    subst e1
    rw [List.lookup_cons] at e
    show ∃ u, ((g, x) :: ((fs.map (·.1)).zip r)).lookup f = some u ∧ _
    rw [List.lookup_cons]
    by_cases c : f = g
    · subst c
      simp at e
      subst e
      exact ⟨x, by simp, h⟩
    · have c' : (f == g) = false := by simpa using c
      rw [c'] at e
      rw [c']
      exact zip_look hr e
def zkm (fld : Addr → Str → Bool) (a : Addr) (x : Xn) (d : Option Addr) (i : Nat) (f : Str) : AE := fun e m Q _ => e.g i = some (.ref a) ∧ fld x.cls f = true ∧ ∃ dd fs v, d = some dd ∧ m dd = some (.xd fs) ∧ fs.lookup f = some v ∧ Q v m
theorem zoP {X : Cx} {W : WX} {a : Addr} {oe : Obj} {x : Xn} {d : Option Addr} {pn : List (Addr × Obj)} {fld : Addr → Str → Bool} {i : Nat} {n f : Str} {p1 pos : Pos} (hz : Zc (.ref x.cls) d oe) (hf : ∃ vs, oe.data = .fields vs) (hfl : ∀ C g, fld C g = true → XfC X.K C ∧ PySem.W.findIn X.K (.ref C) g = some none)
    (hok : fld x.cls f = true → True) (hN : X.N[i]? = some n := by rfl) (hv : Vis X.env.scope n := by first | exact .inl rfl | exact .inr (.inl rfl) | exact .inr (.inr rfl)) (hn1 : (n == ("__debug__" : Str)) = false := by decide) (hn2 : (n == ("__classdict__" : Str)) = false := by decide)
    (hb : attributeBase (.Name n p1) f X.env (eval (.Name n p1) X.env) = eval (.Name n p1) X.env := by rfl) :
    GE (X.suite a ((a, oe) :: pn)) W (.Attribute (.Name n p1) f pos) (zkm fld a x d i f) := by
  refine ⟨fun pins s σ H Q I h => ?_⟩
  obtain ⟨e, m, P, R, rE, rM, ⟨hi, hfl', dd, fs, v, ed, hm, hl, t⟩, q, w⟩ := h
  obtain ⟨T, hno⟩ := hfl _ _ hfl'
  obtain ⟨u, h1, h2⟩ := rE.get hi
  obtain rfl : u = .ref a := h2
  refine (pe_xf (te := tVar i) T hno hz hf (pe_var hN hv hn1 hn2) hb).run pins s σ H Q I ?_
  obtain ⟨vs, e1, e2⟩ := rM dd _ hm
  obtain ⟨y, l1, l2⟩ := zip_look e2 hl
  exact ⟨.ref a, h1, rfl, rfl, dd, _, y, ed, e1, l1, q v m t _ H (Tx.refl H) l2 rM⟩
end
section
set_option maxHeartbeats 2000000
section
variable {K : PySem.W.Frag} {h : Heap} {mg : Str → Option Value}
theorem zsj {C : Addr} (q : zpM K C = true) : OexC K C := by
  unfold zpM at q
  simp only [Bool.and_eq_true] at q
  obtain ⟨q, h1, h2, h3, h4⟩ := q
  refine ⟨?_, He.eqO_ok h1, of_decide_eq_true h2, of_decide_eq_true h3, h4⟩
  split at q
  · rename_i dd cd sl ho
    split at q
    · rename_i C' bm k0 k1 k2 k3 n k5 hm hs
      simp only [Bool.and_eq_true, decide_eq_true_eq, Bool.not_eq_true'] at q
      obtain ⟨rfl, rfl, hdel, hdict, hbm⟩ := q
      obtain ⟨nm, bs, mro, ns, qn, hd, sn, sub, ab, col, del⟩ := cd
      dsimp only at hm hdel hdict
      subst hm hdel hdict
      have hsl : sl = #[k0, k1, k2, k3, some (.builtin "ValueError.__new__"), k5] := by
        obtain ⟨l⟩ := sl
        simp only at hs
        rw [hs]
      subst hsl
      exact ⟨nm, qn, ns, bs, bm, sn, sub, ab, col, dd, k0, k1, k2, k3, k5, ho, hbm⟩
    · cases q
  · cases q
theorem zoe : ∀ C g, zmX K C g = true → XfC K C ∧ PySem.W.findIn K (.ref C) g = some none := fun C g h => by
  unfold zmX at h
  simp only [Bool.and_eq_true] at h
  exact ⟨xfB_ok h.1, of_decide_eq_true h.2⟩
theorem zoQ {P : Program} {w : World} {base : Heap} {x f : Str} {fd : FuncData} {ps : List Str} (X : K.In h) (G : h.Ns mainGlobals mg) (q : efB K x f = true) (F : FnOk P w K mg base (L2.CX P w) 1 (He.fAd K (x, some "__init__")) fd ps (zhR K (He.ga K x) f)) (hb : Binds K fd ps []) : zfj P w K mg base x (He.ga K x) f := by
  unfold efB at q
  simp only [Bool.and_eq_true] at q
  obtain ⟨h1, h2, h3, h4, h5⟩ := q
  exact ⟨PySem.W.mg_of X G (He.eqO_ok h1), zsj h2, (zoe _ _ h3).2, _, fd, ps, He.eqO_ok h4, of_decide_eq_true h5, F, hb⟩
theorem znk {x f : Str} (q : efB K x f = true) : zmX K (He.ga K x) f = true := by
  unfold efB at q
  simp only [Bool.and_eq_true] at q
  exact q.2.2.1
end
end
section
set_option maxHeartbeats 2000000
section
variable {X : Cx}
end
theorem zdp {P : Program} {w : World} {X : Cx} : Passes (L2.CX P w) X (fun _ _ _ => False) := fun _ _ _ _ _ _ _ c => by
  obtain ⟨_, _, _, _, _, _, _, _, _, _, _, _, z⟩ := c
  exact z.elim
end
section
set_option maxHeartbeats 2000000
end
section
set_option maxHeartbeats 2000000
section
variable {M : Model} {A : Around} {E : Value → Shared → Prop} {s : Shared} {Z : Obj → Prop} {B : Heap} {v : Env} {vs : List Env} {L a : Addr}
end
section
variable {X : Cx} {W W' : WX} {pins : List (Addr × Obj)} {σ : L2.St} {H : Hp} {s s' : Shared} {scope : Scope} {C : Addr} {cl : List (Str × Addr)} {fp : List Addr} {u : Value}
end
section
variable {X : Cx} {W : WX}
end
end
section
set_option maxHeartbeats 3200000
section
variable {P : Program} {w : World} {A : Around} {E : Value → Shared → Prop} {s : Shared}
end
end
section
set_option maxHeartbeats 2000000
section
variable {X : Cx} {W : WX}
end
end
section
set_option maxHeartbeats 2000000
structure CTI (K : PySem.W.Frag) (mg : Str → Option Value) (x : Str) (zs : List Int) : Prop where
  ex : ∃ (a : Addr) (o : Obj) (its : Array Value) (n : Nat), (mg x = some (.ref a) ∧ K.lookup a = some o ∧ o.cls = .type "tuple") ∧ o.data = .seq its n ∧ its.size ≤ sizeLine ∧ Vals (zs.map V.int) its.toList
theorem zmf : ∀ {us : List Value} {zs : List Int}, us.map zrS = zs.map some → Vals (zs.map V.int) us
  | [], [], _ => .nil
  | [], _ :: _, h => nomatch h
  | _ :: _, [], h => nomatch h
  | u :: us, z :: zs, h => by
    rw [List.map_cons, List.map_cons] at h
    obtain ⟨h1, h2⟩ := List.cons.inj h
    refine .cons ?_ (zmf h2)
    match u, h1 with
    | .int y t, h1 => cases h1; exact ⟨t, rfl⟩
theorem zsk {K : PySem.W.Frag} {h : Heap} {mg : Str → Option Value} {x : Str} {zs : List Int} (KX : K.In h) (G : h.Ns mainGlobals mg) (c : zoz K x zs = true) : CTI K mg x zs := by
  unfold zoz at c
  split at c
  · next b eb =>
    split at c
    · next u xs n sl eo =>
      obtain ⟨d1, d⟩ := Bool.and_eq_true_iff.mp c
      obtain ⟨d2, d3⟩ := Bool.and_eq_true_iff.mp d
      have d1 := of_decide_eq_true d1
      have d2 := of_decide_eq_true d2
      have d3 := of_decide_eq_true d3
      subst d2
      have lz : xs.size ≤ 1000 := by
        have := congrArg List.length d1
        simp at this
        omega
      exact ⟨b, _, xs, n, ⟨PySem.W.mg_of KX G eb, eo, rfl⟩, rfl, Nat.le_trans lz (by decide), zmf d1⟩
    · cases c
  · cases c
theorem zre {X : Cx} {W : WX} {x : Str} {zs : List Int} {pos : Pos} (c : CTI X.K X.mg x zs) (hg : Gl X x := by rfl) (hd : (x == ("__debug__" : Str)) = false := by decide) : GE X W (.Name x pos) (aC (.tup (zs.map D.int))) := by
  obtain ⟨a, o, its, n, ⟨h1, h2, h3⟩, h5, h6, h7⟩ := c
  exact zmZ (v := .ref a) hg h1 rfl (fun H => ⟨a, zs.map V.int, rfl, .inr ⟨o, its, n, h2, h3, h5, h6, h7⟩, Reps.of_ints zs⟩) hd
end
section
set_option maxHeartbeats 2000000
def zoR (P : PQ) (a : Addr) (m : M) : Prop := ∃ es ps, m.l a = some es ∧ D.pys es = some ps ∧ PySem.W.AlikeAll ps ∧ PyData.depthAll ps ≤ 40 ∧ (es = [] → P (.int 0) m) ∧ ∀ p qs, ps = p :: qs → ∀ d, d ∈ es → d.py = some (PySem.W.maxD p qs) → P d m
def zoS (te : AE) : AE := fun e m Q R => te e m (fun d m1 => match d with
  | .ref a => zoR Q a m1
  | _ => False) R
def zqx (K : PySem.W.Frag) : List V → List V → Hp → VK → Prop := fun vs zs H Q => zs = [.int 0] ∧ ∃ m P a, vs = [.ref a] ∧ RelM K H m ∧ QOk K H P Q ∧ zoR P a m
section
variable {X : Cx} {W : WX}
theorem zsl (hc : X.calm = true) (hu : X.A.units + 64 < cLine) : CallRK X (.builtin "max") ["default"] (zqx X.K) := by
  intro pins s σ H xs zs us ws Q I r rz h
  obtain ⟨rfl, m, P, a, rfl, rM, q, es, ps, hl, hp, ha, hd, h0, h1⟩ := h
  obtain ⟨z, rfl, hz⟩ := rz.one
  obtain ⟨t, rfl⟩ := hz
  rw [Vals.ref1 r]
  cases es with
  | nil =>
    have eps : ps = [] := by cases hp; rfl
    subst eps
    obtain ⟨xs, hx, hr⟩ := rM a _ (M.l_of hl)
    obtain rfl : xs = [] := hr
    obtain ⟨its, rv, pl, _⟩ := I.list (SqL.of hx)
    cases rv
    refine PySem.W.max_list_default (d := .int 0 t) (xs := []) (as := []) (I.ok.hd hc) pl.isList (show ReadsAll s.heap [] [] [] from .nil) ha (by omega) (fun _ h' tk kp => ?_) fun y ys i v h' tk bs e => nomatch e
    exact ⟨.int 0, H, I.kept kp, ⟨t, rfl⟩, q (.int 0) m (h0 rfl) _ H (Tx.refl H) rfl rM⟩
  | cons e0 es =>
    cases ps with
    | nil => exact absurd (zn8 hp) (by simp)
    | cons p qs =>
      obtain ⟨its, as, il, ra, fin⟩ := zn9 (P := P) I rM hl hp q (h1 p qs rfl)
      exact PySem.W.max_list_default (d := .int 0 t) (I.ok.hd hc) il (by simpa using ra) ha (by omega) (fun e => nomatch e) fun y ys i v h' tk bs e hv rd kp => by
        obtain ⟨rfl, rfl⟩ := List.cons.inj e
        exact fin i v h' tk bs hv rd kp
theorem zsm {e : Expr} {te : AE} {k : Nat} {p pk pz pos : Pos} (hc : X.calm = true) (hu : X.A.units + 64 < cLine) (hm : X.mg "max" = none) (he : GE X W e te) (hg : Gl X "max" := by rfl)
    (hs : backTo pos (starEach [e] X.env) = (false, eval e X.env) :: backTo pos (starEach [] X.env) := by rfl) (hpl : (backTo pos (starEach [e] X.env)).any (·.1) = false := by rfl) (hst : starEach [e] X.env = (false, eval e X.env) :: starEach [] X.env := by rfl) :
    GE X W (.Call (.Name "max" p) [e] [⟨some "default", .Constant (.int 0) k pz, pk⟩] pos) (zoS te) := by
  refine zbp (pe_callBK (zsl hc hu) hg hm zm6 (pa_cons he pa_nil hst) (pk_cons pe_int pk_nil) (by decide) (by decide) hs hpl) fun σ H Q h => ?_
  obtain ⟨e0, m, P, R, rE, rM, t, q, w⟩ := h
  refine ⟨e0, m, _, R, rE, rM, t, fun d m1 h1 v H1 t1 r1 rM1 => ?_, w⟩
  cases d with
  | ref a =>
    obtain rfl : v = .ref a := r1
    show zqx X.K [.ref a] [.int 0] H1 Q
    exact ⟨rfl, m1, P, a, rfl, rM1, q.mono t1, h1⟩
  | _ => exact h1.elim
end
end
section
set_option maxHeartbeats 2000000
end
section
structure StM (z TI TO i1 i2 a b : Addr) (i : Nat) (h : Heap) : Prop where
  hz : IsZip h z TI TO .none
  hI : PySem.IsTupOf2 h TI (.ref i1) (.ref i2)
  hO : ∃ x y, PySem.IsTupOf2 h TO x y
  h1 : h.IsTupleIter i1 a i
  h2 : h.IsListIter i2 b i
theorem zsn {z TI TO i1 i2 c : Addr} (h : c ∈ [z, TI, TO, i1, i2]) : c = z ∨ c = TI ∨ c = TO ∨ c = i1 ∨ c = i2 := by simpa using h
theorem StM.lt {z TI TO i1 i2 a b : Addr} {i : Nat} {h : Heap} (S : StM z TI TO i1 i2 a b i h) : ∀ c ∈ [z, TI, TO, i1, i2], c < h.objs.size := fun c hc => by
  obtain ⟨x, y, hO⟩ := S.hO
  obtain ⟨o1, e1, _⟩ := S.h1
  obtain ⟨o2, e2, _⟩ := S.h2
  rcases zsn hc with rfl | rfl | rfl | rfl | rfl
  · exact Heap.lt_size S.hz
  · exact Heap.lt_size S.hI
  · exact Heap.lt_size hO
  · exact Heap.lt_size e1
  · exact Heap.lt_size e2
section
variable {X : Cx} {W : WX}
def znl : ARL := fun ds m Q => match ds with
  | [.tup es] => ∃ p ps, D.pys es = some (p :: ps) ∧ PySem.W.AlikeAll (p :: ps) ∧ PyData.depthAll (p :: ps) ≤ 40 ∧ ∀ d, d ∈ es → d.py = some (PySem.W.maxD p ps) → Q d m
  | _ => False
theorem zso (hc : X.calm = true) (hu : X.A.units + 64 < cLine) : CallR X (.builtin "max") (lRL X.K znl) := by
  intro pins s σ H vs us Q I r h
  obtain ⟨ds, m, P, rs, rM, h, q⟩ := h
  match ds, h, rs with
  | [.tup es], ⟨p, ps, hp, ha, hd, h⟩, ⟨v, r', ev, hv, hr⟩ =>
    obtain rfl : r' = [] := hr
    subst ev
    obtain ⟨a, xs, rfl, hx, hr⟩ := hv
    obtain ⟨its, rv, pl, _⟩ := I.tuple hx
    obtain ⟨as, ra⟩ := Dp.readsAll I _ _ its (zhM hp hr) rv
    rw [Vals.ref1 r]
    refine PySem.W.max_tuple_data (I.ok.hd hc) (show s.heap.IsTuple a its.toArray from pl) (by simpa using ra) ha (by omega) fun i v h' tk bs hi r2 hk => ?_
    have hv : its[i]? = some v := by simpa using hi
    obtain ⟨hlt, _⟩ := List.getElem?_eq_some_iff.mp hv
    have hlx : i < xs.length := by rw [rv.length]; exact hlt
    obtain ⟨u', hu', rvu⟩ := rv.get (List.getElem?_eq_getElem hlx)
    rw [hv] at hu'
    cases hu'
    obtain ⟨d, hd, rd⟩ := hr.get' (List.getElem?_eq_getElem hlx)
    obtain ⟨pd, hpd, hps⟩ := zlx hp hd
    obtain ⟨as2, r3⟩ := Dp.reads I pd _ _ (zgc hpd rd) rvu
    have e := (PySem.Reads.unique (PyProof.Rows.Reads.keeps hk r3) _ _ r2).1
    subst e
    exact ⟨_, H, I.kept hk, rvu, q d m (h d (List.mem_of_getElem? hd) hpd) _ H (Tx.refl H) rd rM⟩
end
end
section
section
variable {X : Cx} {W : WX}
end
section
variable {A : Around} {s : Shared}
end
section
variable {X : Cx} {W : WX}
end
end
section
section
variable {X : Cx}
end
end
section
section
variable {kx vx ta ia tb ib : Expr} {scope : Scope} {pos : Pos} {it : Value} {D : Addr} {env : Env}
end
section
variable {prog : Program} {w : World} {A : Around} {R : Result → Shared → Prop} {kx vx ta ia tb ib : Expr} {scope : Scope} {pos : Pos} {it : Value} {D : Addr} {env : Env}
end
section
variable {X : Cx} {W : WX}
end
end
section
section
variable {X : Cx}
end
end
section
set_option maxHeartbeats 3200000
section
variable {P : Program} {w : World} {A : Around} {E : Value → Shared → Prop} {s : Shared}
end
section
variable {X : Cx} {W : WX}
end
end
section
structure StL (z TI TO i1 i2 a b : Addr) (i : Nat) (h : Heap) : Prop where
  hz : IsZip h z TI TO .none
  hI : PySem.IsTupOf2 h TI (.ref i1) (.ref i2)
  hO : ∃ x y, PySem.IsTupOf2 h TO x y
  h1 : h.IsListIter i1 a i
  h2 : h.IsTupleIter i2 b i
theorem StL.lt {z TI TO i1 i2 a b : Addr} {i : Nat} {h : Heap} (S : StL z TI TO i1 i2 a b i h) : ∀ c ∈ [z, TI, TO, i1, i2], c < h.objs.size := fun c hc => by
  obtain ⟨x, y, hO⟩ := S.hO
  obtain ⟨o1, e1, _⟩ := S.h1
  obtain ⟨o2, e2, _⟩ := S.h2
  rcases zsn hc with rfl | rfl | rfl | rfl | rfl
  · exact Heap.lt_size S.hz
  · exact Heap.lt_size S.hI
  · exact Heap.lt_size hO
  · exact Heap.lt_size e1
  · exact Heap.lt_size e2
section
variable {X : Cx} {W : WX}
end
end
section
section
variable {X : Cx} {W : WX}
end
end
section
def aT (te : AE) : AE := fun e m Q R => te e m (fun d m1 => match d with
  | .ref a => (match m1 a with
    | some (.ftp ds) => Q (.tup ds) m1
    | _ => False)
  | .non => Q .non m1
  | _ => False) R
theorem TI {te : AE} {e : En} {m : M} {Q : PQ} {R : PX} (h : te e m (fun d m1 => match d with
  | .ref a => (match m1 a with
    | some (.ftp ds) => Q (.tup ds) m1
    | _ => False)
  | .non => Q .non m1
  | _ => False) R) : aT te e m Q R := h
section
variable {X : Cx} {o e : Expr} {es : List Expr} {to : TE} {t : TA} {name : Str} {apos cpos : Pos} {id : String} {r : V → List V → Hp → VK → Prop}
end
end
section
def Pr2 {α β : Type} (R : α → β → Prop) : List α → List β → Prop
  | [], [] => True
  | a :: as, b :: bs => R a b ∧ Pr2 R as bs
  | _, _ => False
theorem Pr2.len {α β : Type} {R : α → β → Prop} : ∀ {as : List α} {bs : List β}, Pr2 R as bs → as.length = bs.length
  | [], [], _ => rfl
  | [], _ :: _, h => h.elim
  | _ :: _, [], h => h.elim
  | a :: as, b :: bs, h => by rw [List.length_cons, List.length_cons, Pr2.len h.2]
section
variable {X : Cx} {K : PySem.W.Frag} {H : Hp} {h : Heap}
def fk (h : Heap) (v : Value) : Int := match v with
  | .ref a => (match h.get? a with
    | some o => (match o.data with
      | Data.seq xs _ => (match (xs[0]? : Option Value) with
        | some (Value.int i _) => i
        | _ => 0)
      | _ => 0)
    | none => 0)
  | _ => 0
theorem Pr2.mono {α β : Type} {R S : α → β → Prop} (h : ∀ a b, R a b → S a b) : ∀ {as : List α} {bs : List β}, Pr2 R as bs → Pr2 S as bs
  | [], [], _ => trivial
  | [], _ :: _, z => z.elim
  | _ :: _, [], z => z.elim
  | a :: as, b :: bs, z => ⟨h a b z.1, z.2.mono h⟩
end
end
section
section
variable {X : Cx} {W : WX}
end
end
end Ab
set_option Elab.async false
set_option linter.all false
set_option maxRecDepth 100000
set_option maxHeartbeats 4000000
namespace Ab
open PySem PySem.Spec PyProof.Rows L2
open Sem (wp)
section
section
variable {prog : Program} {w : World} {A : Around} {E : Value → Shared → Prop} {s : Shared} {e it l T : Addr} {i : Nat} {items : Array Value} {x old : Value} {f : Bool} {oT : Obj} {c : Int}
structure EnL (h : Heap) (e it l S : Addr) (items : Array Value) (c : Int) (i : Nat) : Prop where
  hit : h.IsListIter it l i
  hl : h.IsList l items
  en : (i = 0 ∧ IsEnum h e it c .none) ∨ ∃ T old f oT, IsEnumHeld h e it (c + (i : Nat)) old T f ∧ h.get? T = some oT ∧ T ≠ e ∧ T ≠ it ∧ T ≠ S
end
end
section
section
variable {prog : Program} {w : World} {A : Around} {E : Value → Shared → Prop} {s : Shared} {e it l T : Addr} {items : Array Value} {c : Int}
end
end
end Ab
set_option Elab.async false
set_option linter.all false
set_option maxRecDepth 100000
set_option maxHeartbeats 4000000
namespace Ab
open PySem PySem.Spec PyProof.Rows L2
section
section
variable {X : Cx} {pins : List (Addr × Obj)} {σ : L2.St} {H H' : Hp} {s : Shared} {h' : Heap} {tk : Nat}
end
end
section
section
variable {X : Cx}
end
end
section
section
variable {X : Cx} {pins : List (Addr × Obj)} {σ : L2.St} {H H' : Hp} {s : Shared} {h' : Heap}
end
section
variable {H : Hp} {ts : List Addr} {k : Int} {xs : List V} {b : Addr} {j : Nat}
end
section
variable {X : Cx}
end
section
variable {X : Cx} {W : WX}
end
end
section
section
variable {X : Cx} {W : WX}
end
end
section
structure TxU (H H' : Hp) : Prop where
  tup : ∀ a xs, H a = some (.tup xs) → H' a = some (.tup xs)
  ftup : ∀ a o xs, H a = some (.frz o (.tup xs)) → H' a = some (.frz o (.tup xs))
  flst : ∀ a o xs, H a = some (.frz o (.lst xs)) → H' a = some (.frz o (.lst xs))
  fext : ∀ a o φ, H a = some (.frz o (.ext φ)) → H' a = some (.frz o (.ext φ))
theorem TxU.open {H : Hp} {a : Addr} {o : Obj} {l : List (Key × V)} {u : HO} (h : H a = some (.frz o (.dK l))) : TxU H (upd H a u) :=
  ⟨fun b xs e => by rw [upd_ne fun z => by rw [z, h] at e; cases e]; exact e, fun b o xs e => by rw [upd_ne fun z => by rw [z, h] at e; cases e]; exact e, fun b o xs e => by rw [upd_ne fun z => by rw [z, h] at e; cases e]; exact e, fun b o φ e => by rw [upd_ne fun z => by rw [z, h] at e; cases e]; exact e⟩
section
variable {K : PySem.W.Frag} {H H' : Hp}
end
section
variable {X : Cx} {W : WX}
end
end
section
section
variable {X : Cx} {W : WX}
end
end
section
section
variable {X : Cx} {W : WX}
end
end
section
section
variable {X : Cx} {W : WX}
theorem RepKV.emp {K : PySem.W.Frag} {H : Hp} {ps : List (Key × D)} {l : List (Key × V)} (h : RepKV K H ps l) : (!l.isEmpty) = !ps.isEmpty := by
  cases ps with
  | nil => rw [show l = [] from h]; rfl
  | cons d r => obtain ⟨v, r', e, _⟩ := h; rw [e]; rfl
end
end
section
section
variable {X : Cx} {W : WX}
end
end
section
section
variable {X : Cx}
end
end
section
section
variable {X : Cx} {W : WX}
end
end
section
section
variable {X : Cx}
end
end
section
set_option maxHeartbeats 2000000
section
variable {A : Around} {s : Shared}
end
section
variable {X : Cx}
end
end
section
set_option maxHeartbeats 2000000
section
variable {prog : Program} {w : World} {A : Around} {E : Value → Shared → Prop} {s : Shared} {K : PySem.W.Frag} {mg : Str → Option Value}
theorem zof {a b c : Shared} (x : Keeps a b) (y : Keeps b c) : Keeps a c := by
  obtain ⟨h1, t1, rfl, k1⟩ := x
  obtain ⟨h2, t2, rfl, k2⟩ := y
  exact ⟨h2, t2, rfl, fun b o e => k2 b o (k1 b o e)⟩
theorem zkQ {a b : Shared} (M : Mod K mg a.heap) (k : Keeps a b) : Mod K mg b.heap := by
  obtain ⟨h1, t1, rfl, k1⟩ := k
  exact zl8 M k1
structure zkn (K : PySem.W.Frag) (name : Str) (params : Arguments) (body : List Stmt) (scope : Scope) (ps : List Str) (f : Addr) (fd : FuncData) : Prop where
  F : FunD K name name params body scope [] [] f fd
  hb : Binds K fd ps []
  k1 : scope.kind = .function
  k2 : scope.isCoroutine = false
  k3 : scope.isGenerator = false
  loc : ∀ p ∈ ps, scope.names.lookup p = some NameKind.local
  nd : ps.Nodup
theorem zlB {name : Str} {params : Arguments} {body : List Stmt} {scope : Scope} {ps : List Str} {f : Addr} {fd : FuncData} {us : List Value} {R : Value → Prop} {Q : Value → Shared → Prop} (D : zkn K name params body scope ps f fd) (M : Mod K mg s.heap) (hroom : A.depth < recursionLimit) (hl : us.length = ps.length)
    (hbody : ∀ (env : Env) (m : Str → Option Value) (s₁ : Shared) (E₁ : Value → Shared → Prop), env.scope = scope → env.globals = mainGlobals → env.builtins = builtinsNs → (A.deeper env).depth = A.depth + 1 → (A.deeper env).handled = A.handled → Keeps s s₁ → s₁.heap.Ns env.locals m → (∀ b o, s.heap.get? b = some o → b ≠ env.locals) → (∀ (i : Nat) (p : Str) (u : Value), ps[i]? = some p → us[i]? = some u → m p = some u) →
      wpAny (model prog w) (A.deeper env) (execs body env) (fun fl s' => Keeps s s' ∧ R (match fl with | .ret v => v | _ => .none)) E₁ s₁)
    (h : ∀ v s', Keeps s s' → R v → Q v s') : wpAny (model prog w) A (call (.ref f) us) Q E s := by
  obtain ⟨F, hb, k1, k2, k3, hloc, hnd⟩ := D
  obtain ⟨oc, od, dV, kV, doc, pm, an, cdv, ct, osl, rfl, lk, hcd, _, _⟩ := F.ex
  have bt := hb s us M.kin (by rw [List.append_nil]; exact hl)
  rw [List.append_nil] at bt
  refine wpAny_call (Att.call_fn (binds := ps.zip us) M.kin M.nolimit lk hcd hroom bt ?_ (fun s₁ IC => ?_) k2 k3 k1)
  · rw [List.all_eq_true]
    intro y hy
    rw [hloc y.1 (List.of_mem_zip hy).1]
    rfl
  obtain ⟨h₁, tk₁, rfl⟩ := IC.toInCall.same
  have kp : ∀ b o, s.heap.get? b = some o → h₁.get? b = some o := IC.toInCall.keep
  refine wpAny_mono (hbody (envOfC name scope s.heap.objs.size f cdv) _ { s with heap := h₁, toks := tk₁ } _ rfl rfl rfl rfl rfl ⟨h₁, tk₁, rfl, kp⟩ IC.toInCall.ns (fun b o e => Nat.ne_of_lt (Heap.lt_size e)) fun i p u e1 e2 => ?_) (fun fl s' q => ?_) fun _ _ e => e
  · exact L2.bindL_get (P := ps) (vs := us) (i := i) hnd e1 e2 (hloc p (List.mem_of_getElem? e1))
  · exact h _ s' q.1 q.2
def PgV (h : Heap) (u : Value) : D → Prop
  | .tup ds => ∃ (a : Addr) (items : Array Value), u = .ref a ∧ h.IsTuple a items ∧ items.size = ds.length ∧ ∀ (i : Nat) (d : D), ds[i]? = some d → ∃ (v : Value) (t : Ty), items[i]? = some v ∧ Kn h v t ∧ ∀ lo hi, zcg lo hi d = zr0 lo hi v
  | _ => ∃ t, Kn h u t ∧ t.sub .tuple = false
theorem PgV.keep {h h' : Heap} {u : Value} (k : ∀ a o n, u = .ref a ∨ True → h.get? a = some o → o.cls = .type n → h'.get? a = some o) : ∀ {d : D}, PgV h u d → PgV h' u d := fun {d} x => by
  have k' : ∀ {v : Value} {t : Ty}, Kn h v t → Kn h' v t := fun {v t} x => x.keep fun a o n _ e c => k a o n (.inr trivial) e c
  cases d with
  | tup ds =>
    obtain ⟨a, items, e, ⟨o, e1, e2, e3⟩, hs, hi⟩ := x
    exact ⟨a, items, e, ⟨o, k a o _ (.inr trivial) e1 e2, e2, e3⟩, hs, fun i d hd => let ⟨v, t, q1, q2, q3⟩ := hi i d hd; ⟨v, t, q1, k' q2, q3⟩⟩
  | _ =>
    obtain ⟨t, q, r⟩ := x
    exact ⟨t, k' q, r⟩
theorem PgV.to {a b : Shared} {u : Value} {d : D} (x : PgV a.heap u d) (k : Keeps a b) : PgV b.heap u d := by
  obtain ⟨h1, t1, rfl, k1⟩ := k
  exact x.keep fun a o n _ e _ => k1 a o e
def tupB (lo hi : Int) : D → Bool
  | .tup ds => decide (lo ≤ (ds.length : Int)) && decide ((ds.length : Int) ≤ hi)
  | _ => false
def ziq (lo hi : Int) : D → Bool
  | .tup ds => decide (lo ≤ (ds.length : Int)) && decide ((ds.length : Int) ≤ hi) && ds.all (zcg 0 255)
  | _ => false
def zlC (q1 q2 q3 q4 q5 q6 q7 q8 q9 qa qb qc : Pos) : List Stmt :=
  [.Return (some (.BoolOp .And [.Call (.Name "isinstance" q1) [.Name "value" q2, .Name "tuple" q3] [] q4,
    .Compare (.Name "least" q5) [.LtE, .LtE] [.Call (.Name "len" q6) [.Name "value" q7] [] q8, .Name "most" q9] qa] qb)) qc]
theorem zrf {f : Addr} {params : Arguments} {scope : Scope} {fd : FuncData} {q1 q2 q3 q4 q5 q6 q7 q8 q9 qa qb qc : Pos} {u : Value} {d : D} {lo hi : Int} {t1 t2 : Tok} {Q : Value → Shared → Prop}
    (D : zkn K "is_tuple_of" params (zlC q1 q2 q3 q4 q5 q6 q7 q8 q9 qa qb qc) scope ["value", "least", "most"] f fd)
    (g1 : scope.names.lookup ("isinstance" : Str) = some NameKind.globalImplicit) (g2 : scope.names.lookup ("tuple" : Str) = some NameKind.globalImplicit) (g3 : scope.names.lookup ("len" : Str) = some NameKind.globalImplicit)
    (M : Mod K mg s.heap) (hroom : A.depth < recursionLimit) (hisi : mg "isinstance" = none) (htup : mg "tuple" = none) (hlen : mg "len" = none)
    (k : PgV s.heap u d) (hsz : ∀ ds, d = .tup ds → ds.length ≤ 1000000)
    (h : ∀ s', Keeps s s' → Q (.bool (tupB lo hi d)) s') :
    wpAny (model prog w) A (call (.ref f) [u, .int lo t1, .int hi t2]) Q E s := by
  have l1 := D.loc "value" (by simp)
  have l2 := D.loc "least" (by simp)
  have l3 := D.loc "most" (by simp)
  have kk := D.k1
  refine zlB (R := fun v => v = .bool (tupB lo hi d)) D M hroom rfl (fun env m s₁ E₁ e1 e2 e3 _ _ hk hn hne hm => ?_) fun v s' hk e => by rw [e]; exact h s' hk
  have k1 : env.scope.kind = .function := by rw [e1]; exact kk
  have ko : ∀ x, env.kindOf x = scope.names.lookup x := fun x => by show env.scope.names.lookup x = _; rw [e1]
  have m1 := hm 0 _ _ rfl rfl
  have m2 := hm 1 _ _ rfl rfl
  have m3 := hm 2 _ _ rfl rfl
  have M1 := zkQ M hk
  have kv := k.to hk
  obtain ⟨h₁, tk₁, rfl, kp⟩ := hk
  have fin : ∀ tk, Keeps s { s with heap := h₁, toks := tk } := fun tk => ⟨h₁, tk, rfl, kp⟩
  refine wpAny_execs_cons (wpAny_Return_some ?_)
  have other : ∀ t, Kn h₁ u t → t.sub .tuple = false → tupB lo hi d = false → wpAny (model prog w) (A.deeper env) (eval (.BoolOp .And [.Call (.Name "isinstance" q1) [.Name "value" q2, .Name "tuple" q3] [] q4,
    .Compare (.Name "least" q5) [.LtE, .LtE] [.Call (.Name "len" q6) [.Name "value" q7] [] q8, .Name "most" q9] qa] qb) env) (fun v s' => Keeps s s' ∧ v = .bool (tupB lo hi d)) E₁ { s with heap := h₁, toks := tk₁ } := fun t kn hs hf => by
    refine BoolOp_and (zjW (c := .tuple) (t := t) (s := { s with heap := h₁, toks := tk₁ }) M1 k1 e2 e3 hisi htup (by decide +kernel) hn m1 kn (fun tk2 => wpAny_truthy_bool ?_) ((ko _).trans l1) ((ko _).trans g1) ((ko _).trans g2))
    rw [hs]
    exact ite_ff ⟨fin _, by rw [hf]⟩
  cases d with
  | tup ds =>
    obtain ⟨a, items, rfl, ht, hz, _⟩ := kv
    have hl := hsz ds rfl
    refine BoolOp_and (zjW (c := .tuple) (t := .tuple) (s := { s with heap := h₁, toks := tk₁ }) M1 k1 e2 e3 hisi htup (by decide +kernel) hn m1 ⟨a, rfl, let ⟨o, q1, q2, _⟩ := ht; ⟨o, q1, q2⟩⟩ (fun tk2 => wpAny_truthy_bool ?_) ((ko _).trans l1) ((ko _).trans g1) ((ko _).trans g2))
    refine ite_tt ?_
    refine BoolOp_one (Compare_chain (ldL (s := { s with heap := h₁, toks := tk2 }) k1 hn m2 (chain_link ?_) ((ko _).trans l2)))
    refine wpAny_Call_Name_kw (ldB (s := { s with heap := h₁, toks := tk2 }) M1 k1 e2 e3 hlen (show bootBuiltins "len" = some (.builtin "len") by decide +kernel) ?_ ((ko _).trans g3))
    refine PyProof.Rows.callWith_builtin1 (args_cons (ldL (s := { s with heap := h₁, toks := tk2 }) k1 hn m1 (args_nil ?_) ((ko _).trans l1)))
    refine PyProof.Rows.len_tuple ht (by omega) ?_
    refine le_int (wpAny_truthy_bool ?_)
    rw [hz]
    by_cases c : lo ≤ (ds.length : Int)
    · rw [decide_eq_true c]
      refine ite_tt (chain_last (ldL (s := { s with heap := h₁, toks := _ }) k1 hn m3 (le_int ?_) ((ko _).trans l3)))
      refine ⟨fin _, ?_⟩
      show Value.bool _ = Value.bool (decide (lo ≤ (ds.length : Int)) && decide ((ds.length : Int) ≤ hi))
      rw [decide_eq_true c, Bool.true_and]
    · rw [decide_eq_false c]
      refine ite_ff ⟨fin _, ?_⟩
      show Value.bool _ = Value.bool (decide (lo ≤ (ds.length : Int)) && decide ((ds.length : Int) ≤ hi))
      rw [decide_eq_false c, Bool.false_and]
  | _ =>
    obtain ⟨t, kn, hs⟩ := kv
    exact other t kn hs rfl
theorem zrg {f ft : Addr} {params paramsT : Arguments} {scope scopeT : Scope} {fd fdT : FuncData} {a1 a2 a3 a4 a5 a6 a7 a8 a9 aa ab ac : Pos} {q1 q2 q3 q4 q5 q6 q7 q8 q9 r1 r2 r3 r4 r5 r6 r7 r8 r9 u1 u2 u3 u4 u5 u6 u7 u8 u9 v1 v2 v3 v4 w1 w2 : Pos} {j1 j2 j3 j4 j5 : Nat} {u : Value} {d : D} {lo hi : Int} {t1 t2 : Tok} {Q : Value → Shared → Prop}
    (DT : zkn K "is_tuple_of" paramsT (zlC a1 a2 a3 a4 a5 a6 a7 a8 a9 aa ab ac) scopeT ["value", "least", "most"] ft fdT)
    (gt1 : scopeT.names.lookup ("isinstance" : Str) = some NameKind.globalImplicit) (gt2 : scopeT.names.lookup ("tuple" : Str) = some NameKind.globalImplicit) (gt3 : scopeT.names.lookup ("len" : Str) = some NameKind.globalImplicit)
    (D : zkn K "are_bytes" params
      [.If (.UnaryOp .Not (.Call (.Name "is_tuple_of" q1) [.Name "value" q2, .Name "least" q3, .Name "most" q4] [] q5) q6) [.Return (some (.Constant (.bool false) j1 q7)) q8] [] q9,
       .For (.Name "byte" r1) (.Name "value" r2) [.If (.BoolOp .Or [.UnaryOp .Not (.Call (.Name "isinstance" r3) [.Name "byte" r4, .Name "int" r5] [] r6) r7, .Call (.Name "isinstance" r8) [.Name "byte" r9, .Name "bool" u1] [] u2,
          .Compare (.Name "byte" u3) [.Lt] [.Constant (.int 0) j2 u4] u5, .Compare (.Name "byte" u6) [.Gt] [.Constant (.int 255) j3 u7] u8] u9) [.Return (some (.Constant (.bool false) j4 v1)) v2] [] v3] [] v4,
       .Return (some (.Constant (.bool true) j5 w1)) w2] scope ["value", "least", "most"] f fd)
    (lb : scope.names.lookup ("byte" : Str) = some NameKind.local)
    (g0 : scope.names.lookup ("is_tuple_of" : Str) = some NameKind.globalImplicit) (g1 : scope.names.lookup ("isinstance" : Str) = some NameKind.globalImplicit) (g2 : scope.names.lookup ("int" : Str) = some NameKind.globalImplicit) (g3 : scope.names.lookup ("bool" : Str) = some NameKind.globalImplicit)
    (M : Mod K mg s.heap) (hroom : A.depth + 1 < recursionLimit) (hh : A.handled = none) (hisi : mg "isinstance" = none) (htup : mg "tuple" = none) (hlen : mg "len" = none) (hint : mg "int" = none) (hbool : mg "bool" = none) (hmt : mg "is_tuple_of" = some (.ref ft))
    (k : PgV s.heap u d) (hsz : ∀ ds, d = .tup ds → ds.length ≤ 1000000)
    (h : ∀ s', Keeps s s' → Q (.bool (ziq lo hi d)) s') :
    wpAny (model prog w) A (call (.ref f) [u, .int lo t1, .int hi t2]) Q E s := by
  have l1 := D.loc "value" (by simp)
  have l2 := D.loc "least" (by simp)
  have l3 := D.loc "most" (by simp)
  have kk := D.k1
  refine zlB (R := fun v => v = .bool (ziq lo hi d)) D M (by omega) rfl (fun env m s₁ E₁ e1 e2 e3 hdep hhd hk hn hne hm => ?_) fun v s' hk e => by rw [e]; exact h s' hk
  have k1 : env.scope.kind = .function := by rw [e1]; exact kk
  have ko : ∀ x, env.kindOf x = scope.names.lookup x := fun x => by show env.scope.names.lookup x = _; rw [e1]
  have m1 := hm 0 _ _ rfl rfl
  have m2 := hm 1 _ _ rfl rfl
  have m3 := hm 2 _ _ rfl rfl
  have M1 := zkQ M hk
  have kv := k.to hk
  have hkk := hk
  obtain ⟨h₁, tk₁, rfl, kp⟩ := hk
  refine wpAny_execs_cons (wpAny_If (isTrue_not (isTrue_plain ?_)))
  refine wpAny_Call_Name_kw (ldF (s := { s with heap := h₁, toks := tk₁ }) M1 k1 e2 hmt ?_ ((ko _).trans g0))
  refine PySem.W.callWith_K (h₀ := h₁) M1.kin DT.F.kp ?_ (by rfl) (by rfl)
  refine args_cons (ldL (s := { s with heap := h₁, toks := tk₁ }) k1 hn m1 ?_ ((ko _).trans l1))
  refine args_cons (ldL (s := { s with heap := h₁, toks := tk₁ }) k1 hn m2 ?_ ((ko _).trans l2))
  refine args_cons (ldL (s := { s with heap := h₁, toks := tk₁ }) k1 hn m3 (args_nil ⟨M1.kin, ?_⟩) ((ko _).trans l3))
  refine zrf (s := { s with heap := h₁, toks := tk₁ }) DT gt1 gt2 gt3 M1 (by rw [hdep]; exact hroom) hisi htup hlen kv hsz fun s2 hk2 => wpAny_truthy_bool ?_
  have kk2 := zof hkk hk2
  cases c : tupB lo hi d with
  | false =>
    refine ite_tt ?_
    refine wpAny_execs_cons (wpAny_Return_some (wpAny_Constant_bool ⟨kk2, ?_⟩))
    show Value.bool false = Value.bool (ziq lo hi d)
    cases d with
    | tup ds =>
      have c : (decide (lo ≤ (ds.length : Int)) && decide ((ds.length : Int) ≤ hi)) = false := c
      show Value.bool false = Value.bool (decide (lo ≤ (ds.length : Int)) && decide ((ds.length : Int) ≤ hi) && ds.all (zcg 0 255))
      rw [c, Bool.false_and]
    | _ => rfl
  | true =>
    refine ite_ff (wpAny_execs_nil ?_)
    obtain ⟨ds, rfl⟩ : ∃ ds, d = .tup ds := by
      cases d with
      | tup ds => exact ⟨ds, rfl⟩
      | _ => cases c
    have er : ziq lo hi (.tup ds) = ds.all (zcg 0 255) := by
      have c : (decide (lo ≤ (ds.length : Int)) && decide ((ds.length : Int) ≤ hi)) = true := c
      show (decide (lo ≤ (ds.length : Int)) && decide ((ds.length : Int) ≤ hi) && ds.all (zcg 0 255)) = _
      rw [c, Bool.true_and]
    rw [er]
    have hn2 : s2.heap.Ns env.locals m := by
      obtain ⟨h₂, tk₂, rfl, kp2⟩ := hk2
      exact hn.keeps kp2
    have hne2 : ∀ b o, s.heap.get? b = some o → b ≠ env.locals := hne
    obtain ⟨h₂, tk₂, rfl, kp2⟩ := kk2
    obtain ⟨a, items, rfl, ht0, hz, hit⟩ := k
    have ht : h₂.IsTuple a items := let ⟨o, q, r⟩ := ht0; ⟨o, kp2 a o q, r⟩
    have hal : a ≠ env.locals := let ⟨o, q, _⟩ := ht0; hne a o q
    refine wpAny_execs_cons (wpAny_For (ldL (s := { s with heap := h₂, toks := tk₂ }) k1 hn2 m1 (wpAny_pyIter_tuple ht ?_) ((ko _).trans l1)))
    have hlt : ∀ b o, h₂.get? b = some o → b ≠ h₂.objs.size := fun b o e => Nat.ne_of_lt (Heap.lt_size e)
    have hLI : env.locals ≠ h₂.objs.size := by
      obtain ⟨o, _, _, q, _⟩ := id hn2
      exact hlt _ _ q
    have haI : a ≠ h₂.objs.size := by
      obtain ⟨o, q, _⟩ := id ht
      exact hlt _ _ q
    refine codeAny_forLoop (fun n s' => ∃ (h' : Heap) (tk : Nat) (m' : Str → Option Value) (i : Nat), s' = { s with heap := h', toks := tk } ∧ h'.IsTupleIter h₂.objs.size a i ∧ h'.IsTuple a items ∧ h'.Ns env.locals m' ∧ (∀ b o, s.heap.get? b = some o → h'.get? b = some o) ∧ (∀ d ∈ ds.take i, zcg 0 255 d = true) ∧ i ≤ items.size ∧ n = items.size + 1 - i) ?_ (items.size + 1)
      ⟨_, _, m, 0, rfl, ⟨_, Heap.get?_push_size _ rfl, rfl, rfl⟩, ht.push _, hn2.push _, fun b o e => Heap.get?_push_of_some _ (kp2 b o e), (fun d hd => by simp at hd), Nat.zero_le _, rfl⟩
    rintro n s' ⟨h', tk, m', i, rfl, hit', ht', hn', hkp', hpre, hi, rfl⟩
    have M' : Mod K mg h' := zkQ M ⟨h', tk, rfl, hkp'⟩
    have hh' : (A.deeper env).handled = none := hhd.trans hh
    cases hv : items[i]? with
    | none =>
      have hsz' : i = items.size := Nat.le_antisymm hi (by simpa using hv)
      refine wpAny_pyNext_tuple_end hh' hit' ht' hv fun h₃ he₃ => wpAny_execs_nil ?_
      have hal' : ds.all (zcg 0 255) = true := by
        rw [List.all_eq_true]
        intro d hd
        exact hpre d (by rw [hsz', hz, List.take_length]; exact hd)
      refine wpAny_execs_cons (wpAny_Return_some (wpAny_Constant_bool ⟨⟨h₃, tk, rfl, fun b o e => he₃ b o (hlt b o (kp2 b o e)) (hkp' b o e)⟩, ?_⟩))
      show Value.bool true = Value.bool (ds.all (zcg 0 255))
      rw [hal']
    | some v =>
      have hlt' : i < items.size := (Array.getElem?_eq_some_iff.mp hv).1
      obtain ⟨dd, hdd⟩ : ∃ dd, ds[i]? = some dd := ⟨ds[i]'(by omega), List.getElem?_eq_getElem (by omega)⟩
      obtain ⟨v', t, q1', q2', q3'⟩ := hit i dd hdd
      rw [hv] at q1'
      cases q1'
      refine wpAny_pyNext_tuple_item hit' ht' hv fun h₃ hit₃ hs₃ => ?_
      have hkp3 : ∀ b o, s.heap.get? b = some o → h₃.get? b = some o := fun b o e => hs₃.extBut b o (hlt b o (kp2 b o e)) (hkp' b o e)
      refine wpAny_assign_Name (wpAny_storeName_local ((ko _).trans lb) (hn'.sameBut hs₃ hLI) (fun h₄ hn₄ hs₄ => ?_) (by rw [k1]; rfl))
      have hkp4 : ∀ b o, s.heap.get? b = some o → h₄.get? b = some o := fun b o e => hs₄.extBut b o (hne b o e) (hkp3 b o e)
      have M4 : Mod K mg h₄ := zkQ M ⟨h₄, tk, rfl, hkp4⟩
      have kn4 : Kn h₄ v t := q2'.keep fun a o n _ e _ => hkp4 a o e
      have mb : (fun x => if x = "byte" then some v else m' x) "byte" = some v := if_pos rfl
      have nx : ∀ tk2, zcg 0 255 dd = true → ∃ m, m < items.size + 1 - i ∧ ∃ (h' : Heap) (tk : Nat) (m' : Str → Option Value) (i : Nat), ({ s with heap := h₄, toks := tk2 } : Shared) = { s with heap := h', toks := tk } ∧ h'.IsTupleIter h₂.objs.size a i ∧ h'.IsTuple a items ∧ h'.Ns env.locals m' ∧ (∀ b o, s.heap.get? b = some o → h'.get? b = some o) ∧ (∀ d ∈ ds.take i, zcg 0 255 d = true) ∧ i ≤ items.size ∧ m = items.size + 1 - i := fun tk2 hb => by
        refine ⟨items.size + 1 - (i + 1), by omega, h₄, tk2, _, i + 1, rfl, hit₃.extBut hs₄.extBut (Ne.symm hLI), (ht'.extBut hs₃.extBut haI).extBut hs₄.extBut hal, hn₄, hkp4, fun d hd => ?_, hlt', rfl⟩
        rw [List.take_succ, hdd] at hd
        rcases List.mem_append.mp hd with hd | hd
        · exact hpre d hd
        · rw [show d = dd by simpa using hd]; exact hb
      have bad : zcg 0 255 dd = false → ds.all (zcg 0 255) = false := fun hb => by
        cases q : ds.all (zcg 0 255) with
        | false => rfl
        | true => rw [List.all_eq_true.mp q dd (List.mem_of_getElem? hdd)] at hb; cases hb
      have kb := (ko "byte").trans lb
      have ki := (ko "isinstance").trans g1
      have out : ∀ tk2, zcg 0 255 dd = false → Keeps s { s with heap := h₄, toks := tk2 } ∧ Value.bool false = Value.bool (ds.all (zcg 0 255)) := fun tk2 hb => ⟨⟨h₄, tk2, rfl, hkp4⟩, by rw [bad hb]⟩
      refine wpAny_execs_cons (wpAny_If (isTrue_or (isTrue_not (isTrue_plain (zjW (c := .int) (t := t) (s := { s with heap := h₄, toks := _ }) M4 k1 e2 e3 hisi hint (by decide +kernel) hn₄ mb kn4 (fun tk2 => wpAny_truthy_bool ?_) kb ki ((ko _).trans g2))))))
      by_cases c1 : t.sub .int = true
      · rw [c1]
        refine ite_ff ?_
        refine isTrue_or (isTrue_plain (zjW (c := .bool) (t := t) (s := { s with heap := h₄, toks := tk2 }) M4 k1 e2 e3 hisi hbool (by decide +kernel) hn₄ mb kn4 (fun tk3 => wpAny_truthy_bool ?_) kb ki ((ko _).trans g3)))
        by_cases c2 : t.sub .bool = true
        · rw [c2]
          refine ite_tt (ite_tt ?_)
          have hb : zcg 0 255 dd = false := by
            rw [q3']
            cases t with
            | bool => obtain ⟨b, e⟩ := kn4; rw [e]; rfl
            | _ => exact absurd c2 (by decide)
          exact wpAny_execs_cons (wpAny_Return_some (wpAny_Constant_bool (out _ hb)))
        · have c2' : t.sub .bool = false := by simpa using c2
          rw [c2']
          refine ite_ff ?_
          have htt : t = .int := by
            cases t with
            | int => rfl
            | _ => first | exact absurd c1 (by decide) | exact absurd c2' (by decide)
          subst htt
          obtain ⟨n, tn, rfl⟩ := id kn4
          have eb : zcg 0 255 dd = (decide (0 ≤ n) && decide (n ≤ 255)) := q3' 0 255
          refine isTrue_or (wpAny_isTrue_Compare1 (ldL (s := { s with heap := h₄, toks := tk3 }) k1 hn₄ mb (wpAny_Constant_int (PyProof.Rows.lt_int (wpAny_truthy_bool ?_))) kb))
          by_cases c3 : n < 0
          · rw [decide_eq_true c3]
            refine ite_tt (ite_tt ?_)
            have hb : zcg 0 255 dd = false := by rw [eb, decide_eq_false (by omega)]; rfl
            exact wpAny_execs_cons (wpAny_Return_some (wpAny_Constant_bool (out _ hb)))
          · rw [decide_eq_false c3]
            refine ite_ff ?_
            refine isTrue_or (wpAny_isTrue_Compare1 (ldL (s := { s with heap := h₄, toks := _ }) k1 hn₄ mb (wpAny_Constant_int (PyProof.Rows.gt_int (wpAny_truthy_bool ?_))) kb))
            by_cases c4 : 255 < n
            · rw [decide_eq_true c4]
              refine ite_tt (ite_tt ?_)
              have hb : zcg 0 255 dd = false := by rw [eb, decide_eq_false (show ¬ n ≤ 255 by omega), Bool.and_false]
              exact wpAny_execs_cons (wpAny_Return_some (wpAny_Constant_bool (out _ hb)))
            · rw [decide_eq_false c4]
              refine ite_ff (isTrue_or_nil (ite_ff (wpAny_execs_nil (wpAny_execs_nil ?_))))
              exact nx _ (by rw [eb, decide_eq_true (by omega), decide_eq_true (by omega)]; rfl)
      · have c1' : t.sub .int = false := by simpa using c1
        rw [c1']
        refine ite_tt (ite_tt ?_)
        have hb : zcg 0 255 dd = false := by
          rw [q3']
          cases t with
          | int => exact absurd c1' (by decide)
          | bool => exact absurd c1' (by decide)
          | non => rw [show v = .none from kn4]; rfl
          | str => obtain ⟨n, t, e⟩ := kn4; rw [e]; rfl
          | tuple => obtain ⟨n, e, _⟩ := kn4; rw [e]; rfl
          | list => obtain ⟨n, e, _⟩ := kn4; rw [e]; rfl
          | dict => obtain ⟨n, e, _⟩ := kn4; rw [e]; rfl
        exact wpAny_execs_cons (wpAny_Return_some (wpAny_Constant_bool (out _ hb)))
end
end
section
def GoodP (m : M) (d : D) : Prop := (∃ t, tyD m d = some t ∧ t.sub .tuple = false) ∨ ∃ es, d = .tup es ∧ es.length ≤ 1000000 ∧ ∀ e ∈ es, ∃ t, tyD m e = some t
theorem GoodP.size {m : M} {d : D} (g : GoodP m d) : ∀ es, d = .tup es → es.length ≤ 1000000 := fun es e => by
  rcases g with ⟨t, h, hs⟩ | ⟨es', e', h, _⟩
  · subst e
    cases h
    cases hs
  · rw [e] at e'
    cases e'
    exact h
section
open GxR
variable {X : Cx} {W : WX} {pins : List (Addr × Obj)} {σ : L2.St} {H : Hp} {s : Shared}
theorem ztk {m : M} {d : D} {v : V} {u : Value} (I : Inv X pins σ H s) (rM : RelM X.K H m) (g : GoodP m d) (r : Rep X.K H d v) (ru : RelV v u) : PgV s.heap u d := by
  cases d with
  | tup es =>
    rcases g with ⟨t, h, hs⟩ | ⟨es', e', _, hty⟩
    · cases h
      cases hs
    cases e'
    obtain ⟨a, xs, rfl, hs, hr⟩ := r
    obtain ⟨its, rv, htup, _⟩ := I.tuple hs
    refine ⟨a, its.toArray, ru, htup, by rw [List.size_toArray, ← rv.length, ← hr.length], fun i e he => ?_⟩
    have hlt : i < xs.length := by rw [← hr.length]; exact (List.getElem?_eq_some_iff.mp he).1
    obtain ⟨d', hd', rd⟩ := hr.get' (List.getElem?_eq_getElem hlt)
    rw [he] at hd'
    cases hd'
    obtain ⟨u', hu', rvu⟩ := rv.get (List.getElem?_eq_getElem hlt)
    obtain ⟨t, ht⟩ := hty e (List.mem_of_getElem? he)
    exact ⟨u', t, by simpa using hu', zqs I rM ht rd rvu, fun lo hi => zqV rd rvu⟩
  | _ =>
    rcases g with ⟨t, h, hs⟩ | ⟨es', e', _⟩
    · exact ⟨t, zqs I rM h r ru, hs⟩
    · cases e'
def EltP (X : Cx) (scope : Scope) (x : Str) (elt : Expr) (pb : D → Bool) : Prop :=
  ∀ (cenv : Env) (A' : Around) (E' : Value → Shared → Prop) (d : D) (u : Value) (s₂ : Shared) (m₂ : Str → Option Value), cenv.scope = scope → cenv.globals = mainGlobals → cenv.builtins = builtinsNs → A'.handled = none → A'.depth ≤ X.A.depth + 1 → A'.units ≤ X.A.units + 8 →
    Mod X.K X.mg s₂.heap → s₂.heap.Ns cenv.locals m₂ → m₂ x = some u → PgV s₂.heap u d → (∀ es, d = .tup es → es.length ≤ 1000000) → wpAny (model X.prog X.w) A' (eval elt cenv) (fun y s₃ => y = .bool (pb d) ∧ Keeps s₂ s₃) E' s₂
theorem zp4 {c P : Addr} {elt iter : Expr} {x : Str} {px gpos : Pos} {scope : Scope} {pb : D → Bool} {te : TE} {k : Nat} {Q' : Value → Shared → Prop} {R : List D → M → Hp → Prop}
    (hr : Room k X.A) (TB : TabB X.base X.mg c P) (hcode : X.env.code = .ref c) (S : GenS X.env scope x) (hi : PE X iter te) (hel : EltP X scope x elt pb)
    (hs : ∀ v, genFold iter X.env v = pure v) (I : Inv X pins σ H s) (h : te σ H fun v H1 => ∃ (ds : List D) (m1 : M), Rep X.K H1 (.tup ds) v ∧ RelM X.K H1 m1 ∧ m1 P = some .tab ∧ (∀ d ∈ ds, GoodP m1 d) ∧ R ds m1 H1)
    (hQ : ∀ ds m1 H1 g s5, R ds m1 H1 → zr1 X pins σ H1 P ds pb g s5 → Q' (.ref g) s5) :
    wpAny (model X.prog X.w) X.A (eval (.GeneratorExp elt [⟨.Name x px, iter, [], 0⟩] scope gpos) X.env) Q' X.xe s := by
  refine wpAny_GeneratorExp_walksQD hr.hd S.co (closure_ok S.free) S.cell S.dot S.loc S.kind (by have := hr.dp; omega) ?_ hs
  refine thn (hi.run pins s σ H _ I h) fun xv s1 ⟨v, H1, I1, r1, q1⟩ => ?_
  obtain ⟨ds, mm, ⟨ta, xs, rfl, hsq, hrs⟩, rM, hmP, hty, q1⟩ := q1
  obtain ⟨ps, hP, ht⟩ : ∃ ps, H1 P = some (.tbl ps) ∧ TriplesOk ps.toList := rM P _ hmP
  obtain rfl : xv = Value.ref ta := r1
  obtain ⟨its, rv, htup, hz⟩ := I1.tuple hsq
  have hlen : its.toArray.size = ds.length := by rw [List.size_toArray, ← rv.length, ← hrs.length]
  refine wpAny_pyIter_tuple (show s1.heap.IsTuple ta its.toArray from htup) ?_
  have hPs : s1.heap.get? P = some { cls := .none, data := .fields ps } := I1.hok P _ hP
  have hPlt : P < s1.heap.objs.size := Heap.lt_size hPs
  have talt : ta < s1.heap.objs.size := by obtain ⟨o, e, _⟩ := id htup; exact Heap.lt_size e
  have taP : ta ≠ P := fun z => by
    obtain ⟨o, e, hc, _⟩ := id htup
    rw [z, hPs] at e
    cases e
    cases hc
  have hP2 : (s1.heap.push { cls := .type "tuple_iterator", data := .fields #[.ref ta, .int 0 0] }).get? P = some { cls := .none, data := .fields ps } := Heap.get?_push_of_some _ hPs
  have cd : PySem.W.CodeHd (s1.heap.push { cls := .type "tuple_iterator", data := .fields #[.ref ta, .int 0 0] }) c P := TB.code.keeps fun b u e => Heap.get?_push_of_some _ (I1.bk b u e)
  have lim2 : (s1.heap.push { cls := .type "tuple_iterator", data := .fields #[.ref ta, .int 0 0] }).NoLimit := I1.nolimit.push _
  have st0 : (s1.heap.push { cls := .type "tuple_iterator", data := .fields #[.ref ta, .int 0 0] }).IsTupleIter s1.heap.objs.size ta 0 ∧ (s1.heap.push { cls := .type "tuple_iterator", data := .fields #[.ref ta, .int 0 0] }).IsTuple ta its.toArray :=
    ⟨⟨_, Heap.get?_push_size _ rfl, rfl, rfl⟩, (show s1.heap.IsTuple ta its.toArray from htup).push _⟩
  have wk : ∀ A' : Around, A'.handled = none → Walks X.prog X.w A' s1.heap.objs.size [s1.heap.objs.size, ta] [s1.heap.objs.size] its.toArray.size (fun i v => its.toArray[i]? = some v) (fun i h => h.IsTupleIter s1.heap.objs.size ta i ∧ h.IsTuple ta its.toArray) :=
    fun A' hA => Walks.tuple hA _ ta (Nat.ne_of_lt talt) its.toArray
  have sz2 : (s1.heap.push { cls := .type "tuple_iterator", data := .fields #[.ref ta, .int 0 0] }).objs.size = s1.heap.objs.size + 1 := Heap.size_push ..
  have cont : ∀ (code : Value) (h3 : Heap) (tk : Nat) (ps' : Array Value), Heap.ExtBut P (s1.heap.push { cls := .type "tuple_iterator", data := .fields #[.ref ta, .int 0 0] }) h3 → (s1.heap.push { cls := .type "tuple_iterator", data := .fields #[.ref ta, .int 0 0] }).objs.size ≤ h3.objs.size → h3.get? P = some { cls := .none, data := .fields ps' } → (∃ more, ps' = ps ++ more) → TriplesOk ps'.toList →
      wpAny (model X.prog X.w) X.A (builtinsFor X.env.globals X.env.builtins) (fun bi s₄ =>
        ∃ Ia fp wr n₀ Pf St₀ pz F, Value.ref s1.heap.objs.size = .ref Ia ∧ (∀ A' : Around, A'.handled = none → Walks X.prog X.w A' Ia fp wr n₀ Pf St₀) ∧ St₀ 0 s₄.heap ∧ (∀ b ∈ fp, b < s₄.heap.objs.size) ∧ s₄.heap.NoLimit ∧ cStatics ∉ wr ∧
          (∀ href : Heap, (∀ b o, s₄.heap.get? b = some o → href.get? b = some o) →
            QuietGenD X.prog X.w (genEnv scope (cloFrom X.env.cells scope.names []) s₄.heap.objs.size code bi X.env) x [] elt (List.range s₄.heap.objs.size) wr Pf pz F href (X.A.depth + 1) (X.A.units + 8)) ∧
          (∀ a h₅ tk gs, gs.bare = true → s₄.heap.objs.size < a → h₅.objs.size = a + 1 → (∀ b o, s₄.heap.get? b = some o → h₅.get? b = some o) →
            WalksS X.prog X.w X.A.in4 a (a :: s₄.heap.objs.size :: List.range s₄.heap.objs.size) (s₄.heap.objs.size :: wr) (GenOnlyQ s₄.gens.size) (passing pz n₀ 0).length
              (fun j y => ∃ i, (passing pz n₀ 0)[j]? = some i ∧ F i y) (GenAt X.prog X.w X.A.in4 a s₄.gens.size s₄.heap.objs.size (List.range s₄.heap.objs.size) wr pz n₀ F) →
            GenAt X.prog X.w X.A.in4 a s₄.gens.size s₄.heap.objs.size (List.range s₄.heap.objs.size) wr pz n₀ F 0 { s₄ with gens := s₄.gens.push gs, toks := tk, heap := h₅ } →
            Q' (.ref a) { s₄ with gens := s₄.gens.push gs, toks := tk, heap := h₅ })) X.xe { s1 with heap := h3, toks := tk } := by
    intro code h3 tk ps' hx hsz hP3 hmore ht3
    have hge3 : s1.heap.objs.size + 1 ≤ h3.objs.size := by rw [← sz2]; exact hsz
    obtain ⟨bm, ob, e1, e2, e3, e4, e5, e6, e7, e8⟩ := TB.bm
    have hcP : cStatics ≠ P := fun e => by
      obtain ⟨_, hns, _⟩ := I1.nolimit
      obtain ⟨o', es, ep, ho, hd, _⟩ := hns
      rw [e, hPs] at ho
      cases ho
      cases hd
    have hcl : cStatics < s1.heap.objs.size := let ⟨_, hns, _⟩ := I1.nolimit; hns.lt
    have keep3 : ∀ b u, b ≠ P → s1.heap.get? b = some u → h3.get? b = some u := fun b u hb e => hx b u hb (Heap.get?_push_of_some _ e)
    refine wpAny_builtinsFor (m := X.mg) (by rw [I1.ok.glob]; exact ((I1.mod.glob.keeps I1.bk).push _).extBut hx TB.gP) e1 e2 (keep3 _ _ e4 (I1.bk _ _ e5)) e6 e7 e8 ?_
    refine ⟨s1.heap.objs.size, [s1.heap.objs.size, ta], [s1.heap.objs.size], its.toArray.size, _, _, (fun _ => true), (fun i y => ∃ d, ds[i]? = some d ∧ y = .bool (pb d)), rfl, wk, ?_, ?_, lim2.extBut hx hcP, ?_, ?_, ?_⟩
    · refine (wk X.A hr.hd).frame _ _ _ st0 fun b hb u e => hx b u (fun z => ?_) e
      rcases List.mem_cons.mp hb with z2 | z2
      · exact Nat.ne_of_lt hPlt (z.symm.trans z2)
      · rcases List.mem_cons.mp z2 with z2 | z2
        · exact taP (z2.symm.trans z)
        · cases z2
    · intro b hb
      rcases List.mem_cons.mp hb with z | z
      · rw [z]
        exact Nat.lt_of_succ_le hge3
      · rcases List.mem_cons.mp z with z | z
        · rw [z]
          exact Nat.lt_of_lt_of_le talt (Nat.le_of_succ_le hge3)
        · cases z
    · intro z
      rcases List.mem_cons.mp z with z | z
      · exact Nat.ne_of_lt hcl z
      · cases z
    · intro href hhref
      have old : ∀ (s₂ : Shared), (∀ b ∈ List.range h3.objs.size, b ∉ [s1.heap.objs.size] → ∀ o, href.get? b = some o → s₂.heap.get? b = some o) → ∀ b o, b ≠ P → s1.heap.get? b = some o → s₂.heap.get? b = some o := fun s₂ hk b o hb e => by
        have hlt := Heap.lt_size e
        refine hk b (List.mem_range.mpr (Nat.lt_of_lt_of_le hlt (Nat.le_of_succ_le hge3))) (fun z => ?_) o (hhref b o (keep3 b o hb e))
        rcases List.mem_cons.mp z with z | z
        · rw [z] at hlt; exact Nat.lt_irrefl _ hlt
        · cases z
      refine ⟨fun A' E' i v s₂ m₂ hA hD hU hPv hn hm hk => ?_, fun A' E' i v s₂ m₂ hA hD hU hPv hp hn hm hk => ?_⟩
      · simp only [List.forIn_nil]
        exact wpAny_pure ⟨rfl, keeps_refl _⟩
      · have hPv' : its.toArray[i]? = some v := hPv
        have hv1 : its[i]? = some v := by simpa using hPv'
        obtain ⟨hlt, _⟩ := List.getElem?_eq_some_iff.mp hv1
        have hltx : i < xs.length := by rw [rv.length]; exact hlt
        obtain ⟨u', hu', rvu⟩ := rv.get (List.getElem?_eq_getElem hltx)
        rw [hv1] at hu'
        cases hu'
        obtain ⟨d, hd, rd⟩ := hrs.get' (List.getElem?_eq_getElem hltx)
        have gd := hty d (List.mem_of_getElem? hd)
        have kn1 := ztk I1 rM gd rd rvu
        have o2 := old s₂ hk
        have M2 : Mod X.K X.mg s₂.heap := zl8 I1.mod fun b o e => by
          obtain ⟨q1, q2⟩ := I1.bs b o e
          exact o2 b o (fun z => by rw [z, hP] at q2; cases q2) q1
        have kn2 : PgV s₂.heap v d := kn1.keep fun a o n _ e hc => o2 a o (fun z => by rw [z, hPs] at e; cases e; cases hc) e
        exact wpAny_mono (hel _ A' E' d v s₂ m₂ rfl I1.ok.glob rfl hA hD hU M2 hn hm kn2 gd.size) (fun y s3 r => ⟨⟨d, hd, r.1⟩, r.2⟩) fun _ _ e => e
    · intro g h5 tk5 gs hgb hag hsz5 hk5 W5 hat
      simp only [GxR.passing_true, List.length_range] at W5
      rw [hlen] at W5
      rw [hlen] at hat
      refine hQ ds mm H1 g _ q1 ⟨_, _, _, _, _, W5.in4_1, hat, ?_, fun s' hm => ?_⟩
      · intro j y sj Qj Ej hy hQj
        obtain ⟨i, hij, d, hd, rfl⟩ := hy
        obtain ⟨hj, ej⟩ := List.getElem?_eq_some_iff.mp hij
        rw [List.getElem_range] at ej
        subst ej
        have hQ2 : Qj (trD pb ds j) sj := hQj
        rw [zkj hd] at hQ2
        exact wpAny_truthy_bool hQ2
      · obtain ⟨more, em⟩ := hmore
        have nwr : ∀ b u, s1.heap.get? b = some u → b ∉ h3.objs.size :: [s1.heap.objs.size] := fun b u e hb => by
          have hl := Heap.lt_size e
          rcases List.mem_cons.mp hb with z | z
          · rw [z] at hl
            have h9 : (h3.objs.size : Nat) < s1.heap.objs.size := hl
            omega
          · rcases List.mem_cons.mp z with z | z
            · rw [z] at hl
              exact Nat.lt_irrefl _ hl
            · cases z
        have J := inv_tab (more := more) (h' := s'.heap) (g' := s'.gens) (d' := s'.drawn) (t' := s'.toks) I1 hP (fun b u hb e => hm.heap b u (nwr b u e) (hk5 b u (keep3 b u hb e)))
          (by rw [← em]; exact hm.heap P _ (nwr P _ hPs) (hk5 P _ hP3)) (AllBare.movedS (I1.bare.push hgb) hm)
        rw [sh_eta s1 s' hm.os] at J
        refine ⟨upd H1 P (.tbl (ps ++ more)), ⟨⟨ps ++ more, upd_same, by rw [← em]; exact ht3⟩, fun b hb => upd_ne hb⟩, J⟩
  refine ⟨lim2, ?_⟩
  cases hf : codeAmong gpos ps.toList with
  | none =>
    refine wpAny_genexprCodeX hcode (cd.code hP2 ht) (cd.tab hP2) hf fun c' h' tk hx hge hlt hco' _ htab' _ => ?_
    obtain ⟨o1, vs, f1, tf, fl, tg, inF, tx, tt, op, _, _, _, _, _, _, _, _, _, htr, _⟩ := hco'
    exact cont _ h' tk _ hx (Nat.le_trans hge (Nat.le_of_lt hlt)) htab'.2 ⟨_, rfl⟩ htr
  | some cv =>
    refine wpAny_genexprCode_hit hcode (cd.code hP2 ht) hf ?_
    exact cont cv _ s1.toks ps (Heap.ExtBut.refl _ _) (Nat.le_refl _) hP2 ⟨#[], by simp⟩ ht
def zmT (P : Addr) (pb : D → Bool) (te : AE) : AE := fun e m Q R => te e m (fun d m1 => match d with
  | .tup ds => m1 P = some .tab ∧ (∀ d ∈ ds, GoodP m1 d) ∧ Q (.bl (ds.all pb)) m1
  | _ => False) R
theorem zsp {c P : Addr} {elt iter : Expr} {x : Str} {px p pos gpos : Pos} {scope : Scope} {pb : D → Bool} {te : AE} {k : Nat}
    (hr : Room k X.A) (hm : X.mg "all" = none) (TB : TabB X.base X.mg c P) (hcode : X.env.code = .ref c) (S : GenS X.env scope x) (hi : GE X W iter te) (hel : EltP X scope x elt pb)
    (hg : Gl X "all" := by rfl) (hs : ∀ v, genFold iter X.env v = pure v := by exact fun _ => rfl)
    (he : starEach [.GeneratorExp elt [⟨.Name x px, iter, [], 0⟩] scope gpos] X.env = (false, eval (.GeneratorExp elt [⟨.Name x px, iter, [], 0⟩] scope gpos) X.env) :: starEach [] X.env := by rfl) :
    GE X W (.Call (.Name "all" p) [.GeneratorExp elt [⟨.Name x px, iter, [], 0⟩] scope gpos] [] pos) (zmT P pb te) := by
  refine ⟨fun pins s σ H Q I h => ?_⟩
  obtain ⟨e, m, P', R, rE, rM, t, q, w⟩ := h
  have hb : bootBuiltins "all" = some (.builtin "all") := PyProof.Rows.boot_all
  refine wpAny_Call_Name_kw (ld_blt I hg hm hb ?_)
  refine PyProof.Rows.callWith_builtin1 ?_ he (by rfl)
  rw [he]
  show wpAny _ _ (spliced ((false, eval (.GeneratorExp elt [⟨.Name x px, iter, [], 0⟩] scope gpos) X.env) :: backTo pos (starEach [] X.env))) _ _ s
  refine Calls.spliced_cons (zp4 (R := fun ds m1 H1 => m1 P = some .tab ∧ RelM X.K H1 m1 ∧ Tx H H1 ∧ P' (.bl (ds.all pb)) m1) hr TB hcode S hi hel hs I ?_ fun ds m1 H1 g s5 hR hG => ?_)
  · refine ⟨e, m, _, R, rE, rM, t, fun d m1 h1 v H1 t1 r1 rm1 => ?_, w⟩
    cases d with
    | tup ds => exact ⟨ds, m1, r1, rm1, h1.1, h1.2.1, h1.1, rm1, t1, h1.2.2⟩
    | _ => exact h1.elim
  · obtain ⟨fp, wr, G, F, St, W, hst, htr, hI⟩ := hG
    obtain ⟨hmP, rM1, t1, hp⟩ := hR
    refine Calls.spliced_nil ?_
    refine call_all_walkS (W.self 0 _ _ _ hst ⟨g, fp, wr, G, _, F, St, _, rfl, W, hst, htr, fun s' hmv => ?_⟩)
    obtain ⟨H2, hT, J⟩ := hI s' hmv
    obtain ⟨rM2, t2⟩ := zoH rM1 hmP hT
    refine ⟨.bl _, H2, J, rfl, ?_⟩
    rw [zqW]
    exact q _ m1 hp _ H2 (t1.trans t2) rfl rM2
theorem zp5 {ft fr fp : Addr} {paramsT paramsR paramsP : Arguments} {scopeT scopeR scopeP scope : Scope} {fdT fdR fdP : FuncData} {a1 a2 a3 a4 a5 a6 a7 a8 a9 aa ab ac : Pos} {q1 q2 q3 q4 q5 q6 q7 q8 q9 r1 r2 r3 r4 r5 r6 r7 r8 r9 u1 u2 u3 u4 u5 u6 u7 u8 u9 v1 v2 v3 v4 w1 w2 p1 p2 p3 p4 p5 p6 z1 z2 z3 : Pos} {j1 j2 j3 j4 j5 j6 : Nat} {x c : Str} {n : Int} {k : Nat}
    (DT : zkn X.K "is_tuple_of" paramsT (zlC a1 a2 a3 a4 a5 a6 a7 a8 a9 aa ab ac) scopeT ["value", "least", "most"] ft fdT)
    (DR : zkn X.K "are_bytes" paramsR
      [.If (.UnaryOp .Not (.Call (.Name "is_tuple_of" q1) [.Name "value" q2, .Name "least" q3, .Name "most" q4] [] q5) q6) [.Return (some (.Constant (.bool false) j1 q7)) q8] [] q9,
       .For (.Name "byte" r1) (.Name "value" r2) [.If (.BoolOp .Or [.UnaryOp .Not (.Call (.Name "isinstance" r3) [.Name "byte" r4, .Name "int" r5] [] r6) r7, .Call (.Name "isinstance" r8) [.Name "byte" r9, .Name "bool" u1] [] u2,
          .Compare (.Name "byte" u3) [.Lt] [.Constant (.int 0) j2 u4] u5, .Compare (.Name "byte" u6) [.Gt] [.Constant (.int 255) j3 u7] u8] u9) [.Return (some (.Constant (.bool false) j4 v1)) v2] [] v3] [] v4,
       .Return (some (.Constant (.bool true) j5 w1)) w2] scopeR ["value", "least", "most"] fr fdR)
    (DP : zkn X.K "is_page" paramsP [.Return (some (.Call (.Name "are_bytes" p1) [.Name "value" p2, .Constant (.int 0) j6 p3, .Name c p4] [] p5)) p6] scopeP ["value"] fp fdP)
    (hmt : X.mg "is_tuple_of" = some (.ref ft)) (hmr : X.mg "are_bytes" = some (.ref fr)) (hmp : X.mg "is_page" = some (.ref fp)) (hc : CI X.mg c n) (hr : Room k X.A) (hk : 3 ≤ k)
    (hisi : X.mg "isinstance" = none) (htup : X.mg "tuple" = none) (hlen : X.mg "len" = none) (hint : X.mg "int" = none) (hbool : X.mg "bool" = none)
    (gt1 : scopeT.names.lookup ("isinstance" : Str) = some NameKind.globalImplicit := by rfl) (gt2 : scopeT.names.lookup ("tuple" : Str) = some NameKind.globalImplicit := by rfl) (gt3 : scopeT.names.lookup ("len" : Str) = some NameKind.globalImplicit := by rfl)
    (lb : scopeR.names.lookup ("byte" : Str) = some NameKind.local := by rfl)
    (g0 : scopeR.names.lookup ("is_tuple_of" : Str) = some NameKind.globalImplicit := by rfl) (g1 : scopeR.names.lookup ("isinstance" : Str) = some NameKind.globalImplicit := by rfl) (g2 : scopeR.names.lookup ("int" : Str) = some NameKind.globalImplicit := by rfl) (g3 : scopeR.names.lookup ("bool" : Str) = some NameKind.globalImplicit := by rfl)
    (gp1 : scopeP.names.lookup ("are_bytes" : Str) = some NameKind.globalImplicit := by rfl) (gp2 : scopeP.names.lookup c = some NameKind.globalImplicit := by rfl)
    (s1 : scope.kind = .function := by rfl) (s2 : scope.names.lookup x = some NameKind.local := by rfl) (s3 : scope.names.lookup ("is_page" : Str) = some NameKind.globalImplicit := by rfl)
    (hd : (x == ("__debug__" : Str)) = false := by decide) (hdc : (c == ("__debug__" : Str)) = false := by decide) :
    EltP X scope x (.Call (.Name "is_page" z1) [.Name x z2] [] z3) (ziq 0 n) := by
  intro cenv A' E' d u s₂ m₂ hs hG hB hA hD hU M hn hm kn hsz
  have ks : cenv.scope.kind = .function := by rw [hs]; exact s1
  have kx : cenv.kindOf x = some .local := by show cenv.scope.names.lookup x = _; rw [hs]; exact s2
  have kf : cenv.kindOf "is_page" = some .globalImplicit := by show cenv.scope.names.lookup _ = _; rw [hs]; exact s3
  obtain ⟨tc, hc⟩ := hc
  have hdp := hr.dp
  refine wpAny_Call_Name_kw (ldF M ks hG hmp ?_ kf)
  refine PySem.W.callWith_K (h₀ := s₂.heap) M.kin DP.F.kp ?_ (by rfl) (by rfl)
  refine args_cons (ldL ks hn hm (args_nil ⟨M.kin, ?_⟩) kx hd)
  have lp := DP.loc "value" (by simp)
  have kp1 := DP.k1
  refine zlB (R := fun v => v = .bool (ziq 0 n d)) DP M (by omega) rfl (fun env m s₁ E₁ e1 e2 e3 hdep hhd hk1 hn1 hne hm1 => ?_) fun v s' hk' e => ⟨e, hk'⟩
  have k1 : env.scope.kind = .function := by rw [e1]; exact kp1
  have ko : ∀ y, env.kindOf y = scopeP.names.lookup y := fun y => by show env.scope.names.lookup y = _; rw [e1]
  have m1 := hm1 0 _ _ rfl rfl
  have M1 := zkQ M hk1
  have kn1 := kn.to hk1
  have hkk := hk1
  obtain ⟨h₁, tk₁, rfl, kp⟩ := hk1
  refine wpAny_execs_cons (wpAny_Return_some ?_)
  refine wpAny_Call_Name_kw (ldF (s := { s₂ with heap := h₁, toks := tk₁ }) M1 k1 e2 hmr ?_ ((ko _).trans gp1))
  refine PySem.W.callWith_K (h₀ := h₁) M1.kin DR.F.kp ?_ (by rfl) (by rfl)
  refine args_cons (ldL (s := { s₂ with heap := h₁, toks := tk₁ }) k1 hn1 m1 ?_ ((ko _).trans lp))
  refine args_cons (wpAny_Constant_int ?_)
  refine args_cons (ldF (s := { s₂ with heap := h₁, toks := _ }) M1 k1 e2 hc (args_nil ⟨M1.kin, ?_⟩) ((ko _).trans gp2) hdc)
  refine zrg (s := { s₂ with heap := h₁, toks := _ }) DT gt1 gt2 gt3 DR lb g0 g1 g2 g3 M1 (by rw [hdep]; omega) (hhd.trans hA) hisi htup hlen hint hbool hmt kn1 hsz fun s' hk' => ⟨zof ⟨h₁, _, rfl, kp⟩ hk', rfl⟩
end
end
end Ab
set_option Elab.async false
set_option linter.all false
set_option maxRecDepth 100000
set_option maxHeartbeats 4000000
namespace K12
open PySem PySem.Spec PyProof.Rows L2 Ab
local macro_rules | `(tactic| walk_at "stp") => `(tactic| (repeat (first | with_reducible refine zal ?_ | with_reducible refine zoI ?_ | with_reducible refine zdZ ?_ | with_reducible refine zgo ?_ | with_reducible refine opI ?_ | with_reducible refine zK ?_ | with_reducible refine zj ?_ | with_reducible refine cI ?_ | with_reducible refine zA ?_ | ((with_reducible apply zu); exact rfl) | with_reducible refine cbI ?_ | with_reducible refine ifI ?_ | with_reducible refine zdf ?_ | with_reducible refine zdy ?_ | with_reducible refine zs3 ?_ | with_reducible refine zm9 ?_ | with_reducible refine zcx ?_ | with_reducible refine nextI ?_ | with_reducible refine tupI ?_ | with_reducible refine zfi ?_ | with_reducible refine zs2 ?_ | with_reducible refine zr6 ?_ | with_reducible refine zd0 ?_ | with_reducible refine zul ?_ | with_reducible refine notI ?_ | with_reducible refine zuk ?_ | with_reducible refine zlu ?_ | with_reducible refine r1I ?_ | with_reducible refine zut ?_ | with_reducible refine zs4 ?_ | with_reducible refine zpS ?_ | with_reducible refine zna ?_ | with_reducible refine lcI ?_ | with_reducible refine slI ?_ | with_reducible refine zjy ?_ | with_reducible refine ptI ?_ | with_reducible refine unI ?_ | with_reducible refine zuu ?_ | with_reducible refine zuv ?_ | with_reducible refine ztf ?_ | with_reducible refine zqv ?_ | with_reducible refine rI0 ?_ | with_reducible refine rIC ?_ ?_ | with_reducible refine zs6 ?_ ?_ | with_reducible refine zih ?_ ?_ | with_reducible refine zs5 ?_ ?_ | with_reducible refine zs7 ?_ | with_reducible refine zum ?_ | with_reducible refine zun ?_ | with_reducible refine zuo ?_ | with_reducible refine zup ?_ | with_reducible refine zr5 ?_ | with_reducible refine zuq ?_ | with_reducible refine zur ?_ | with_reducible refine zqX ?_ | with_reducible refine zus ?_ | with_reducible refine zqY ?_ | with_reducible refine zs8 ?_ | with_reducible refine zs9 ?_ | with_reducible refine zta ?_ | with_reducible refine ztb ?_ | with_reducible refine ztc ?_ | with_reducible refine ztd ?_ | with_reducible refine zte ?_ | with_reducible refine zlv ?_ | with_reducible refine gcI ?_ | with_reducible refine gnI ?_ | with_reducible refine aNI ?_ | ((with_reducible refine ttI ?_ ?_); exact rfl) | ((with_reducible refine And.intro ?_ ?_); exact rfl) | ((with_reducible refine And.intro ?_ ?_); exact zav rfl) | dsimp only [En.s])))
def zfN : AS := zB (zaa (zM (aOp zbu (aOp zap (zg 0) (aC (.int 3))) (aC (.int 0)))) (zB (zJ (aOp zau (aCB zbR (zb (aOp zap (zg 0) (aC (.int 3))) (zm))) (zg 1)) (aN 2)) (zB (zJ (aOp zad (aOp zap (zg 0) (aC (.int 3))) (zg 1)) (zaG (zg 0) (aC (.int 3)))) (zP (zg 2)))) (zU)) (zB (zJ (aOp zR (aOp zap (zg 0) (aC (.int 1))) (aC (.int 1))) (zaG (zg 0) (aC (.int 1)))) (zB (zaa (zM (aOp zbu (aOp zap (zg 0) (aC (.int 1))) (aCB zah (zb (aOp zap (zg 0) (aC (.int 0))) (zm))))) (zB (zJ (aOp zau (aCB zbR (zb (aOp zR (aOp zaj (aOp zap (zg 0) (aC (.int 2))) (aC (.int 48271))) (aC (.int 11))) (zm))) (aC (.int 2147483647))) (zaG (zg 0) (aC (.int 2)))) (zP (aOp zau (aCB zbR (zb (aOp zad (aOp zap (zg 0) (aC (.int 2))) (aC (.int 7))) (zm))) (zg 1)))) (zU)) (zB (zJ (aOp zap (aOp zap (zg 0) (aC (.int 0))) (aOp zae (aOp zap (zg 0) (aC (.int 1))) (aC (.int 1)))) (aN 3)) (zB (zJ (aOp zau (aCB zbR (zb (aOp zR (aOp zR (aOp zaj (aOp zap (zg 0) (aC (.int 2))) (aC (.int 48271))) (zg 3)) (aC (.int 11))) (zm))) (aC (.int 2147483647))) (zaG (zg 0) (aC (.int 2)))) (zB (zaa (zM (aOp zbQ (zg 3) (aOp zaF (aC (.int 10)) (aC (.int 18))))) (zJ (aOp zad (zg 3) (zg 1)) (zaG (zg 0) (aC (.int 3)))) (zU)) (zP (aOp zau (aCB zbR (zb (zg 3) (zm))) (zg 1))))))))
def zbZ : ASp := aDef 4 (zfN)
def zgu : AS := zP (aOp zap (zg 1) (aCall 2 zbZ (zb (zg 0) (zb (aCB zah (zb (zg 1) (zm))) (zm)))))
def zbX : ASp := aDef 2 (zgu)
def zdE : AS := zP (zam (zbl .tuple (zg 0)) (zac za2 za2 (zg 1) (aCB zah (zb (zg 0) (zm))) (zg 2)))
def zaq : ASp := aDef 3 (zdE)
def zeU : AS := zP (zam (zbl .int (zg 0)) (zam (zaN (zbl .bool (zg 0))) (zac za2 za2 (zg 1) (zg 0) (zg 2))))
def za3 : ASp := aDef 3 (zeU)
def zes (p : Pm) : AS := zB (zaa (zaI (zM (aCall 3 zaq (zb (zg 0) (zb (aC (.int 2)) (zb (aC (.int 2)) (zm))))))) (aRaise (p.cA "BadShape")) (zU)) (zB (zJ (zg 0) (aTT 2 (zG (aN 1) (zG (aN 2) (zY))))) (zaa (aOr (zaI (zM (aCall 3 za3 (zb (zg 1) (zb (aC (.int 1)) (zb (aC (.int 64)) (zm))))))) (zaI (zM (aCall 3 za3 (zb (zg 2) (zb (aC (.int 2)) (zb (aC (.int 64)) (zm)))))))) (aRaise (p.cA "BadShape")) (zU)))
def zba (p : Pm) : ASp := aDef 3 (zes p)
def zek : AS := zB (zJ (zg 0) (aTT 2 (zG (aN 1) (zG (aN 2) (zY))))) (zP (aOp zR (aOp zR (aC (.int 2)) (zg 1)) (zg 2)))
def zcb : ASp := aDef 3 (zek)
def zko (p : Pm) : AS := zB (zQ (aCall 1 (zba p) (zb (zg 0) (zm)))) (zP (aCall 1 zcb (zb (zg 0) (zm))))
def zeE (p : Pm) : ASp := aDef 1 (zko p)
def zgv (p : Pm) : AS := zP (aOp zaj (zE (zb (aC (.tup ((List.replicate 128 (0 : Int)).map D.int))) (zm))) (aCall 1 (zeE p) (zb (zg 0) (zm))))
def zeV (p : Pm) : ASp := aDef 1 (zgv p)
def zkR : AS := zP (aOp zR (aC (.int 2)) (zg 0))
def zeW : ASp := aDef 1 (zkR)
def zkS (p : Pm) : AS := zP (aCall 1 zeW (zb (zg 1) (zm)))
def zg7 (p : Pm) : AS := zB (zaa (zaI (zM (aCall 3 za3 (zb (zg 1) (zb (aC (.int 0)) (zb (aOp zae (aOp zap (zg 0) (aC (.int 0))) (aC (.int 1))) (zm))))))) (aRaise (p.cA "BadNumber")) (zU)) (zkS p)
def zeX (p : Pm) : AS := zB (zQ (aCall 1 (zba p) (zb (zg 0) (zm)))) (zg7 p)
def zeY (p : Pm) : ASp := aDef 2 (zeX p)
def zkT : AS := zB (zJ (zg 0) (aTT 2 (zG (aN 2) (zG (aN 3) (zY))))) (zP (aOp zR (aOp zR (aC (.int 2)) (zg 2)) (aOp zau (zg 1) (zg 3))))
def zeZ : ASp := aDef 4 (zkT)
def zkU (p : Pm) : AS := zP (aCall 2 zeZ (zb (zg 0) (zb (zg 1) (zm))))
def zg8 (p : Pm) : AS := zB (zaa (zaI (zM (aCall 3 za3 (zb (zg 1) (zb (aC (.int 0)) (zb (aOp zae (aOp zap (zg 0) (aC (.int 1))) (aC (.int 1))) (zm))))))) (aRaise (p.cA "BadNumber")) (zU)) (zkU p)
def ze0 (p : Pm) : AS := zB (zQ (aCall 1 (zba p) (zb (zg 0) (zm)))) (zg8 p)
def ze1 (p : Pm) : ASp := aDef 2 (ze0 p)
def zbK : AS := zaa (aOr (zaI (zM (zbl .int (zg 3)))) (aOr (zM (zbl .bool (zg 3))) (aOr (zM (aOp zbU (zg 3) (aC (.int 0)))) (zM (aOp zbu (zg 3) (aC (.int 255))))))) (zP (aC (.bl false))) (zU)
def zfx : AS := zB (zaa (zaI (zM (aCall 3 zaq (zb (zg 0) (zb (zg 1) (zb (zg 2) (zm))))))) (zP (aC (.bl false))) (zU)) (zB (za0 (zas (zg 0)) (aN 3) (zbK)) (zP (aC (.bl true))))
def zcN : ASp := aDef 4 (zfx)
def zge : AS := zP (aCall 3 zcN (zb (zg 0) (zb (aC (.int 128)) (zb (aC (.int 128)) (zm)))))
def zee : ASp := aDef 1 (zge)
def zcD (p : Pm) : AS := zaa (zaI (zM (aCall 1 zee (zb (zg 4) (zm))))) (zdJ (p.cA "BadImage") "index" (zb (zg 3) (zm))) (zU)
def zet (p : Pm) : AS := zB (zJ (aCall 1 zcb (zb (zg 0) (zm))) (aN 2)) (zB (zaa (zaI (zM (aCall 3 zaq (zb (zg 1) (zb (zg 2) (zb (zg 2) (zm))))))) (zdJ (p.cA "BadImage") "index" (zb (aC .non) (zm))) (zU)) (za0 (zhN (zg 1)) (aTT 2 (zG (aN 3) (zG (aN 4) (zY)))) (zcD p)))
def zc3 (p : Pm) : ASp := aDef 5 (zet p)
def zd7 (p : Pm) : AS := zB (zQ (aCall 1 (zba p) (zb (zg 0) (zm)))) (zQ (aCall 2 (zc3 p) (zb (zg 0) (zb (zg 1) (zm)))))
def zch (p : Pm) : ASp := aDef 2 (zd7 p)
def zcG : AS := zJ (aOp zR (aOp zaj (zg 3) (aC (.int 256))) (zg 4)) (aN 3)
def zgw : AS := zB (zJ (aC (.int 0)) (aN 3)) (zB (za0 (zas (aSl rSlA (zg 0) (aPt (zg 1)) (aPt (aOp zR (zg 1) (zg 2))))) (aN 4) (zcG)) (zP (zg 3)))
def zbH : ASp := aDef 5 (zgw)
def zfO : AS := zP (zE (zb (aCall 3 zbH (zb (zg 0) (zb (aC (.int 0)) (zb (aC (.int 4)) (zm))))) (zb (aCall 3 zbH (zb (zg 0) (zb (aC (.int 124)) (zb (aC (.int 4)) (zm))))) (zm))))
def zcI : ASp := aDef 1 (zfO)
def zfk : AS := zP (aOp zR (aC (.int 1)) (aCB znc (zb (aLc (zas (zg 0)) (aN 1) (zaS) (aCB znl (zb (aCall 1 zcI (zb (zg 1) (zm))) (zm))) [1]) (zm))))
def zdm : ASp := aDef 2 (zfk)
def zkV (p : Pm) : AS := zP (zg 2)
def zg9 (p : Pm) : AS := zB (zaa (zM (aOp zbu (zg 2) (aC (.int 4294967295)))) (zdJ (p.cA "TooMany") "most" (zb (aC (.int 4294967295)) (zm))) (zU)) (zkV p)
def zha (p : Pm) : AS := zB (zJ (aCall 1 zdm (zb (zg 1) (zm))) (aN 2)) (zg9 p)
def ze2 (p : Pm) : AS := zB (zQ (aCall 2 (zch p) (zb (zg 0) (zb (zg 1) (zm))))) (zha p)
def ze3 (p : Pm) : ASp := aDef 3 (ze2 p)
def zd8 : AS := zB (zJ (aOp zan (aOp zaV (zg 1) (aC (.int 8))) (zg 2)) (aN 3)) (zB (zJ (aOp zan (zg 3) (aOp zaV (zg 3) (aC (.int 4)))) (aN 3)) (zJ (aOp za1 (aOp zan (aOp zan (aOp zan (aOp zaT (zg 1) (aC (.int 8))) (aOp zaT (zg 3) (aC (.int 12)))) (aOp zaT (zg 3) (aC (.int 5)))) (zg 3)) (aC (.int 65535))) (aN 1)))
def zjD : AS := zB (zJ (aC (.int 0)) (aN 1)) (zB (za0 (zas (zg 0)) (aN 2) (zd8)) (zP (zg 1)))
def zfD : ASp := aDef 4 (zjD)
def zcJ : AS := zP (zam (aOp zbV (zg 1) (zg 2)) (zam (aOp zcv (zg 1) (aC (.int 0))) (zam (zac za2 za2 (aC (.int 1)) (aOp zap (zg 0) (aC (.int 4))) (aCB zah (zb (aC (.tup [.str ("part" : Str), .str ("page" : Str), .str ("head" : Str), .str ("blank" : Str)])) (zm)))) (zam (aOp za2 (zg 3) (aC (.int 96))) (zam (zaN (aCB zkK (zb (aSl rSlA (zg 0) (aPt (aOp zR (aC (.int 18)) (zg 3))) (aPt (aC (.int 122)))) (zm)))) (aOp zbV (aCall 1 zfD (zb (aSl rSlA (zg 0) (zaR) (aPt (aC (.int 122)))) (zm))) (aCall 3 zbH (zb (zg 0) (zb (aC (.int 122)) (zb (aC (.int 2)) (zm)))))))))))
def zeu : AS := zB (zJ (aOp zap (zg 0) (aC (.int 7))) (aN 3)) (zcJ)
def zgf : AS := zB (zJ (aCall 1 zcI (zb (zg 0) (zm))) (aTT 2 (zG (aN 1) (zG (aN 2) (zY))))) (zeu)
def zda : ASp := aDef 4 (zgf)
def ze4 : AS := zP (zE (zb (aOp zap (aC (.tup [.str ("part" : Str), .str ("page" : Str), .str ("head" : Str), .str ("blank" : Str)])) (aOp zae (aOp zap (zg 0) (aC (.int 4))) (aC (.int 1)))) (zb (aOp zap (zg 0) (aC (.int 5))) (zb (aOp zap (zg 0) (aC (.int 6))) (zb (aCall 3 zbH (zb (zg 0) (zb (aC (.int 8)) (zb (aC (.int 4)) (zm))))) (zb (aCall 3 zbH (zb (zg 0) (zb (aC (.int 12)) (zb (aC (.int 4)) (zm))))) (zb (aCall 3 zbH (zb (zg 0) (zb (aC (.int 16)) (zb (aC (.int 2)) (zm))))) (zb (aSl rSlA (zg 0) (aPt (aC (.int 18))) (aPt (zg 1))) (zm)))))))))
def zhb : AS := zB (zJ (aOp zR (aC (.int 18)) (aOp zap (zg 0) (aC (.int 7)))) (aN 1)) (ze4)
def ze5 : AS := zB (zaa (zaI (zM (aCall 1 zda (zb (zg 0) (zm))))) (zP (aC .non)) (zU)) (zhb)
def zcQ : ASp := aDef 2 (ze5)
def zfP : AS := zP (aCB za5 (zb (aLc (zas (zg 0)) (aN 1) (zaS) (aCall 1 zcQ (zb (zg 1) (zm))) [1]) (zm)))
def zcK : ASp := aDef 2 (zfP)
def zf7 : AS := zP (aOp zR (aC (.int 1)) (zoS (zg 1)))
def zfl : AS := zB (zJ (aLc (zas (zg 0)) (aN 2) (zbO (zM (aOp zbt (zg 2) (aC .non))) (zM (aOp zmS (aOp zap (zg 2) (aC (.int 0))) (aC (.tup [.str ("part" : Str), .str ("page" : Str), .str ("head" : Str)]))))) (aOp zap (zg 2) (aC (.int 3))) [2]) (aN 1)) (zf7)
def zdn : ASp := aDef 3 (zfl)
def zkW (p : Pm) : AS := zP (zg 2)
def zhc (p : Pm) : AS := zB (zaa (zM (aOp zbu (zg 2) (aC (.int 4294967295)))) (zdJ (p.cA "TooMany") "most" (zb (aC (.int 4294967295)) (zm))) (zU)) (zkW p)
def zhd (p : Pm) : AS := zB (zJ (aCall 1 zdn (zb (aCall 1 zcK (zb (zg 1) (zm))) (zm))) (aN 2)) (zhc p)
def ze6 (p : Pm) : AS := zB (zQ (aCall 2 (zch p) (zb (zg 0) (zb (zg 1) (zm))))) (zhd p)
def ze7 (p : Pm) : ASp := aDef 3 (ze6 p)
def zd1 : AS := zP (zaN (aCB zkK (zb (zg 0) (zm))))
def zcB : ASp := aDef 1 (zd1)
def zhB : AS := zB (zaa (zM (aOp zbt (zg 1) (aC .non))) (zP (aOp zap (zg 1) (aC (.int 0)))) (zU)) (zP (aIf (zM (aCall 1 zcB (zb (zg 0) (zm)))) (aC (.str ("never" : Str))) (aC (.str ("torn" : Str)))))
def zep : ASp := aDef 2 (zhB)
def zgx : AS := zP (aCB za5 (zb (aLc (zoN (zg 0) (zg 1)) (aTT 2 (zG (aN 2) (zG (aN 3) (zY)))) (zaS) (aCall 2 zep (zb (zg 2) (zb (zg 3) (zm)))) [2, 3]) (zm)))
def zd9 : ASp := aDef 4 (zgx)
def zj0 (p : Pm) : AS := zB (zQ (aCall 2 (zch p) (zb (zg 0) (zb (zg 1) (zm))))) (zP (aCall 2 zd9 (zb (zg 1) (zb (aCall 1 zcK (zb (zg 1) (zm))) (zm)))))
def zj1 (p : Pm) : ASp := aDef 2 (zj0 p)
def zhe : AS := zP (aCall 3 zcN (zb (zg 0) (zb (aC (.int 0)) (zb (aC (.int 96)) (zm)))))
def zeM : ASp := aDef 1 (zhe)
def zgg (p : Pm) : AS := zP (zam (aCall 3 zaq (zb (zg 0) (zb (aC (.int 1)) (zb (aC (.int 64)) (zm))))) (zmT p.Pt (ziq 0 96) (zg 0)))
def zef (p : Pm) : ASp := aDef 1 (zgg p)
def zgy (p : Pm) : AS := zJ (aOp zR (zg 4) (aC (.int 1))) (aN 1)
def zdA (p : Pm) : AS := zB (zaa (aOr (zaI (zM (aCall 3 za3 (zb (zg 4) (zb (zg 1) (zb (aOp zae (aC (.int 64)) (aC (.int 1))) (zm))))))) (zaI (zdq (aCall 1 zeM (zb (zg 5) (zm)))))) (zdJ (p.cA "BadBatch") "index" (zb (zg 2) (zm))) (zU)) (zgy p)
def zdB (p : Pm) : AS := zB (zJ (zg 3) (aTT 2 (zG (aN 4) (zG (aN 5) (zY))))) (zdA p)
def zcm (p : Pm) : AS := zB (zaa (zaI (zM (aCall 3 zaq (zb (zg 3) (zb (aC (.int 2)) (zb (aC (.int 2)) (zm))))))) (zdJ (p.cA "BadBatch") "index" (zb (zg 2) (zm))) (zU)) (zdB p)
def zeF (p : Pm) : AS := za0 (zhN (zg 0)) (aTT 2 (zG (aN 2) (zG (aN 3) (zY)))) (zcm p)
def zeG (p : Pm) : AS := zB (zJ (aC (.int 0)) (aN 1)) (zeF p)
def zfQ (p : Pm) : AS := zB (zaa (zaI (zM (aCall 3 zaq (zb (zg 0) (zb (aC (.int 1)) (zb (aC (.int 64)) (zm))))))) (zdJ (p.cA "BadBatch") "index" (zb (aC .non) (zm))) (zU)) (zeG p)
def zew (p : Pm) : ASp := aDef 6 (zfQ p)
def zc0 (p : Pm) : AS := zaa (zM (aOp zbQ (zg 3) (zg 1))) (zdJ (p.cA "BadBatch") "index" (zb (zg 2) (zm))) (zU)
def zfg (p : Pm) : AS := za0 (zhN (zg 0)) (aTT 2 (zG (aN 2) (zG (aTT 2 (zG (aN 3) (zG (aN 4) (zY)))) (zY)))) (zc0 p)
def zeH (p : Pm) : AS := zB (zQ (aCall 1 (zew p) (zb (zg 0) (zm)))) (zfg p)
def zcR (p : Pm) : ASp := aDef 5 (zeH p)
def zkX : AS := zJ (zg 4) (zaG (zg 2) (zg 3))
def zkY : AS := zP (aCB za5 (zb (zg 2) (zm)))
def zkZ : AS := zB (za0 (zas (zg 1)) (aTT 2 (zG (aN 3) (zG (aN 4) (zY)))) (zkX)) (zkY)
def znm : AS := zB (zJ (aCB zak (zb (zg 0) (zm))) (aN 2)) (zkZ)
def zgz : ASp := aDef 5 (znm)
def znn (p : Pm) : AS := zP (aCall 2 zgz (zb (zg 0) (zb (zg 1) (zm))))
def zjE (p : Pm) : AS := zB (zQ (aCall 2 (zcR p) (zb (zg 1) (zb (aCB zah (zb (zg 0) (zm))) (zm))))) (znn p)
def zhf (p : Pm) : AS := zB (zaa (zaI (zdq (aCall 1 (zef p) (zb (zg 0) (zm))))) (aRaise (p.cA "BadState")) (zU)) (zjE p)
def zhg (p : Pm) : ASp := aDef 2 (zhf p)
def zk0 (p : Pm) : AE := aCall 1 (zeE p) (zb (zg 0) (zm))
def zk1 (p : Pm) : AE := aCall 1 (zeV p) (zb (zg 0) (zm))
def zir (p : Pm) : AE := aCall 2 (zeY p) (zb (zg 0) (zb (zg 1) (zm)))
def zis (p : Pm) : AE := aCall 2 (ze1 p) (zb (zg 0) (zb (zg 1) (zm)))
def zit (p : Pm) : AE := aCall 2 (ze3 p) (zb (zg 0) (zb (zg 1) (zm)))
def ziu (p : Pm) : AE := aCall 2 (ze7 p) (zb (zg 0) (zb (zg 1) (zm)))
def ziv (p : Pm) : AE := aCall 2 (zj1 p) (zb (zg 0) (zb (zg 1) (zm)))
def ziw (p : Pm) : AE := aCall 2 (zhg p) (zb (zg 0) (zb (zg 1) (zm)))
def zfm (P : Addr) (L : Nat → zb2) (cells : List (Str × Addr)) : AR := zgs (zJ (zaf (zm)) (aN 2)) (zgs (zQ (zab (zg 2) (zgr P (L 0) ["one"] [0] cells)))
  (zgs (zQ (zab (zg 2) (zgr P (L 1) ["one"] [0] cells)))
  (zgs (zQ (zab (zg 2) (zgr P (L 2) ["one", "other"] [0, 1] cells)))
  (zgs (zQ (zab (zg 2) (zgr P (L 3) ["one", "other"] [0, 1] cells)))
  (zgs (zQ (zab (zg 2) (zgr P (L 4) ["one", "other"] [0, 1] cells)))
  (zgs (zQ (zab (zg 2) (zgr P (L 5) ["one", "other"] [0, 1] cells)))
  (zgs (zQ (zab (zg 2) (zgr P (L 6) ["one", "other"] [0, 1] cells)))
  (zgs (zQ (zab (zg 2) (zgr P (L 7) ["one", "other"] [0, 1] cells)))
  (zp0 (zg 2))))))))))
def zbI (p : Pm) : ASp := znh (["one", "other", "works"] : List Str) p.sc (zfm p.P p.L)
def zc1 (p : Pm) (L : zb2) (ys : List Str) (t : AE) : Prop := (L = p.L 0 ∧ ys = (["one"] : List Str) ∧ t = zk0 p) ∨ (L = p.L 1 ∧ ys = (["one"] : List Str) ∧ t = zk1 p) ∨ (L = p.L 2 ∧ ys = (["one", "other"] : List Str) ∧ t = zir p) ∨ (L = p.L 3 ∧ ys = (["one", "other"] : List Str) ∧ t = zis p) ∨ (L = p.L 4 ∧ ys = (["one", "other"] : List Str) ∧ t = zit p) ∨ (L = p.L 5 ∧ ys = (["one", "other"] : List Str) ∧ t = ziu p) ∨ (L = p.L 6 ∧ ys = (["one", "other"] : List Str) ∧ t = ziv p) ∨ (L = p.L 7 ∧ ys = (["one", "other"] : List Str) ∧ t = ziw p)
def zbs (p : Pm) : AS := zP (zg 1)
def zfE (p : Pm) : AS := zB (zjY p.mt 2 (zQ (zgq (zc1 p) 0)) (fun a x d => zB (zJ (zaf (zm)) (aN 3)) (zB (zQ (zab (zg 3) (zeD p.isT a x d 2 (p.cA "BadShape")))) (zB (zQ (zab (zg 3) (zeD p.isT a x d 2 (p.cA "BadImage")))) (zB (zQ (zab (zg 3) (zeD p.isT a x d 2 (p.cA "BadNumber")))) (zB (zQ (zab (zg 3) (zeD p.isT a x d 2 (p.cA "BadState")))) (zB (zQ (zab (zg 3) (zeD p.isT a x d 2 (p.cA "BadBatch")))) (zB (zQ (zab (zg 3) (zeD p.isT a x d 2 (p.cA "TooMany")))) (zB (zJ (zaf (zb (aC (.str ("shape" : Str))) (zb (aC (.str ("image" : Str))) (zb (aC (.str ("number" : Str))) (zb (aC (.str ("state" : Str))) (zb (aC (.str ("batch" : Str))) (zb (aC (.str ("many" : Str))) (zm)))))))) (aN 4)) (zB (zJ (aIf (zM (aOp zbV (zjC (zg 3) (aC (.bl true))) (aC (.int 1)))) (aOp zap (zg 4) (zbM (zg 3) (aC (.bl true)))) (aC (.str ("other" : Str)))) (aN 1)) (zB (zJ (aIf (zM (aOp zbV (zg 1) (aC (.str ("image" : Str))))) (zE (zb (aC (.str ("image" : Str))) (zb (zkm p.fld a x d 2 "index") (zm)))) (zg 1)) (aN 1)) (zB (zJ (aIf (zM (aOp zbV (zg 1) (aC (.str ("batch" : Str))))) (zE (zb (aC (.str ("batch" : Str))) (zb (zkm p.fld a x d 2 "index") (zm)))) (zg 1)) (aN 1)) (zJ (aIf (zM (aOp zbV (zg 1) (aC (.str ("many" : Str))))) (zE (zb (aC (.str ("many" : Str))) (zb (zkm p.fld a x d 2 "most") (zm)))) (zg 1)) (aN 1)))))))))))))) (zbs p)
def zdb (p : Pm) : AS := zB (zJ (aC .non) (aN 1)) (zfE p)
def z8 (p : Pm) : ASp := aDef 5 (zdb p)
def zfR : AS := zP (zE (zb (aOp zR (aC (.int 1)) (aCall 2 zbZ (zb (zg 0) (zb (aC (.int 4)) (zm))))) (zb (aOp zR (aC (.int 2)) (aCall 2 zbZ (zb (zg 0) (zb (aC (.int 5)) (zm))))) (zm))))
def zdF : ASp := aDef 1 (zfR)
def zfS : AS := zP (aOp zaj (zE (zb (aOp zaj (zE (zb (aC (.int 0)) (zm))) (aC (.int 128))) (zm))) (aOp zR (aOp zR (aC (.int 2)) (aOp zap (zg 0) (aC (.int 0)))) (aOp zap (zg 0) (aC (.int 1)))))
def zdG : ASp := aDef 1 (zfS)
def zdC : AS := zB (zJ (aOp zR (zE (zb (aOp zau (aCB zbR (zb (zg 0) (zm))) (aC (.int 256))) (zm))) (zg 2)) (aN 2)) (zJ (aOp zad (zg 0) (aC (.int 256))) (aN 0))
def zfT : AS := zB (zJ (zE (zm)) (aN 2)) (zB (za0 (zbP (zb (zg 1) (zm))) (aN 3) (zdC)) (zP (zg 2)))
def zcj : ASp := aDef 4 (zfT)
def zdo : AS := zB (zJ (aOp zan (aOp zad (zg 1) (aC (.int 256))) (zg 2)) (aN 3)) (zB (zJ (aOp zan (zg 3) (aOp zad (zg 3) (aC (.int 16)))) (aN 3)) (zJ (aOp zan (aOp zan (aOp zan (aOp zau (aCB zbR (zb (aOp zaj (zg 1) (aC (.int 256))) (zm))) (aC (.int 65536))) (aOp zau (aCB zbR (zb (aOp zaj (zg 3) (aC (.int 4096))) (zm))) (aC (.int 65536)))) (aOp zaj (zg 3) (aC (.int 32)))) (zg 3)) (aN 1)))
def zhC : AS := zB (zJ (aC (.int 0)) (aN 1)) (zB (za0 (zas (zg 0)) (aN 2) (zdo)) (zP (zg 1)))
def zeq : ASp := aDef 4 (zhC)
def zeI : AS := zP (aOp zR (aOp zR (zg 10) (aCall 2 zcj (zb (aCall 1 zeq (zb (zg 10) (zm))) (zb (aC (.int 2)) (zm))))) (aSl rSlA (zg 10) (zaR) (aPt (aC (.int 4)))))
def zeJ : AS := zB (zJ (aOp zR (zg 10) (aOp zaj (zE (zb (aC (.int 0)) (zm))) (aOp zae (aC (.int 122)) (aCB zah (zb (zg 10) (zm)))))) (aN 10)) (zeI)
def zgA : AS := zB (zJ (aOp zR (aOp zR (aOp zR (aOp zR (zg 10) (aCall 2 zcj (zb (zg 5) (zb (aC (.int 4)) (zm))))) (aCall 2 zcj (zb (zg 6) (zb (aC (.int 4)) (zm))))) (aCall 2 zcj (zb (zg 7) (zb (aC (.int 2)) (zm))))) (zg 8)) (aN 10)) (zeJ)
def zeK : AS := zB (zJ (aOp zR (aCall 2 zcj (zb (zg 0) (zb (aC (.int 4)) (zm)))) (zE (zb (zg 9) (zb (zg 3) (zb (zg 4) (zb (aCB zah (zb (zg 8) (zm))) (zm))))))) (aN 10)) (zgA)
def zgB : AS := zB (zJ (aOp zR (zbM (zaf (zb (aC (.str ("part" : Str))) (zb (aC (.str ("page" : Str))) (zb (aC (.str ("head" : Str))) (zb (aC (.str ("blank" : Str))) (zm)))))) (zg 2)) (aC (.int 1))) (aN 9)) (zeK)
def zfU : AS := zB (zJ (zg 1) (aTT 7 (zG (aN 2) (zG (aN 3) (zG (aN 4) (zG (aN 5) (zG (aN 6) (zG (aN 7) (zG (aN 8) (zY)))))))))) (zgB)
def zdH : ASp := aDef 11 (zfU)
def zgC (p : Pm) : AS := zP (aOp zbV (aCall 1 (z8 p) (zb (aOp zap (aCall 2 (zbI p) (zb (zE (zb (zE (zm)) (zb (zE (zm)) (zm)))) (zb (zg 11) (zm)))) (aC (.int 7))) (zm))) (zE (zb (aC (.str ("batch" : Str))) (zb (zg 12) (zm)))))
def zgD (p : Pm) : AS := zB (zJ (aCall 2 zbX (zb (zg 1) (zb (aOp zR (zg 15) (zaf (zb (zE (zb (zE (zb (zE (zb (aC (.int 0)) (zb (zE (zm)) (zm)))) (zb (zE (zb (aC (.int 1)) (zb (zE (zm)) (zm)))) (zb (zE (zb (aC (.int 2)) (zb (aOp zaj (zE (zb (aC (.int 1)) (zm))) (aC (.int 97))) (zm)))) (zm))))) (zb (aC (.int 2)) (zm)))) (zb (zE (zb (zE (zb (zE (zb (aOp zae (aC (.int 0)) (aC (.int 1))) (zb (zE (zm)) (zm)))) (zm))) (zb (aC (.int 0)) (zm)))) (zm))))) (zm)))) (aTT 2 (zG (aN 11) (zG (aN 12) (zY))))) (zgC p)
def zgE (p : Pm) : AS := zB (zJ (aOp zR (zg 15) (zaf (zb (zE (zb (zE (zb (zE (zb (aC (.int 0)) (zb (zE (zb (aC (.int 256)) (zm))) (zm)))) (zm))) (zb (aC (.int 0)) (zm)))) (zb (zE (zb (zE (zb (zE (zb (aC (.int 64)) (zb (zE (zm)) (zm)))) (zm))) (zb (aC (.int 0)) (zm)))) (zb (zE (zb (zE (zb (zE (zb (aC (.bl true)) (zb (zE (zm)) (zm)))) (zm))) (zb (aC (.int 0)) (zm)))) (zb (zE (zb (zE (zb (zE (zb (aC (.int 0)) (zb (zE (zm)) (zm)))) (zb (zE (zb (aC (.int 2)) (zb (zE (zm)) (zm)))) (zm)))) (zb (aC (.int 1)) (zm)))) (zb (zE (zb (zE (zb (zE (zb (aC (.int 0)) (zm))) (zm))) (zb (aC (.int 0)) (zm)))) (zm)))))))) (aN 15)) (zgD p)
def zix (p : Pm) : AS := zB (zJ (zaf (zb (zE (zb (aC .non) (zb (aC .non) (zm)))) (zb (zE (zb (zE (zm)) (zb (aC .non) (zm)))) (zb (zE (zb (zaf (zb (zE (zb (aC (.int 0)) (zb (zE (zm)) (zm)))) (zm))) (zb (aC .non) (zm)))) (zb (zE (zb (zE (zb (aC (.int 5)) (zm))) (zb (aC (.int 0)) (zm)))) (zb (zE (zb (zE (zb (zE (zb (aC (.int 0)) (zb (zE (zm)) (zm)))) (zb (zE (zb (aC (.int 0)) (zb (zE (zm)) (zm)))) (zm)))) (zb (aC (.int 1)) (zm)))) (zb (zE (zb (zE (zb (zE (zb (aC (.int 1)) (zb (zE (zm)) (zm)))) (zb (zE (zb (aC (.int 0)) (zb (zE (zm)) (zm)))) (zm)))) (zb (aC (.int 1)) (zm)))) (zm)))))))) (aN 15)) (zgE p)
def ziy (p : Pm) : AS := zB (zaa (zM (aOp zcv (aCall 1 (z8 p) (zb (aOp zap (aCall 2 (zbI p) (zb (zg 14) (zb (aC .non) (zm)))) (aC (.int 7))) (zm))) (aC (.str ("state" : Str))))) (zP (aC (.bl false))) (zU)) (zix p)
def ziz (p : Pm) : AS := zB (zJ (aCall 2 zbX (zb (zg 1) (zb (zaf (zb (aC .non) (zb (zE (zm)) (zb (zaf (zb (zE (zm)) (zm))) (zb (zE (zb (aC .non) (zm))) (zb (zE (zb (zE (zb (aC (.int 256)) (zm))) (zm))) (zb (aOp zaj (zE (zb (zE (zm)) (zm))) (aC (.int 65))) (zb (zE (zb (aOp zaj (zE (zb (aC (.int 0)) (zm))) (aC (.int 97))) (zm))) (zb (aC (.str ("ab" : Str))) (zb (zmR) (zb (zE (zb (aC (.bl true)) (zm))) (zm)))))))))))) (zm)))) (aN 14)) (ziy p)
def ziA (p : Pm) : AS := zB (zaa (zM (aOp zcv (aLc (zaE (aSl rSlA (aCall 2 (zbI p) (zb (zg 4) (zb (zg 13) (zm)))) (aPt (aC (.int 4))) (aPt (aC (.int 7))))) (aN 3) (zaS) (aCall 1 (z8 p) (zb (zg 3) (zm))) [3]) (aOp zR (aOp zaj (zaf (zb (zE (zb (aC (.str ("many" : Str))) (zb (aOp zae (aOp zaF (aC (.int 2)) (aC (.int 32))) (aC (.int 1))) (zm)))) (zm))) (aC (.int 2))) (zaf (zb (aC .non) (zm)))))) (zP (aC (.bl false))) (zU)) (ziz p)
def ziB (p : Pm) : AS := zB (zJ (aOp zR (zE (zb (zg 13) (zm))) (aSl rSlA (zg 7) (aPt (aC (.int 1))) (zaR))) (aN 13)) (ziA p)
def ziC (p : Pm) : AS := zB (zJ (aCall 2 zdH (zb (aOp zae (aOp zaF (aC (.int 2)) (aC (.int 32))) (aC (.int 1))) (zb (zE (zb (aC (.str ("part" : Str))) (zb (aC (.int 0)) (zb (aC (.int 1)) (zb (aOp zae (aOp zaF (aC (.int 2)) (aC (.int 32))) (aC (.int 1))) (zb (aC (.int 1)) (zb (aC (.int 0)) (zb (zE (zm)) (zm))))))))) (zm)))) (aN 13)) (ziB p)
def ziD (p : Pm) : AS := zB (zaa (zM (aOp zcv (aLc (zaE (aSl rSlA (aCall 2 (zbI p) (zb (zg 4) (zb (zg 11) (zm)))) (aPt (aC (.int 4))) (aPt (aC (.int 7))))) (aN 3) (zaS) (aCall 1 (z8 p) (zb (zg 3) (zm))) [3]) (aOp zaj (zaf (zb (zE (zb (aC (.str ("image" : Str))) (zb (zg 12) (zm)))) (zm))) (aC (.int 3))))) (zP (aC (.bl false))) (zU)) (ziC p)
def zhh (p : Pm) : AS := zB (zJ (aCall 2 zbX (zb (zg 1) (zb (aOp zR (zg 10) (aOp zaj (aSl rSlA (zg 10) (aPt (aC (.int 4))) (zaR)) (aC (.int 4)))) (zm)))) (aTT 2 (zG (aN 11) (zG (aN 12) (zY))))) (ziD p)
def zmg (p : Pm) : AS := zB (zQ (zab (zg 10) (zE (zb (aOp zR (aOp zR (aSl rSlA (zg 7) (zaR) (aPt (zg 8))) (zE (zb (zg 9) (zm)))) (aSl rSlA (zg 7) (aPt (aOp zR (zg 8) (aC (.int 1)))) (zaR))) (zb (zg 8) (zm)))))) (zhh p)
def zhi (p : Pm) : AS := zB (zJ (zaf (zb (zE (zb (aC .non) (zb (aC .non) (zm)))) (zb (zE (zb (aCB zak (zb (zg 7) (zm))) (zb (aC .non) (zm)))) (zb (zE (zb (aSl rSlA (zg 7) (aPt (aC (.int 1))) (zaR)) (zb (aC .non) (zm)))) (zb (zE (zb (aOp zR (zg 7) (aSl rSlA (zg 7) (zaR) (aPt (aC (.int 1))))) (zb (aC .non) (zm)))) (zm)))))) (aN 10)) (zmg p)
def zhj (p : Pm) : AS := zB (zJ (aCall 2 zbX (zb (zg 1) (zb (zaf (zb (aC .non) (zb (aOp zaj (zE (zb (aC (.int 0)) (zm))) (aC (.int 127))) (zb (aOp zaj (zaf (zb (aC (.int 0)) (zm))) (aC (.int 128))) (zb (aOp zR (aOp zaj (zE (zb (aC (.int 0)) (zm))) (aC (.int 127))) (zE (zb (aC (.int 256)) (zm)))) (zb (aC (.str ("0" : Str))) (zb (aOp zR (zE (zb (aC (.bl true)) (zm))) (aOp zaj (zE (zb (aC (.int 0)) (zm))) (aC (.int 127)))) (zm)))))))) (zm)))) (aN 9)) (zhi p)
def zhk (p : Pm) : AS := zB (zJ (aCall 2 zbZ (zb (zg 1) (zb (aCB zah (zb (zg 7) (zm))) (zm)))) (aN 8)) (zhj p)
def zhl (p : Pm) : AS := zB (zJ (aCall 1 zdG (zb (zg 4) (zm))) (aN 7)) (zhk p)
def zhm (p : Pm) : AS := zB (zaa (zM (aOp zcv (aLc (zaE (zg 6)) (aN 3) (zaS) (aCall 1 (z8 p) (zb (zg 3) (zm))) [3]) (aOp zaj (zaf (zb (aC (.str ("number" : Str))) (zm))) (aC (.int 2))))) (zP (aC (.bl false))) (zU)) (zhl p)
def zhn (p : Pm) : AS := zB (zJ (aOp zR (aSl rSlA (aCall 2 (zbI p) (zb (zg 4) (zb (aOp zap (zg 4) (aC (.int 0))) (zm)))) (aPt (aC (.int 2))) (aPt (aC (.int 3)))) (aSl rSlA (aCall 2 (zbI p) (zb (zg 4) (zb (aOp zap (zg 4) (aC (.int 1))) (zm)))) (aPt (aC (.int 3))) (aPt (aC (.int 4))))) (aN 6)) (zhm p)
def zfF (p : Pm) : AS := zB (zaa (zM (aOp zcv (aLc (zaE (aSl rSlA (aCall 2 (zbI p) (zb (zg 4) (zb (zg 5) (zm)))) (aPt (aC (.int 2))) (aPt (aC (.int 4))))) (aN 3) (zaS) (aCall 1 (z8 p) (zb (zg 3) (zm))) [3]) (aOp zaj (zaf (zb (aC (.str ("number" : Str))) (zm))) (aC (.int 2))))) (zP (aC (.bl false))) (zU)) (zhn p)
def zho (p : Pm) : AS := zB (zJ (aCall 2 zbX (zb (zg 1) (zb (zaf (zb (aC .non) (zb (aC (.bl true)) (zb (aOp zae (aC (.int 0)) (aC (.int 1))) (zb (aC (.int 64)) (zb (aC (.str ("0" : Str))) (zb (zE (zb (aC (.int 0)) (zm))) (zm)))))))) (zm)))) (aN 5)) (zfF p)
def zhp (p : Pm) : AS := zB (zJ (aCall 1 zdF (zb (zg 1) (zm))) (aN 4)) (zho p)
def zhq (p : Pm) : AS := zB (zaa (zM (aOp zcv (aLc (zaE (aSl rSlA (aCall 2 (zbI p) (zb (zg 2) (zb (aC .non) (zm)))) (zaR) (aPt (aC (.int 7))))) (aN 3) (zaS) (aCall 1 (z8 p) (zb (zg 3) (zm))) [3]) (aOp zaj (zaf (zb (aC (.str ("shape" : Str))) (zm))) (aC (.int 7))))) (zP (aC (.bl false))) (zU)) (zhp p)
def zjF (p : Pm) : AS := zB (zJ (aCall 2 zbX (zb (zg 1) (zb (zg 2) (zm)))) (aN 2)) (zhq p)
def zhr (p : Pm) : AS := zB (zJ (zaf (zb (aC .non) (zb (zE (zm)) (zb (zE (zb (aC (.int 1)) (zm))) (zb (zE (zb (aC (.int 0)) (zb (aC (.int 2)) (zm)))) (zb (zE (zb (aC (.int 65)) (zb (aC (.int 2)) (zm)))) (zb (zE (zb (aC (.int 1)) (zb (aC (.int 1)) (zm)))) (zb (zE (zb (aC (.int 1)) (zb (aC (.int 65)) (zm)))) (zb (zE (zb (aC (.bl true)) (zb (aC (.int 2)) (zm)))) (zb (zE (zb (aC (.int 1)) (zb (aC (.str ("2" : Str))) (zm)))) (zb (zaf (zb (aC (.int 1)) (zb (aC (.int 2)) (zm)))) (zb (zE (zb (aC (.int 1)) (zb (aC (.int 2)) (zb (aC (.int 3)) (zm))))) (zb (aC (.str ("12" : Str))) (zb (zmR) (zm))))))))))))))) (aN 2)) (zjF p)
def zoT (p : Pm) : AS := zB (zJ (zaf (zb (zg 0) (zb (aC (.int 0)) (zb (aC (.int 9012)) (zb (aC (.int 0)) (zm)))))) (aN 1)) (zhr p)
def zmU (p : Pm) : ASp := aDef 16 (zoT p)
theorem zk2 {a0 a1 : D} {m : M} {Q : PQ} {R : PX} (h : zfN { nx := fun _ m' => ∃ m2, Sub m2 m' ∧ Q .non m2, rt := fun d m' => ∃ m2, Sub m2 m' ∧ Q d m2, xe := fun _ x m' => ∃ m2, Sub m2 m' ∧ R x m2 } [some a0, some a1, none, none] m) : zbZ [a0, a1] m Q R := h
theorem zlD {a0 a1 : D} {m : M} {Q : PQ} {R : PX} (h : zgu { nx := fun _ m' => ∃ m2, Sub m2 m' ∧ Q .non m2, rt := fun d m' => ∃ m2, Sub m2 m' ∧ Q d m2, xe := fun _ x m' => ∃ m2, Sub m2 m' ∧ R x m2 } [some a0, some a1] m) : zbX [a0, a1] m Q R := h
theorem ze8 {a0 a1 a2 : D} {m : M} {Q : PQ} {R : PX} (h : zdE { nx := fun _ m' => ∃ m2, Sub m2 m' ∧ Q .non m2, rt := fun d m' => ∃ m2, Sub m2 m' ∧ Q d m2, xe := fun _ x m' => ∃ m2, Sub m2 m' ∧ R x m2 } [some a0, some a1, some a2] m) : zaq [a0, a1, a2] m Q R := h
theorem zhS {a0 a1 a2 : D} {m : M} {Q : PQ} {R : PX} (h : zeU { nx := fun _ m' => ∃ m2, Sub m2 m' ∧ Q .non m2, rt := fun d m' => ∃ m2, Sub m2 m' ∧ Q d m2, xe := fun _ x m' => ∃ m2, Sub m2 m' ∧ R x m2 } [some a0, some a1, some a2] m) : za3 [a0, a1, a2] m Q R := h
theorem zhs {p : Pm} {a0 : D} {m : M} {Q : PQ} {R : PX} (h : zes p { nx := fun _ m' => ∃ m2, Sub m2 m' ∧ Q .non m2, rt := fun d m' => ∃ m2, Sub m2 m' ∧ Q d m2, xe := fun _ x m' => ∃ m2, Sub m2 m' ∧ R x m2 } [some a0, none, none] m) : zba p [a0] m Q R := h
theorem zjf {a0 : D} {m : M} {Q : PQ} {R : PX} (h : zek { nx := fun _ m' => ∃ m2, Sub m2 m' ∧ Q .non m2, rt := fun d m' => ∃ m2, Sub m2 m' ∧ Q d m2, xe := fun _ x m' => ∃ m2, Sub m2 m' ∧ R x m2 } [some a0, none, none] m) : zcb [a0] m Q R := h
theorem zoU {p : Pm} {a0 : D} {m : M} {Q : PQ} {R : PX} (h : zko p { nx := fun _ m' => ∃ m2, Sub m2 m' ∧ Q .non m2, rt := fun d m' => ∃ m2, Sub m2 m' ∧ Q d m2, xe := fun _ x m' => ∃ m2, Sub m2 m' ∧ R x m2 } [some a0] m) : zeE p [a0] m Q R := h
theorem zlE {p : Pm} {a0 : D} {m : M} {Q : PQ} {R : PX} (h : zgv p { nx := fun _ m' => ∃ m2, Sub m2 m' ∧ Q .non m2, rt := fun d m' => ∃ m2, Sub m2 m' ∧ Q d m2, xe := fun _ x m' => ∃ m2, Sub m2 m' ∧ R x m2 } [some a0] m) : zeV p [a0] m Q R := h
theorem zhT {p : Pm} {a0 a1 : D} {m : M} {Q : PQ} {R : PX} (h : zeX p { nx := fun _ m' => ∃ m2, Sub m2 m' ∧ Q .non m2, rt := fun d m' => ∃ m2, Sub m2 m' ∧ Q d m2, xe := fun _ x m' => ∃ m2, Sub m2 m' ∧ R x m2 } [some a0, some a1] m) : zeY p [a0, a1] m Q R := h
theorem zhU {p : Pm} {a0 a1 : D} {m : M} {Q : PQ} {R : PX} (h : ze0 p { nx := fun _ m' => ∃ m2, Sub m2 m' ∧ Q .non m2, rt := fun d m' => ∃ m2, Sub m2 m' ∧ Q d m2, xe := fun _ x m' => ∃ m2, Sub m2 m' ∧ R x m2 } [some a0, some a1] m) : ze1 p [a0, a1] m Q R := h
theorem ziZ {a0 a1 a2 : D} {m : M} {Q : PQ} {R : PX} (h : zfx { nx := fun _ m' => ∃ m2, Sub m2 m' ∧ Q .non m2, rt := fun d m' => ∃ m2, Sub m2 m' ∧ Q d m2, xe := fun _ x m' => ∃ m2, Sub m2 m' ∧ R x m2 } [some a0, some a1, some a2, none] m) : zcN [a0, a1, a2] m Q R := h
theorem zjG {a0 : D} {m : M} {Q : PQ} {R : PX} (h : zge { nx := fun _ m' => ∃ m2, Sub m2 m' ∧ Q .non m2, rt := fun d m' => ∃ m2, Sub m2 m' ∧ Q d m2, xe := fun _ x m' => ∃ m2, Sub m2 m' ∧ R x m2 } [some a0] m) : zee [a0] m Q R := h
theorem zht {p : Pm} {a0 a1 : D} {m : M} {Q : PQ} {R : PX} (h : zet p { nx := fun _ m' => ∃ m2, Sub m2 m' ∧ Q .non m2, rt := fun d m' => ∃ m2, Sub m2 m' ∧ Q d m2, xe := fun _ x m' => ∃ m2, Sub m2 m' ∧ R x m2 } [some a0, some a1, none, none, none] m) : zc3 p [a0, a1] m Q R := h
theorem zfn {p : Pm} {a0 a1 : D} {m : M} {Q : PQ} {R : PX} (h : zd7 p { nx := fun _ m' => ∃ m2, Sub m2 m' ∧ Q .non m2, rt := fun d m' => ∃ m2, Sub m2 m' ∧ Q d m2, xe := fun _ x m' => ∃ m2, Sub m2 m' ∧ R x m2 } [some a0, some a1] m) : zch p [a0, a1] m Q R := h
theorem zlF {a0 a1 a2 : D} {m : M} {Q : PQ} {R : PX} (h : zgw { nx := fun _ m' => ∃ m2, Sub m2 m' ∧ Q .non m2, rt := fun d m' => ∃ m2, Sub m2 m' ∧ Q d m2, xe := fun _ x m' => ∃ m2, Sub m2 m' ∧ R x m2 } [some a0, some a1, some a2, none, none] m) : zbH [a0, a1, a2] m Q R := h
theorem zk3 {a0 : D} {m : M} {Q : PQ} {R : PX} (h : zfO { nx := fun _ m' => ∃ m2, Sub m2 m' ∧ Q .non m2, rt := fun d m' => ∃ m2, Sub m2 m' ∧ Q d m2, xe := fun _ x m' => ∃ m2, Sub m2 m' ∧ R x m2 } [some a0] m) : zcI [a0] m Q R := h
theorem zkp {a0 : D} {m : M} {Q : PQ} {R : PX} (h : zfk { nx := fun _ m' => ∃ m2, Sub m2 m' ∧ Q .non m2, rt := fun d m' => ∃ m2, Sub m2 m' ∧ Q d m2, xe := fun _ x m' => ∃ m2, Sub m2 m' ∧ R x m2 } [some a0, none] m) : zdm [a0] m Q R := h
theorem zhV {p : Pm} {a0 a1 : D} {m : M} {Q : PQ} {R : PX} (h : ze2 p { nx := fun _ m' => ∃ m2, Sub m2 m' ∧ Q .non m2, rt := fun d m' => ∃ m2, Sub m2 m' ∧ Q d m2, xe := fun _ x m' => ∃ m2, Sub m2 m' ∧ R x m2 } [some a0, some a1, none] m) : ze3 p [a0, a1] m Q R := h
theorem znR {a0 : D} {m : M} {Q : PQ} {R : PX} (h : zjD { nx := fun _ m' => ∃ m2, Sub m2 m' ∧ Q .non m2, rt := fun d m' => ∃ m2, Sub m2 m' ∧ Q d m2, xe := fun _ x m' => ∃ m2, Sub m2 m' ∧ R x m2 } [some a0, none, none, none] m) : zfD [a0] m Q R := h
theorem zjH {a0 : D} {m : M} {Q : PQ} {R : PX} (h : zgf { nx := fun _ m' => ∃ m2, Sub m2 m' ∧ Q .non m2, rt := fun d m' => ∃ m2, Sub m2 m' ∧ Q d m2, xe := fun _ x m' => ∃ m2, Sub m2 m' ∧ R x m2 } [some a0, none, none, none] m) : zda [a0] m Q R := h
theorem zhW {a0 : D} {m : M} {Q : PQ} {R : PX} (h : ze5 { nx := fun _ m' => ∃ m2, Sub m2 m' ∧ Q .non m2, rt := fun d m' => ∃ m2, Sub m2 m' ∧ Q d m2, xe := fun _ x m' => ∃ m2, Sub m2 m' ∧ R x m2 } [some a0, none] m) : zcQ [a0] m Q R := h
theorem zk4 {a0 : D} {m : M} {Q : PQ} {R : PX} (h : zfP { nx := fun _ m' => ∃ m2, Sub m2 m' ∧ Q .non m2, rt := fun d m' => ∃ m2, Sub m2 m' ∧ Q d m2, xe := fun _ x m' => ∃ m2, Sub m2 m' ∧ R x m2 } [some a0, none] m) : zcK [a0] m Q R := h
theorem zkq {a0 : D} {m : M} {Q : PQ} {R : PX} (h : zfl { nx := fun _ m' => ∃ m2, Sub m2 m' ∧ Q .non m2, rt := fun d m' => ∃ m2, Sub m2 m' ∧ Q d m2, xe := fun _ x m' => ∃ m2, Sub m2 m' ∧ R x m2 } [some a0, none, none] m) : zdn [a0] m Q R := h
theorem zhX {p : Pm} {a0 a1 : D} {m : M} {Q : PQ} {R : PX} (h : ze6 p { nx := fun _ m' => ∃ m2, Sub m2 m' ∧ Q .non m2, rt := fun d m' => ∃ m2, Sub m2 m' ∧ Q d m2, xe := fun _ x m' => ∃ m2, Sub m2 m' ∧ R x m2 } [some a0, some a1, none] m) : ze7 p [a0, a1] m Q R := h
theorem zhY {a0 : D} {m : M} {Q : PQ} {R : PX} (h : zd1 { nx := fun _ m' => ∃ m2, Sub m2 m' ∧ Q .non m2, rt := fun d m' => ∃ m2, Sub m2 m' ∧ Q d m2, xe := fun _ x m' => ∃ m2, Sub m2 m' ∧ R x m2 } [some a0] m) : zcB [a0] m Q R := h
theorem zml {a0 a1 : D} {m : M} {Q : PQ} {R : PX} (h : zhB { nx := fun _ m' => ∃ m2, Sub m2 m' ∧ Q .non m2, rt := fun d m' => ∃ m2, Sub m2 m' ∧ Q d m2, xe := fun _ x m' => ∃ m2, Sub m2 m' ∧ R x m2 } [some a0, some a1] m) : zep [a0, a1] m Q R := h
theorem zlG {a0 a1 : D} {m : M} {Q : PQ} {R : PX} (h : zgx { nx := fun _ m' => ∃ m2, Sub m2 m' ∧ Q .non m2, rt := fun d m' => ∃ m2, Sub m2 m' ∧ Q d m2, xe := fun _ x m' => ∃ m2, Sub m2 m' ∧ R x m2 } [some a0, some a1, none, none] m) : zd9 [a0, a1] m Q R := h
theorem zmh {p : Pm} {a0 a1 : D} {m : M} {Q : PQ} {R : PX} (h : zj0 p { nx := fun _ m' => ∃ m2, Sub m2 m' ∧ Q .non m2, rt := fun d m' => ∃ m2, Sub m2 m' ∧ Q d m2, xe := fun _ x m' => ∃ m2, Sub m2 m' ∧ R x m2 } [some a0, some a1] m) : zj1 p [a0, a1] m Q R := h
theorem zka {a0 : D} {m : M} {Q : PQ} {R : PX} (h : zhe { nx := fun _ m' => ∃ m2, Sub m2 m' ∧ Q .non m2, rt := fun d m' => ∃ m2, Sub m2 m' ∧ Q d m2, xe := fun _ x m' => ∃ m2, Sub m2 m' ∧ R x m2 } [some a0] m) : zeM [a0] m Q R := h
theorem zjI {p : Pm} {a0 : D} {m : M} {Q : PQ} {R : PX} (h : zgg p { nx := fun _ m' => ∃ m2, Sub m2 m' ∧ Q .non m2, rt := fun d m' => ∃ m2, Sub m2 m' ∧ Q d m2, xe := fun _ x m' => ∃ m2, Sub m2 m' ∧ R x m2 } [some a0] m) : zef p [a0] m Q R := h
theorem zk5 {p : Pm} {a0 : D} {m : M} {Q : PQ} {R : PX} (h : zfQ p { nx := fun _ m' => ∃ m2, Sub m2 m' ∧ Q .non m2, rt := fun d m' => ∃ m2, Sub m2 m' ∧ Q d m2, xe := fun _ x m' => ∃ m2, Sub m2 m' ∧ R x m2 } [some a0, none, none, none, none, none] m) : zew p [a0] m Q R := h
theorem zjJ {p : Pm} {a0 a1 : D} {m : M} {Q : PQ} {R : PX} (h : zeH p { nx := fun _ m' => ∃ m2, Sub m2 m' ∧ Q .non m2, rt := fun d m' => ∃ m2, Sub m2 m' ∧ Q d m2, xe := fun _ x m' => ∃ m2, Sub m2 m' ∧ R x m2 } [some a0, some a1, none, none, none] m) : zcR p [a0, a1] m Q R := h
theorem zkb {p : Pm} {a0 a1 : D} {m : M} {Q : PQ} {R : PX} (h : zhf p { nx := fun _ m' => ∃ m2, Sub m2 m' ∧ Q .non m2, rt := fun d m' => ∃ m2, Sub m2 m' ∧ Q d m2, xe := fun _ x m' => ∃ m2, Sub m2 m' ∧ R x m2 } [some a0, some a1] m) : zhg p [a0, a1] m Q R := h
theorem zel {p : Pm} {a0 : D} {m : M} {Q : PQ} {R : PX} (h : zdb p { nx := fun _ m' => ∃ m2, Sub m2 m' ∧ Q .non m2, rt := fun d m' => ∃ m2, Sub m2 m' ∧ Q d m2, xe := fun _ x m' => ∃ m2, Sub m2 m' ∧ R x m2 } [some a0, none, none, none, none] m) : z8 p [a0] m Q R := h
theorem zk6 {a0 : D} {m : M} {Q : PQ} {R : PX} (h : zfR { nx := fun _ m' => ∃ m2, Sub m2 m' ∧ Q .non m2, rt := fun d m' => ∃ m2, Sub m2 m' ∧ Q d m2, xe := fun _ x m' => ∃ m2, Sub m2 m' ∧ R x m2 } [some a0] m) : zdF [a0] m Q R := h
theorem zk7 {a0 : D} {m : M} {Q : PQ} {R : PX} (h : zfS { nx := fun _ m' => ∃ m2, Sub m2 m' ∧ Q .non m2, rt := fun d m' => ∃ m2, Sub m2 m' ∧ Q d m2, xe := fun _ x m' => ∃ m2, Sub m2 m' ∧ R x m2 } [some a0] m) : zdG [a0] m Q R := h
theorem zk8 {a0 a1 : D} {m : M} {Q : PQ} {R : PX} (h : zfT { nx := fun _ m' => ∃ m2, Sub m2 m' ∧ Q .non m2, rt := fun d m' => ∃ m2, Sub m2 m' ∧ Q d m2, xe := fun _ x m' => ∃ m2, Sub m2 m' ∧ R x m2 } [some a0, some a1, none, none] m) : zcj [a0, a1] m Q R := h
theorem zmm {a0 : D} {m : M} {Q : PQ} {R : PX} (h : zhC { nx := fun _ m' => ∃ m2, Sub m2 m' ∧ Q .non m2, rt := fun d m' => ∃ m2, Sub m2 m' ∧ Q d m2, xe := fun _ x m' => ∃ m2, Sub m2 m' ∧ R x m2 } [some a0, none, none, none] m) : zeq [a0] m Q R := h
theorem zk9 {a0 a1 : D} {m : M} {Q : PQ} {R : PX} (h : zfU { nx := fun _ m' => ∃ m2, Sub m2 m' ∧ Q .non m2, rt := fun d m' => ∃ m2, Sub m2 m' ∧ Q d m2, xe := fun _ x m' => ∃ m2, Sub m2 m' ∧ R x m2 } [some a0, some a1, none, none, none, none, none, none, none, none, none] m) : zdH [a0, a1] m Q R := h
theorem zrh {p : Pm} {a0 : D} {m : M} {Q : PQ} {R : PX} (h : zoT p { nx := fun _ m' => ∃ m2, Sub m2 m' ∧ Q .non m2, rt := fun d m' => ∃ m2, Sub m2 m' ∧ Q d m2, xe := fun _ x m' => ∃ m2, Sub m2 m' ∧ R x m2 } [some a0, none, none, none, none, none, none, none, none, none, none, none, none, none, none, none] m) : zmU p [a0] m Q R := h
def RowAt (ns : List Int) (m : M) (r : Addr) : Prop := ∃ i s k : Int, 0 ≤ i ∧ 0 ≤ s ∧ s < 2147483647 ∧ 0 ≤ k ∧ m r = some (.lst [.fls (ns.map .int), .int i, .int s, .int k])
def Ev (r : Addr) (m m' : M) : Prop := ∀ a o, a ≠ r → m a = some o → m' a = some o
theorem Ev.refl {r : Addr} (m : M) : Ev r m m := fun _ _ _ h => h
theorem Ev.trans {r : Addr} {m m1 m2 : M} (a : Ev r m m1) (b : Ev r m1 m2) : Ev r m m2 := fun x o n h => b x o n (a x o n h)
theorem Ev.set {r : Addr} {m : M} {o : O} : Ev r m (mset m r o) := fun x u n h => by rw [zaX n]; exact h
theorem Ev.new {r p : Addr} {m : M} {o : O} (h : m p = none) : Ev r m (mset m p o) := fun x u n e => by
  rw [zaX fun z => by rw [z, h] at e; cases e]; exact e
theorem RowAt.ne {ns : List Int} {m : M} {r p : Addr} (h : RowAt ns m r) (hp : m p = none) : p ≠ r := fun z => by
  obtain ⟨_, _, _, _, _, _, _, e⟩ := h
  rw [z, e] at hp
  cases hp
theorem RowAt.new {ns : List Int} {m : M} {r p : Addr} {o : O} (h : RowAt ns m r) (hp : m p = none) : RowAt ns (mset m p o) r := by
  have n := h.ne hp
  obtain ⟨i, s, k, a, b, c, d, e⟩ := h
  exact ⟨i, s, k, a, b, c, d, by rw [zaX (Ne.symm n)]; exact e⟩
theorem RowAt.put {ns : List Int} {m : M} {r p : Addr} {o : O} (h : RowAt ns m r) (n : p ≠ r) : RowAt ns (mset m p o) r := by
  obtain ⟨i, s, k, a, b, c, d, e⟩ := h
  exact ⟨i, s, k, a, b, c, d, by rw [zaX (Ne.symm n)]; exact e⟩
theorem zfG {ns : List Int} {m : M} {r : Addr} {i s k : Int} (hi : 0 ≤ i) (hs : 0 ≤ s) (hs2 : s < 2147483647) (hk : 0 ≤ k) : RowAt ns (mset m r (.lst [.fls (ns.map .int), .int i, .int s, .int k])) r := ⟨i, s, k, hi, hs, hs2, hk, zq⟩
theorem zri {ns : List Int} {i : Int} (h0 : 0 ≤ i) (h1 : i < ns.length) : ∃ z, z ∈ ns ∧ atI (ns.map D.int) i = some (.int z) := by
  rw [atI_nat h0 (by rw [List.length_map]; exact h1), List.getElem?_map]
  have hl : i.toNat < ns.length := by omega
  rw [List.getElem?_eq_getElem hl]
  exact ⟨_, List.getElem_mem hl, rfl⟩
theorem zsq {a : Int} {n : Nat} (h : a.natAbs < 2 ^ n) : a.natAbs.log2 < n ∨ n = 0 := by
  rcases Nat.eq_zero_or_pos a.natAbs with e | e
  · rw [e]
    rcases Nat.eq_zero_or_pos n with z | z
    · exact .inr z
    · exact .inl z
  · exact .inl ((Nat.log2_lt (by omega)).mpr h)
theorem zjK {a : Int} (h : a.natAbs < 2 ^ 63) : a.natAbs.log2 < 63 := by
  rcases zsq h with h | h
  · exact h
  · omega
theorem zlH {a b : Int} (h0 : 0 < b) (h : b < 2 ^ 63) : CDivW a b := ⟨h0, Nat.lt_trans (zjK (by omega)) (by decide)⟩
theorem zlI {a b : Int} (h : a.natAbs < 2 ^ 63) (h' : b.natAbs < 2 ^ 63) : CMulW a b := by
  have h1 := zjK h
  have h2 := zjK h'
  unfold CMulW
  omega
theorem taken {ns : List Int} {m : M} {r : Addr} {many : Int} {Q : PQ} {R : PX} (h : RowAt ns m r) (h0 : 0 < many) (hb : many < 2 ^ 63) (q : ∀ x m', 0 ≤ x → x < many → RowAt ns m' r → Ev r m m' → Q (.int x) m') : zbZ [.ref r, .int many] m Q R := by
  obtain ⟨i, s, k, hi, hs, hs2, hk, hm⟩ := h
  have h18 : (10 : Int) ^ (Int.toNat 18) = 1000000000000000000 := by decide
  refine zk2 ?_
  unfold zfN
  simp (config := {failIfUnchanged := false}) only [zB, zaa, zM, zdq, aOp, aUn, aCB, zg, aC, zb, zm, zcU, zJ, aN, zaG, zP, za4, zU, zaJ, zQ, zab, zE, zaf, zb8, zbO, aOr, zaI, zam, zb3, zaN, aIf, zac, aCall, zbl, za7, aSl, zaR, aPt, zai, zca, za0, zas, zaE, zbP, zb6, aTT, zG, zY, aLc, zaS, zb4, zb5, zaK, En.g, En.s, zap, zaB, zah, zdi, zbR, za5, zak, zc8, zcV, zR, zae, zaj, zad, zau, zaF, zaT, zaV, za1, zb9, zan, zbU, za2, zbu, zbQ, zc7, zb7, zct, zdr, zbt, zbV, zcv, eqA, D.isNon, Ab.rSlA, zat, En.x, z7, zq, zV, Option.map_some, List.length_cons, List.length_nil, Nat.zero_add, Nat.reduceAdd, true_and, and_true, decide_eq_true_eq, ite_true, ite_false, Bool.not_true, Bool.not_false, Bool.false_eq_true, if_true, if_false, List.append_assoc, List.cons_append, List.nil_append, at0, at1, at2, at3, at4, at5, ix0, ix1, ix2, ix3, List.set_cons_zero, List.set_cons_succ,l_of hm]
  refine zc2 (fun c => ?_) (fun c => ?_)
  · exact ⟨h0, zlH h0 hb, _, Sub.refl _, q _ _ (Int.emod_nonneg _ (by omega)) (Int.emod_lt_of_pos _ h0) (zfG hi hs hs2 (Int.ediv_nonneg hk (by omega))) Ev.set⟩
  · refine zc2 (fun c2 => ?_) (fun c2 => ?_)
    · exact ⟨zlI (by omega) (by decide), by decide, zlH (by decide) (by decide), h0, _, Sub.refl _, q _ _ (Int.emod_nonneg _ (by omega)) (Int.emod_lt_of_pos _ h0) (zfG (by omega) (by omega) (by omega) hk) Ev.set⟩
    · rw [List.length_map] at c2
      obtain ⟨z, hz, e⟩ := zri (ns := ns) (i := i + 1 - 1) (by omega) (by omega)
      rw [e]
      simp (config := {failIfUnchanged := false}) only [zB, zaa, zM, zdq, aOp, aUn, aCB, zg, aC, zb, zm, zcU, zJ, aN, zaG, zP, za4, zU, zaJ, zQ, zab, zE, zaf, zb8, zbO, aOr, zaI, zam, zb3, zaN, aIf, zac, aCall, zbl, za7, aSl, zaR, aPt, zai, zca, za0, zas, zaE, zbP, zb6, aTT, zG, zY, aLc, zaS, zb4, zb5, zaK, En.g, En.s, zap, zaB, zah, zdi, zbR, za5, zak, zc8, zcV, zR, zae, zaj, zad, zau, zaF, zaT, zaV, za1, zb9, zan, zbU, za2, zbu, zbQ, zc7, zb7, zct, zdr, zbt, zbV, zcv, eqA, D.isNon, Ab.rSlA, zat, En.x, z7, zq, zV, Option.map_some, List.length_cons, List.length_nil, Nat.zero_add, Nat.reduceAdd, true_and, and_true, decide_eq_true_eq, ite_true, ite_false, Bool.not_true, Bool.not_false, Bool.false_eq_true, if_true, if_false, List.append_assoc, List.cons_append, List.nil_append, at0, at1, at2, at3, at4, at5, ix0, ix1, ix2, ix3, List.set_cons_zero, List.set_cons_succ,true_and]
      refine ⟨zlI (by omega) (by decide), by decide, by unfold CPow; decide, zc2 (fun c3 => ⟨zlH h0 hb, h0, _, Sub.refl _, ?_⟩) (fun c3 => ⟨h0, _, Sub.refl _, ?_⟩)⟩
      · exact q _ _ (Int.emod_nonneg _ (by omega)) (Int.emod_lt_of_pos _ h0) (zfG (by omega) (by omega) (by omega) (Int.ediv_nonneg (by omega) (by omega))) Ev.set
      · exact q _ _ (Int.emod_nonneg _ (by omega)) (Int.emod_lt_of_pos _ h0) (zfG (by omega) (by omega) (by omega) hk) Ev.set
theorem pick {ns : List Int} {m : M} {r p : Addr} {ds : List D} {Q : PQ} {R : PX} (h : RowAt ns m r) (hp : m p = some (.lst ds)) (hn : p ≠ r) (h0 : 0 < ds.length) (hb : ds.length < 2 ^ 62) (q : ∀ d m', d ∈ ds → RowAt ns m' r → Ev r m m' → Q d m') : zbX [.ref r, .ref p] m Q R := by
  refine zlD ?_
  unfold zgu
  simp (config := {failIfUnchanged := false}) only [zB, zaa, zM, zdq, aOp, aUn, aCB, zg, aC, zb, zm, zcU, zJ, aN, zaG, zP, za4, zU, zaJ, zQ, zab, zE, zaf, zb8, zbO, aOr, zaI, zam, zb3, zaN, aIf, zac, aCall, zbl, za7, aSl, zaR, aPt, zai, zca, za0, zas, zaE, zbP, zb6, aTT, zG, zY, aLc, zaS, zb4, zb5, zaK, En.g, En.s, zap, zaB, zah, zdi, zbR, za5, zak, zc8, zcV, zR, zae, zaj, zad, zau, zaF, zaT, zaV, za1, zb9, zan, zbU, za2, zbu, zbQ, zc7, zb7, zct, zdr, zbt, zbV, zcv, eqA, D.isNon, Ab.rSlA, zat, En.x, z7, zq, zV, Option.map_some, List.length_cons, List.length_nil, Nat.zero_add, Nat.reduceAdd, true_and, and_true, decide_eq_true_eq, ite_true, ite_false, Bool.not_true, Bool.not_false, Bool.false_eq_true, if_true, if_false, List.append_assoc, List.cons_append, List.nil_append, at0, at1, at2, at3, at4, at5, ix0, ix1, ix2, ix3, List.set_cons_zero, List.set_cons_succ,l_of hp]
  refine taken h (by omega) (by omega) fun x m' h1 h2 h3 h4 => ?_
  rw [l_of (h4 p _ hn hp)]
  simp (config := {failIfUnchanged := false}) only [zB, zaa, zM, zdq, aOp, aUn, aCB, zg, aC, zb, zm, zcU, zJ, aN, zaG, zP, za4, zU, zaJ, zQ, zab, zE, zaf, zb8, zbO, aOr, zaI, zam, zb3, zaN, aIf, zac, aCall, zbl, za7, aSl, zaR, aPt, zai, zca, za0, zas, zaE, zbP, zb6, aTT, zG, zY, aLc, zaS, zb4, zb5, zaK, En.g, En.s, zap, zaB, zah, zdi, zbR, za5, zak, zc8, zcV, zR, zae, zaj, zad, zau, zaF, zaT, zaV, za1, zb9, zan, zbU, za2, zbu, zbQ, zc7, zb7, zct, zdr, zbt, zbV, zcv, eqA, D.isNon, Ab.rSlA, zat, En.x, z7, zq, zV, Option.map_some, List.length_cons, List.length_nil, Nat.zero_add, Nat.reduceAdd, true_and, and_true, decide_eq_true_eq, ite_true, ite_false, Bool.not_true, Bool.not_false, Bool.false_eq_true, if_true, if_false, List.append_assoc, List.cons_append, List.nil_append, at0, at1, at2, at3, at4, at5, ix0, ix1, ix2, ix3, List.set_cons_zero, List.set_cons_succ,true_and]
  rw [atI_nat h1 h2, List.getElem?_eq_getElem (show x.toNat < ds.length by omega)]
  exact ⟨_, Sub.refl _, q _ _ (List.getElem_mem _) h3 h4⟩
theorem isInt {m : M} {v lo hi : Int} {Q : PQ} {R : PX} (q : Q (.bl (decide (lo ≤ v) && decide (v ≤ hi))) m) : za3 [.int v, .int lo, .int hi] m Q R := by
  refine zhS ?_
  unfold zeU
  simp (config := {failIfUnchanged := false}) only [zB, zaa, zM, zdq, aOp, aUn, aCB, zg, aC, zb, zm, zcU, zJ, aN, zaG, zP, za4, zU, zaJ, zQ, zab, zE, zaf, zb8, zbO, aOr, zaI, zam, zb3, zaN, aIf, zac, aCall, zbl, za7, aSl, zaR, aPt, zai, zca, za0, zas, zaE, zbP, zb6, aTT, zG, zY, aLc, zaS, zb4, zb5, zaK, En.g, En.s, zap, zaB, zah, zdi, zbR, za5, zak, zc8, zcV, zR, zae, zaj, zad, zau, zaF, zaT, zaV, za1, zb9, zan, zbU, za2, zbu, zbQ, zc7, zb7, zct, zdr, zbt, zbV, zcv, eqA, D.isNon, Ab.rSlA, zat, En.x, z7, zq, zV, Option.map_some, List.length_cons, List.length_nil, Nat.zero_add, Nat.reduceAdd, true_and, and_true, decide_eq_true_eq, ite_true, ite_false, Bool.not_true, Bool.not_false, Bool.false_eq_true, if_true, if_false, List.append_assoc, List.cons_append, List.nil_append, at0, at1, at2, at3, at4, at5, ix0, ix1, ix2, ix3, List.set_cons_zero, List.set_cons_succ,tyD, show Ty.sub .int .int = true from rfl, show Ty.sub .int .bool = false from rfl]
  by_cases h : lo ≤ v
  · rw [if_pos h]
    exact ⟨_, Sub.refl _, by simpa [h] using q⟩
  · rw [if_neg h]
    exact ⟨_, Sub.refl _, by simpa [h] using q⟩
theorem zhZ {m : M} {v lo hi : Int} {Q : PQ} {R : PX} (h1 : lo ≤ v) (h2 : v ≤ hi) (q : Q (.bl true) m) : za3 [.int v, .int lo, .int hi] m Q R := isInt (by simpa [h1, h2] using q)
def iD (l : List Nat) : List D := l.map fun n : Nat => D.int (n : Int)
theorem zcS (l : List Nat) : (iD l).length = l.length := List.length_map ..
theorem zfH (l k : List Nat) : iD (l ++ k) = iD l ++ iD k := List.map_append ..
theorem zpu {lo : Int} {n : Nat} : zej lo (n + 1) = .int lo :: zej (lo + 1) n := by
  unfold zej
  rw [List.range_succ_eq_map, List.map_cons, List.map_map]
  congr 1
  · simp
  · apply List.map_congr_left
    intro a _
    simp only [Function.comp]
    congr 1
    omega
theorem zeg {m : M} {ds : List D} {lo hi : Int} {Q : PQ} {R : PX} (h1 : lo ≤ ds.length) (h2 : ds.length ≤ hi) (q : Q (.bl true) m) : zaq [.tup ds, .int lo, .int hi] m Q R := by
  refine ze8 ?_
  unfold zdE
  simp (config := {failIfUnchanged := false}) only [zB, zaa, zM, zdq, aOp, aUn, aCB, zg, aC, zb, zm, zcU, zJ, aN, zaG, zP, za4, zU, zaJ, zQ, zab, zE, zaf, zb8, zbO, aOr, zaI, zam, zb3, zaN, aIf, zac, aCall, zbl, za7, aSl, zaR, aPt, zai, zca, za0, zas, zaE, zbP, zb6, aTT, zG, zY, aLc, zaS, zb4, zb5, zaK, En.g, En.s, zap, zaB, zah, zdi, zbR, za5, zak, zc8, zcV, zR, zae, zaj, zad, zau, zaF, zaT, zaV, za1, zb9, zan, zbU, za2, zbu, zbQ, zc7, zb7, zct, zdr, zbt, zbV, zcv, eqA, D.isNon, Ab.rSlA, zat, En.x, z7, zq, zV, Option.map_some, List.length_cons, List.length_nil, Nat.zero_add, Nat.reduceAdd, true_and, and_true, decide_eq_true_eq, ite_true, ite_false, Bool.not_true, Bool.not_false, Bool.false_eq_true, if_true, if_false, List.append_assoc, List.cons_append, List.nil_append, at0, at1, at2, at3, at4, at5, ix0, ix1, ix2, ix3, List.set_cons_zero, List.set_cons_succ,tyD, show Ty.sub .tuple .tuple = true from rfl]
  rw [if_pos h1]
  exact ⟨_, Sub.refl _, by simpa [h2] using q⟩
def Bytes (ds : List D) : Prop := ∀ d ∈ ds, ∃ n : Nat, d = .int (n : Int) ∧ n < 256
theorem Bytes.app {a b : List D} (ha : Bytes a) (hb : Bytes b) : Bytes (a ++ b) := fun d h => by
  rcases List.mem_append.mp h with h | h
  · exact ha d h
  · exact hb d h
theorem zp6 {l : List Nat} (h : ∀ b ∈ l, b < 256) : Bytes (iD l) := fun d hd => by
  obtain ⟨n, hn, e⟩ := List.mem_map.mp hd
  exact ⟨n, e.symm, h n hn⟩
theorem zog {A : zaU} {x0 x1 x2 : Option D} {m : M} {gd : M → Prop} (hgd : ∀ m, gd m) : ∀ (ds : List D) (x3 : Option D), Bytes ds → (∀ y3, A.nx [x0, x1, x2, y3] m) → forL (aN 3) zbK gd ds A [x0, x1, x2, x3] m
  | [], x3, hb, q => ⟨hgd _, q _⟩
  | d :: ds, x3, hb, q => by
    obtain ⟨n, rfl, hn⟩ := hb d (by simp)
    have ih := zog hgd (A := A) (x0 := x0) (x1 := x1) (x2 := x2) (m := m) ds (some (.int (n : Int))) (fun d hd => hb d (by simp [hd])) q
    unfold forL
    refine ⟨hgd _, ?_⟩
    generalize forL (aN 3) zbK gd ds A = X at ih ⊢
    unfold zbK
    simp (config := {failIfUnchanged := false}) only [zB, zaa, zM, zdq, aOp, aUn, aCB, zg, aC, zb, zm, zcU, zJ, aN, zaG, zP, za4, zU, zaJ, zQ, zab, zE, zaf, zb8, zbO, aOr, zaI, zam, zb3, zaN, aIf, zac, aCall, zbl, za7, aSl, zaR, aPt, zai, zca, za0, zas, zaE, zbP, zb6, aTT, zG, zY, aLc, zaS, zb4, zb5, zaK, En.g, En.s, zap, zaB, zah, zdi, zbR, za5, zak, zc8, zcV, zR, zae, zaj, zad, zau, zaF, zaT, zaV, za1, zb9, zan, zbU, za2, zbu, zbQ, zc7, zb7, zct, zdr, zbt, zbV, zcv, eqA, D.isNon, Ab.rSlA, zat, En.x, z7, zq, zV, Option.map_some, List.length_cons, List.length_nil, Nat.zero_add, Nat.reduceAdd, true_and, and_true, decide_eq_true_eq, ite_true, ite_false, Bool.not_true, Bool.not_false, Bool.false_eq_true, if_true, if_false, List.append_assoc, List.cons_append, List.nil_append, at0, at1, at2, at3, at4, at5, ix0, ix1, ix2, ix3, List.set_cons_zero, List.set_cons_succ,tyD, show Ty.sub .int .int = true from rfl, show Ty.sub .int .bool = false from rfl]
    have e1 : decide ((n : Int) < 0) = false := decide_eq_false (by omega)
    have e2 : decide ((255 : Int) < (n : Int)) = false := decide_eq_false (by omega)
    simpa [e1, e2, show ¬ ((n : Int) < 0) by omega, show ¬ ((255 : Int) < (n : Int)) by omega] using ih
theorem zno {m : M} {ds : List D} {lo hi : Int} {Q : PQ} {R : PX} (hP : True) (h1 : lo ≤ ds.length) (h2 : ds.length ≤ hi) (hb : Bytes ds) (q : Q (.bl true) m) : zcN [.tup ds, .int lo, .int hi] m Q R := by
  refine ziZ ?_
  unfold zfx
  simp (config := {failIfUnchanged := false}) only [zB, zaa, zM, zdq, aOp, aUn, aCB, zg, aC, zb, zm, zcU, zJ, aN, zaG, zP, za4, zU, zaJ, zQ, zab, zE, zaf, zb8, zbO, aOr, zaI, zam, zb3, zaN, aIf, zac, aCall, zbl, za7, aSl, zaR, aPt, zai, zca, za0, zas, zaE, zbP, zb6, aTT, zG, zY, aLc, zaS, zb4, zb5, zaK, En.g, En.s, zap, zaB, zah, zdi, zbR, za5, zak, zc8, zcV, zR, zae, zaj, zad, zau, zaF, zaT, zaV, za1, zb9, zan, zbU, za2, zbu, zbQ, zc7, zb7, zct, zdr, zbt, zbV, zcv, eqA, D.isNon, Ab.rSlA, zat, En.x, z7, zq, zV, Option.map_some, List.length_cons, List.length_nil, Nat.zero_add, Nat.reduceAdd, true_and, and_true, decide_eq_true_eq, ite_true, ite_false, Bool.not_true, Bool.not_false, Bool.false_eq_true, if_true, if_false, List.append_assoc, List.cons_append, List.nil_append, at0, at1, at2, at3, at4, at5, ix0, ix1, ix2, ix3, List.set_cons_zero, List.set_cons_succ,true_and]
  refine zeg h1 h2 ?_
  simp (config := {failIfUnchanged := false}) only [zB, zaa, zM, zdq, aOp, aUn, aCB, zg, aC, zb, zm, zcU, zJ, aN, zaG, zP, za4, zU, zaJ, zQ, zab, zE, zaf, zb8, zbO, aOr, zaI, zam, zb3, zaN, aIf, zac, aCall, zbl, za7, aSl, zaR, aPt, zai, zca, za0, zas, zaE, zbP, zb6, aTT, zG, zY, aLc, zaS, zb4, zb5, zaK, En.g, En.s, zap, zaB, zah, zdi, zbR, za5, zak, zc8, zcV, zR, zae, zaj, zad, zau, zaF, zaT, zaV, za1, zb9, zan, zbU, za2, zbu, zbQ, zc7, zb7, zct, zdr, zbt, zbV, zcv, eqA, D.isNon, Ab.rSlA, zat, En.x, z7, zq, zV, Option.map_some, List.length_cons, List.length_nil, Nat.zero_add, Nat.reduceAdd, true_and, and_true, decide_eq_true_eq, ite_true, ite_false, Bool.not_true, Bool.not_false, Bool.false_eq_true, if_true, if_false, List.append_assoc, List.cons_append, List.nil_append, at0, at1, at2, at3, at4, at5, ix0, ix1, ix2, ix3, List.set_cons_zero, List.set_cons_succ,true_and]
  refine zog (fun _ => trivial) ds _ hb fun y3 => ?_
  simp (config := {failIfUnchanged := false}) only [zB, zaa, zM, zdq, aOp, aUn, aCB, zg, aC, zb, zm, zcU, zJ, aN, zaG, zP, za4, zU, zaJ, zQ, zab, zE, zaf, zb8, zbO, aOr, zaI, zam, zb3, zaN, aIf, zac, aCall, zbl, za7, aSl, zaR, aPt, zai, zca, za0, zas, zaE, zbP, zb6, aTT, zG, zY, aLc, zaS, zb4, zb5, zaK, En.g, En.s, zap, zaB, zah, zdi, zbR, za5, zak, zc8, zcV, zR, zae, zaj, zad, zau, zaF, zaT, zaV, za1, zb9, zan, zbU, za2, zbu, zbQ, zc7, zb7, zct, zdr, zbt, zbV, zcv, eqA, D.isNon, Ab.rSlA, zat, En.x, z7, zq, zV, Option.map_some, List.length_cons, List.length_nil, Nat.zero_add, Nat.reduceAdd, true_and, and_true, decide_eq_true_eq, ite_true, ite_false, Bool.not_true, Bool.not_false, Bool.false_eq_true, if_true, if_false, List.append_assoc, List.cons_append, List.nil_append, at0, at1, at2, at3, at4, at5, ix0, ix1, ix2, ix3, List.set_cons_zero, List.set_cons_succ,true_and]
  exact ⟨_, Sub.refl _, q⟩
def be : Nat → Nat → List Nat
  | 0, _ => []
  | k + 1, v => be k (v / 256) ++ [v % 256]
theorem zaC : ∀ (k v : Nat), (be k v).length = k
  | 0, _ => rfl
  | k + 1, v => by rw [be, List.length_append, zaC k]; rfl
theorem zqy : ∀ (k v : Nat), ∀ b ∈ be k v, b < 256
  | 0, _, b, h => by simp [be] at h
  | k + 1, v, b, h => by
    rw [be] at h
    rcases List.mem_append.mp h with h | h
    · exact zqy k _ b h
    · simp at h; omega
def fold (a : Nat) (l : List Nat) : Nat := l.foldl (fun a b => a * 256 + b) a
theorem zdK : ∀ (k v : Nat), v < 256 ^ k → fold 0 (be k v) = v
  | 0, v, h => by simp [fold, be]; omega
  | k + 1, v, h => by
    have := zdK k (v / 256) (by rw [Nat.pow_succ] at h; omega)
    unfold fold at this ⊢
    rw [be, List.foldl_append, this]
    simp
    omega
theorem zoh {A : zaU} {m : M} {r a n : D} {gd : M → Prop} (hgd : ∀ m, gd m) : ∀ (l : List Nat) (j acc : Nat) (x : Option D), l.length + j ≤ 7 → acc < 256 ^ j → (∀ b ∈ l, b < 256) → (∀ x', A.nx [some r, some a, some n, some (.int (fold acc l : Int)), x'] m) →
    forL (aN 4) zcG gd (iD l) A [some r, some a, some n, some (.int (acc : Int)), x] m
  | [], j, acc, x, hl, ha, hb, q => ⟨hgd _, q x⟩
  | b :: l, j, acc, x, hl, ha, hb, q => by
    have hbb := hb b (by simp)
    simp only [List.length_cons] at hl
    have ha' : acc < 256 ^ 6 := Nat.lt_of_lt_of_le ha (Nat.pow_le_pow_right (by decide) (by omega))
    have ih := zoh hgd (A := A) (m := m) (r := r) (a := a) (n := n) l (j + 1) (acc * 256 + b) (some (.int (b : Int))) (by omega) (by rw [Nat.pow_succ]; omega) (fun c hc => hb c (by simp [hc])) q
    show forL (aN 4) zcG gd (.int (b : Int) :: iD l) A _ m
    unfold forL
    refine ⟨hgd _, ?_⟩
    unfold zcG
    simp (config := {failIfUnchanged := false}) only [zB, zaa, zM, zdq, aOp, aUn, aCB, zg, aC, zb, zm, zcU, zJ, aN, zaG, zP, za4, zU, zaJ, zQ, zab, zE, zaf, zb8, zbO, aOr, zaI, zam, zb3, zaN, aIf, zac, aCall, zbl, za7, aSl, zaR, aPt, zai, zca, za0, zas, zaE, zbP, zb6, aTT, zG, zY, aLc, zaS, zb4, zb5, zaK, En.g, En.s, zap, zaB, zah, zdi, zbR, za5, zak, zc8, zcV, zR, zae, zaj, zad, zau, zaF, zaT, zaV, za1, zb9, zan, zbU, za2, zbu, zbQ, zc7, zb7, zct, zdr, zbt, zbV, zcv, eqA, D.isNon, Ab.rSlA, zat, En.x, z7, zq, zV, Option.map_some, List.length_cons, List.length_nil, Nat.zero_add, Nat.reduceAdd, true_and, and_true, decide_eq_true_eq, ite_true, ite_false, Bool.not_true, Bool.not_false, Bool.false_eq_true, if_true, if_false, List.append_assoc, List.cons_append, List.nil_append, at0, at1, at2, at3, at4, at5, ix0, ix1, ix2, ix3, List.set_cons_zero, List.set_cons_succ,true_and]
    refine ⟨zlI (by omega) (by decide), ?_⟩
    rw [show (acc : Int) * 256 + (b : Int) = ((acc * 256 + b : Nat) : Int) by omega]
    exact ih
theorem zoi {A : zaU} {m : M} {many : D} {gd : M → Prop} (hgd : ∀ m, gd m) : ∀ (n : Nat) (lo : Int) (v : Nat) (acc : List Nat) (x : Option D), acc.length + n ≤ 100 → (∀ (v' : D) (x' : Option D), A.nx [some v', some many, some (.tup (iD (be n v ++ acc))), x'] m) →
    forL (aN 3) zdC gd (zej lo n) A [some (.int (v : Int)), some many, some (.tup (iD acc)), x] m
  | 0, lo, v, acc, x, hl, q => ⟨hgd _, q _ x⟩
  | n + 1, lo, v, acc, x, hl, q => by
    have ih := zoi hgd (A := A) (m := m) (many := many) n (lo + 1) (v / 256) (v % 256 :: acc) (some (.int lo)) (by simp; omega) (fun v' x' => by
      have := q v' x'
      rw [be, List.append_assoc] at this
      exact this)
    rw [zpu]
    unfold forL
    refine ⟨hgd _, ?_⟩
    generalize forL (aN 3) zdC gd (zej (lo + 1) n) A = X at ih ⊢
    unfold zdC
    simp (config := {failIfUnchanged := false}) only [zB, zaa, zM, zdq, aOp, aUn, aCB, zg, aC, zb, zm, zcU, zJ, aN, zaG, zP, za4, zU, zaJ, zQ, zab, zE, zaf, zb8, zbO, aOr, zaI, zam, zb3, zaN, aIf, zac, aCall, zbl, za7, aSl, zaR, aPt, zai, zca, za0, zas, zaE, zbP, zb6, aTT, zG, zY, aLc, zaS, zb4, zb5, zaK, En.g, En.s, zap, zaB, zah, zdi, zbR, za5, zak, zc8, zcV, zR, zae, zaj, zad, zau, zaF, zaT, zaV, za1, zb9, zan, zbU, za2, zbu, zbQ, zc7, zb7, zct, zdr, zbt, zbV, zcv, eqA, D.isNon, Ab.rSlA, zat, En.x, z7, zq, zV, Option.map_some, List.length_cons, List.length_nil, Nat.zero_add, Nat.reduceAdd, true_and, and_true, decide_eq_true_eq, ite_true, ite_false, Bool.not_true, Bool.not_false, Bool.false_eq_true, if_true, if_false, List.append_assoc, List.cons_append, List.nil_append, at0, at1, at2, at3, at4, at5, ix0, ix1, ix2, ix3, List.set_cons_zero, List.set_cons_succ,true_and]
    refine ⟨by decide, by unfold big; decide, by rw [zcS]; unfold big; omega, zlH (by decide) (by decide), ?_⟩
    rw [show (v : Int) / 256 = ((v / 256 : Nat) : Int) by omega]
    simpa [iD] using ih
theorem zgF {m : M} {v k : Nat} {Q : PQ} {R : PX} (hk : k ≤ 7) (q : Q (.tup (iD (be k v))) m) : zcj [.int (v : Int), .int (k : Int)] m Q R := by
  refine zk8 ?_
  unfold zfT
  simp (config := {failIfUnchanged := false}) only [zB, zaa, zM, zdq, aOp, aUn, aCB, zg, aC, zb, zm, zcU, zJ, aN, zaG, zP, za4, zU, zaJ, zQ, zab, zE, zaf, zb8, zbO, aOr, zaI, zam, zb3, zaN, aIf, zac, aCall, zbl, za7, aSl, zaR, aPt, zai, zca, za0, zas, zaE, zbP, zb6, aTT, zG, zY, aLc, zaS, zb4, zb5, zaK, En.g, En.s, zap, zaB, zah, zdi, zbR, za5, zak, zc8, zcV, zR, zae, zaj, zad, zau, zaF, zaT, zaV, za1, zb9, zan, zbU, za2, zbu, zbQ, zc7, zb7, zct, zdr, zbt, zbV, zcv, eqA, D.isNon, Ab.rSlA, zat, En.x, z7, zq, zV, Option.map_some, List.length_cons, List.length_nil, Nat.zero_add, Nat.reduceAdd, true_and, and_true, decide_eq_true_eq, ite_true, ite_false, Bool.not_true, Bool.not_false, Bool.false_eq_true, if_true, if_false, List.append_assoc, List.cons_append, List.nil_append, at0, at1, at2, at3, at4, at5, ix0, ix1, ix2, ix3, List.set_cons_zero, List.set_cons_succ,true_and]
  refine ⟨by unfold big; decide, by omega, ?_⟩
  rw [Int.toNat_natCast]
  refine zoi (fun _ => trivial) k 0 v [] none (by simp; omega) fun v' x' => ?_
  simp (config := {failIfUnchanged := false}) only [zB, zaa, zM, zdq, aOp, aUn, aCB, zg, aC, zb, zm, zcU, zJ, aN, zaG, zP, za4, zU, zaJ, zQ, zab, zE, zaf, zb8, zbO, aOr, zaI, zam, zb3, zaN, aIf, zac, aCall, zbl, za7, aSl, zaR, aPt, zai, zca, za0, zas, zaE, zbP, zb6, aTT, zG, zY, aLc, zaS, zb4, zb5, zaK, En.g, En.s, zap, zaB, zah, zdi, zbR, za5, zak, zc8, zcV, zR, zae, zaj, zad, zau, zaF, zaT, zaV, za1, zb9, zan, zbU, za2, zbu, zbQ, zc7, zb7, zct, zdr, zbt, zbV, zcv, eqA, D.isNon, Ab.rSlA, zat, En.x, z7, zq, zV, Option.map_some, List.length_cons, List.length_nil, Nat.zero_add, Nat.reduceAdd, true_and, and_true, decide_eq_true_eq, ite_true, ite_false, Bool.not_true, Bool.not_false, Bool.false_eq_true, if_true, if_false, List.append_assoc, List.cons_append, List.nil_append, at0, at1, at2, at3, at4, at5, ix0, ix1, ix2, ix3, List.set_cons_zero, List.set_cons_succ,true_and]
  rw [List.append_nil]
  exact ⟨_, Sub.refl _, q⟩
theorem zrj : ∀ (a b : Nat), (a ^^^ b) + 2 * (a &&& b) = a + b := fun a => by
  induction a using Nat.strongRecOn with
  | _ a ih =>
    intro b
    by_cases h : a = 0
    · subst h; simp
    · have i := ih (a / 2) (by omega) (b / 2)
      have h1 : (a ^^^ b) / 2 = a / 2 ^^^ b / 2 := Nat.xor_div_two
      have h2 : (a &&& b) / 2 = a / 2 &&& b / 2 := Nat.and_div_two
      have h3 : (a ^^^ b) % 2 = 1 ↔ ¬(a % 2 = 1 ↔ b % 2 = 1) := Nat.xor_mod_two_eq_one
      have h6 : (a ^^^ b) % 2 = 0 ∨ (a ^^^ b) % 2 = 1 := Nat.mod_two_eq_zero_or_one _
      have h4 : (a &&& b) % 2 = 1 ↔ a % 2 = 1 ∧ b % 2 = 1 := Nat.and_mod_two_eq_one
      have h5 : (a &&& b) % 2 = 0 ∨ (a &&& b) % 2 = 1 := Nat.mod_two_eq_zero_or_one _
      omega
theorem bxor (a b : Nat) : Builtin.bitXor (a : Int) (b : Int) = ((a ^^^ b : Nat) : Int) := by
  rw [bitXor_and, PySem.W.os_band]
  have := zrj a b
  omega
def zhD (r b : Nat) : Nat := ((r * 256) % 65536) ^^^ ((((r / 256 ^^^ b) ^^^ (r / 256 ^^^ b) / 16) * 4096) % 65536) ^^^ (((r / 256 ^^^ b) ^^^ (r / 256 ^^^ b) / 16) * 32) ^^^ ((r / 256 ^^^ b) ^^^ (r / 256 ^^^ b) / 16)
theorem xlt {a b n : Nat} (h : a < 2 ^ n) (h' : b < 2 ^ n) : a ^^^ b < 2 ^ n := Nat.xor_lt_two_pow h h'
theorem zoV {r b : Nat} (h : r < 65536) (hb : b < 256) : r / 256 ^^^ b < 256 ∧ (r / 256 ^^^ b) ^^^ (r / 256 ^^^ b) / 16 < 256 := by
  have h1 : r / 256 ^^^ b < 2 ^ 8 := xlt (by omega) hb
  exact ⟨h1, show _ < 2 ^ 8 from xlt h1 (by omega)⟩
theorem zlJ {r b : Nat} (h : r < 65536) (hb : b < 256) : zhD r b < 65536 := by
  obtain ⟨h1, h2⟩ := zoV h hb
  unfold zhD
  exact show _ < 2 ^ 16 from xlt (xlt (xlt (by omega) (by omega)) (by omega)) (by omega)
def crc (l : List Nat) : Nat := l.foldl zhD 0
theorem zoj : ∀ {l : List Nat} {r : Nat}, r < 65536 → (∀ b ∈ l, b < 256) → l.foldl zhD r < 65536
  | [], _, h, _ => h
  | b :: l, r, h, hb => zoj (l := l) (zlJ h (hb b (by simp))) fun c hc => hb c (by simp [hc])
theorem zpv {l : List Nat} (h : ∀ b ∈ l, b < 256) : crc l < 65536 := zoj (by decide) h
theorem zoW {i : Nat} (h : i < 2 ^ 63) {j : Int} (h0 : 0 ≤ j) (h1 : j ≤ 100) : CPow (i : Int) j := ⟨h0, by omega, by omega⟩
theorem zok {A : zaU} {m : M} {x0 : Option D} {gd : M → Prop} (hgd : ∀ m, gd m) : ∀ (l : List Nat) (r : Nat) (x2 x3 : Option D), r < 65536 → (∀ b ∈ l, b < 256) → (∀ y2 y3, A.nx [x0, some (.int (l.foldl zhD r : Nat)), y2, y3] m) → forL (aN 2) zd8 gd (iD l) A [x0, some (.int (r : Int)), x2, x3] m
  | [], r, x2, x3, hr, hb, q => ⟨hgd _, q _ _⟩
  | b :: l, r, x2, x3, hr, hb, q => by
    have hbb := hb b (by simp)
    obtain ⟨h1, h2⟩ := zoV hr hbb
    have ih := fun y2 y3 => zok hgd (A := A) (m := m) (x0 := x0) l (zhD r b) y2 y3 (zlJ hr hbb) (fun c hc => hb c (by simp [hc])) q
    show forL (aN 2) zd8 gd (.int (b : Int) :: iD l) A _ m
    refine ⟨hgd _, ?_⟩
    generalize forL (aN 2) zd8 gd (iD l) A = X at ih ⊢
    unfold zd8
    have e1 : (r : Int) / 2 ^ (Int.toNat 8) = ((r / 256 : Nat) : Int) := by
      rw [show (2 : Int) ^ (Int.toNat 8) = 256 by decide]; omega
    have e2 : ∀ a : Nat, (a : Int) / 2 ^ (Int.toNat 4) = ((a / 16 : Nat) : Int) := fun a => by
      rw [show (2 : Int) ^ (Int.toNat 4) = 16 by decide]; omega
    have e3 : ∀ a : Nat, (a : Int) * 2 ^ (Int.toNat 8) = ((a * 256 : Nat) : Int) := fun a => by
      rw [show (2 : Int) ^ (Int.toNat 8) = 256 by decide]; omega
    have e4 : ∀ a : Nat, (a : Int) * 2 ^ (Int.toNat 12) = ((a * 4096 : Nat) : Int) := fun a => by
      rw [show (2 : Int) ^ (Int.toNat 12) = 4096 by decide]; omega
    have e5 : ∀ a : Nat, (a : Int) * 2 ^ (Int.toNat 5) = ((a * 32 : Nat) : Int) := fun a => by
      rw [show (2 : Int) ^ (Int.toNat 5) = 32 by decide]; omega
    have e6 : ∀ a : Nat, Builtin.bitAnd (a : Int) 65535 = ((a % 65536 : Nat) : Int) := fun a => by
      rw [show (65535 : Int) = ((65535 : Nat) : Int) by rfl, PySem.W.os_band, show 65535 = 2 ^ 16 - 1 by decide, Nat.and_two_pow_sub_one_eq_mod]
    simp (config := {failIfUnchanged := false, implicitDefEqProofs := false}) only [zB, zaa, zM, aOp, aUn, aCB, zg, aC, zb, zm, zcw, zcX, zcY, zJ, aN, zaG, zP, za4, zU, zaJ, zQ, zab, zE, zaf, zb8, zbO, aOr, zaI, zam, zb3, zaN, aIf, zac, aCall, zbl, za7, aSl, zaR, aPt, zai, zca, za0, zas, zaE, zbP, zb6, aTT, zG, zY, aLc, zaS, zb4, zb5, zaK, zbM, zcW, En.g, En.s, zah, zak, ixT, ixF, ixR, zdM, zdN, zdO, zdP, zdt, zdk, zcH, zdu, zdQ, zdv, zdw, slT, slR, i2, c2, zdR, isB, isN, zdS, zdx, eqI, eqS, eqB, neI, neB, zdT, zdU, zdl, zdV, zdW, itT, itF, itR, zdX, zdY, zde, zae, zad, zau, zaF, zaT, zaV, za1, zb9, zan, zbU, za2, zbu, zbQ, zdj, zat, En.x, z7, zq, zV, Option.map_some, List.length_cons, List.length_nil, Nat.zero_add, Nat.reduceAdd, true_and, and_true, decide_eq_true_eq, ite_true, ite_false, Bool.not_true, Bool.not_false, Bool.false_eq_true, if_true, if_false, List.append_assoc, List.cons_append, List.nil_append, at0, at1, at2, at3, at4, at5, ix0, ix1, ix2, ix3, List.set_cons_zero, List.set_cons_succ,e1, e2, e3, e4, e5, e6, bxor]
    refine ⟨by decide, by decide, zoW (by omega) (by decide) (by decide), zoW (by omega) (by decide) (by decide), zoW (by omega) (by decide) (by decide), ?_⟩
    have e : ((r * 256 ^^^ ((r / 256 ^^^ b) ^^^ (r / 256 ^^^ b) / 16) * 4096 ^^^ ((r / 256 ^^^ b) ^^^ (r / 256 ^^^ b) / 16) * 32) ^^^ ((r / 256 ^^^ b) ^^^ (r / 256 ^^^ b) / 16)) % 65536 = zhD r b := by
      unfold zhD
      rw [show 65536 = 2 ^ 16 by decide, Nat.xor_mod_two_pow, Nat.xor_mod_two_pow, Nat.xor_mod_two_pow]
      rw [Nat.mod_eq_of_lt (show ((r / 256 ^^^ b) ^^^ (r / 256 ^^^ b) / 16) * 32 < 2 ^ 16 by omega), Nat.mod_eq_of_lt (show ((r / 256 ^^^ b) ^^^ (r / 256 ^^^ b) / 16) < 2 ^ 16 by omega)]
    rw [e]
    exact ih _ _
theorem restOf {m : M} {l : List Nat} {Q : PQ} {R : PX} (h : ∀ b ∈ l, b < 256) (q : Q (.int (crc l : Nat)) m) : zfD [.tup (iD l)] m Q R := by
  refine znR ?_
  unfold zjD
  simp (config := {failIfUnchanged := false, implicitDefEqProofs := false}) only [zB, zaa, zM, aOp, aUn, aCB, zg, aC, zb, zm, zcw, zcX, zcY, zJ, aN, zaG, zP, za4, zU, zaJ, zQ, zab, zE, zaf, zb8, zbO, aOr, zaI, zam, zb3, zaN, aIf, zac, aCall, zbl, za7, aSl, zaR, aPt, zai, zca, za0, zas, zaE, zbP, zb6, aTT, zG, zY, aLc, zaS, zb4, zb5, zaK, zbM, zcW, En.g, En.s, zah, zak, ixT, ixF, ixR, zdM, zdN, zdO, zdP, zdt, zdk, zcH, zdu, zdQ, zdv, zdw, slT, slR, i2, c2, zdR, isB, isN, zdS, zdx, eqI, eqS, eqB, neI, neB, zdT, zdU, zdl, zdV, zdW, itT, itF, itR, zdX, zdY, zde, zae, zad, zau, zaF, zaT, zaV, za1, zb9, zan, zbU, za2, zbu, zbQ, zdj, zat, En.x, z7, zq, zV, Option.map_some, List.length_cons, List.length_nil, Nat.zero_add, Nat.reduceAdd, true_and, and_true, decide_eq_true_eq, ite_true, ite_false, Bool.not_true, Bool.not_false, Bool.false_eq_true, if_true, if_false, List.append_assoc, List.cons_append, List.nil_append, at0, at1, at2, at3, at4, at5, ix0, ix1, ix2, ix3, List.set_cons_zero, List.set_cons_succ,true_and]
  refine zok (fun _ => trivial) l 0 none none (by decide) h fun y2 y3 => ?_
  simp (config := {failIfUnchanged := false, implicitDefEqProofs := false}) only [zB, zaa, zM, aOp, aUn, aCB, zg, aC, zb, zm, zcw, zcX, zcY, zJ, aN, zaG, zP, za4, zU, zaJ, zQ, zab, zE, zaf, zb8, zbO, aOr, zaI, zam, zb3, zaN, aIf, zac, aCall, zbl, za7, aSl, zaR, aPt, zai, zca, za0, zas, zaE, zbP, zb6, aTT, zG, zY, aLc, zaS, zb4, zb5, zaK, zbM, zcW, En.g, En.s, zah, zak, ixT, ixF, ixR, zdM, zdN, zdO, zdP, zdt, zdk, zcH, zdu, zdQ, zdv, zdw, slT, slR, i2, c2, zdR, isB, isN, zdS, zdx, eqI, eqS, eqB, neI, neB, zdT, zdU, zdl, zdV, zdW, itT, itF, itR, zdX, zdY, zde, zae, zad, zau, zaF, zaT, zaV, za1, zb9, zan, zbU, za2, zbu, zbQ, zdj, zat, En.x, z7, zq, zV, Option.map_some, List.length_cons, List.length_nil, Nat.zero_add, Nat.reduceAdd, true_and, and_true, decide_eq_true_eq, ite_true, ite_false, Bool.not_true, Bool.not_false, Bool.false_eq_true, if_true, if_false, List.append_assoc, List.cons_append, List.nil_append, at0, at1, at2, at3, at4, at5, ix0, ix1, ix2, ix3, List.set_cons_zero, List.set_cons_succ,true_and]
  exact ⟨_, Sub.refl _, q⟩
theorem zol {A : zaU} {m : M} {x0 : Option D} {gd : M → Prop} (hgd : ∀ m, gd m) : ∀ (l : List Nat) (r : Nat) (x2 x3 : Option D), r < 65536 → (∀ b ∈ l, b < 256) → (∀ y2 y3, A.nx [x0, some (.int (l.foldl zhD r : Nat)), y2, y3] m) → forL (aN 2) zdo gd (iD l) A [x0, some (.int (r : Int)), x2, x3] m
  | [], r, x2, x3, hr, hb, q => ⟨hgd _, q _ _⟩
  | b :: l, r, x2, x3, hr, hb, q => by
    have hbb := hb b (by simp)
    obtain ⟨h1, h2⟩ := zoV hr hbb
    have ih := fun y2 y3 => zol hgd (A := A) (m := m) (x0 := x0) l (zhD r b) y2 y3 (zlJ hr hbb) (fun c hc => hb c (by simp [hc])) q
    show forL (aN 2) zdo gd (.int (b : Int) :: iD l) A _ m
    refine ⟨hgd _, ?_⟩
    generalize forL (aN 2) zdo gd (iD l) A = X at ih ⊢
    unfold zdo
    have e1 : (r : Int) / 256 = ((r / 256 : Nat) : Int) := by omega
    have e2 : ∀ a : Nat, (a : Int) / 16 = ((a / 16 : Nat) : Int) := fun a => by omega
    have e3 : ∀ a : Nat, (a : Int) * 256 % 65536 = ((a * 256 % 65536 : Nat) : Int) := fun a => by omega
    have e4 : ∀ a : Nat, (a : Int) * 4096 % 65536 = ((a * 4096 % 65536 : Nat) : Int) := fun a => by omega
    have e5 : ∀ a : Nat, (a : Int) * 32 = ((a * 32 : Nat) : Int) := fun a => by omega
    simp (config := {failIfUnchanged := false, implicitDefEqProofs := false}) only [zB, zaa, zM, aOp, aUn, aCB, zg, aC, zb, zm, zcw, zcX, zcY, zJ, aN, zaG, zP, za4, zU, zaJ, zQ, zab, zE, zaf, zb8, zbO, aOr, zaI, zam, zb3, zaN, aIf, zac, aCall, zbl, za7, aSl, zaR, aPt, zai, zca, za0, zas, zaE, zbP, zb6, aTT, zG, zY, aLc, zaS, zb4, zb5, zaK, zbM, zcW, En.g, En.s, zah, zak, ixT, ixF, ixR, zdM, zdN, zdO, zdP, zdt, zdk, zcH, zdu, zdQ, zdv, zdw, slT, slR, i2, c2, zdR, isB, isN, zdS, zdx, eqI, eqS, eqB, neI, neB, zdT, zdU, zdl, zdV, zdW, itT, itF, itR, zdX, zdY, zde, zae, zad, zau, zaF, zaT, zaV, za1, zb9, zan, zbU, za2, zbu, zbQ, zdj, zat, En.x, z7, zq, zV, Option.map_some, List.length_cons, List.length_nil, Nat.zero_add, Nat.reduceAdd, true_and, and_true, decide_eq_true_eq, ite_true, ite_false, Bool.not_true, Bool.not_false, Bool.false_eq_true, if_true, if_false, List.append_assoc, List.cons_append, List.nil_append, at0, at1, at2, at3, at4, at5, ix0, ix1, ix2, ix3, List.set_cons_zero, List.set_cons_succ,e1, e2, e3, e4, e5, bxor]
    refine ⟨zlH (by decide) (by decide), zlH (by decide) (by decide), zlI (by omega) (by decide), by decide, zlI (by omega) (by decide), by decide, zlI (by omega) (by decide), ?_⟩
    exact ih _ _
theorem zsr {m : M} {l : List Nat} {Q : PQ} {R : PX} (h : ∀ b ∈ l, b < 256) (q : Q (.int (crc l : Nat)) m) : zeq [.tup (iD l)] m Q R := by
  refine zmm ?_
  unfold zhC
  simp (config := {failIfUnchanged := false, implicitDefEqProofs := false}) only [zB, zaa, zM, aOp, aUn, aCB, zg, aC, zb, zm, zcw, zcX, zcY, zJ, aN, zaG, zP, za4, zU, zaJ, zQ, zab, zE, zaf, zb8, zbO, aOr, zaI, zam, zb3, zaN, aIf, zac, aCall, zbl, za7, aSl, zaR, aPt, zai, zca, za0, zas, zaE, zbP, zb6, aTT, zG, zY, aLc, zaS, zb4, zb5, zaK, zbM, zcW, En.g, En.s, zah, zak, ixT, ixF, ixR, zdM, zdN, zdO, zdP, zdt, zdk, zcH, zdu, zdQ, zdv, zdw, slT, slR, i2, c2, zdR, isB, isN, zdS, zdx, eqI, eqS, eqB, neI, neB, zdT, zdU, zdl, zdV, zdW, itT, itF, itR, zdX, zdY, zde, zae, zad, zau, zaF, zaT, zaV, za1, zb9, zan, zbU, za2, zbu, zbQ, zdj, zat, En.x, z7, zq, zV, Option.map_some, List.length_cons, List.length_nil, Nat.zero_add, Nat.reduceAdd, true_and, and_true, decide_eq_true_eq, ite_true, ite_false, Bool.not_true, Bool.not_false, Bool.false_eq_true, if_true, if_false, List.append_assoc, List.cons_append, List.nil_append, at0, at1, at2, at3, at4, at5, ix0, ix1, ix2, ix3, List.set_cons_zero, List.set_cons_succ,true_and]
  refine zol (fun _ => trivial) l 0 none none (by decide) h fun y2 y3 => ?_
  simp (config := {failIfUnchanged := false, implicitDefEqProofs := false}) only [zB, zaa, zM, aOp, aUn, aCB, zg, aC, zb, zm, zcw, zcX, zcY, zJ, aN, zaG, zP, za4, zU, zaJ, zQ, zab, zE, zaf, zb8, zbO, aOr, zaI, zam, zb3, zaN, aIf, zac, aCall, zbl, za7, aSl, zaR, aPt, zai, zca, za0, zas, zaE, zbP, zb6, aTT, zG, zY, aLc, zaS, zb4, zb5, zaK, zbM, zcW, En.g, En.s, zah, zak, ixT, ixF, ixR, zdM, zdN, zdO, zdP, zdt, zdk, zcH, zdu, zdQ, zdv, zdw, slT, slR, i2, c2, zdR, isB, isN, zdS, zdx, eqI, eqS, eqB, neI, neB, zdT, zdU, zdl, zdV, zdW, itT, itF, itR, zdX, zdY, zde, zae, zad, zau, zaF, zaT, zaV, za1, zb9, zan, zbU, za2, zbu, zbQ, zdj, zat, En.x, z7, zq, zV, Option.map_some, List.length_cons, List.length_nil, Nat.zero_add, Nat.reduceAdd, true_and, and_true, decide_eq_true_eq, ite_true, ite_false, Bool.not_true, Bool.not_false, Bool.false_eq_true, if_true, if_false, List.append_assoc, List.cons_append, List.nil_append, at0, at1, at2, at3, at4, at5, ix0, ix1, ix2, ix3, List.set_cons_zero, List.set_cons_succ,true_and]
  exact ⟨_, Sub.refl _, q⟩
section
theorem zla {b : List Nat} {i j : Nat} (hi : i ≤ b.length) (hj : j ≤ b.length) : Ab.cutD (iD b) (some (i : Int)) (some (j : Int)) = iD ((b.drop i).take (j - i)) := by
  unfold Ab.cutD
  rw [HT.sIx_nat, HT.sIx_nat, zcS, Nat.min_eq_left hi, Nat.min_eq_left hj]
  unfold iD
  rw [List.map_take, List.map_drop]
theorem zlK {b : List Nat} {j : Nat} (hj : j ≤ b.length) : Ab.cutD (iD b) none (some (j : Int)) = iD (b.take j) := by
  unfold Ab.cutD
  rw [HT.sIx_none, HT.sIx_nat, zcS, Nat.min_eq_left hj]
  unfold iD
  rw [List.map_take]
  simp
theorem zhu {b : List Nat} {i v : Nat} (h : b[i]? = some v) : atI (iD b) (i : Int) = some (.int (v : Int)) := by
  have hl : i < b.length := (List.getElem?_eq_some_iff.mp h).1
  rw [atI_nat (by omega) (by rw [zcS]; omega), Int.toNat_natCast]
  unfold iD
  rw [List.getElem?_map, h]
  rfl
def sl (b : List Nat) (i k : Nat) : List Nat := (b.drop i).take k
def By (b : List Nat) : Prop := ∀ x ∈ b, x < 256
theorem By.sl {b : List Nat} (h : By b) (i k : Nat) : By (sl b i k) := fun x hx => h x (List.mem_of_mem_drop (List.mem_of_mem_take hx))
theorem By.app {a b : List Nat} (h : By a) (h' : By b) : By (a ++ b) := fun x hx => by
  rcases List.mem_append.mp hx with z | z
  · exact h x z
  · exact h' x z
theorem By.take {b : List Nat} (h : By b) (k : Nat) : By (b.take k) := fun x hx => h x (List.mem_of_mem_take hx)
theorem By.drop {b : List Nat} (h : By b) (k : Nat) : By (b.drop k) := fun x hx => h x (List.mem_of_mem_drop hx)
theorem zgG {m : M} {b : List Nat} {i k : Nat} {Q : PQ} {R : PX} (hb : By b) (hk : k ≤ 7) (hi : i + k ≤ b.length) (q : Q (.int (fold 0 (sl b i k) : Nat)) m) : zbH [.tup (iD b), .int (i : Int), .int (k : Int)] m Q R := by
  refine zlF ?_
  unfold zgw
  rw [show (zcG) = zcG from rfl]
  have e : Ab.cutD (iD b) (some (i : Int)) (some ((i : Int) + (k : Int))) = iD (sl b i k) := by
    rw [show (i : Int) + (k : Int) = ((i + k : Nat) : Int) by omega, zla (by omega) hi, Nat.add_sub_cancel_left]
    rfl
  simp (config := {failIfUnchanged := false, implicitDefEqProofs := false}) only [zB, zaa, zM, aOp, aUn, aCB, zg, aC, zb, zm, zcw, zcX, zcY, zJ, aN, zaG, zP, za4, zU, zaJ, zQ, zab, zE, zaf, zb8, zbO, aOr, zaI, zam, zb3, zaN, aIf, zac, aCall, zbl, za7, aSl, zaR, aPt, zai, zca, za0, zas, zaE, zbP, zb6, aTT, zG, zY, aLc, zaS, zb4, zb5, zaK, zbM, zcW, En.g, En.s, zah, zak, ixT, ixF, ixR, zdM, zdN, zdO, zdP, zdt, zdk, zcH, zdu, zdQ, zdv, zdw, slT, slR, i2, c2, zdR, isB, isN, zdS, zdx, eqI, eqS, eqB, neI, neB, zdT, zdU, zdl, zdV, zdW, itT, itF, itR, zdX, zdY, zde, zae, zad, zau, zaF, zaT, zaV, za1, zb9, zan, zbU, za2, zbu, zbQ, zdj, zat, En.x, z7, zq, zV, Option.map_some, List.length_cons, List.length_nil, Nat.zero_add, Nat.reduceAdd, true_and, and_true, decide_eq_true_eq, ite_true, ite_false, Bool.not_true, Bool.not_false, Bool.false_eq_true, if_true, if_false, List.append_assoc, List.cons_append, List.nil_append, at0, at1, at2, at3, at4, at5, ix0, ix1, ix2, ix3, List.set_cons_zero, List.set_cons_succ,e]
  have l : (sl b i k).length ≤ 7 := by unfold sl; rw [List.length_take]; omega
  refine zoh (fun _ => trivial) (sl b i k) 0 0 none (by omega) (by decide) (hb.sl i k) fun x' => ?_
  simp (config := {failIfUnchanged := false, implicitDefEqProofs := false}) only [zB, zaa, zM, aOp, aUn, aCB, zg, aC, zb, zm, zcw, zcX, zcY, zJ, aN, zaG, zP, za4, zU, zaJ, zQ, zab, zE, zaf, zb8, zbO, aOr, zaI, zam, zb3, zaN, aIf, zac, aCall, zbl, za7, aSl, zaR, aPt, zai, zca, za0, zas, zaE, zbP, zb6, aTT, zG, zY, aLc, zaS, zb4, zb5, zaK, zbM, zcW, En.g, En.s, zah, zak, ixT, ixF, ixR, zdM, zdN, zdO, zdP, zdt, zdk, zcH, zdu, zdQ, zdv, zdw, slT, slR, i2, c2, zdR, isB, isN, zdS, zdx, eqI, eqS, eqB, neI, neB, zdT, zdU, zdl, zdV, zdW, itT, itF, itR, zdX, zdY, zde, zae, zad, zau, zaF, zaT, zaV, za1, zb9, zan, zbU, za2, zbu, zbQ, zdj, zat, En.x, z7, zq, zV, Option.map_some, List.length_cons, List.length_nil, Nat.zero_add, Nat.reduceAdd, true_and, and_true, decide_eq_true_eq, ite_true, ite_false, Bool.not_true, Bool.not_false, Bool.false_eq_true, if_true, if_false, List.append_assoc, List.cons_append, List.nil_append, at0, at1, at2, at3, at4, at5, ix0, ix1, ix2, ix3, List.set_cons_zero, List.set_cons_succ,true_and]
  exact ⟨_, Sub.refl _, q⟩
structure Lab where
  kind : Nat
  index : Nat
  many : Nat
  epoch : Nat
  commit : Nat
  number : Nat
  content : List Nat
structure Lab.ok (l : Lab) : Prop where
  kind : l.kind < 4
  index : l.index < 256
  many : l.many < 256
  epoch : l.epoch < 4294967296
  commit : l.commit < 4294967296
  number : l.number < 65536
  by_ : By l.content
  len : l.content.length ≤ 96
def kd : Nat → Str
  | 0 => "part"
  | 1 => "page"
  | 2 => "head"
  | _ => "blank"
def Lab.d (l : Lab) : D := .tup [.str (kd l.kind), .int l.index, .int l.many, .int l.epoch, .int l.commit, .int l.number, .tup (iD l.content)]
def front (s : Nat) (l : Lab) : List Nat := be 4 s ++ ([l.kind + 1, l.index, l.many, l.content.length] ++ (be 4 l.epoch ++ (be 4 l.commit ++ (be 2 l.number ++ l.content))))
def padded (s : Nat) (l : Lab) : List Nat := front s l ++ List.replicate (122 - (front s l).length) 0
def blk (s : Nat) (l : Lab) : List Nat := padded s l ++ (be 2 (crc (padded s l)) ++ be 4 s)
section
variable {s : Nat} {l : Lab}
theorem zeN : (front s l).length = 18 + l.content.length := by
  unfold front
  simp only [List.length_append, zaC, List.length_cons, List.length_nil]
  omega
theorem zdD (h : l.ok) : (padded s l).length = 122 := by
  have := h.len
  unfold padded
  rw [List.length_append, List.length_replicate, zeN]
  omega
theorem zlL (h : l.ok) : (blk s l).length = 128 := by
  unfold blk
  rw [List.length_append, zdD h, List.length_append, zaC, zaC]
theorem zj2 (k v : Nat) : By (be k v) := zqy k v
theorem zrk (h : l.ok) : By [l.kind + 1, l.index, l.many, l.content.length] := fun x hx => by
  have h1 := h.kind
  have h2 := h.index
  have h3 := h.many
  have h4 := h.len
  simp only [List.mem_cons, List.not_mem_nil, or_false] at hx
  rcases hx with e | e | e | e <;> omega
theorem zp7 (h : l.ok) : By (front s l) := (zj2 _ _).app ((zrk h).app ((zj2 _ _).app ((zj2 _ _).app ((zj2 _ _).app h.by_))))
theorem zfI (h : l.ok) : By (padded s l) := (zp7 h).app fun x hx => by
  have := (List.mem_replicate.mp hx).2
  omega
theorem znp (h : l.ok) : By (blk s l) := (zfI h).app ((zj2 _ _).app (zj2 _ _))
theorem zuy (h : l.ok) : Lab.d l = .tup [.str (kd l.kind), .int l.index, .int l.many, .int l.epoch, .int l.commit, .int l.number, .tup (iD l.content)] := rfl
theorem ztl : ∀ {k : Nat}, k < 4 → [("part" : Str), ("page" : Str), ("head" : Str), ("blank" : Str)][k]? = some (kd k) ∧ ∀ i, i < k → [("part" : Str), ("page" : Str), ("head" : Str), ("blank" : Str)][i]? ≠ some (kd k)
  | 0, _ => by decide +kernel
  | 1, _ => by decide +kernel
  | 2, _ => by decide +kernel
  | 3, _ => by decide +kernel
  | _ + 4, h => by omega
theorem rep0 {n : Nat} : (List.replicate n [D.int 0]).flatten = iD (List.replicate n 0) := by
  induction n with
  | zero => rfl
  | succ n ih => rw [List.replicate_succ, List.flatten_cons, ih]; rfl
end
end
section
section
variable {s : Nat} {l : Lab}
theorem zrl : iD (be 4 s) ++ D.int ((l.kind : Int) + 1) :: D.int (l.index : Int) :: D.int (l.many : Int) :: D.int (l.content.length : Int) :: (iD (be 4 l.epoch) ++ (iD (be 4 l.commit) ++ (iD (be 2 l.number) ++ iD l.content))) = iD (front s l) := by
  unfold front
  generalize be 4 s = a
  generalize be 4 l.epoch = b
  generalize be 4 l.commit = c
  generalize be 2 l.number = d
  rw [zfH, zfH, zfH, zfH, zfH]
  simp [iD]
theorem zss : iD (front s l) ++ (List.replicate (122 - (front s l).length) [D.int 0]).flatten = iD (padded s l) := by
  unfold padded
  rw [zfH, rep0]
theorem lb0 {A : zaU} {m : M} {x0 x1 x2 x3 x4 x5 x6 x7 x8 x9 : Option D} (h : l.ok) (q : A.rt (.tup (iD (blk s l))) m) : zeI A [x0, x1, x2, x3, x4, x5, x6, x7, x8, x9, some (.tup (iD (padded s l)))] m := by
  have l1 := zdD (s := s) h
  have e4 : Ab.cutD (iD (padded s l)) none (some 4) = iD (be 4 s) := by
    rw [show (4 : Int) = ((4 : Nat) : Int) by rfl, zlK (by omega)]
    unfold padded front
    rw [List.append_assoc, List.take_append_of_le_length (by rw [zaC]; omega), List.take_of_length_le (by rw [zaC]; omega)]
  have e : iD (blk s l) = iD (padded s l) ++ iD (be 2 (crc (padded s l))) ++ iD (be 4 s) := by
    unfold blk
    rw [zfH, zfH, List.append_assoc]
  have b1 := zaC 2 (crc (padded s l))
  have b2 := zaC 4 s
  rw [e] at q
  unfold zeI
  simp (config := {failIfUnchanged := false, implicitDefEqProofs := false}) only [zB, zaa, zM, aOp, aUn, aCB, zg, aC, zb, zm, zcw, zcX, zcY, zJ, aN, zaG, zP, za4, zU, zaJ, zQ, zab, zE, zaf, zb8, zbO, aOr, zaI, zam, zb3, zaN, aIf, zac, aCall, zbl, za7, aSl, zaR, aPt, zai, zca, za0, zas, zaE, zbP, zb6, aTT, zG, zY, aLc, zaS, zb4, zb5, zaK, zbM, zcW, En.g, En.s, zah, zak, ixT, ixF, ixR, zdM, zdN, zdO, zdP, zdt, zdk, zcH, zdu, zdQ, zdv, zdw, slT, slR, i2, c2, zdR, isB, isN, zdS, zdx, eqI, eqS, eqB, neI, neB, zdT, zdU, zdl, zdV, zdW, itT, itF, itR, zdX, zdY, zde, zae, zad, zau, zaF, zaT, zaV, za1, zb9, zan, zbU, za2, zbu, zbQ, zdj, zat, En.x, z7, zq, zV, Option.map_some, List.length_cons, List.length_nil, Nat.zero_add, Nat.reduceAdd, true_and, and_true, decide_eq_true_eq, ite_true, ite_false, Bool.not_true, Bool.not_false, Bool.false_eq_true, if_true, if_false, List.append_assoc, List.cons_append, List.nil_append, at0, at1, at2, at3, at4, at5, ix0, ix1, ix2, ix3, List.set_cons_zero, List.set_cons_succ,true_and]
  refine zsr (zfI h) ?_
  refine zgF (k := 2) (by decide) ?_
  rw [zcH, e4, zcH]
  simp only [List.length_append, zcS]
  exact ⟨by unfold big; omega, by unfold big; omega, q⟩
theorem lb1 {A : zaU} {m : M} {x0 x1 x2 x3 x4 x5 x6 x7 x8 x9 : Option D} (h : l.ok) (q : A.rt (.tup (iD (blk s l))) m) : zeJ A [x0, x1, x2, x3, x4, x5, x6, x7, x8, x9, some (.tup (iD (front s l)))] m := by
  have h7 := h.len
  have fl := zeN (s := s) (l := l)
  unfold zeJ
  simp (config := {failIfUnchanged := false, implicitDefEqProofs := false}) only [zB, zaa, zM, aOp, aUn, aCB, zg, aC, zb, zm, zcw, zcX, zcY, zJ, aN, zaG, zP, za4, zU, zaJ, zQ, zab, zE, zaf, zb8, zbO, aOr, zaI, zam, zb3, zaN, aIf, zac, aCall, zbl, za7, aSl, zaR, aPt, zai, zca, za0, zas, zaE, zbP, zb6, aTT, zG, zY, aLc, zaS, zb4, zb5, zaK, zbM, zcW, En.g, En.s, zah, zak, ixT, ixF, ixR, zdM, zdN, zdO, zdP, zdt, zdk, zcH, zdu, zdQ, zdv, zdw, slT, slR, i2, c2, zdR, isB, isN, zdS, zdx, eqI, eqS, eqB, neI, neB, zdT, zdU, zdl, zdV, zdW, itT, itF, itR, zdX, zdY, zde, zae, zad, zau, zaF, zaT, zaV, za1, zb9, zan, zbU, za2, zbu, zbQ, zdj, zat, En.x, z7, zq, zV, Option.map_some, List.length_cons, List.length_nil, Nat.zero_add, Nat.reduceAdd, true_and, and_true, decide_eq_true_eq, ite_true, ite_false, Bool.not_true, Bool.not_false, Bool.false_eq_true, if_true, if_false, List.append_assoc, List.cons_append, List.nil_append, at0, at1, at2, at3, at4, at5, ix0, ix1, ix2, ix3, List.set_cons_zero, List.set_cons_succ,true_and]
  rw [zcS]
  have e : ((122 : Int) - ((front s l).length : Int)).toNat = 122 - (front s l).length := by omega
  rw [e, zss]
  refine ⟨by unfold big; decide, ⟨by simp, by omega, by omega, by decide⟩, ?_, ?_⟩
  · rw [rep0, zcS, List.length_replicate]
    unfold big
    omega
  · exact lb0 h q
theorem lb3 {A : zaU} {m : M} {x0 x1 x2 : Option D} (h : l.ok) (q : A.rt (.tup (iD (blk s l))) m) : zeK A [some (.int s), x1, x2, some (.int l.index), some (.int l.many), some (.int l.epoch), some (.int l.commit), some (.int l.number), some (.tup (iD l.content)), some (.int ((l.kind : Int) + 1)), x0] m := by
  have h7 := h.len
  have fl := zeN (s := s) (l := l)
  unfold zeK
  simp (config := {failIfUnchanged := false, implicitDefEqProofs := false}) only [zB, zaa, zM, aOp, aUn, aCB, zg, aC, zb, zm, zcw, zcX, zcY, zJ, aN, zaG, zP, za4, zU, zaJ, zQ, zab, zE, zaf, zb8, zbO, aOr, zaI, zam, zb3, zaN, aIf, zac, aCall, zbl, za7, aSl, zaR, aPt, zai, zca, za0, zas, zaE, zbP, zb6, aTT, zG, zY, aLc, zaS, zb4, zb5, zaK, zbM, zcW, En.g, En.s, zah, zak, ixT, ixF, ixR, zdM, zdN, zdO, zdP, zdt, zdk, zcH, zdu, zdQ, zdv, zdw, slT, slR, i2, c2, zdR, isB, isN, zdS, zdx, eqI, eqS, eqB, neI, neB, zdT, zdU, zdl, zdV, zdW, itT, itF, itR, zdX, zdY, zde, zae, zad, zau, zaF, zaT, zaV, za1, zb9, zan, zbU, za2, zbu, zbQ, zdj, zat, En.x, z7, zq, zV, Option.map_some, List.length_cons, List.length_nil, Nat.zero_add, Nat.reduceAdd, true_and, and_true, decide_eq_true_eq, ite_true, ite_false, Bool.not_true, Bool.not_false, Bool.false_eq_true, if_true, if_false, List.append_assoc, List.cons_append, List.nil_append, at0, at1, at2, at3, at4, at5, ix0, ix1, ix2, ix3, List.set_cons_zero, List.set_cons_succ,true_and]
  refine zgF (k := 4) (by decide) ?_
  rw [zcH, zcS, zaC]
  refine ⟨by unfold big; decide, by simp only [List.length_cons, List.length_nil]; unfold big; decide, ?_⟩
  unfold zgA
  simp (config := {failIfUnchanged := false, implicitDefEqProofs := false}) only [zB, zaa, zM, aOp, aUn, aCB, zg, aC, zb, zm, zcw, zcX, zcY, zJ, aN, zaG, zP, za4, zU, zaJ, zQ, zab, zE, zaf, zb8, zbO, aOr, zaI, zam, zb3, zaN, aIf, zac, aCall, zbl, za7, aSl, zaR, aPt, zai, zca, za0, zas, zaE, zbP, zb6, aTT, zG, zY, aLc, zaS, zb4, zb5, zaK, zbM, zcW, En.g, En.s, zah, zak, ixT, ixF, ixR, zdM, zdN, zdO, zdP, zdt, zdk, zcH, zdu, zdQ, zdv, zdw, slT, slR, i2, c2, zdR, isB, isN, zdS, zdx, eqI, eqS, eqB, neI, neB, zdT, zdU, zdl, zdV, zdW, itT, itF, itR, zdX, zdY, zde, zae, zad, zau, zaF, zaT, zaV, za1, zb9, zan, zbU, za2, zbu, zbQ, zdj, zat, En.x, z7, zq, zV, Option.map_some, List.length_cons, List.length_nil, Nat.zero_add, Nat.reduceAdd, true_and, and_true, decide_eq_true_eq, ite_true, ite_false, Bool.not_true, Bool.not_false, Bool.false_eq_true, if_true, if_false, List.append_assoc, List.cons_append, List.nil_append, at0, at1, at2, at3, at4, at5, ix0, ix1, ix2, ix3, List.set_cons_zero, List.set_cons_succ,true_and]
  refine zgF (k := 4) (by decide) ?_
  rw [zcH]
  refine ⟨by simp only [List.length_append, zcS, zaC, List.length_cons, List.length_nil]; unfold big; omega, ?_⟩
  refine zgF (k := 4) (by decide) ?_
  rw [zcH]
  refine ⟨by simp only [List.length_append, zcS, zaC, List.length_cons, List.length_nil]; unfold big; omega, ?_⟩
  refine zgF (k := 2) (by decide) ?_
  rw [zcH, zcH]
  refine ⟨by simp only [List.length_append, zcS, zaC, List.length_cons, List.length_nil]; unfold big; omega, by simp only [List.length_append, zcS, zaC, List.length_cons, List.length_nil]; unfold big; omega, ?_⟩
  have e := zrl (s := s) (l := l)
  simp only [List.append_assoc, List.cons_append, List.nil_append] at e ⊢
  rw [zcS, e]
  exact lb1 h q
theorem zst {k : Nat} (h : k < 4) : ∃ j z, ([.str ("part" : Str), .str ("page" : Str), .str ("head" : Str), .str ("blank" : Str)] : List D)[j]? = some z ∧ eqV z.fv (D.str (kd k)).fv = true ∧ (∀ (i : Nat) z', i < j → ([.str ("part" : Str), .str ("page" : Str), .str ("head" : Str), .str ("blank" : Str)] : List D)[i]? = some z' → eqV z'.fv (D.str (kd k)).fv = false) ∧ j = k := by
  match k, h with
  | 0, _ => exact ⟨0, _, rfl, by decide +kernel, fun i z' hi => by omega, rfl⟩
  | 1, _ => exact ⟨1, _, rfl, by decide +kernel, fun i z' hi e => by
      obtain rfl : i = 0 := by omega
      cases e; decide +kernel, rfl⟩
  | 2, _ => exact ⟨2, _, rfl, by decide +kernel, fun i z' hi e => by
      have : i = 0 ∨ i = 1 := by omega
      rcases this with rfl | rfl <;> (cases e; decide +kernel), rfl⟩
  | 3, _ => exact ⟨3, _, rfl, by decide +kernel, fun i z' hi e => by
      have : i = 0 ∨ i = 1 ∨ i = 2 := by omega
      rcases this with rfl | rfl | rfl <;> (cases e; decide +kernel), rfl⟩
  | _ + 4, h => omega
theorem zp8 {m : M} {Q : PQ} {R : PX} (h : l.ok) (q : Q (.tup (iD (blk s l))) m) : zdH [.int (s : Int), l.d] m Q R := by
  refine zk9 ?_
  rw [zuy h]
  unfold zfU
  simp (config := {failIfUnchanged := false, implicitDefEqProofs := false}) only [zB, zaa, zM, aOp, aUn, aCB, zg, aC, zb, zm, zcw, zcX, zcY, zJ, aN, zaG, zP, za4, zU, zaJ, zQ, zab, zE, zaf, zb8, zbO, aOr, zaI, zam, zb3, zaN, aIf, zac, aCall, zbl, za7, aSl, zaR, aPt, zai, zca, za0, zas, zaE, zbP, zb6, aTT, zG, zY, aLc, zaS, zb4, zb5, zaK, zbM, zcW, En.g, En.s, zah, zak, ixT, ixF, ixR, zdM, zdN, zdO, zdP, zdt, zdk, zcH, zdu, zdQ, zdv, zdw, slT, slR, i2, c2, zdR, isB, isN, zdS, zdx, eqI, eqS, eqB, neI, neB, zdT, zdU, zdl, zdV, zdW, itT, itF, itR, zdX, zdY, zde, zae, zad, zau, zaF, zaT, zaV, za1, zb9, zan, zbU, za2, zbu, zbQ, zdj, zat, En.x, z7, zq, zV, Option.map_some, List.length_cons, List.length_nil, Nat.zero_add, Nat.reduceAdd, true_and, and_true, decide_eq_true_eq, ite_true, ite_false, Bool.not_true, Bool.not_false, Bool.false_eq_true, if_true, if_false, List.append_assoc, List.cons_append, List.nil_append, at0, at1, at2, at3, at4, at5, ix0, ix1, ix2, ix3, List.set_cons_zero, List.set_cons_succ,true_and]
  unfold zgB
  simp (config := {failIfUnchanged := false, implicitDefEqProofs := false}) only [zB, zaa, zM, aOp, aUn, aCB, zg, aC, zb, zm, zcw, zcX, zcY, zJ, aN, zaG, zP, za4, zU, zaJ, zQ, zab, zE, zaf, zb8, zbO, aOr, zaI, zam, zb3, zaN, aIf, zac, aCall, zbl, za7, aSl, zaR, aPt, zai, zca, za0, zas, zaE, zbP, zb6, aTT, zG, zY, aLc, zaS, zb4, zb5, zaK, zbM, zcW, En.g, En.s, zah, zak, ixT, ixF, ixR, zdM, zdN, zdO, zdP, zdt, zdk, zcH, zdu, zdQ, zdv, zdw, slT, slR, i2, c2, zdR, isB, isN, zdS, zdx, eqI, eqS, eqB, neI, neB, zdT, zdU, zdl, zdV, zdW, itT, itF, itR, zdX, zdY, zde, zae, zad, zau, zaF, zaT, zaV, za1, zb9, zan, zbU, za2, zbu, zbQ, zdj, zat, En.x, z7, zq, zV, Option.map_some, List.length_cons, List.length_nil, Nat.zero_add, Nat.reduceAdd, true_and, and_true, decide_eq_true_eq, ite_true, ite_false, Bool.not_true, Bool.not_false, Bool.false_eq_true, if_true, if_false, List.append_assoc, List.cons_append, List.nil_append, at0, at1, at2, at3, at4, at5, ix0, ix1, ix2, ix3, List.set_cons_zero, List.set_cons_succ,true_and]
  refine ⟨by unfold big; decide, fun p hp => ⟨⟨rfl, by decide +kernel⟩, ?_⟩⟩
  obtain ⟨j, z, a, b, c, d⟩ := zst h.kind
  refine ⟨j, z, a, b, c, ?_⟩
  rw [d]
  exact lb3 h ⟨m, Sub.new hp, q⟩
end
end
section
theorem znq (l : List Nat) : (iD l).all D.isNum = true := by
  unfold iD
  rw [List.all_map]
  exact List.all_eq_true.mpr fun _ _ => rfl
theorem zoX (l : List Nat) : (iD l).any D.tr = l.any fun x => x != 0 := by
  unfold iD
  rw [List.any_map]
  congr 1
  funext x
  show ((x : Int) != 0) = (x != 0)
  rw [Bool.eq_iff_iff]
  simp
theorem zfJ {a b c l : List Nat} {i k : Nat} (e : l = a ++ (b ++ c)) (hi : a.length = i) (hk : b.length = k) : sl l i k = b := by
  subst e hi hk
  unfold sl
  rw [List.drop_left, List.take_left]
theorem zlb {a c l : List Nat} {i v : Nat} (e : l = a ++ (v :: c)) (hi : a.length = i) : l[i]? = some v := by
  subst e hi
  simp
section
variable {s : Nat} {l : Lab} {m : M} {Q : PQ} {R : PX} {b : List Nat}
theorem ziE (hb : By b) (hl : b.length = 128) (q : Q (.tup [.int (fold 0 (sl b 0 4) : Nat), .int (fold 0 (sl b 124 4) : Nat)]) m) : zcI [.tup (iD b)] m Q R := by
  refine zk3 ?_
  unfold zfO
  simp only [zP, zE]
  refine zj (zK (zj (zu rfl (zj (cI (zj (cI (zA ⟨rfl, ?_⟩))))))))
  refine zgG (i := 0) (k := 4) hb (by decide) (by omega) ?_
  refine zj (zK (zj (zu rfl (zj (cI (zj (cI (zA ⟨rfl, ?_⟩))))))))
  refine zgG (i := 124) (k := 4) hb (by decide) (by omega) ?_
  refine zA ⟨by show 2 ≤ big; decide, _, Sub.refl _, q⟩
theorem zsu {v : Nat} (hb : By b) (hl : b.length = 128) (hv : b[7]? = some v) (q : zcJ { nx := fun _ m' => ∃ m2, Ab.Sub m2 m' ∧ Q .non m2, rt := fun d m' => ∃ m2, Ab.Sub m2 m' ∧ Q d m2, xe := fun _ x m' => ∃ m2, Ab.Sub m2 m' ∧ R x m2 } [some (.tup (iD b)), some (.int (fold 0 (sl b 0 4) : Nat)), some (.int (fold 0 (sl b 124 4) : Nat)), some (.int v)] m) : zda [.tup (iD b)] m Q R := by
  refine zjH ?_
  unfold zgf
  generalize hX : zcJ = X at q
  simp only [zB, zJ]
  refine zK (zj (zu rfl (zA ⟨rfl, ?_⟩)))
  refine ziE hb hl ?_
  simp (config := {failIfUnchanged := false, implicitDefEqProofs := false}) only [zB, zaa, zM, aOp, aUn, aCB, zg, aC, zb, zm, zcw, zcX, zcY, zJ, aN, zaG, zP, za4, zU, zaJ, zQ, zab, zE, zaf, zb8, zbO, aOr, zaI, zam, zb3, zaN, aIf, zac, aCall, zbl, za7, aSl, zaR, aPt, zai, zca, za0, zas, zaE, zbP, zb6, aTT, zG, zY, aLc, zaS, zb4, zb5, zaK, zbM, zcW, En.g, En.s, zah, zak, ixT, ixF, ixR, zdM, zdN, zdO, zdP, zdt, zdk, zcH, zdu, zdQ, zdv, zdw, slT, slR, i2, c2, zdR, isB, isN, zdS, zdx, eqI, eqS, eqB, neI, neB, zdT, zdU, zdl, zdV, zdW, itT, itF, itR, zdX, zdY, zde, zae, zad, zau, zaF, zaT, zaV, za1, zb9, zan, zbU, za2, zbu, zbQ, zdj, zat, En.x, z7, zq, zV, Option.map_some, List.length_cons, List.length_nil, Nat.zero_add, Nat.reduceAdd, true_and, and_true, decide_eq_true_eq, ite_true, ite_false, Bool.not_true, Bool.not_false, Bool.false_eq_true, if_true, if_false, List.append_assoc, List.cons_append, List.nil_append, at0, at1, at2, at3, at4, at5, ix0, ix1, ix2, ix3, List.set_cons_zero, List.set_cons_succ,true_and]
  unfold zeu
  rw [hX]
  simp only [zB, zJ]
  refine opI (zu rfl (cI ?_))
  rw [ixT, show (7 : Int) = ((7 : Nat) : Int) by rfl, zhu hv]
  exact q
theorem zgh : blk s l = be 4 s ++ ([l.kind + 1, l.index, l.many, l.content.length] ++ (be 4 l.epoch ++ (be 4 l.commit ++ (be 2 l.number ++ (l.content ++ (List.replicate (122 - (front s l).length) 0 ++ (be 2 (crc (padded s l)) ++ be 4 s))))))) := by
  unfold blk
  generalize be 2 (crc (padded s l)) = z
  unfold padded
  generalize hr : List.replicate (122 - (front s l).length) 0 = y
  unfold front
  simp only [List.append_assoc]
theorem zqz : sl (blk s l) 0 4 = be 4 s := zfJ (a := []) (by rw [zgh]; rfl) rfl (zaC _ _)
theorem zom (h : l.ok) : sl (blk s l) 124 4 = be 4 s := zfJ (a := padded s l ++ be 2 (crc (padded s l))) (c := []) (by unfold blk; simp only [List.append_assoc, List.append_nil]) (by rw [List.length_append, zdD h, zaC]) (zaC _ _)
theorem zon (h : l.ok) : sl (blk s l) 122 2 = be 2 (crc (padded s l)) := zfJ (a := padded s l) (by unfold blk; rfl) (zdD h) (zaC _ _)
theorem ztm : sl (blk s l) 8 4 = be 4 l.epoch := zfJ (a := be 4 s ++ [l.kind + 1, l.index, l.many, l.content.length]) (by rw [zgh]; simp only [List.append_assoc]; rfl) (by rw [List.length_append, zaC]; rfl) (zaC _ _)
theorem zsv : sl (blk s l) 12 4 = be 4 l.commit := zfJ (a := be 4 s ++ ([l.kind + 1, l.index, l.many, l.content.length] ++ be 4 l.epoch)) (by rw [zgh]; simp only [List.append_assoc]; rfl) (by rw [List.length_append, List.length_append, zaC, zaC]; rfl) (zaC _ _)
theorem zsw : sl (blk s l) 16 2 = be 2 l.number := zfJ (a := be 4 s ++ ([l.kind + 1, l.index, l.many, l.content.length] ++ (be 4 l.epoch ++ be 4 l.commit))) (by rw [zgh]; simp only [List.append_assoc]; rfl) (by rw [List.length_append, List.length_append, List.length_append, zaC, zaC, zaC]; rfl) (zaC _ _)
theorem ztn : sl (blk s l) 18 l.content.length = l.content := zfJ (a := be 4 s ++ ([l.kind + 1, l.index, l.many, l.content.length] ++ (be 4 l.epoch ++ (be 4 l.commit ++ be 2 l.number)))) (by rw [zgh]; simp only [List.append_assoc]; rfl) (by rw [List.length_append, List.length_append, List.length_append, List.length_append, zaC, zaC, zaC, zaC]; rfl) rfl
theorem zqA (h : l.ok) : sl (blk s l) (18 + l.content.length) (122 - (18 + l.content.length)) = List.replicate (122 - (front s l).length) 0 := zfJ (a := front s l) (by unfold blk padded; rw [List.append_assoc]) zeN (by rw [List.length_replicate, zeN])
theorem zqB : (blk s l)[4]? = some (l.kind + 1) := zlb (a := be 4 s) (by rw [zgh]; rfl) (zaC _ _)
theorem zto : (blk s l)[5]? = some l.index := zlb (a := be 4 s ++ [l.kind + 1]) (by rw [zgh]; simp only [List.append_assoc]; rfl) (by rw [List.length_append, zaC]; rfl)
theorem ztp : (blk s l)[6]? = some l.many := zlb (a := be 4 s ++ [l.kind + 1, l.index]) (by rw [zgh]; simp only [List.append_assoc]; rfl) (by rw [List.length_append, zaC]; rfl)
theorem zqC : (blk s l)[7]? = some l.content.length := zlb (a := be 4 s ++ [l.kind + 1, l.index, l.many]) (by rw [zgh]; simp only [List.append_assoc]; rfl) (by rw [List.length_append, zaC]; rfl)
theorem zqD (h : l.ok) : (blk s l).take 122 = padded s l := by
  unfold blk
  rw [List.take_append_of_le_length (by rw [zdD h]; exact Nat.le_refl _), List.take_of_length_le (by rw [zdD h]; exact Nat.le_refl _)]
theorem zsx (h : l.ok) (h0 : 0 < s) (hs : s < 4294967296) (q : Q (.bl true) m) : zda [.tup (iD (blk s l))] m Q R := by
  have hl := zlL (s := s) h
  have hb := znp (s := s) h
  have h7 := h.len
  have hk := h.kind
  have f0 : fold 0 (sl (blk s l) 0 4) = s := by rw [zqz]; exact zdK 4 s (by omega)
  have f1 : fold 0 (sl (blk s l) 124 4) = s := by rw [zom h]; exact zdK 4 s (by omega)
  have f2 : fold 0 (sl (blk s l) 122 2) = crc (padded s l) := by
    have := zpv (zfI (s := s) h)
    rw [zon h]; exact zdK 2 _ (by omega)
  refine zsu hb hl zqC ?_
  rw [f0, f1]
  unfold zcJ
  simp only [zP]
  refine zd0 (opI (zu rfl (zu rfl ?_)))
  rw [eqI]
  show (if decide _ = true then _ else _)
  rw [if_pos (by simp)]
  refine zd0 (opI (zu rfl (cI ?_)))
  rw [neI]
  show (if (!decide _) = true then _ else _)
  rw [if_pos (by simp; omega)]
  refine zd0 ?_
  simp only [zac, aOp, zg, aC, aCB, zb, zm, En.g]
  rw [ixT, show (4 : Int) = ((4 : Nat) : Int) by rfl, zhu zqB]
  show za2 _ _ _ _
  rw [leI]
  show (if decide _ = true then _ else _)
  rw [if_pos (by simp; omega)]
  simp only [zah, zdl]
  rw [leI]
  show (if decide _ = true then _ else _)
  rw [if_pos (by simp; omega)]
  refine zd0 (opI (zu rfl (cI ?_)))
  rw [leI]
  show (if decide _ = true then _ else _)
  rw [if_pos (by simp; omega)]
  refine zd0 (notI ?_)
  have ez : Ab.cutD (iD (blk s l)) (some (18 + (l.content.length : Int))) (some 122) = iD (List.replicate (122 - (front s l).length) 0) := by
    rw [show (18 + (l.content.length : Int)) = ((18 + l.content.length : Nat) : Int) by omega, show (122 : Int) = ((122 : Nat) : Int) by rfl, zla (by omega) (by omega)]
    rw [show ((blk s l).drop (18 + l.content.length)).take (122 - (18 + l.content.length)) = sl (blk s l) (18 + l.content.length) (122 - (18 + l.content.length)) from rfl, zqA h]
  simp only [aCB, zb, zm, aSl, aPt, aOp, aC, zg, En.g, zdk, slT, ez, zde]
  refine ⟨znq _, ?_⟩
  rw [zoX]
  show (if (!_) = true then _ else _)
  rw [if_pos (by simp)]
  have et : Ab.cutD (iD (blk s l)) none (some 122) = iD (padded s l) := by
    rw [show (122 : Int) = ((122 : Nat) : Int) by rfl, zlK (by omega), zqD h]
  refine opI (zK ?_)
  simp only [zb, zm, aSl, aPt, zaR, aC, zg, En.g, slT, et]
  refine ⟨rfl, restOf (zfI h) ?_⟩
  refine zK (zj (zu rfl (zj (cI (zj (cI (zA ⟨rfl, ?_⟩)))))))
  refine zgG (i := 122) (k := 2) hb (by decide) (by omega) ?_
  rw [f2, eqI]
  exact ⟨m, Sub.refl _, by simpa using q⟩
theorem rl0 {A : zaU} (h : l.ok) (q : A.rt l.d m) : ze4 A [some (.tup (iD (blk s l))), some (.int (18 + (l.content.length : Int)))] m := by
  have hl := zlL (s := s) h
  have hb := znp (s := s) h
  have h7 := h.len
  have hk := h.kind
  have g8 : fold 0 (sl (blk s l) 8 4) = l.epoch := by rw [ztm]; exact zdK 4 _ h.epoch
  have g12 : fold 0 (sl (blk s l) 12 4) = l.commit := by rw [zsv]; exact zdK 4 _ h.commit
  have g16 : fold 0 (sl (blk s l) 16 2) = l.number := by rw [zsw]; exact zdK 2 _ h.number
  have a4 : atI (iD (blk s l)) 4 = some (.int ((l.kind + 1 : Nat) : Int)) := zhu (i := 4) zqB
  have a5 : atI (iD (blk s l)) 5 = some (.int (l.index : Int)) := zhu (i := 5) zto
  have a6 : atI (iD (blk s l)) 6 = some (.int (l.many : Int)) := zhu (i := 6) ztp
  unfold ze4
  simp only [zP, zE, aN, En.s]
  refine zj (opI (cI (opI (opI (zu rfl (cI ?_))))))
  rw [ixT, a4]
  refine cI ?_
  rw [zui, ixT, show ((l.kind + 1 : Nat) : Int) - 1 = ((l.kind : Nat) : Int) by omega]
  have ek : atI [D.str ("part" : Str), .str ("page" : Str), .str ("head" : Str), .str ("blank" : Str)] (l.kind : Int) = some (.str (kd l.kind)) := by
    rw [atI_nat (by omega) (by simp; omega), Int.toNat_natCast]
    have := (ztl hk).1
    have e : ([D.str ("part" : Str), .str ("page" : Str), .str ("head" : Str), .str ("blank" : Str)] : List D) = [("part" : Str), ("page" : Str), ("head" : Str), ("blank" : Str)].map D.str := rfl
    rw [e, List.getElem?_map, this]
    rfl
  rw [ek]
  refine zj (opI (zu rfl (cI ?_)))
  rw [ixT, a5]
  refine zj (opI (zu rfl (cI ?_)))
  rw [ixT, a6]
  refine zj (zK (zj (zu rfl (zj (cI (zj (cI (zA ⟨rfl, ?_⟩))))))))
  refine zgG (i := 8) (k := 4) hb (by decide) (by omega) ?_
  refine zj (zK (zj (zu rfl (zj (cI (zj (cI (zA ⟨rfl, ?_⟩))))))))
  refine zgG (i := 12) (k := 4) hb (by decide) (by omega) ?_
  refine zj (zK (zj (zu rfl (zj (cI (zj (cI (zA ⟨rfl, ?_⟩))))))))
  refine zgG (i := 16) (k := 2) hb (by decide) (by omega) ?_
  have ec : Ab.cutD (iD (blk s l)) (some 18) (some (18 + (l.content.length : Int))) = iD l.content := by
    rw [show (18 + (l.content.length : Int)) = ((18 + l.content.length : Nat) : Int) by omega, show (18 : Int) = ((18 : Nat) : Int) by rfl, zla (by omega) (by omega)]
    rw [show ((blk s l).drop 18).take (18 + l.content.length - 18) = sl (blk s l) 18 l.content.length by unfold sl; rw [Nat.add_sub_cancel_left], ztn]
  refine zj ?_
  simp only [aSl, zaR, aPt, zg, aC, En.g]
  rw [slT, ec, g8, g12, g16]
  refine zA ⟨by show 7 ≤ big; decide, q⟩
end
end
section
def F2 {α β : Type} (P : α → β → Prop) : List α → List β → Prop
  | [], [] => True
  | a :: as, b :: bs => P a b ∧ F2 P as bs
  | _, _ => False
theorem F2.app {α β : Type} {P : α → β → Prop} : ∀ {as cs : List α} {bs ds : List β}, F2 P as bs → F2 P cs ds → F2 P (as ++ cs) (bs ++ ds)
  | [], _, [], _, _, h => h
  | a :: as, _, b :: bs, _, h, k => ⟨h.1, F2.app h.2 k⟩
  | [], _, _ :: _, _, h, _ => h.elim
  | _ :: _, _, [], _, h, _ => h.elim
theorem F2.len {α β : Type} {P : α → β → Prop} : ∀ {as : List α} {bs : List β}, F2 P as bs → as.length = bs.length
  | [], [], _ => rfl
  | a :: as, b :: bs, h => by simp [F2.len h.2]
  | [], _ :: _, h => h.elim
  | _ :: _, [], h => h.elim
abbrev JR (ns : List Int) (r : Addr) (m0 : M) : M → Prop := fun m => RowAt ns m r ∧ Ev r m0 m
theorem JR.set {ns : List Int} {r p : Addr} {m0 : M} (h0 : RowAt ns m0 r) (hp : m0 p = none) : ∀ m o, JR ns r m0 m → JR ns r m0 (mset m p o) := fun m o h => by
  refine ⟨h.1.put (h0.ne hp), fun a u n e => ?_⟩
  rw [zaX fun z => by rw [z, hp] at e; cases e]
  exact h.2 a u n e
theorem zoY {x : D} : ∀ n : Nat, (List.replicate n [x]).flatten = List.replicate n x
  | 0 => rfl
  | n + 1 => by rw [List.replicate_succ, List.flatten_cons, zoY n]; rfl
theorem ziF {a : Addr} {x : D} {k : Int} {n : Nat} {m : M} {Q : PQ} (hl : m.l a = some [x]) (hk : k.toNat = n) (h1 : -(2 ^ 62) ≤ k ∧ k < 2 ^ 62) (h3 : n ≤ 1000) (q : ∀ p, m p = none → Q (.ref p) (mset m p (.lst (List.replicate n x)))) : zaj (.ref a) (.int k) m Q := by
  subst hk
  rw [zdw, hl]
  refine ⟨⟨h1.1, h1.2, ?_⟩, fun p hp => ?_⟩
  · exact Nat.le_trans (show _ ≤ 1000 by simpa using h3) (show 1000 ≤ big by decide)
  · rw [zoY]
    exact q p hp
theorem zlc {a b : Addr} {xs ys : List D} {m : M} {Q : PQ} (ha : m.l a = some xs) (hb : m.l b = some ys) (h : xs.length + ys.length ≤ 100000) (q : ∀ p, m p = none → Q (.ref p) (mset m p (.lst (xs ++ ys)))) : zR (.ref a) (.ref b) m Q := by
  rw [zdu, ha, hb]
  exact ⟨h, q⟩
section
variable {ns : List Int} {r : Addr} {m : M}
theorem zj3 {p : Addr} {ds : List D} {Q : PQ} {R : PX} (h : RowAt ns m r) (hp : m p = none) (h0 : 0 < ds.length) (hb : ds.length < 2 ^ 62) (q : ∀ d m', d ∈ ds → RowAt ns m' r → Ev r m m' → Q d m') : zbX [.ref r, .ref p] (mset m p (.lst ds)) Q R :=
  pick (h.new hp) zq (h.ne hp) h0 hb fun d m' hd hr ev => q d m' hd hr ((Ev.new hp).trans ev)
theorem isB {n : Nat} (h : n < 256) : ∃ k : Nat, D.int (n : Int) = .int (k : Int) ∧ k < 256 := ⟨n, rfl, h⟩
end
theorem zuz {i : Nat} {a : Addr} {te : AE} {e : En} {m : M} {Q : PQ} {R : PX} {ds0 : List D} (g : e.g i = some (.ref a)) (h0 : m.l a = some ds0) (h : te e m (fun d m2 => match m2.l a with
      | some ds => ds.length < big ∧ Q .non (mset m2 a (.lst (ds ++ [d])))
      | none => False) R) : zab (zg i) te e m Q R := by
  unfold zab zg
  rw [g]
  show (match m.l a with | some _ => _ | none => False)
  rw [h0]
  exact h
theorem zld {te : AE} {e : En} {m : M} {P : List D → (M → Prop) → M → Prop} {R : PX} (h : te e m (fun d m1 => match d with
  | .fls ds => P ds (fun _ => True) m1
  | .ref a => (match m1 a with
    | some (.lst ds) => P ds (fun m2 => m2 a = some (.lst ds)) m1
    | _ => False)
  | _ => False) R) : zaE te e m P R := h
inductive FS {α β : Type} (Ps : α → Prop) (Pd : α → β → Prop) : List α → List β → Prop
  | nil : FS Ps Pd [] []
  | skip {a as bs} : Ps a → FS Ps Pd as bs → FS Ps Pd (a :: as) bs
  | keep {a b as bs} : Pd a b → FS Ps Pd as bs → FS Ps Pd (a :: as) (b :: bs)
theorem FS.app {α β : Type} {Ps : α → Prop} {Pd : α → β → Prop} {as cs : List α} {bs ds : List β} (h : FS Ps Pd as bs) (k : FS Ps Pd cs ds) : FS Ps Pd (as ++ cs) (bs ++ ds) := by
  induction h with
  | nil => exact k
  | skip a _ ih => exact .skip a ih
  | keep a _ ih => exact .keep a ih
theorem FS.len {α β : Type} {Ps : α → Prop} {Pd : α → β → Prop} {as : List α} {bs : List β} (h : FS Ps Pd as bs) : bs.length ≤ as.length := by
  induction h with
  | nil => simp
  | skip a _ ih => simp; omega
  | keep a _ ih => simp; omega
abbrev FF : PX := fun _ _ => False
end
section
section
variable {ns : List Int} {r pb ps : Addr} {m : M} {A : zaU} {x0 x3 x4 x5 x6 x7 x8 x9 : Option D} {s : Nat} {l : Lab} {bs : List D}
end
end
section
theorem zfo : ∀ (k : Nat) (l : List Nat), By l → l.length = k → be k (fold 0 l) = l
  | 0, l, _, h => by rw [List.length_eq_zero_iff.mp h]; rfl
  | k + 1, l, hb, h => by
    rcases List.eq_nil_or_concat l with e | ⟨l', x, e⟩
    · rw [e] at h; cases h
    · rw [List.concat_eq_append] at e
      subst e
      have hx := hb x (by simp)
      have ih := zfo k l' (fun y hy => hb y (by simp [hy])) (by simpa using h)
      have ef : fold 0 (l' ++ [x]) = fold 0 l' * 256 + x := by unfold fold; rw [List.foldl_append]; rfl
      rw [ef, be, show (fold 0 l' * 256 + x) / 256 = fold 0 l' by omega, show (fold 0 l' * 256 + x) % 256 = x by omega, ih]
theorem zdc (b : List Nat) (i k : Nat) : b.drop i = sl b i k ++ b.drop (i + k) := by
  unfold sl
  rw [← List.drop_drop, List.take_append_drop]
theorem fold_lt : ∀ (k : Nat) (l : List Nat), By l → l.length = k → fold 0 l < 256 ^ k
  | 0, l, _, h => by rw [List.length_eq_zero_iff.mp h]; decide
  | k + 1, l, hb, h => by
    rcases List.eq_nil_or_concat l with e | ⟨l', x, e⟩
    · rw [e] at h; cases h
    · rw [List.concat_eq_append] at e
      subst e
      have hx := hb x (by simp)
      have ih := fold_lt k l' (fun y hy => hb y (by simp [hy])) (by simpa using h)
      have ef : fold 0 (l' ++ [x]) = fold 0 l' * 256 + x := by unfold fold; rw [List.foldl_append]; rfl
      rw [ef, Nat.pow_succ]
      omega
theorem sl_len {b : List Nat} {i k : Nat} (h : i + k ≤ b.length) : (sl b i k).length = k := by
  unfold sl
  rw [List.length_take, List.length_drop]
  omega
structure Pt5 (b : List Nat) (v4 v5 v6 v7 : Nat) : Prop where
  by_ : By b
  len : b.length = 128
  a4 : b[4]? = some v4
  a5 : b[5]? = some v5
  a6 : b[6]? = some v6
  a7 : b[7]? = some v7
section
variable {b : List Nat} {v4 v5 v6 v7 : Nat}
theorem zsy (hb : By b) (hl : b.length = 128) : ∃ v4 v5 v6 v7, Pt5 b v4 v5 v6 v7 := ⟨_, _, _, _, hb, hl, List.getElem?_eq_getElem (by omega), List.getElem?_eq_getElem (by omega), List.getElem?_eq_getElem (by omega), List.getElem?_eq_getElem (by omega)⟩
def lab (b : List Nat) (v4 v5 v6 v7 : Nat) : Lab := ⟨v4 - 1, v5, v6, fold 0 (sl b 8 4), fold 0 (sl b 12 4), fold 0 (sl b 16 2), sl b 18 v7⟩
theorem zoZ {i v : Nat} (hb : By b) (h : b[i]? = some v) : v < 256 := hb v (List.mem_of_getElem? h)
theorem zpw (p : Pt5 b v4 v5 v6 v7) (h1 : 1 ≤ v4) (h2 : v4 ≤ 4) (h3 : v7 ≤ 96) : (lab b v4 v5 v6 v7).ok := by
  have hl := p.len
  refine ⟨show v4 - 1 < 4 by omega, zoZ p.by_ p.a5, zoZ p.by_ p.a6, fold_lt 4 _ (p.by_.sl _ _) (sl_len (by omega)), fold_lt 4 _ (p.by_.sl _ _) (sl_len (by omega)), fold_lt 2 _ (p.by_.sl _ _) (sl_len (by omega)), p.by_.sl _ _, ?_⟩
  show (sl b 18 v7).length ≤ 96
  rw [sl_len (by omega)]; exact h3
theorem drop_at {i v : Nat} (h : b[i]? = some v) : b.drop i = v :: b.drop (i + 1) := by
  obtain ⟨hi, e⟩ := List.getElem?_eq_some_iff.mp h
  rw [List.drop_eq_getElem_cons hi, e]
theorem b_e (p : Pt5 b v4 v5 v6 v7) : b = sl b 0 4 ++ ([v4, v5, v6, v7] ++ (sl b 8 4 ++ (sl b 12 4 ++ (sl b 16 2 ++ (sl b 18 v7 ++ b.drop (18 + v7)))))) := by
  have h := zdc b 0 4
  rw [List.drop_zero, drop_at p.a4, drop_at p.a5, drop_at p.a6, drop_at p.a7, zdc b 8 4, zdc b 12 4, zdc b 16 2, zdc b 18 v7] at h
  exact h
theorem zrm (p : Pt5 b v4 v5 v6 v7) (h1 : 1 ≤ v4) (h3 : v7 ≤ 96) : b = front (fold 0 (sl b 0 4)) (lab b v4 v5 v6 v7) ++ b.drop (18 + v7) := by
  have hl := p.len
  have e := b_e p
  unfold front
  show b = be 4 (fold 0 (sl b 0 4)) ++ ([v4 - 1 + 1, v5, v6, (sl b 18 v7).length] ++ (be 4 (fold 0 (sl b 8 4)) ++ (be 4 (fold 0 (sl b 12 4)) ++ (be 2 (fold 0 (sl b 16 2)) ++ sl b 18 v7)))) ++ b.drop (18 + v7)
  rw [zfo 4 _ (p.by_.sl _ _) (sl_len (by omega)), zfo 4 _ (p.by_.sl _ _) (sl_len (by omega)), zfo 4 _ (p.by_.sl _ _) (sl_len (by omega)), zfo 2 _ (p.by_.sl _ _) (sl_len (by omega)), sl_len (b := b) (i := 18) (k := v7) (by omega), show v4 - 1 + 1 = v4 by omega]
  simp only [List.append_assoc]
  exact e
theorem zrn (p : Pt5 b v4 v5 v6 v7) (h3 : v7 ≤ 96) (s : Nat) : (front s (lab b v4 v5 v6 v7)).length = 18 + v7 := by
  have hl := p.len
  rw [zeN]
  show 18 + (sl b 18 v7).length = _
  rw [sl_len (by omega)]
theorem zro (p : Pt5 b v4 v5 v6 v7) (h1 : 1 ≤ v4) (h2 : v4 ≤ 4) (h3 : v7 ≤ 96) : blk (fold 0 (sl b 0 4)) (lab b v4 v5 v6 v7) = b ↔ fold 0 (sl b 0 4) = fold 0 (sl b 124 4) ∧ sl b (18 + v7) (122 - (18 + v7)) = List.replicate (122 - (18 + v7)) 0 ∧ crc (b.take 122) = fold 0 (sl b 122 2) := by
  have hl := p.len
  have ok := zpw p h1 h2 h3
  have fl := zrn p h3 (fold 0 (sl b 0 4))
  have hf : fold 0 (sl b 0 4) < 256 ^ 4 := fold_lt 4 _ (p.by_.sl _ _) (sl_len (by omega))
  constructor
  · intro e
    have g1 := zom (s := fold 0 (sl b 0 4)) ok
    have g2 := zqA (s := fold 0 (sl b 0 4)) ok
    have g3 := zqD (s := fold 0 (sl b 0 4)) ok
    have g4 := zon (s := fold 0 (sl b 0 4)) ok
    have lc : (lab b v4 v5 v6 v7).content.length = v7 := sl_len (by omega)
    have c1 := zpv (zfI (s := fold 0 (sl b 0 4)) ok)
    rw [fl, lc] at g2
    rw [← g3] at g4 c1
    rw [e] at g1 g2 g4 c1
    refine ⟨?_, g2, ?_⟩
    · rw [g1, zdK 4 _ hf]
    · rw [g4, zdK 2 _ (by omega)]
  · rintro ⟨g1, g2, g3⟩
    have e := zrm p h1 h3
    have d1 := zdc b (18 + v7) (122 - (18 + v7))
    rw [show 18 + v7 + (122 - (18 + v7)) = 122 by omega, g2] at d1
    have d2 := zdc b 122 2
    have d3 := zdc b 124 4
    rw [List.drop_of_length_le (show b.length ≤ 124 + 4 by omega), List.append_nil] at d3
    have pe : padded (fold 0 (sl b 0 4)) (lab b v4 v5 v6 v7) = b.take 122 := by
      have hp := zdD (s := fold 0 (sl b 0 4)) ok
      have e2 : b = padded (fold 0 (sl b 0 4)) (lab b v4 v5 v6 v7) ++ b.drop 122 := by
        unfold padded
        rw [fl, List.append_assoc, ← d1]
        exact e
      have := congrArg (List.take 122) e2
      rw [List.take_append_of_le_length (by omega), List.take_of_length_le (l := padded _ _) (by omega)] at this
      exact this.symm
    unfold blk
    rw [pe, g3, zfo 2 _ (p.by_.sl _ _) (sl_len (by omega)), g1, zfo 4 _ (p.by_.sl _ _) (sl_len (by omega)), ← d3, ← d2, List.take_append_drop]
end
end
section
def Wh (b : List Nat) (v4 v7 : Nat) : Prop := fold 0 (sl b 0 4) = fold 0 (sl b 124 4) ∧ fold 0 (sl b 0 4) ≠ 0 ∧ 1 ≤ v4 ∧ v4 ≤ 4 ∧ v7 ≤ 96 ∧ sl b (18 + v7) (122 - (18 + v7)) = List.replicate (122 - (18 + v7)) 0 ∧ crc (b.take 122) = fold 0 (sl b 122 2)
theorem zoo {l : List Nat} {n : Nat} (h : l.length = n) : (l.any fun x => x != 0) = false ↔ l = List.replicate n 0 := by
  subst h
  constructor
  · intro z
    refine List.eq_replicate_iff.mpr ⟨rfl, fun x hx => ?_⟩
    have := List.any_eq_false.mp z x hx
    simpa using this
  · intro e
    rw [e]
    exact List.any_eq_false.mpr fun x hx => by
      have := (List.mem_replicate.mp hx).2
      simp [this]
section
variable {b : List Nat} {v4 v5 v6 v7 : Nat} {m : M} {Q : PQ} {R : PX}
theorem zsz (hb : By b) (hl : b.length = 128) (hv : b[7]? = some v7) (q : zcJ { nx := fun _ m' => ∃ m2, Ab.Sub m2 m' ∧ Q .non m2, rt := fun d m' => ∃ m2, Ab.Sub m2 m' ∧ Q d m2, xe := fun _ x m' => ∃ m2, Ab.Sub m2 m' ∧ R x m2 } [some (.tup (iD b)), some (.int (fold 0 (sl b 0 4) : Nat)), some (.int (fold 0 (sl b 124 4) : Nat)), some (.int v7)] m) : zda [.tup (iD b)] m Q R := by
  have a7 : atI (iD b) 7 = some (.int (v7 : Int)) := zhu (i := 7) hv
  refine zjH ?_
  unfold zgf
  generalize hX : zcJ = X at q
  refine zal (zdZ (zK (zj (zu rfl (zA ⟨rfl, ?_⟩)))))
  refine ziE hb hl ?_
  simp only [aTT, zG, zY, aN]
  refine ⟨rfl, ?_⟩
  show zeu _ [some (.tup (iD b)), some (.int (fold 0 (sl b 0 4) : Nat)), some (.int (fold 0 (sl b 124 4) : Nat)), none] m
  unfold zeu
  rw [hX]
  refine zal (zoI (opI (zu rfl (cI ?_))))
  rw [ixT, a7]
  exact q
theorem isWhole (p : Pt5 b v4 v5 v6 v7) (qt : Wh b v4 v7 → Q (.bl true) m) (qf : ¬ Wh b v4 v7 → Q (.bl false) m) : zda [.tup (iD b)] m Q R := by
  have hl := p.len
  have hb := p.by_
  have a4 : atI (iD b) 4 = some (.int (v4 : Int)) := zhu (i := 4) p.a4
  have v7l : v7 < 256 := zoZ hb p.a7
  refine zsz hb hl p.a7 ?_
  unfold zcJ
  refine zgo (zd0 (opI (zu rfl (zu rfl ?_))))
  rw [eqI]
  refine zc2 (fun c => ?_) (fun c => ⟨m, Sub.refl _, qf fun w => c (decide_eq_true (by have := w.1; omega))⟩)
  have c1 : fold 0 (sl b 0 4) = fold 0 (sl b 124 4) := by have := of_decide_eq_true c; omega
  refine zd0 (opI (zu rfl (cI ?_)))
  rw [neI]
  refine zc2 (fun c => ?_) (fun c => ⟨m, Sub.refl _, qf fun w => c (by have := w.2.1; simp; omega)⟩)
  have c2 : fold 0 (sl b 0 4) ≠ 0 := by simp at c; omega
  refine zd0 ?_
  simp only [zac, aOp, zg, aC, aCB, zb, zm, En.g]
  rw [ixT, a4]
  show za2 _ _ _ _
  rw [leI]
  refine zc2 (fun c => ?_) (fun c => ⟨m, Sub.refl _, qf fun w => c (by have := w.2.2.1; simp; omega)⟩)
  have c3 : 1 ≤ v4 := by simp at c; omega
  simp only [zah, zdl]
  rw [leI]
  refine zc2 (fun c => ?_) (fun c => ⟨m, Sub.refl _, qf fun w => c (by have := w.2.2.2.1; simp; omega)⟩)
  have c4 : v4 ≤ 4 := by simp at c; omega
  refine zd0 (opI (zu rfl (cI ?_)))
  rw [leI]
  refine zc2 (fun c => ?_) (fun c => ⟨m, Sub.refl _, qf fun w => c (by have := w.2.2.2.2.1; simp; omega)⟩)
  have c5 : v7 ≤ 96 := by simp at c; omega
  refine zd0 (notI ?_)
  have ez : Ab.cutD (iD b) (some (18 + (v7 : Int))) (some 122) = iD (sl b (18 + v7) (122 - (18 + v7))) := by
    rw [show (18 + (v7 : Int)) = ((18 + v7 : Nat) : Int) by omega, show (122 : Int) = ((122 : Nat) : Int) by rfl, zla (by omega) (by omega)]
    rfl
  simp only [aCB, zb, zm, aSl, aPt, aOp, aC, zg, En.g, zdk, slT, ez, zde]
  refine ⟨znq _, ?_⟩
  rw [zoX]
  have zl : (sl b (18 + v7) (122 - (18 + v7))).length = 122 - (18 + v7) := sl_len (by omega)
  refine zc2 (fun c => ?_) (fun c => ⟨m, Sub.refl _, qf fun w => c (by rw [(zoo zl).mpr w.2.2.2.2.2.1]; rfl)⟩)
  have c6 : sl b (18 + v7) (122 - (18 + v7)) = List.replicate (122 - (18 + v7)) 0 := (zoo zl).mp (by simpa using c)
  have et : Ab.cutD (iD b) none (some 122) = iD (b.take 122) := by
    rw [show (122 : Int) = ((122 : Nat) : Int) by rfl, zlK (by omega)]
  refine opI (zK ?_)
  simp only [zb, zm, aSl, aPt, zaR, aC, zg, En.g, slT, et]
  refine ⟨rfl, restOf (hb.take _) ?_⟩
  refine zK (zj (zu rfl (zj (cI (zj (cI (zA ⟨rfl, ?_⟩)))))))
  refine zgG (i := 122) (k := 2) hb (by decide) (by omega) ?_
  rw [eqI]
  refine ⟨m, Sub.refl _, ?_⟩
  by_cases c7 : crc (b.take 122) = fold 0 (sl b 122 2)
  · rw [decide_eq_true (by omega)]
    exact qt ⟨c1, c2, c3, c4, c5, c6, c7⟩
  · rw [decide_eq_false (by omega)]
    exact qf fun w => c7 w.2.2.2.2.2.2
end
end
section
section
variable {b : List Nat} {v4 v5 v6 v7 : Nat} {m : M} {Q : PQ} {R : PX} {A : zaU} {x2 x3 x4 : Option D}
end
end
section
inductive Cl where
  | nev
  | torn (b : List Nat)
  | bk (s : Nat) (l : Lab)
def Cl.b : Cl → List Nat
  | .nev => List.replicate 128 0
  | .torn b => b
  | .bk s l => blk s l
def Cl.ok : Cl → Prop
  | .nev => True
  | .torn b => By b ∧ b.length = 128 ∧ (∀ s l, l.ok → 0 < s → s < 4294967296 → b ≠ blk s l) ∧ (b.any fun x => x != 0) = true
  | .bk s l => l.ok ∧ 0 < s ∧ s < 4294967296
def Cl.d : Cl → D
  | .bk _ l => l.d
  | _ => .non
def Cl.k : Cl → Str
  | .nev => "never"
  | .torn _ => "torn"
  | .bk _ l => kd l.kind
def Cl.t (c : Cl) : D := .tup (iD c.b)
theorem zop (n : Nat) : By (List.replicate n 0) := fun x hx => by
  have := List.eq_of_mem_replicate hx
  omega
theorem Cl.len {c : Cl} (h : c.ok) : c.b.length = 128 := by
  cases c with
  | nev => rfl
  | torn b => exact h.2.1
  | bk s l => exact zlL h.1
theorem Cl.by_ {c : Cl} (h : c.ok) : By c.b := by
  cases c with
  | nev => exact zop 128
  | torn b => exact h.1
  | bk s l => exact znp h.1
theorem nwh {b : List Nat} {v4 v5 v6 v7 : Nat} (p : Pt5 b v4 v5 v6 v7) (h : ∀ s l, l.ok → 0 < s → s < 4294967296 → b ≠ blk s l) : ¬ Wh b v4 v7 := fun w => by
  have e := (zro p w.2.2.1 w.2.2.2.1 w.2.2.2.2.1).mpr ⟨w.1, w.2.2.2.2.2.1, w.2.2.2.2.2.2⟩
  have hl := p.len
  exact h _ _ (zpw p w.2.2.1 w.2.2.2.1 w.2.2.2.2.1) (Nat.pos_of_ne_zero w.2.1) (fold_lt 4 _ (p.by_.sl _ _) (sl_len (by omega))) e.symm
theorem zuA {v4 v5 v6 v7 : Nat} (p : Pt5 (List.replicate 128 0) v4 v5 v6 v7) : ¬ Wh (List.replicate 128 0) v4 v7 := fun w => w.2.1 (by decide)
section
variable {m : M} {Q : PQ} {R : PX} {c : Cl}
theorem zle {b : List Nat} (hb : By b) (hl : b.length = 128) (h : ∀ v4 v5 v6 v7, Pt5 b v4 v5 v6 v7 → ¬ Wh b v4 v7) (q : Q .non m) : zcQ [.tup (iD b)] m Q R := by
  obtain ⟨v4, v5, v6, v7, p⟩ := zsy hb hl
  refine zhW ?_
  unfold ze5
  walk_at "stp"
  refine isWhole p (fun w => absurd w (h _ _ _ _ p)) fun w => ?_
  refine zaD rfl ?_
  walk_at "stp"
  exact ⟨m, Sub.refl _, q⟩
theorem zo0 {s : Nat} {l : Lab} (h : l.ok) (h0 : 0 < s) (hs : s < 4294967296) (q : Q l.d m) : zcQ [.tup (iD (blk s l))] m Q R := by
  have a7 : atI (iD (blk s l)) 7 = some (.int (l.content.length : Int)) := zhu (i := 7) zqC
  refine zhW ?_
  unfold ze5
  simp (config := {failIfUnchanged := false, implicitDefEqProofs := false}) only [zB, zaa, zM, aOp, aUn, aCB, zg, aC, zb, zm, zcw, zcX, zcY, zJ, aN, zaG, zP, za4, zU, zaJ, zQ, zab, zE, zaf, zb8, zbO, aOr, zaI, zam, zb3, zaN, aIf, zac, aCall, zbl, za7, aSl, zaR, aPt, zai, zca, za0, zas, zaE, zbP, zb6, aTT, zG, zY, aLc, zaS, zb4, zb5, zaK, zbM, zcW, En.g, En.s, zah, zak, ixT, ixF, ixR, zdM, zdN, zdO, zdP, zdt, zdk, zcH, zdu, zdQ, zdv, zdw, slT, slR, i2, c2, zdR, isB, isN, zdS, zdx, eqI, eqS, eqB, neI, neB, zdT, zdU, zdl, zdV, zdW, itT, itF, itR, zdX, zdY, zde, zae, zad, zau, zaF, zaT, zaV, za1, zb9, zan, zbU, za2, zbu, zbQ, zdj, zat, En.x, z7, zq, zV, Option.map_some, List.length_cons, List.length_nil, Nat.zero_add, Nat.reduceAdd, true_and, and_true, decide_eq_true_eq, ite_true, ite_false, Bool.not_true, Bool.not_false, Bool.false_eq_true, if_true, if_false, List.append_assoc, List.cons_append, List.nil_append, at0, at1, at2, at3, at4, at5, ix0, ix1, ix2, ix3, List.set_cons_zero, List.set_cons_succ,true_and]
  refine zsx h h0 hs ?_
  simp (config := {failIfUnchanged := false, implicitDefEqProofs := false}) only [zB, zaa, zM, aOp, aUn, aCB, zg, aC, zb, zm, zcw, zcX, zcY, zJ, aN, zaG, zP, za4, zU, zaJ, zQ, zab, zE, zaf, zb8, zbO, aOr, zaI, zam, zb3, zaN, aIf, zac, aCall, zbl, za7, aSl, zaR, aPt, zai, zca, za0, zas, zaE, zbP, zb6, aTT, zG, zY, aLc, zaS, zb4, zb5, zaK, zbM, zcW, En.g, En.s, zah, zak, ixT, ixF, ixR, zdM, zdN, zdO, zdP, zdt, zdk, zcH, zdu, zdQ, zdv, zdw, slT, slR, i2, c2, zdR, isB, isN, zdS, zdx, eqI, eqS, eqB, neI, neB, zdT, zdU, zdl, zdV, zdW, itT, itF, itR, zdX, zdY, zde, zae, zad, zau, zaF, zaT, zaV, za1, zb9, zan, zbU, za2, zbu, zbQ, zdj, zat, En.x, z7, zq, zV, Option.map_some, List.length_cons, List.length_nil, Nat.zero_add, Nat.reduceAdd, true_and, and_true, decide_eq_true_eq, ite_true, ite_false, Bool.not_true, Bool.not_false, Bool.false_eq_true, if_true, if_false, List.append_assoc, List.cons_append, List.nil_append, at0, at1, at2, at3, at4, at5, ix0, ix1, ix2, ix3, List.set_cons_zero, List.set_cons_succ,true_and]
  unfold zhb
  simp only [zB, zJ, aOp, aC, zg, En.g]
  simp (config := {failIfUnchanged := false, implicitDefEqProofs := false}) only [zB, zaa, zM, aOp, aUn, aCB, zg, aC, zb, zm, zcw, zcX, zcY, zJ, aN, zaG, zP, za4, zU, zaJ, zQ, zab, zE, zaf, zb8, zbO, aOr, zaI, zam, zb3, zaN, aIf, zac, aCall, zbl, za7, aSl, zaR, aPt, zai, zca, za0, zas, zaE, zbP, zb6, aTT, zG, zY, aLc, zaS, zb4, zb5, zaK, zbM, zcW, En.g, En.s, zah, zak, ixT, ixF, ixR, zdM, zdN, zdO, zdP, zdt, zdk, zcH, zdu, zdQ, zdv, zdw, slT, slR, i2, c2, zdR, isB, isN, zdS, zdx, eqI, eqS, eqB, neI, neB, zdT, zdU, zdl, zdV, zdW, itT, itF, itR, zdX, zdY, zde, zae, zad, zau, zaF, zaT, zaV, za1, zb9, zan, zbU, za2, zbu, zbQ, zdj, zat, En.x, z7, zq, zV, Option.map_some, List.length_cons, List.length_nil, Nat.zero_add, Nat.reduceAdd, true_and, and_true, decide_eq_true_eq, ite_true, ite_false, Bool.not_true, Bool.not_false, Bool.false_eq_true, if_true, if_false, List.append_assoc, List.cons_append, List.nil_append, at0, at1, at2, at3, at4, at5, ix0, ix1, ix2, ix3, List.set_cons_zero, List.set_cons_succ,a7]
  exact rl0 h ⟨m, Sub.refl _, q⟩
theorem zpx (h : c.ok) (q : Q c.d m) : zcQ [c.t] m Q R := by
  cases c with
  | nev => exact zle (zop 128) rfl (fun _ _ _ _ p => zuA p) q
  | torn b => exact zle h.1 h.2.1 (fun _ _ _ _ p => nwh p h.2.2.1) q
  | bk s l => exact zo0 h.1 h.2.1 h.2.2 q
theorem zoq {b : List Nat} (hb : By b) (hl : b.length = 128) (q : Q (.bl true) m) : zee [.tup (iD b)] m Q R := by
  refine zjG ?_
  unfold zge
  walk_at "stp"
  refine zno trivial (by rw [zcS, hl]; decide) (by rw [zcS, hl]; decide) (zp6 hb) ?_
  exact ⟨m, Sub.refl _, q⟩
theorem zor {b : List Nat} (q : Q (.bl (!b.any fun x => x != 0)) m) : zcB [.tup (iD b)] m Q R := by
  refine zhY ?_
  unfold zd1
  simp only [zP]
  refine notI ?_
  simp only [aCB, zb, zm, zg, En.g, zde]
  exact ⟨znq _, m, Sub.refl _, by rw [zoX]; exact q⟩
theorem zp9 (h : c.ok) (q : Q (.str c.k) m) : zep [c.t, c.d] m Q R := by
  refine zml ?_
  unfold zhB
  cases c with
  | nev =>
    walk_at "stp"
    refine zaz rfl ?_
    walk_at "stp"
    refine zor ?_
    refine zaD (by decide) ?_
    walk_at "stp"
    exact ⟨m, Sub.refl _, q⟩
  | torn b =>
    walk_at "stp"
    refine zaz rfl ?_
    walk_at "stp"
    refine zor ?_
    refine zaz (by rw [show ((Cl.torn b).b.any fun x => x != 0) = true from h.2.2.2]; rfl) ?_
    walk_at "stp"
    exact ⟨m, Sub.refl _, q⟩
  | bk s l =>
    walk_at "stp"
    refine zaD rfl ?_
    walk_at "stp"
    refine zii (d := .str (kd l.kind)) rfl ?_
    exact ⟨m, Sub.refl _, q⟩
theorem zpy {α : Type} {f g : α → D} {gt : AG} {te : AE} {e : En} {p : Addr} {gd : M → Prop} {Q : PQ} {m0 : M} (hp : m0 p = none) (hgd : ∀ m, Ab.Sub m0 m → gd m) : ∀ (as : List α) (acc : List D) (m : M), Ab.Sub m0 m → m p = some (.lst acc) → acc.length + as.length ≤ 1000 →
    (∀ a ∈ as, ∀ m1 (Q' : PQ), Ab.Sub m0 m1 → Q' (g a) m1 → gt (f a) e m1 fun e1 m2 => te e1 m2 Q' FF) → (∀ m', Ab.Sub m0 m' → m' p = some (.lst (acc ++ as.map g)) → Q (.ref p) m') → lcL gt zaS te e p gd (as.map f) Q m
  | [], acc, m, s, hm, _, _, q => ⟨hgd _ s, q m s (by rw [List.map_nil, List.append_nil]; exact hm)⟩
  | a :: as, acc, m, s, hm, hl, hte, q => by
    refine ⟨hgd _ s, ?_⟩
    refine hte a (by simp) m _ s ?_
    show (match m p with | some (.lst acc) => acc.length < big ∧ _ | _ => False)
    rw [hm]
    rw [List.length_cons] at hl
    refine ⟨Nat.lt_of_le_of_lt (show acc.length ≤ 1000 by omega) (by unfold big; decide), ?_⟩
    refine zpy hp hgd as (acc ++ [g a]) _ (s.mut hp) zq (by rw [List.length_append, List.length_singleton]; omega) (fun b hb => hte b (by simp [hb])) fun m' s' h' => q m' s' ?_
    rw [h', List.map_cons, List.append_assoc]; rfl
theorem zlM {α : Type} {f g : α → D} {gt : AG} {te : AE} {e : En} {p : Addr} {gd : M → Prop} {Q : PQ} {m0 : M} {as : List α} (hp : m0 p = none) (hgd : ∀ m, Ab.Sub m0 m → gd m) (hl : as.length ≤ 1000) (hte : ∀ a ∈ as, ∀ m1 (Q' : PQ), Ab.Sub m0 m1 → Q' (g a) m1 → gt (f a) e m1 fun e1 m2 => te e1 m2 Q' FF)
    (q : ∀ m', Ab.Sub m0 m' → m' p = some (.lst (as.map g)) → Q (.ref p) m') : lcL gt zaS te e p gd (as.map f) Q (mset m0 p (.lst [])) :=
  zpy hp hgd as [] _ (Ab.Sub.new hp) zq (by simpa using hl) hte fun m' s h => q m' s h
theorem zlf {cs : List Cl} (hn : cs.length ≤ 1000) (h : ∀ c ∈ cs, c.ok) (q : Q (.tup (cs.map Cl.d)) m) : zcK [.tup (cs.map Cl.t)] m Q R := by
  refine zk4 ?_
  unfold zfP
  walk_at "stp"
  intro p hp
  refine zlM (g := Cl.d) hp (fun _ _ => trivial) hn (fun c hc m1 Q' s q' => ?_) fun m' s hm => ?_
  · walk_at "stp"
    exact zpx (h c hc) q'
  · refine zA (zqw (l_of hm) ?_)
    exact ⟨m, s, q⟩
theorem zos {α : Type} {f g : α → D} : ∀ as : List α, zpD (as.map f) (as.map g) = as.map fun a => .tup [f a, g a]
  | [] => rfl
  | a :: as => by
    show D.tup [f a, g a] :: zpD (as.map f) (as.map g) = _
    rw [zos as]; rfl
theorem zpz {cs : List Cl} (hn : cs.length ≤ 1000) (h : ∀ c ∈ cs, c.ok) (q : Q (.tup (cs.map fun c => .str c.k)) m) : zd9 [.tup (cs.map Cl.t), .tup (cs.map Cl.d)] m Q R := by
  refine zlG ?_
  unfold zgx
  walk_at "stp"
  refine zuw ?_
  walk_at "stp"
  rw [zos]
  intro p hp
  refine zlM (g := fun c : Cl => .str c.k) hp (fun _ _ => trivial) hn (fun c hc m1 Q' s q' => ?_) fun m' s hm => ?_
  · walk_at "stp"
    exact zp9 (h c hc) q'
  · refine zA (zqw (l_of hm) ?_)
    exact ⟨m, s, q⟩
theorem howMany {a b : Nat} (q : Q (.int ((2 + a + b : Nat) : Int)) m) : zcb [.tup [.int a, .int b]] m Q R := by
  refine zjf ?_
  unfold zek
  walk_at "stp"
  refine ⟨m, Sub.refl _, ?_⟩
  push_cast at q
  exact q
theorem zot {p : Pm} {A : zaU} {x0 x1 x2 : Option D} {gd : M → Prop} (hgd : ∀ m, gd m) : ∀ (cs : List Cl) (i : Nat) (x3 x4 : Option D), (∀ c ∈ cs, c.ok) → (∀ y3 y4, A.nx [x0, x1, x2, y3, y4] m) → forL (aTT 2 (zG (aN 3) (zG (aN 4) (zY)))) (zcD p) gd (enL i (cs.map Cl.t)) A [x0, x1, x2, x3, x4] m
  | [], i, x3, x4, h, q => ⟨hgd _, q _ _⟩
  | c :: cs, i, x3, x4, h, q => by
    refine ⟨hgd _, ?_⟩
    walk_at "stp"
    unfold zcD
    walk_at "stp"
    refine zoq (Cl.by_ (h c (by simp))) (Cl.len (h c (by simp))) ?_
    refine zaz rfl ?_
    walk_at "stp"
    exact zot hgd cs (i + 1) _ _ (fun c hc => h c (by simp [hc])) q
theorem zo1 {p : Pm} {P Rg : Nat} {cs : List Cl} (hl : cs.length = 2 + P + Rg) (h : ∀ c ∈ cs, c.ok) (q : Q .non m) : (zc3 p) [.tup [.int P, .int Rg], .tup (cs.map Cl.t)] m Q R := by
  refine zht ?_
  unfold zet
  walk_at "stp"
  refine howMany ?_
  walk_at "stp"
  refine zeg (by rw [List.length_map, hl]; exact Int.le_refl _) (by rw [List.length_map, hl]; exact Int.le_refl _) ?_
  refine zaz rfl ?_
  refine nextI ?_
  dsimp only
  refine zlu (zne ?_)
  walk_at "stp"
  exact zot (fun _ => trivial) cs 0 _ _ h fun y3 y4 => ⟨m, Sub.refl _, q⟩
theorem zgi {p : Pm} {P Rg : Nat} (h1 : 1 ≤ P) (h2 : P ≤ 64) (h3 : 2 ≤ Rg) (h4 : Rg ≤ 64) (q : Q .non m) : (zba p) [.tup [.int P, .int Rg]] m Q R := by
  refine zhs ?_
  unfold zes
  walk_at "stp"
  refine zeg (by simp) (by simp) ?_
  refine zaz rfl ?_
  walk_at "stp"
  refine zhZ (by omega) (by omega) ?_
  refine zaz rfl ?_
  walk_at "stp"
  refine zhZ (by omega) (by omega) ?_
  refine zaz rfl ?_
  walk_at "stp"
  exact ⟨m, Sub.refl _, q⟩
theorem zjL {p : Pm} {P Rg : Nat} {cs : List Cl} (h1 : 1 ≤ P) (h2 : P ≤ 64) (h3 : 2 ≤ Rg) (h4 : Rg ≤ 64) (hl : cs.length = 2 + P + Rg) (h : ∀ c ∈ cs, c.ok) (q : Q .non m) : (zch p) [.tup [.int P, .int Rg], .tup (cs.map Cl.t)] m Q R := by
  refine zfn ?_
  unfold zd7
  walk_at "stp"
  refine zgi h1 h2 h3 h4 ?_
  walk_at "stp"
  refine zo1 hl h ?_
  walk_at "stp"
  exact ⟨m, Sub.refl _, q⟩
end
end
section
theorem zlN : ∀ ns : List Int, D.pys (ns.map D.int) = some (ns.map PyData.int)
  | [] => rfl
  | n :: ns => by
    show (match D.py (D.int n), D.pys (ns.map D.int) with | some p, some ps => some (p :: ps) | _, _ => none) = _
    rw [zlN ns]; rfl
theorem zjM {ns : List Int} : PyData.depthAll (ns.map PyData.int) ≤ 40 ∧ PySem.W.AlikeAll (ns.map PyData.int) := by
  refine ⟨?_, fun x hx y hy => ?_, fun x hx => ?_⟩
  · obtain ⟨ps, a, b, c⟩ := zjB (n := 1) (ds := ns.map D.int) fun d hd => by
      obtain ⟨k, _, rfl⟩ := List.mem_map.mp hd
      exact zg4 (n := 0) (d := .int k) trivial
    rw [zlN] at a
    cases a
    omega
  · obtain ⟨k, _, rfl⟩ := List.mem_map.mp hx
    obtain ⟨j, _, rfl⟩ := List.mem_map.mp hy
    simp only [PySem.W.alike]
  · obtain ⟨k, _, rfl⟩ := List.mem_map.mp hx
    intro z; cases z
theorem zqE {a : Addr} {ns : List Nat} {m : M} {Q : PQ} (hl : m.l a = some (ns.map fun n : Nat => D.int n)) (hne : ns ≠ []) (q : ∀ k, k ∈ ns → (∀ j ∈ ns, j ≤ k) → Q (.int (k : Nat)) m) : znc [.ref a] m Q := by
  have e : (ns.map fun n : Nat => D.int (n : Int)) = (ns.map fun n : Nat => (n : Int)).map D.int := by rw [List.map_map]; rfl
  rw [e] at hl
  cases ns with
  | nil => exact absurd rfl hne
  | cons n ns =>
    refine ⟨_, .int n, (ns.map fun n : Nat => (n : Int)).map .int, hl, zlN ((n :: ns).map fun n : Nat => (n : Int)), (zjM (ns := (n :: ns).map fun n : Nat => (n : Int))).2, (zjM (ns := (n :: ns).map fun n : Nat => (n : Int))).1, fun d hd hpy => ?_⟩
    obtain ⟨z, hz, rfl⟩ := List.mem_map.mp hd
    obtain ⟨k, hk, rfl⟩ := List.mem_map.mp hz
    rw [PySem.W.maxD_ints] at hpy
    have e2 : (k : Int) = (ns.map fun n : Nat => (n : Int)).foldl max (n : Int) := by injection hpy with h; injection h with h
    refine q k hk fun j hj => ?_
    have fm : ∀ (l : List Nat) (x : Int), x ≤ (l.map fun n : Nat => (n : Int)).foldl max x ∧ ∀ j ∈ l, (j : Int) ≤ (l.map fun n : Nat => (n : Int)).foldl max x := fun l => by
      induction l with
      | nil => exact fun x => ⟨Int.le_refl _, fun j hj => nomatch hj⟩
      | cons y l ih =>
        intro x
        obtain ⟨h1, h2⟩ := ih (max x (y : Int))
        rw [List.map_cons, List.foldl_cons]
        refine ⟨by omega, fun j hj => ?_⟩
        rcases List.mem_cons.mp hj with rfl | hj
        · omega
        · exact h2 j hj
    obtain ⟨h1, h2⟩ := fm ns (n : Int)
    rcases List.mem_cons.mp hj with rfl | hj
    · omega
    · have := h2 j hj; omega
theorem zo2 {α : Type} {f : α → D} {g : α → Option D} {gt : AG} {tt : AT} {te : AE} {e : En} {p : Addr} {gd : M → Prop} {Q : PQ} {m0 : M} (hp : m0 p = none) (hgd : ∀ m, Ab.Sub m0 m → gd m) : ∀ (as : List α) (acc : List D) (m : M), Ab.Sub m0 m → m p = some (.lst acc) → acc.length + as.length ≤ 1000 →
    (∀ a ∈ as, ∀ (m1 : M) (S : M → Prop) (Q' : PQ), Ab.Sub m0 m1 → (∀ m2, g a = none → Ab.Sub m1 m2 → S m2) → (∀ y m2, g a = some y → Ab.Sub m1 m2 → Q' y m2) → gt (f a) e m1 fun e1 m2 => tt e1 m2 (fun b m3 => if b = true then te e1 m3 Q' FF else S m3) FF) →
    (∀ m', Ab.Sub m0 m' → m' p = some (.lst (acc ++ as.filterMap g)) → Q (.ref p) m') → lcL gt tt te e p gd (as.map f) Q m
  | [], acc, m, s, hm, _, _, q => ⟨hgd _ s, q m s (by rw [List.filterMap_nil, List.append_nil]; exact hm)⟩
  | a :: as, acc, m, s, hm, hl, hte, q => by
    rw [List.length_cons] at hl
    refine ⟨hgd _ s, ?_⟩
    refine hte a (by simp) m (fun m2 => lcL gt tt te e p gd (as.map f) Q m2) _ s (fun m2 hg s2 => ?_) fun y m2 hg s2 => ?_
    · exact zo2 hp hgd as acc m2 (s.trans s2) (s2 _ _ hm) (by omega) (fun b hb => hte b (by simp [hb])) fun m' s' h' => q m' s' (by rw [h', List.filterMap_cons, hg])
    · show (match m2 p with | some (.lst acc) => acc.length < big ∧ _ | _ => False)
      rw [s2 _ _ hm]
      refine ⟨Nat.lt_of_le_of_lt (show acc.length ≤ 1000 by omega) (by unfold big; decide), ?_⟩
      refine zo2 hp hgd as (acc ++ [y]) _ ((s.trans s2).mut hp) zq (by rw [List.length_append, List.length_singleton]; omega) (fun b hb => hte b (by simp [hb])) fun m' s' h' => q m' s' ?_
      rw [h', List.filterMap_cons, hg, List.append_assoc]
      rfl
theorem zhv : ∀ (l : List Nat) (x : Nat), x ≤ l.foldl max x ∧ (∀ j ∈ l, j ≤ l.foldl max x) ∧ (l.foldl max x = x ∨ l.foldl max x ∈ l)
  | [], x => ⟨Nat.le_refl _, (fun j h => nomatch h), .inl rfl⟩
  | y :: l, x => by
    obtain ⟨h1, h2, h3⟩ := zhv l (max x y)
    rw [List.foldl_cons]
    refine ⟨by omega, fun j hj => ?_, ?_⟩
    · rcases List.mem_cons.mp hj with rfl | hj
      · omega
      · exact h2 j hj
    · rcases h3 with h3 | h3
      · rw [h3]
        by_cases z : x ≤ y
        · rw [Nat.max_eq_right z]; exact .inr (by simp)
        · rw [Nat.max_eq_left (by omega)]; exact .inl rfl
      · exact .inr (List.mem_cons_of_mem _ h3)
theorem zpA {l : List Nat} {k : Nat} (h : k ∈ l) (h2 : ∀ j ∈ l, j ≤ k) : k = l.foldl max 0 := by
  obtain ⟨h3, h4, h5⟩ := zhv l 0
  have := h4 k h
  rcases h5 with h5 | h5
  · omega
  · have := h2 _ h5; omega
def mxS (cs : List Cl) : Nat := (cs.map fun c => max (fold 0 (sl c.b 0 4)) (fold 0 (sl c.b 124 4))).foldl max 0
def epB : Cl → Option Nat
  | .bk _ l => if l.kind ≠ 3 then some l.epoch else none
  | _ => none
def nxE (cs : List Cl) : Nat := 1 + (cs.filterMap epB).foldl max 0
theorem zsA {cs : List Cl} {c : Cl} (h : c ∈ cs) : fold 0 (sl c.b 0 4) ≤ mxS cs ∧ fold 0 (sl c.b 124 4) ≤ mxS cs := by
  have := (zhv (cs.map fun c => max (fold 0 (sl c.b 0 4)) (fold 0 (sl c.b 124 4))) 0).2.1 _ (List.mem_map.mpr ⟨c, h, rfl⟩)
  unfold mxS
  omega
theorem zsB {cs : List Cl} {s : Nat} {l : Lab} (h : Cl.bk s l ∈ cs) (k : l.kind ≠ 3) : l.epoch < nxE cs := by
  have := (zhv (cs.filterMap epB) 0).2.1 l.epoch (List.mem_filterMap.mpr ⟨_, h, by unfold epB; dsimp only; rw [if_pos k]⟩)
  unfold nxE
  omega
theorem zou {ns : List Nat} (hne : ns ≠ []) : ∃ p ps, D.pys (ns.map fun n : Nat => D.int n) = some (p :: ps) ∧ PySem.W.AlikeAll (p :: ps) ∧ PyData.depthAll (p :: ps) ≤ 40 ∧ ∀ d, d ∈ (ns.map fun n : Nat => D.int n) → d.py = some (PySem.W.maxD p ps) → ∃ k ∈ ns, d = .int (k : Nat) ∧ ∀ j ∈ ns, j ≤ k := by
  have h := zqE (a := (0 : Nat)) (m := fun _ => some (.lst (ns.map fun n : Nat => D.int n))) (Q := fun d _ => ∃ k ∈ ns, d = .int (k : Nat) ∧ ∀ j ∈ ns, j ≤ k) (l_of rfl) hne fun k hk hj => ⟨k, hk, rfl, hj⟩
  obtain ⟨es, p, ps, h1, h2, h3, h4, h5⟩ := h
  have h1' : some (ns.map fun n : Nat => D.int n) = some es := by rw [← h1]; exact (l_of rfl).symm
  cases h1'
  exact ⟨p, ps, h2, h3, h4, h5⟩
section
variable {m : M} {Q : PQ} {R : PX}
theorem ztq {a b : Nat} (q : Q (.int ((max a b : Nat) : Int)) m) : znl [.tup [.int (a : Nat), .int (b : Nat)]] m Q := by
  obtain ⟨p, ps, h1, h2, h3, h4⟩ := zou (ns := [a, b]) (fun z => nomatch z)
  refine ⟨p, ps, h1, h2, h3, fun d hd hp => ?_⟩
  obtain ⟨k, hk, rfl, hj⟩ := h4 d hd hp
  have ha := hj a (by simp)
  have hb := hj b (by simp)
  have e : k = max a b := by
    simp only [List.mem_cons, List.not_mem_nil, or_false] at hk
    omega
  rw [e]
  exact q
end
section
variable {cs : List Cl} {m : M} {Q : PQ} {R : PX}
theorem znS (hok : ∀ c ∈ cs, c.ok) (hl : cs.length ≤ 1000) (hne : cs ≠ []) (q : Q (.int ((mxS cs + 1 : Nat) : Int)) m) : zdm [.tup (cs.map Cl.t)] m Q R := by
  refine zkp ?_
  unfold zfk
  walk_at "stp"
  intro p hp
  refine zlM (f := Cl.t) (g := fun c => D.int ((max (fold 0 (sl c.b 0 4)) (fold 0 (sl c.b 124 4)) : Nat) : Int)) hp (fun _ _ => trivial) hl (fun c hc m1 Q' s q' => ?_) fun m1 s1 hm1 => ?_
  · walk_at "stp"
    refine ziE (Cl.by_ (hok c hc)) (Cl.len (hok c hc)) ?_
    exact zA (ztq q')
  · refine zA (zqE (ns := cs.map fun c => max (fold 0 (sl c.b 0 4)) (fold 0 (sl c.b 124 4))) (by rw [List.map_map]; exact l_of hm1) (fun z => hne (List.map_eq_nil_iff.mp z)) fun k hk hj => ?_)
    have e := zpA hk hj
    walk_at "stp"
    refine ⟨m, s1, ?_⟩
    rw [e]
    rw [show (1 : Int) + ((((cs.map fun c => max (fold 0 (sl c.b 0 4)) (fold 0 (sl c.b 124 4))).foldl max 0 : Nat)) : Int) = ((mxS cs + 1 : Nat) : Int) by unfold mxS; omega]
    exact q
theorem ztr {a : Addr} {ns : List Nat} (hl : m.l a = some (ns.map fun n : Nat => D.int n)) (q : Q (.int ((ns.foldl max 0 : Nat) : Int)) m) : zoR Q a m := by
  by_cases hne : ns = []
  · subst hne
    refine ⟨[], [], hl, rfl, ?_, by decide, fun _ => q, fun p qs e => nomatch e⟩
    have h2 : PySem.W.AlikeAll (([] : List Int).map PyData.int) := (zjM (ns := [])).2
    exact h2
  · obtain ⟨p, ps, h1, h2, h3, h4⟩ := zou hne
    refine ⟨_, _, hl, h1, h2, h3, fun e => absurd (List.map_eq_nil_iff.mp e) hne, fun p' qs e d hd hp => ?_⟩
    cases e
    obtain ⟨k, hk, rfl, hj⟩ := h4 d hd hp
    rw [zpA hk hj]
    exact q
theorem znT (hok : ∀ c ∈ cs, c.ok) (hl : cs.length ≤ 1000) (q : Q (.int ((nxE cs : Nat) : Int)) m) : zdn [.tup (cs.map Cl.d)] m Q R := by
  refine zkq ?_
  unfold zfl
  walk_at "stp"
  intro p hp
  refine zo2 (f := Cl.d) (g := fun c => (epB c).map fun n : Nat => D.int n) hp (fun _ _ => trivial) cs [] _ (Ab.Sub.new hp) zq (by simpa using hl) (fun c hc m1 S Q' s qs qk => ?_) fun m1 s1 hm1 => ?_
  · cases c with
    | nev =>
      walk_at "stp"
      exact zaz rfl (zaz rfl (qs m1 rfl (Ab.Sub.refl _)))
    | torn b =>
      walk_at "stp"
      exact zaz rfl (zaz rfl (qs m1 rfl (Ab.Sub.refl _)))
    | bk s l =>
      walk_at "stp"
      refine zaD rfl ?_
      walk_at "stp"
      refine zii (d := .str (kd l.kind)) rfl ?_
      walk_at "stp"
      have hk := (hok _ hc).1.kind
      have yes : l.kind ≠ 3 → aOp zap (zg 2) (aC (D.int 3)) ((zat [some (D.tup (cs.map Cl.d)), none, none] [2]).s 2 (Cl.bk s l).d) m1 Q' FF := fun hn => by
        walk_at "stp"
        refine zii (d := .int (l.epoch : Nat)) rfl ?_
        refine qk _ m1 ?_ (Ab.Sub.refl _)
        unfold epB
        dsimp only
        rw [if_pos hn]
        rfl
      have no : l.kind = 3 → S m1 := fun hn => qs m1 (by
        unfold epB
        dsimp only
        rw [if_neg (fun z => z hn)]
        rfl) (Ab.Sub.refl _)
      rcases (show l.kind = 0 ∨ l.kind = 1 ∨ l.kind = 2 ∨ l.kind = 3 by omega) with e | e | e | e
      · rw [e]
        refine zoK (ds := [.str "part", .str "page", .str "head"]) rfl rfl rfl ?_
        walk_at "stp"
        refine zaD (by decide +kernel) (yes (by omega))
      · rw [e]
        refine zoK (ds := [.str "part", .str "page", .str "head"]) rfl rfl rfl ?_
        walk_at "stp"
        refine zaD (by decide +kernel) (yes (by omega))
      · rw [e]
        refine zoK (ds := [.str "part", .str "page", .str "head"]) rfl rfl rfl ?_
        walk_at "stp"
        refine zaD (by decide +kernel) (yes (by omega))
      · rw [e]
        refine zoK (ds := [.str "part", .str "page", .str "head"]) rfl rfl rfl ?_
        walk_at "stp"
        refine zaz (by decide +kernel) (no e)
  · have hm1' : m1 p = some (.lst ((cs.filterMap epB).map fun n : Nat => D.int n)) := by
      rw [hm1, List.nil_append, List.map_filterMap]
    walk_at "stp"
    unfold zf7
    walk_at "stp"
    unfold zoS
    refine zu rfl ?_
    refine ztr (l_of hm1') ?_
    walk_at "stp"
    refine ⟨m, s1, ?_⟩
    exact q
end
end
abbrev lq : Str := (("_law_works" ++ ".<locals>.") ++ "<lambda>")
abbrev Ok (p : Pm) : Prop := zsf p ["BadBatch", "BadImage", "BadNumber", "BadShape", "BadState", "TooMany"] ["one", "other", "works"] [(["one"], [0]), (["one"], [0]), (["one", "other"], [0, 1]), (["one", "other"], [0, 1]), (["one", "other"], [0, 1]), (["one", "other"], [0, 1]), (["one", "other"], [0, 1]), (["one", "other"], [0, 1])] lq
theorem zeO {P : Addr} {L : zb2} {ys : List Str} {cap : List Nat} {cells : List (Str × Addr)} {e : En} {m : M} {pl : Addr} {acc : List D} {A : zaU} (hP : m P = some (.ltab L.qual)) (g : e.g 2 = some (.ref pl)) (hl : m pl = some (.lst acc)) (hn : acc.length ≤ 64)
    (k : ∀ f m1, m f = none → (∀ a o, a ≠ pl → m a = some o → m1 a = some o) → m1 pl = some (.lst (acc ++ [.ref f])) → m1 f = some (.fn L ys cap (cloFrom cells L.scope.names [])) → A.nx e m1) : zQ (zab (zg 2) (zgr P L ys cap cells)) A e m := by
  refine zcx ?_
  unfold zab
  refine zu g ?_
  show (match m.l pl with | some _ => zgr P L ys cap cells e m _ _ | none => False)
  rw [l_of hl]
  refine ⟨hP, fun f hf => ?_⟩
  have nf : f ≠ pl := fun z => by rw [z, hl] at hf; cases hf
  show (match (mset m f _).l pl with | some ds => ds.length < big ∧ _ | none => False)
  rw [l_ne (Ne.symm nf), l_of hl]
  refine ⟨Nat.lt_of_le_of_lt hn (by unfold big; decide), k f _ hf (fun a o n h => ?_) zq ?_⟩
  · rw [zaX n, zaX fun z => by rw [z, hf] at h; cases h]; exact h
  · rw [zaX nf]; exact zq
theorem zeP {fs : List Addr} {e : En} {m : M} {f : Addr} {L : zb2} {ys : List Str} {cap : List Nat} {cl : List (Str × Addr)} {ds : List D} (h : f ∈ fs) (hm : m f = some (.fn L ys cap cl)) (hc : zgt e cap = some ds) : zio fs e m f = some (.clo L ys ds) := by
  unfold zio; rw [if_pos h, hm]; simp only [hc]
theorem znr {fs : List Addr} {e : En} {m : M} {f : Addr} (h : f ∉ fs) : zio fs e m f = m f := by unfold zio; rw [if_neg h]
structure Works (p : Pm) (m : M) (l : Addr) (one other : D) (f0 f1 f2 f3 f4 f5 f6 f7 : Addr) : Prop where
  lst : m l = some (.lst [.ref f0, .ref f1, .ref f2, .ref f3, .ref f4, .ref f5, .ref f6, .ref f7])
  w0 : m f0 = some (.clo (p.L 0) ["one"] [one])
  w1 : m f1 = some (.clo (p.L 1) ["one"] [one])
  w2 : m f2 = some (.clo (p.L 2) ["one", "other"] [one, other])
  w3 : m f3 = some (.clo (p.L 3) ["one", "other"] [one, other])
  w4 : m f4 = some (.clo (p.L 4) ["one", "other"] [one, other])
  w5 : m f5 = some (.clo (p.L 5) ["one", "other"] [one, other])
  w6 : m f6 = some (.clo (p.L 6) ["one", "other"] [one, other])
  w7 : m f7 = some (.clo (p.L 7) ["one", "other"] [one, other])
theorem works {p : Pm} {m : M} {one other : D} {Q : PQ} {R : PX} (pk : Ok p) (hm : m p.P = some (.ltab lq)) (q : ∀ l f0 f1 f2 f3 f4 f5 f6 f7 m', m l = none → Ab.Sub m m' → Works p m' l one other f0 f1 f2 f3 f4 f5 f6 f7 → Q (.ref l) m') : zbI p [one, other] m Q R := by
  intro cells
  unfold zfm
  have q0 : (p.L 0).qual = lq := pk.qual 0 (by decide)
  have c0 := pk.cap 0 (["one"], [0]) rfl
  have q1 : (p.L 1).qual = lq := pk.qual 1 (by decide)
  have c1 := pk.cap 1 (["one"], [0]) rfl
  have q2 : (p.L 2).qual = lq := pk.qual 2 (by decide)
  have c2 := pk.cap 2 (["one", "other"], [0, 1]) rfl
  have q3 : (p.L 3).qual = lq := pk.qual 3 (by decide)
  have c3 := pk.cap 3 (["one", "other"], [0, 1]) rfl
  have q4 : (p.L 4).qual = lq := pk.qual 4 (by decide)
  have c4 := pk.cap 4 (["one", "other"], [0, 1]) rfl
  have q5 : (p.L 5).qual = lq := pk.qual 5 (by decide)
  have c5 := pk.cap 5 (["one", "other"], [0, 1]) rfl
  have q6 : (p.L 6).qual = lq := pk.qual 6 (by decide)
  have c6 := pk.cap 6 (["one", "other"], [0, 1]) rfl
  have q7 : (p.L 7).qual = lq := pk.qual 7 (by decide)
  have c7 := pk.cap 7 (["one", "other"], [0, 1]) rfl
  unfold zgs
  refine zoI (zfi (zA ⟨by show 0 ≤ big; decide, fun l hl => ?_⟩))
  have nP : l ≠ p.P := fun z => by rw [z, hm] at hl; cases hl
  have k0 : ∀ a o, m a = some o → mset m l (.lst []) a = some o := fun a o h => Ab.Sub.new hl a o h
  have e0 : (mset m l (.lst [])) l = some (.lst []) := zq
  have hk : ∀ a o, m a = some o → a ≠ l := fun a o h z => by rw [z, hl] at h; cases h
  generalize mset m l (.lst []) = m0 at k0 e0 ⊢
  have step : ∀ {m1 m2 : M}, (∀ a o, m a = some o → m1 a = some o) → (∀ a o, a ≠ l → m1 a = some o → m2 a = some o) → ∀ a o, m a = some o → m2 a = some o := fun h1 h2 a o h => h2 a o (hk a o h) (h1 a o h)
  dsimp only
  refine zeO (by rw [q0]; exact k0 _ _ hm) rfl e0 (by simp) fun f0 m1 n0 s1 e1 w0 => ?_
  have k1 := step k0 s1
  dsimp only
  refine zeO (by rw [q1]; exact k1 _ _ hm) rfl e1 (by simp) fun f1 m2 n1 s2 e2 w1 => ?_
  have k2 := step k1 s2
  dsimp only
  refine zeO (by rw [q2]; exact k2 _ _ hm) rfl e2 (by simp) fun f2 m3 n2 s3 e3 w2 => ?_
  have k3 := step k2 s3
  dsimp only
  refine zeO (by rw [q3]; exact k3 _ _ hm) rfl e3 (by simp) fun f3 m4 n3 s4 e4 w3 => ?_
  have k4 := step k3 s4
  dsimp only
  refine zeO (by rw [q4]; exact k4 _ _ hm) rfl e4 (by simp) fun f4 m5 n4 s5 e5 w4 => ?_
  have k5 := step k4 s5
  dsimp only
  refine zeO (by rw [q5]; exact k5 _ _ hm) rfl e5 (by simp) fun f5 m6 n5 s6 e6 w5 => ?_
  have k6 := step k5 s6
  dsimp only
  refine zeO (by rw [q6]; exact k6 _ _ hm) rfl e6 (by simp) fun f6 m7 n6 s7 e7 w6 => ?_
  have k7 := step k6 s7
  dsimp only
  refine zeO (by rw [q7]; exact k7 _ _ hm) rfl e7 (by simp) fun f7 m8 n7 s8 e8 w7 => ?_
  have k8 := step k7 s8
  have g0 : f0 ≠ l := fun z => by rw [z, e0] at n0; cases n0
  have g1 : f1 ≠ l := fun z => by rw [z, e1] at n1; cases n1
  have g2 : f2 ≠ l := fun z => by rw [z, e2] at n2; cases n2
  have g3 : f3 ≠ l := fun z => by rw [z, e3] at n3; cases n3
  have g4 : f4 ≠ l := fun z => by rw [z, e4] at n4; cases n4
  have g5 : f5 ≠ l := fun z => by rw [z, e5] at n5; cases n5
  have g6 : f6 ≠ l := fun z => by rw [z, e6] at n6; cases n6
  have g7 : f7 ≠ l := fun z => by rw [z, e7] at n7; cases n7
  have v0 := (s8 _ _ g0 (s7 _ _ g0 (s6 _ _ g0 (s5 _ _ g0 (s4 _ _ g0 (s3 _ _ g0 (s2 _ _ g0 w0)))))))
  have v1 := (s8 _ _ g1 (s7 _ _ g1 (s6 _ _ g1 (s5 _ _ g1 (s4 _ _ g1 (s3 _ _ g1 w1))))))
  have v2 := (s8 _ _ g2 (s7 _ _ g2 (s6 _ _ g2 (s5 _ _ g2 (s4 _ _ g2 w2)))))
  have v3 := (s8 _ _ g3 (s7 _ _ g3 (s6 _ _ g3 (s5 _ _ g3 w3))))
  have v4 := (s8 _ _ g4 (s7 _ _ g4 (s6 _ _ g4 w4)))
  have v5 := (s8 _ _ g5 (s7 _ _ g5 w5))
  have v6 := (s8 _ _ g6 w6)
  have v7 := w7
  have nl : l ∉ [f0, f1, f2, f3, f4, f5, f6, f7] := fun z => by
    simp only [List.mem_cons, List.not_mem_nil, or_false] at z
    rcases z with z | z | z | z | z | z | z | z
    · exact g0 z.symm
    · exact g1 z.symm
    · exact g2 z.symm
    · exact g3 z.symm
    · exact g4 z.symm
    · exact g5 z.symm
    · exact g6 z.symm
    · exact g7 z.symm
  have nf : ∀ a o, m a = some o → a ∉ [f0, f1, f2, f3, f4, f5, f6, f7] := fun a o h z => by
    simp only [List.mem_cons, List.not_mem_nil, or_false] at z
    rcases z with z | z | z | z | z | z | z | z
    · rw [← z, k0 a o h] at n0; cases n0
    · rw [← z, k1 a o h] at n1; cases n1
    · rw [← z, k2 a o h] at n2; cases n2
    · rw [← z, k3 a o h] at n3; cases n3
    · rw [← z, k4 a o h] at n4; cases n4
    · rw [← z, k5 a o h] at n5; cases n5
    · rw [← z, k6 a o h] at n6; cases n6
    · rw [← z, k7 a o h] at n7; cases n7
  unfold zp0
  dsimp only
  refine zu rfl ⟨[f0, f1, f2, f3, f4, f5, f6, f7], fun f hf => ?_, _, Ab.Sub.refl _, ?_⟩
  · simp only [List.mem_cons, List.not_mem_nil, or_false] at hf
    rcases hf with z | z | z | z | z | z | z | z <;> subst z
    · exact ⟨_, _, _, v0, c0⟩
    · exact ⟨_, _, _, v1, c1⟩
    · exact ⟨_, _, _, v2, c2⟩
    · exact ⟨_, _, _, v3, c3⟩
    · exact ⟨_, _, _, v4, c4⟩
    · exact ⟨_, _, _, v5, c5⟩
    · exact ⟨_, _, _, v6, c6⟩
    · exact ⟨_, _, _, v7, c7⟩
  · refine q l f0 f1 f2 f3 f4 f5 f6 f7 _ hl (fun a o h => by rw [znr (nf a o h)]; exact k8 a o h) ⟨by rw [znr nl]; exact e8, ?_, ?_, ?_, ?_, ?_, ?_, ?_, ?_⟩
    · exact zeP (by simp) v0 rfl
    · exact zeP (by simp) v1 rfl
    · exact zeP (by simp) v2 rfl
    · exact zeP (by simp) v3 rfl
    · exact zeP (by simp) v4 rfl
    · exact zeP (by simp) v5 rfl
    · exact zeP (by simp) v6 rfl
    · exact zeP (by simp) v7 rfl
theorem tl0 {p : Pm} : zc1 p (p.L 0) ["one"] (zk0 p) := .inl ⟨rfl, rfl, rfl⟩
theorem tl1 {p : Pm} : zc1 p (p.L 1) ["one"] (zk1 p) := .inr (.inl ⟨rfl, rfl, rfl⟩)
theorem tl2 {p : Pm} : zc1 p (p.L 2) ["one", "other"] (zir p) := .inr (.inr (.inl ⟨rfl, rfl, rfl⟩))
theorem tl3 {p : Pm} : zc1 p (p.L 3) ["one", "other"] (zis p) := .inr (.inr (.inr (.inl ⟨rfl, rfl, rfl⟩)))
theorem tl4 {p : Pm} : zc1 p (p.L 4) ["one", "other"] (zit p) := .inr (.inr (.inr (.inr (.inl ⟨rfl, rfl, rfl⟩))))
theorem tl5 {p : Pm} : zc1 p (p.L 5) ["one", "other"] (ziu p) := .inr (.inr (.inr (.inr (.inr (.inl ⟨rfl, rfl, rfl⟩)))))
theorem tl6 {p : Pm} : zc1 p (p.L 6) ["one", "other"] (ziv p) := .inr (.inr (.inr (.inr (.inr (.inr (.inl ⟨rfl, rfl, rfl⟩))))))
theorem tl7 {p : Pm} : zc1 p (p.L 7) ["one", "other"] (ziw p) := .inr (.inr (.inr (.inr (.inr (.inr (.inr (⟨rfl, rfl, rfl⟩)))))))
theorem zmi (m : M) : zfw m (za6 m) = m := by
  funext a
  unfold zfw za6
  cases h : m a with
  | none => simp
  | some o => cases o <;> simp
theorem zj4 {n i : Nat} {pl a : Addr} {acc : List D} {isT : Addr → Addr → Option Bool} {x : Xn} {d : Option Addr} {C : Addr} {b : Bool} {e : En} {m : M} {A : zaU} (g : e.g n = some (.ref pl)) (ga : e.g i = some (.ref a)) (hl : m pl = some (.lst acc)) (hn : acc.length ≤ 64) (hd : ∀ dd, d = some dd → ∃ fs, m dd = some (.xd fs)) (hb : isT x.cls C = some b)
    (h : A.nx e (mset m pl (.lst (acc ++ [.bl b])))) : zQ (zab (zg n) (zeD isT a x d i C)) A e m := by
  refine zcx ?_
  unfold zab
  refine zu g ?_
  show (match m.l pl with | some _ => zeD isT a x d i C e m _ _ | none => False)
  rw [l_of hl]
  refine ⟨ga, hd, b, hb, ?_⟩
  show (match m.l pl with | some ds => ds.length < big ∧ _ | none => False)
  rw [l_of hl]
  exact ⟨Nat.lt_of_le_of_lt hn (by unfold big; decide), h⟩
theorem zsC {n : Nat} {pl : Addr} {ds : List D} {bs : List Bool} {k : Bool} {e : En} {m : M} {Q : PQ} {R : PX} (g : e.g n = some (.ref pl)) (hl : m pl = some (.lst ds)) (hb : zgd ds = some bs) (q : Q (.int (bs.count k : Nat)) m) : zjC (zg n) (aC (.bl k)) e m Q R := by
  unfold zjC
  refine zu g ?_
  simp only [l_of hl]
  refine cI ?_
  simp only [l_of hl, hb]
  exact q
theorem zh0 {n j : Nat} {pl : Addr} {ds : List D} {d z : D} {e : En} {m : M} {Q : PQ} {R : PX} (g : e.g n = some (.ref pl)) (hl : m pl = some (.lst ds)) (hf : zcA d = true ∧ ds.all zcA = true) (hj : ds[j]? = some z) (he : eqV z.fv d.fv = true) (hn : ∀ (i : Nat) z', i < j → ds[i]? = some z' → eqV z'.fv d.fv = false) (q : Q (.int (j : Nat)) m) : zbM (zg n) (aC d) e m Q R := by
  unfold zbM
  refine zu g ?_
  simp only [l_of hl]
  refine cI ?_
  simp only [l_of hl]
  exact ⟨hf, j, z, hj, he, hn, q⟩
theorem zqa {ds : List D} {s : Str} {m : M} {Q : PQ} {n : Nat} (h : okQ n (.tup ds)) (hn : n ≤ 50) (hs : PyData.strOk s = true) (q : Q (.bl false) m) : zbV (.tup ds) (.str s) m Q := by
  obtain ⟨p, a1, a2, a3⟩ := zg4 h
  obtain ⟨ps, e, _⟩ := zsa a1
  obtain ⟨r, b1, b2, b3⟩ := zg4 (n := 0) (d := .str s) hs
  have er : r = .str s := by cases b1; rfl
  subst er
  show (match D.pyM m (.tup ds), D.pyM m (.str s) with
    | some p, some q => (SeqAt.shaped p = true ∧ SeqAt.shaped q = true) ∧ Q (.bl (PyData.eqv p q)) m
    | _, _ => False)
  rw [show D.pyM m (.tup ds) = some p from a1, show D.pyM m (.str s) = some (.str s) from b1]
  refine ⟨⟨zfB a2 a3 (by omega), zfB b2 b3 (by omega)⟩, ?_⟩
  subst e
  have : PyData.eqv (.tuple ps) (.str s) = false := by simp [PyData.eqv]
  rw [this]
  exact q
def zns (p : Pm) (a : Addr) (x : Xn) (d : Option Addr) : AS := zB (zJ (zaf (zm)) (aN 3)) (zB (zQ (zab (zg 3) (zeD p.isT a x d 2 (p.cA "BadShape")))) (zB (zQ (zab (zg 3) (zeD p.isT a x d 2 (p.cA "BadImage")))) (zB (zQ (zab (zg 3) (zeD p.isT a x d 2 (p.cA "BadNumber")))) (zB (zQ (zab (zg 3) (zeD p.isT a x d 2 (p.cA "BadState")))) (zB (zQ (zab (zg 3) (zeD p.isT a x d 2 (p.cA "BadBatch")))) (zB (zQ (zab (zg 3) (zeD p.isT a x d 2 (p.cA "TooMany")))) (zB (zJ (zaf (zb (aC (.str ("shape" : Str))) (zb (aC (.str ("image" : Str))) (zb (aC (.str ("number" : Str))) (zb (aC (.str ("state" : Str))) (zb (aC (.str ("batch" : Str))) (zb (aC (.str ("many" : Str))) (zm)))))))) (aN 4)) (zB (zJ (aIf (zM (aOp zbV (zjC (zg 3) (aC (.bl true))) (aC (.int 1)))) (aOp zap (zg 4) (zbM (zg 3) (aC (.bl true)))) (aC (.str ("other" : Str)))) (aN 1)) (zB (zJ (aIf (zM (aOp zbV (zg 1) (aC (.str ("image" : Str))))) (zE (zb (aC (.str ("image" : Str))) (zb (zkm p.fld a x d 2 "index") (zm)))) (zg 1)) (aN 1)) (zB (zJ (aIf (zM (aOp zbV (zg 1) (aC (.str ("batch" : Str))))) (zE (zb (aC (.str ("batch" : Str))) (zb (zkm p.fld a x d 2 "index") (zm)))) (zg 1)) (aN 1)) (zJ (aIf (zM (aOp zbV (zg 1) (aC (.str ("many" : Str))))) (zE (zb (aC (.str ("many" : Str))) (zb (zkm p.fld a x d 2 "most") (zm)))) (zg 1)) (aN 1))))))))))))
theorem ref1 (p : Pm) : zfE p = zB (zjY p.mt 2 (zQ (zgq (zc1 p) 0)) (zns p)) (zbs p) := rfl
theorem suite {p : Pm} {x : Xn} {d : Option Addr} {n : Str} {a f : Addr} {m : M} {A : zaU} {out : D} (pk : Ok p) (hx : x.cls = p.cA n) (hn : n ∈ (["BadBatch", "BadImage", "BadNumber", "BadShape", "BadState", "TooMany"] : List Str)) (hd : ∀ dd, d = some dd → ∃ fs, m dd = some (.xd fs))
    (hout : (n = "BadShape" ∧ out = .str "shape") ∨ (n = "BadNumber" ∧ out = .str "number") ∨ (n = "BadState" ∧ out = .str "state") ∨ (n = "BadImage" ∧ ∃ dd v, okQ 0 v ∧ d = some dd ∧ m dd = some (.xd [(("index" : Str), v)]) ∧ p.fld (p.cA "BadImage") "index" = true ∧ out = .tup [.str ("image" : Str), v]) ∨ (n = "BadBatch" ∧ ∃ dd v, okQ 0 v ∧ d = some dd ∧ m dd = some (.xd [(("index" : Str), v)]) ∧ p.fld (p.cA "BadBatch") "index" = true ∧ out = .tup [.str ("batch" : Str), v]) ∨ (n = "TooMany" ∧ ∃ dd v, okQ 0 v ∧ d = some dd ∧ m dd = some (.xd [(("most" : Str), v)]) ∧ p.fld (p.cA "TooMany") "most" = true ∧ out = .tup [.str ("many" : Str), v]))
    (q : ∀ y3 y4 m', Ab.Sub m m' → A.nx [some (.ref f), some out, some (.ref a), y3, y4] m') : zns p a x d A [some (.ref f), some .non, some (.ref a), none, none] m := by
  have i1 : p.isT x.cls (p.cA "BadShape") = some (decide (n = "BadShape")) := by rw [hx]; exact pk.isT n hn "BadShape" (by simp)
  have i2 : p.isT x.cls (p.cA "BadImage") = some (decide (n = "BadImage")) := by rw [hx]; exact pk.isT n hn "BadImage" (by simp)
  have i3 : p.isT x.cls (p.cA "BadNumber") = some (decide (n = "BadNumber")) := by rw [hx]; exact pk.isT n hn "BadNumber" (by simp)
  have i4 : p.isT x.cls (p.cA "BadState") = some (decide (n = "BadState")) := by rw [hx]; exact pk.isT n hn "BadState" (by simp)
  have i5 : p.isT x.cls (p.cA "BadBatch") = some (decide (n = "BadBatch")) := by rw [hx]; exact pk.isT n hn "BadBatch" (by simp)
  have i6 : p.isT x.cls (p.cA "TooMany") = some (decide (n = "TooMany")) := by rw [hx]; exact pk.isT n hn "TooMany" (by simp)
  unfold zns
  walk_at "stp"
  intro pt hpt
  have st0 := Ab.Sub.new (o := .lst []) hpt
  have sx : ∀ {o : O} {m' : M}, Ab.Sub m m' → Ab.Sub m (mset m' pt o) := fun h a o' ha => by rw [zaX fun z => by rw [z, hpt] at ha; cases ha]; exact h a o' ha
  have hdS : ∀ {m' : M}, Ab.Sub m m' → ∀ dd, d = some dd → ∃ fs, m' dd = some (.xd fs) := fun s dd e => let ⟨fs, h⟩ := hd dd e; ⟨fs, s _ _ h⟩
  refine zj4 rfl rfl zq (Nat.le_of_ble_eq_true rfl) (hdS st0) i1 ?_
  have s1 := sx (o := .lst ([] ++ [D.bl (decide (n = "BadShape"))])) st0
  dsimp only
  refine zal ?_
  refine zj4 rfl rfl zq (Nat.le_of_ble_eq_true rfl) (hdS s1) i2 ?_
  have s2 := sx (o := .lst ([] ++ [D.bl (decide (n = "BadShape"))] ++ [D.bl (decide (n = "BadImage"))])) s1
  dsimp only
  refine zal ?_
  refine zj4 rfl rfl zq (Nat.le_of_ble_eq_true rfl) (hdS s2) i3 ?_
  have s3 := sx (o := .lst ([] ++ [D.bl (decide (n = "BadShape"))] ++ [D.bl (decide (n = "BadImage"))] ++ [D.bl (decide (n = "BadNumber"))])) s2
  dsimp only
  refine zal ?_
  refine zj4 rfl rfl zq (Nat.le_of_ble_eq_true rfl) (hdS s3) i4 ?_
  have s4 := sx (o := .lst ([] ++ [D.bl (decide (n = "BadShape"))] ++ [D.bl (decide (n = "BadImage"))] ++ [D.bl (decide (n = "BadNumber"))] ++ [D.bl (decide (n = "BadState"))])) s3
  dsimp only
  refine zal ?_
  refine zj4 rfl rfl zq (Nat.le_of_ble_eq_true rfl) (hdS s4) i5 ?_
  have s5 := sx (o := .lst ([] ++ [D.bl (decide (n = "BadShape"))] ++ [D.bl (decide (n = "BadImage"))] ++ [D.bl (decide (n = "BadNumber"))] ++ [D.bl (decide (n = "BadState"))] ++ [D.bl (decide (n = "BadBatch"))])) s4
  dsimp only
  refine zal ?_
  refine zj4 rfl rfl zq (Nat.le_of_ble_eq_true rfl) (hdS s5) i6 ?_
  have s6 := sx (o := .lst ([] ++ [D.bl (decide (n = "BadShape"))] ++ [D.bl (decide (n = "BadImage"))] ++ [D.bl (decide (n = "BadNumber"))] ++ [D.bl (decide (n = "BadState"))] ++ [D.bl (decide (n = "BadBatch"))] ++ [D.bl (decide (n = "TooMany"))])) s5
  generalize hm3 : mset (mset (mset (mset (mset (mset (mset m pt (.lst [])) pt (.lst ([] ++ [D.bl (decide (n = "BadShape"))]))) pt (.lst ([] ++ [D.bl (decide (n = "BadShape"))] ++ [D.bl (decide (n = "BadImage"))]))) pt (.lst ([] ++ [D.bl (decide (n = "BadShape"))] ++ [D.bl (decide (n = "BadImage"))] ++ [D.bl (decide (n = "BadNumber"))]))) pt (.lst ([] ++ [D.bl (decide (n = "BadShape"))] ++ [D.bl (decide (n = "BadImage"))] ++ [D.bl (decide (n = "BadNumber"))] ++ [D.bl (decide (n = "BadState"))]))) pt (.lst ([] ++ [D.bl (decide (n = "BadShape"))] ++ [D.bl (decide (n = "BadImage"))] ++ [D.bl (decide (n = "BadNumber"))] ++ [D.bl (decide (n = "BadState"))] ++ [D.bl (decide (n = "BadBatch"))]))) pt (.lst ([] ++ [D.bl (decide (n = "BadShape"))] ++ [D.bl (decide (n = "BadImage"))] ++ [D.bl (decide (n = "BadNumber"))] ++ [D.bl (decide (n = "BadState"))] ++ [D.bl (decide (n = "BadBatch"))] ++ [D.bl (decide (n = "TooMany"))])) = m3 at s6 ⊢
  have l3 : m3 pt = some (.lst [D.bl (decide (n = "BadShape")), D.bl (decide (n = "BadImage")), D.bl (decide (n = "BadNumber")), D.bl (decide (n = "BadState")), D.bl (decide (n = "BadBatch")), D.bl (decide (n = "TooMany"))]) := by rw [← hm3]; exact zq
  clear hm3 s1 s2 s3 s4 s5
  walk_at "stp"
  intro pn hpn
  have n1 : pt ≠ pn := fun z => by rw [← z, l3] at hpn; cases hpn
  have l4 := (zaX (m := m3) (o := .lst [D.str "shape", D.str "image", D.str "number", D.str "state", D.str "batch", D.str "many"]) n1).trans l3
  have e4 : (mset m3 pn (.lst [D.str "shape", D.str "image", D.str "number", D.str "state", D.str "batch", D.str "many"])) pn = some (.lst [D.str "shape", D.str "image", D.str "number", D.str "state", D.str "batch", D.str "many"]) := zq
  have s5 := s6.trans (Ab.Sub.new (o := .lst [D.str "shape", D.str "image", D.str "number", D.str "state", D.str "batch", D.str "many"]) hpn)
  generalize mset m3 pn (.lst [D.str "shape", D.str "image", D.str "number", D.str "state", D.str "batch", D.str "many"]) = m4 at s5 l4 e4 ⊢
  walk_at "stp"
  refine zsC rfl l4 (bs := [decide (n = "BadShape"), decide (n = "BadImage"), decide (n = "BadNumber"), decide (n = "BadState"), decide (n = "BadBatch"), decide (n = "TooMany")]) rfl ?_
  walk_at "stp"
  rcases hout with ⟨rfl, rfl⟩ | ⟨rfl, rfl⟩ | ⟨rfl, rfl⟩ | ⟨rfl, dd, v, hv, hdd, hmx, hfl, rfl⟩ | ⟨rfl, dd, v, hv, hdd, hmx, hfl, rfl⟩ | ⟨rfl, dd, v, hv, hdd, hmx, hfl, rfl⟩
  · refine zaD (by decide) ?_
    walk_at "stp"
    refine zh0 (j := 0) (z := .bl true) rfl l4 ⟨rfl, rfl⟩ (by rfl) (by decide) (fun i z' hi hz => absurd hi (Nat.not_lt_zero i)) ?_
    refine zjz (l_of e4) (d := .str "shape") rfl ?_
    walk_at "stp"
    refine zaz (by decide) ?_
    walk_at "stp"
    refine zaz (by decide) ?_
    walk_at "stp"
    refine zaz (by decide) ?_
    walk_at "stp"
    exact q _ _ m4 s5
  · refine zaD (by decide) ?_
    walk_at "stp"
    refine zh0 (j := 2) (z := .bl true) rfl l4 ⟨rfl, rfl⟩ (by rfl) (by decide) (fun i z' hi hz => ?_) ?_
    · match i, hi, hz with
      | 0, _, hz => cases hz; decide
      | 1, _, hz => cases hz; decide
    refine zjz (l_of e4) (d := .str "number") rfl ?_
    walk_at "stp"
    refine zaz (by decide) ?_
    walk_at "stp"
    refine zaz (by decide) ?_
    walk_at "stp"
    refine zaz (by decide) ?_
    walk_at "stp"
    exact q _ _ m4 s5
  · refine zaD (by decide) ?_
    walk_at "stp"
    refine zh0 (j := 3) (z := .bl true) rfl l4 ⟨rfl, rfl⟩ (by rfl) (by decide) (fun i z' hi hz => ?_) ?_
    · match i, hi, hz with
      | 0, _, hz => cases hz; decide
      | 1, _, hz => cases hz; decide
      | 2, _, hz => cases hz; decide
    refine zjz (l_of e4) (d := .str "state") rfl ?_
    walk_at "stp"
    refine zaz (by decide) ?_
    walk_at "stp"
    refine zaz (by decide) ?_
    walk_at "stp"
    refine zaz (by decide) ?_
    walk_at "stp"
    exact q _ _ m4 s5
  · refine zaD (by decide) ?_
    walk_at "stp"
    refine zh0 (j := 1) (z := .bl true) rfl l4 ⟨rfl, rfl⟩ (by rfl) (by decide) (fun i z' hi hz => ?_) ?_
    · match i, hi, hz with
      | 0, _, hz => cases hz; decide
    refine zjz (l_of e4) (d := .str "image") rfl ?_
    walk_at "stp"
    refine zaD (by decide) ?_
    walk_at "stp"
    refine ⟨rfl, by rw [hx]; exact hfl, dd, _, v, hdd, s5 _ _ hmx, by simp, ?_⟩
    walk_at "stp"
    refine zqa (n := 1) (fun d hd => ?_) (by decide) (by decide +kernel) ?_
    · simp only [List.mem_cons, List.not_mem_nil, or_false] at hd
      rcases hd with rfl | rfl
      · show PyData.strOk ("image" : Str) = true; decide +kernel
      · exact hv
    refine zaz rfl ?_
    walk_at "stp"
    refine zqa (n := 1) (fun d hd => ?_) (by decide) (by decide +kernel) ?_
    · simp only [List.mem_cons, List.not_mem_nil, or_false] at hd
      rcases hd with rfl | rfl
      · show PyData.strOk ("image" : Str) = true; decide +kernel
      · exact hv
    refine zaz rfl ?_
    walk_at "stp"
    exact q _ _ m4 s5
  · refine zaD (by decide) ?_
    walk_at "stp"
    refine zh0 (j := 4) (z := .bl true) rfl l4 ⟨rfl, rfl⟩ (by rfl) (by decide) (fun i z' hi hz => ?_) ?_
    · match i, hi, hz with
      | 0, _, hz => cases hz; decide
      | 1, _, hz => cases hz; decide
      | 2, _, hz => cases hz; decide
      | 3, _, hz => cases hz; decide
    refine zjz (l_of e4) (d := .str "batch") rfl ?_
    walk_at "stp"
    refine zaz (by decide) ?_
    walk_at "stp"
    refine zaD (by decide) ?_
    walk_at "stp"
    refine ⟨rfl, by rw [hx]; exact hfl, dd, _, v, hdd, s5 _ _ hmx, by simp, ?_⟩
    walk_at "stp"
    refine zqa (n := 1) (fun d hd => ?_) (by decide) (by decide +kernel) ?_
    · simp only [List.mem_cons, List.not_mem_nil, or_false] at hd
      rcases hd with rfl | rfl
      · show PyData.strOk ("batch" : Str) = true; decide +kernel
      · exact hv
    refine zaz rfl ?_
    walk_at "stp"
    exact q _ _ m4 s5
  · refine zaD (by decide) ?_
    walk_at "stp"
    refine zh0 (j := 5) (z := .bl true) rfl l4 ⟨rfl, rfl⟩ (by rfl) (by decide) (fun i z' hi hz => ?_) ?_
    · match i, hi, hz with
      | 0, _, hz => cases hz; decide
      | 1, _, hz => cases hz; decide
      | 2, _, hz => cases hz; decide
      | 3, _, hz => cases hz; decide
      | 4, _, hz => cases hz; decide
    refine zjz (l_of e4) (d := .str "many") rfl ?_
    walk_at "stp"
    refine zaz (by decide) ?_
    walk_at "stp"
    refine zaz (by decide) ?_
    walk_at "stp"
    refine zaD (by decide) ?_
    walk_at "stp"
    refine ⟨rfl, by rw [hx]; exact hfl, dd, _, v, hdd, s5 _ _ hmx, by simp, ?_⟩
    walk_at "stp"
    exact q _ _ m4 s5
section
section
variable {p : Pm} {m : M} {f : Addr} {L : zb2} {ys : List Str} {ds : List D} {t : AE} {n : Str} {Q : PQ} {R : PX}
theorem refused {w : Str} (pk : Ok p) (hf : m f = some (.clo L ys ds)) (hT : zc1 p L ys t) (hn : (n = "BadShape" ∧ w = "shape") ∨ (n = "BadNumber" ∧ w = "number") ∨ (n = "BadState" ∧ w = "state")) (ht : ∀ Q' R', R' ⟨p.cA n, []⟩ (za6 m) → t (ds.map some) (za6 m) Q' R')
    (q : ∀ m', Ab.Sub m m' → Q (.str w) m') : z8 p [.ref f] m Q R := by
  refine zel ?_
  unfold zdb
  rw [ref1]
  generalize hX : zbs = X
  walk_at "stp"
  unfold zjY
  refine zcx ?_
  unfold zgq
  show (match m f with | some (.clo L ys ds) => ∃ t, zc1 p L ys t ∧ t (ds.map some) (za6 m) _ _ | _ => False)
  rw [hf]
  refine ⟨t, hT, ht _ _ ?_⟩
  rw [zmi]
  have hn4 : n ∈ (["BadBatch", "BadImage", "BadNumber", "BadShape", "BadState", "TooMany"] : List Str) := by
    rcases hn with ⟨rfl, _⟩ | ⟨rfl, _⟩ | ⟨rfl, _⟩ <;> simp
  show (match p.mt (p.cA n) with | some true => _ | some false => _ | none => False)
  rw [pk.mt n hn4]
  intro a
  refine ⟨fun _ => ?_, fun z => absurd rfl z⟩
  dsimp only [En.s]
  refine suite (out := .str w) pk rfl hn4 (fun dd z => by cases z) ?_ fun y3 y4 m' s => ?_
  · rcases hn with ⟨h1, h2⟩ | ⟨h1, h2⟩ | ⟨h1, h2⟩
    · exact .inl ⟨h1, by rw [h2]⟩
    · exact .inr (.inl ⟨h1, by rw [h2]⟩)
    · exact .inr (.inr (.inl ⟨h1, by rw [h2]⟩))
  subst hX
  unfold zbs
  dsimp only [En.x]
  walk_at "stp"
  exact ⟨m', Ab.Sub.refl _, q m' s⟩
theorem zfp {fl w : Str} {v : D} (pk : Ok p) (hv : okQ 0 v) (hn : (n = "BadImage" ∧ fl = "index" ∧ w = "image") ∨ (n = "BadBatch" ∧ fl = "index" ∧ w = "batch") ∨ (n = "TooMany" ∧ fl = "most" ∧ w = "many")) (hfl : p.fld (p.cA n) fl = true) (hf : m f = some (.clo L ys ds)) (hT : zc1 p L ys t) (ht : ∀ Q' R', R' ⟨p.cA n, [(fl, v)]⟩ (za6 m) → t (ds.map some) (za6 m) Q' R')
    (q : ∀ m', (∀ a o, (∀ g, o ≠ .xd g) → m a = some o → m' a = some o) → Q (.tup [.str w, v]) m') : z8 p [.ref f] m Q R := by
  refine zel ?_
  unfold zdb
  rw [ref1]
  generalize hX : zbs = X
  walk_at "stp"
  unfold zjY
  refine zcx ?_
  unfold zgq
  show (match m f with | some (.clo L ys ds) => ∃ t, zc1 p L ys t ∧ t (ds.map some) (za6 m) _ _ | _ => False)
  rw [hf]
  refine ⟨t, hT, ht _ _ ?_⟩
  rw [zmi]
  have hn4 : n ∈ (["BadBatch", "BadImage", "BadNumber", "BadShape", "BadState", "TooMany"] : List Str) := by
    rcases hn with ⟨rfl, _⟩ | ⟨rfl, _⟩ | ⟨rfl, _⟩ <;> simp
  show (match p.mt (p.cA n) with | some true => _ | some false => _ | none => False)
  rw [pk.mt n hn4]
  intro a
  refine ⟨fun z => by simp at z, fun _ dd hdd => ?_⟩
  dsimp only [En.s]
  refine suite (n := n) (out := .tup [.str w, v]) pk rfl hn4 (fun d' z => by cases z; exact ⟨_, zq⟩) ?_ fun y3 y4 m' s => ?_
  · rcases hn with ⟨rfl, rfl, rfl⟩ | ⟨rfl, rfl, rfl⟩ | ⟨rfl, rfl, rfl⟩
    · exact .inr (.inr (.inr (.inl ⟨rfl, dd, v, hv, rfl, zq, hfl, rfl⟩)))
    · exact .inr (.inr (.inr (.inr (.inl ⟨rfl, dd, v, hv, rfl, zq, hfl, rfl⟩))))
    · exact .inr (.inr (.inr (.inr (.inr (⟨rfl, dd, v, hv, rfl, zq, hfl, rfl⟩)))))
  subst hX
  unfold zbs
  dsimp only [En.x]
  walk_at "stp"
  refine ⟨m', Ab.Sub.refl _, q m' fun b o ho hb => s b o ?_⟩
  rw [zaX fun z => by
    subst z
    obtain ⟨g, e⟩ := hdd o hb
    exact ho g e]
  exact hb
theorem worked (pk : Ok p) (hf : m f = some (.clo L ys ds)) (hT : zc1 p L ys t) (ht : ∀ Q' R', (∀ d m', Ab.Sub (za6 m) m' → Q' d m') → t (ds.map some) (za6 m) Q' R')
    (q : ∀ m', Ab.Sub m m' → Q .non m') : z8 p [.ref f] m Q R := by
  refine zel ?_
  unfold zdb
  rw [ref1]
  generalize hX : zbs = X
  walk_at "stp"
  unfold zjY
  refine zcx ?_
  unfold zgq
  show (match m f with | some (.clo L ys ds) => ∃ t, zc1 p L ys t ∧ t (ds.map some) (za6 m) _ _ | _ => False)
  rw [hf]
  refine ⟨t, hT, ht _ _ fun d m1 s1 => ?_⟩
  have s2 : Ab.Sub m (zfw m m1) := fun a o h => by
    unfold zfw
    rw [h]
    cases o with
    | clo L ys ds => rfl
    | _ => exact s1 a _ (by unfold za6; rw [h])
  subst hX
  unfold zbs
  dsimp only
  walk_at "stp"
  exact ⟨_, Ab.Sub.refl _, q _ s2⟩
end
end
section
theorem zfV {n : Nat} {d : D} {t c : Ty} {e : En} {m : M} {Q : PQ} {R : PX} (g : e.g n = some d) (ht : tyD m d = some t) (q : Q (.bl (t.sub c)) m) : zbl c (zg n) e m Q R := by
  unfold zbl
  refine zu g ?_
  simp only [ht]
  exact q
theorem zh1 {m m' : M} {a : Addr} (e : m' a = m a) : tyD m' (.ref a) = tyD m (.ref a) := by
  show (if (m'.l a).isSome then some Ty.list else (match m' a with | some (.dic _) => some .dict | _ => none)) = (if (m.l a).isSome then some Ty.list else (match m a with | some (.dic _) => some .dict | _ => none))
  rw [show m'.l a = m.l a from by unfold M.l; rw [e], e]
theorem zlg {m : M} {a : Addr} {t : Ty} (h : tyD m (.ref a) = some t) : (∃ ds, m a = some (.lst ds)) ∨ ∃ ps, m a = some (.dic ps) := by
  have h' : (if (m.l a).isSome then some Ty.list else (match m a with | some (.dic _) => some .dict | _ => none)) = some t := h
  cases q : m.l a with
  | some ds => exact .inl ⟨ds, M.l_of q⟩
  | none =>
    rw [q] at h'
    replace h' : (match m a with | some (.dic _) => some Ty.dict | _ => none) = some t := by simpa using h'
    cases q2 : m a with
    | none => rw [q2] at h'; cases h'
    | some ob =>
      rw [q2] at h'
      cases ob with
      | dic ps => exact .inr ⟨ps, rfl⟩
      | _ => cases h'
theorem zlO {m m' : M} {d : D} {t : Ty} (k : ∀ a o, d = .ref a → m a = some o → m' a = some o) (h : tyD m d = some t) : tyD m' d = some t := by
  cases d with
  | ref a =>
    rw [zh1 (m := m) ?_]
    · exact h
    · rcases zlg h with ⟨ds, e⟩ | ⟨ps, e⟩ <;> rw [e, k a _ rfl e]
  | _ => exact h
theorem zh2 {m : M} {d : D} {t : Ty} (h : tyD m d = some t) : tyD (za6 m) d = some t := by
  cases d with
  | ref a =>
    rw [zh1 (m := m) ?_]
    · exact h
    · unfold za6
      rcases zlg h with ⟨ds, e⟩ | ⟨ps, e⟩ <;> simp only [e]
  | _ => exact h
def NInt (m : M) (d : D) (lo hi : Int) : Prop := (∃ t, tyD m d = some t ∧ t.sub .int = false) ∨ (∃ b, d = .bl b) ∨ ∃ i, d = .int i ∧ (i < lo ∨ hi < i)
theorem znt {m : M} {d : D} {lo hi : Int} {Q : PQ} {R : PX} (h : NInt m d lo hi) (q : Q (.bl false) m) : za3 [d, .int lo, .int hi] m Q R := by
  refine zhS ?_
  unfold zeU
  refine zgo (zd0 ?_)
  rcases h with ⟨t, ht, hs⟩ | ⟨b, rfl⟩ | ⟨i, rfl, hi⟩
  · refine zfV rfl ht ?_
    rw [hs]
    exact ⟨m, Ab.Sub.refl _, q⟩
  · refine zfV rfl (t := .bool) rfl ?_
    refine zaD rfl (zd0 (notI (zfV rfl (t := .bool) rfl ?_)))
    exact ⟨m, Ab.Sub.refl _, q⟩
  · refine zfV rfl (t := .int) rfl ?_
    refine zaD rfl (zd0 (notI (zfV rfl (t := .int) rfl ?_)))
    refine zaD rfl (zna ?_)
    walk_at "stp"
    refine zc2 (fun c => ?_) (fun c => ⟨m, Ab.Sub.refl _, q⟩)
    walk_at "stp"
    have c' := of_decide_eq_true c
    rw [decide_eq_false (by omega)]
    exact ⟨m, Ab.Sub.refl _, q⟩
theorem zgl {m : M} {d : D} {t : Ty} {lo hi : Int} {Q : PQ} {R : PX} (ht : tyD m d = some t) (hs : t.sub .tuple = false) (q : Q (.bl false) m) : zaq [d, .int lo, .int hi] m Q R := by
  refine ze8 ?_
  unfold zdE
  refine zgo (zd0 (zfV rfl ht ?_))
  rw [hs]
  exact ⟨m, Ab.Sub.refl _, q⟩
theorem zfq {m : M} {ds : List D} {lo hi : Int} {Q : PQ} {R : PX} (h : (ds.length : Int) < lo ∨ hi < (ds.length : Int)) (q : Q (.bl false) m) : zaq [.tup ds, .int lo, .int hi] m Q R := by
  refine ze8 ?_
  unfold zdE
  refine zgo (zd0 (zfV rfl (t := .tuple) rfl ?_))
  refine zaD rfl (zna ?_)
  walk_at "stp"
  refine zc2 (fun c => ?_) (fun c => ⟨m, Ab.Sub.refl _, q⟩)
  walk_at "stp"
  have c' := of_decide_eq_true c
  rw [decide_eq_false (by omega)]
  exact ⟨m, Ab.Sub.refl _, q⟩
def zo3 (d : D) : Prop := (∃ b, d = .bl b) ∨ (∃ i, d = .int i ∧ (i < 0 ∨ 255 < i)) ∨ ∃ t, (∀ m, tyD m d = some t) ∧ t.sub .int = false
theorem zts {A : zaU} {x0 x1 x2 : Option D} {m : M} {d : D} (h : zo3 d) (q : A.rt (.bl false) m) : zbK A [x0, x1, x2, some d] m := by
  unfold zbK
  refine ifI (zm9 (zdy (zdf ?_)))
  rcases h with ⟨b, rfl⟩ | ⟨i, rfl, hi⟩ | ⟨t, ht, hs⟩
  · refine zfV rfl (t := .bool) rfl ?_
    refine zaz rfl (zm9 (zdf (zfV rfl (t := .bool) rfl ?_)))
    refine zaD rfl (zaD rfl ?_)
    walk_at "stp"
    exact q
  · refine zfV rfl (t := .int) rfl ?_
    refine zaz rfl (zm9 (zdf (zfV rfl (t := .int) rfl ?_)))
    refine zaz rfl ?_
    walk_at "stp"
    refine zc2 (fun c => ?_) (fun c => ?_)
    · refine zaD rfl ?_
      walk_at "stp"
      exact q
    · walk_at "stp"
      have c' : ¬ i < 0 := fun z => c (decide_eq_true z)
      refine zaD (decide_eq_true (by omega)) ?_
      walk_at "stp"
      exact q
  · refine zfV rfl (ht _) ?_
    rw [hs]
    refine zaD rfl (zaD rfl ?_)
    walk_at "stp"
    exact q
theorem zpB {A : zaU} {x0 x1 x2 : Option D} {m : M} {gd : M → Prop} (hgd : ∀ m, gd m) {d : D} {post : List D} (hd : zo3 d) (q : A.rt (.bl false) m) : ∀ (pre : List D) (x3 : Option D), Bytes pre → forL (aN 3) zbK gd (pre ++ d :: post) A [x0, x1, x2, x3] m
  | [], x3, hb => by
    refine ⟨hgd _, ?_⟩
    exact zts hd q
  | c :: ds, x3, hb => by
    obtain ⟨n, rfl, hn⟩ := hb c (by simp)
    have ih := zpB hgd (A := A) (x0 := x0) (x1 := x1) (x2 := x2) (m := m) (post := post) hd q ds (some (.int (n : Int))) (fun d hd => hb d (by simp [hd]))
    show forL (aN 3) zbK gd (.int (n : Int) :: (ds ++ d :: post)) A _ m
    unfold forL
    refine ⟨hgd _, ?_⟩
    generalize forL (aN 3) zbK gd (ds ++ d :: post) A = X at ih ⊢
    unfold zbK
    simp (config := {failIfUnchanged := false}) only [zB, zaa, zM, zdq, aOp, aUn, aCB, zg, aC, zb, zm, zcU, zJ, aN, zaG, zP, za4, zU, zaJ, zQ, zab, zE, zaf, zb8, zbO, aOr, zaI, zam, zb3, zaN, aIf, zac, aCall, zbl, za7, aSl, zaR, aPt, zai, zca, za0, zas, zaE, zbP, zb6, aTT, zG, zY, aLc, zaS, zb4, zb5, zaK, En.g, En.s, zap, zaB, zah, zdi, zbR, za5, zak, zc8, zcV, zR, zae, zaj, zad, zau, zaF, zaT, zaV, za1, zb9, zan, zbU, za2, zbu, zbQ, zc7, zb7, zct, zdr, zbt, zbV, zcv, eqA, D.isNon, Ab.rSlA, zat, En.x, z7, zq, zV, Option.map_some, List.length_cons, List.length_nil, Nat.zero_add, Nat.reduceAdd, true_and, and_true, decide_eq_true_eq, ite_true, ite_false, Bool.not_true, Bool.not_false, Bool.false_eq_true, if_true, if_false, List.append_assoc, List.cons_append, List.nil_append, at0, at1, at2, at3, at4, at5, ix0, ix1, ix2, ix3, List.set_cons_zero, List.set_cons_succ,tyD, show Ty.sub .int .int = true from rfl, show Ty.sub .int .bool = false from rfl]
    have e1 : decide ((n : Int) < 0) = false := decide_eq_false (by omega)
    have e2 : decide ((255 : Int) < (n : Int)) = false := decide_eq_false (by omega)
    simpa [e1, e2, show ¬ ((n : Int) < 0) by omega, show ¬ ((255 : Int) < (n : Int)) by omega] using ih
def NRow (m : M) (d : D) (lo hi : Int) : Prop := (∃ t, tyD m d = some t ∧ t.sub .tuple = false) ∨ (∃ ds, d = .tup ds ∧ ((ds.length : Int) < lo ∨ hi < (ds.length : Int))) ∨ ∃ pre b post, d = .tup (pre ++ b :: post) ∧ lo ≤ ((pre ++ b :: post).length : Int) ∧ ((pre ++ b :: post).length : Int) ≤ hi ∧ Bytes pre ∧ zo3 b
theorem zsD {m : M} {d : D} {lo hi : Int} {Q : PQ} {R : PX} (h : NRow m d lo hi) (q : Q (.bl false) m) : zcN [d, .int lo, .int hi] m Q R := by
  refine ziZ ?_
  unfold zfx
  refine zal (ifI (zdy (zdf (zK (zj (zu rfl (zj (zu rfl (zj (zu rfl (zA ⟨rfl, ?_⟩))))))))))) 
  rcases h with ⟨t, ht, hs⟩ | ⟨ds, rfl, hl⟩ | ⟨pre, b, post, rfl, h1, h2, hb, hn⟩
  · refine zgl ht hs (zaD rfl ?_)
    walk_at "stp"
    exact ⟨m, Ab.Sub.refl _, q⟩
  · refine zfq hl (zaD rfl ?_)
    walk_at "stp"
    exact ⟨m, Ab.Sub.refl _, q⟩
  · refine zeg h1 h2 (zaz rfl ?_)
    walk_at "stp"
    refine zpB (fun _ => trivial) hn ?_ pre _ hb
    exact ⟨m, Ab.Sub.refl _, q⟩
theorem NRow.keep {m m' : M} {d : D} {lo hi : Int} (k : ∀ a o, d = .ref a → m a = some o → m' a = some o) (h : NRow m d lo hi) : NRow m' d lo hi := by
  rcases h with ⟨t, ht, hs⟩ | h | h
  · exact .inl ⟨t, zlO k ht, hs⟩
  · exact .inr (.inl h)
  · exact .inr (.inr h)
theorem NInt.keep {m m' : M} {d : D} {lo hi : Int} (k : ∀ a o, d = .ref a → m a = some o → m' a = some o) (h : NInt m d lo hi) : NInt m' d lo hi := by
  rcases h with ⟨t, ht, hs⟩ | h | h
  · exact .inl ⟨t, zlO k ht, hs⟩
  · exact .inr (.inl h)
  · exact .inr (.inr h)
theorem NRow.hide {m : M} {d : D} {lo hi : Int} (h : NRow m d lo hi) : NRow (za6 m) d lo hi := by
  rcases h with ⟨t, ht, hs⟩ | h | h
  · exact .inl ⟨t, zh2 ht, hs⟩
  · exact .inr (.inl h)
  · exact .inr (.inr h)
theorem NInt.hide {m : M} {d : D} {lo hi : Int} (h : NInt m d lo hi) : NInt (za6 m) d lo hi := by
  rcases h with ⟨t, ht, hs⟩ | h | h
  · exact .inl ⟨t, zh2 ht, hs⟩
  · exact .inr (.inl h)
  · exact .inr (.inr h)
def NShape (m : M) (d : D) : Prop := (∃ t, tyD m d = some t ∧ t.sub .tuple = false) ∨ (∃ ds : List D, d = .tup ds ∧ ((ds.length : Int) < 2 ∨ 2 < (ds.length : Int))) ∨ ∃ x y, d = .tup [x, y] ∧ ((∀ m, NInt m x 1 64) ∨ ∃ i : Int, x = .int i ∧ 1 ≤ i ∧ i ≤ 64 ∧ ∀ m, NInt m y 2 64)
theorem NShape.keep {m m' : M} {d : D} (k : ∀ a o, d = .ref a → m a = some o → m' a = some o) (h : NShape m d) : NShape m' d := by
  rcases h with ⟨t, ht, hs⟩ | h
  · exact .inl ⟨t, zlO k ht, hs⟩
  · exact .inr h
theorem NShape.hide {m : M} {d : D} (h : NShape m d) : NShape (za6 m) d := by
  rcases h with ⟨t, ht, hs⟩ | h
  · exact .inl ⟨t, zh2 ht, hs⟩
  · exact .inr h
section
variable {p : Pm} {m : M} {Q : PQ} {R : PX}
theorem zlh {d : D} (h : NShape m d) (r : R ⟨p.cA "BadShape", []⟩ m) : zba p [d] m Q R := by
  refine zhs ?_
  unfold zes
  refine zal (ifI (zdy (zdf (zK (zj (zu rfl (zj (cI (zj (cI (zA ⟨rfl, ?_⟩)))))))))))
  rcases h with ⟨t, ht, hs⟩ | ⟨ds, rfl, hl⟩ | ⟨x, y, rfl, h⟩
  · exact zgl ht hs (zaD rfl ⟨m, Ab.Sub.refl _, r⟩)
  · exact zfq hl (zaD rfl ⟨m, Ab.Sub.refl _, r⟩)
  · refine zeg (by simp) (by simp) (zaz rfl ?_)
    refine nextI ?_
    dsimp only
    refine zal (zdZ (zu rfl (ttI rfl (gcI (aNI (gcI (aNI (gnI ?_))))))))
    dsimp only [En.s]
    refine ifI (zm9 (zdy (zdf (zK (zj (zu rfl (zj (cI (zj (cI (zA ⟨rfl, ?_⟩)))))))))))
    rcases h with h | ⟨i, rfl, h1, h2, h⟩
    · refine znt (h m) (zaD rfl ?_)
      exact zaD rfl ⟨m, Ab.Sub.refl _, r⟩
    · refine zhZ h1 h2 (zaz rfl ?_)
      refine zdy (zdf (zK (zj (zu rfl (zj (cI (zj (cI (zA ⟨rfl, ?_⟩)))))))))
      refine znt (h m) (zaD rfl ?_)
      exact ⟨m, Ab.Sub.refl _, r⟩
def zh3 (p : Pm) (m : M) (d e : D) (x : Xn) : Prop := ∀ (Q : PQ) (R : PX), R x m → zch p [d, e] m Q R
theorem ziG {d e : D} (h : NShape m d) : zh3 p m d e ⟨p.cA "BadShape", []⟩ := fun Q R r => by
  refine zfn ?_
  unfold zd7
  exact zal (zcx (zK (zj (zu rfl (zA ⟨rfl, zlh h ⟨m, Ab.Sub.refl _, r⟩⟩)))))
end
end
section
section
variable {p : Pm} {m : M} {Q : PQ} {R : PX}
theorem zc4 {C : Addr} {f : Str} {ta : AA} {A : zaU} {e : En} (h : ta e m (fun ds m1 => match ds with
  | [d] => A.xe e ⟨C, [(f, d)]⟩ m1
  | _ => False) (A.xe e)) : zdJ C f ta A e m := h
theorem zqb {d : D} (h : NRow m d 128 128) (q : Q (.bl false) m) : zee [d] m Q R := by
  refine zjG ?_
  unfold zge
  exact zgo (zK (zj (zu rfl (zj (cI (zj (cI (zA ⟨rfl, zsD h ⟨m, Ab.Sub.refl _, q⟩⟩))))))))
theorem znu {A : zaU} {x0 x1 x2 : Option D} {gd : M → Prop} (hgd : ∀ m, gd m) {odd : D} {post : List D} (ho : NRow m odd 128 128) : ∀ (cs : List Cl) (i : Nat) (x3 x4 : Option D), (∀ c ∈ cs, c.ok) → (∀ e, A.xe e ⟨p.cA "BadImage", [(("index" : Str), .int ((i + cs.length : Nat) : Int))]⟩ m) → forL (aTT 2 (zG (aN 3) (zG (aN 4) (zY)))) (zcD p) gd (enL i (cs.map Cl.t ++ odd :: post)) A [x0, x1, x2, x3, x4] m
  | [], i, x3, x4, h, q => by
    refine ⟨hgd _, ?_⟩
    refine ttI rfl (gcI (aNI (gcI (aNI (gnI ?_)))))
    dsimp only [En.s]
    unfold zcD
    refine ifI (zdy (zdf (zK (zj (zu rfl (zA ⟨rfl, zqb ho (zaD rfl ?_)⟩))))))
    exact zc4 (zj (zu rfl (zA (q _))))
  | c :: cs, i, x3, x4, h, q => by
    refine ⟨hgd _, ?_⟩
    refine ttI rfl (gcI (aNI (gcI (aNI (gnI ?_)))))
    dsimp only [En.s]
    unfold zcD
    refine ifI (zdy (zdf (zK (zj (zu rfl (zA ⟨rfl, zoq (Cl.by_ (h c (by simp))) (Cl.len (h c (by simp))) (zaz rfl ?_)⟩))))))
    refine nextI ?_
    refine znu hgd ho cs (i + 1) _ _ (fun c hc => h c (by simp [hc])) fun e => ?_
    have := q e
    rw [List.length_cons, show i + (cs.length + 1) = i + 1 + cs.length by omega] at this
    exact this
def NImage (m : M) (many : Nat) (d : D) (v : D) : Prop := (v = .non ∧ ∃ t, tyD m d = some t ∧ t.sub .tuple = false) ∨ (v = .non ∧ ∃ ds : List D, d = .tup ds ∧ ((ds.length : Int) < many ∨ (many : Int) < (ds.length : Int))) ∨
  ∃ (cs : List Cl) (odd : D) (post : List D), d = .tup (cs.map Cl.t ++ odd :: post) ∧ (cs.map Cl.t ++ odd :: post).length = many ∧ (∀ c ∈ cs, c.ok) ∧ NRow m odd 128 128 ∧ v = .int (cs.length : Nat)
theorem zsE {P Rg : Nat} {d v : D} (h : NImage m (2 + P + Rg) d v) (r : R ⟨p.cA "BadImage", [(("index" : Str), v)]⟩ m) : zc3 p [.tup [.int P, .int Rg], d] m Q R := by
  refine zht ?_
  unfold zet
  refine zal (zoI (zK (zj (zu rfl (zA ⟨rfl, howMany ?_⟩)))))
  dsimp only [En.s]
  refine zal (ifI (zdy (zdf (zK (zj (zu rfl (zj (zu rfl (zj (zu rfl (zA ⟨rfl, ?_⟩)))))))))))
  rcases h with ⟨rfl, t, ht, hs⟩ | ⟨rfl, ds, rfl, hl⟩ | ⟨cs, odd, post, rfl, hlen, hok, ho, rfl⟩
  · refine zgl ht hs (zaD rfl ?_)
    exact zc4 (zj (cI (zA ⟨m, Ab.Sub.refl _, r⟩)))
  · refine zfq hl (zaD rfl ?_)
    exact zc4 (zj (cI (zA ⟨m, Ab.Sub.refl _, r⟩)))
  · refine zeg (by rw [hlen]; exact Int.le_refl _) (by rw [hlen]; exact Int.le_refl _) (zaz rfl ?_)
    refine nextI ?_
    dsimp only
    refine zlu (zne (zu rfl ?_))
    refine znu (fun _ => trivial) ho cs 0 _ _ hok fun e => ⟨m, Ab.Sub.refl _, ?_⟩
    rw [Nat.zero_add]
    exact r
theorem zo4 {P Rg : Nat} {d v : D} (h1 : 1 ≤ P) (h2 : P ≤ 64) (h3 : 2 ≤ Rg) (h4 : Rg ≤ 64) (h : NImage m (2 + P + Rg) d v) : zh3 p m (.tup [.int P, .int Rg]) d ⟨p.cA "BadImage", [(("index" : Str), v)]⟩ := fun Q R r => by
  refine zfn ?_
  unfold zd7
  refine zal (zcx (zK (zj (zu rfl (zA ⟨rfl, zgi h1 h2 h3 h4 ?_⟩)))))
  dsimp only
  exact zcx (zK (zj (zu rfl (zj (zu rfl (zA ⟨rfl, zsE h ⟨m, Ab.Sub.refl _, r⟩⟩))))))
end
end
section
structure St (p : Pm) (ns : List Int) (r : Addr) (m : M) : Prop where
  row : RowAt ns m r
  tab : m p.P = some (.ltab lq)
section
variable {p : Pm} {ns : List Int} {r : Addr} {m m' : M}
theorem RowAt.sub (h : RowAt ns m r) (s : Ab.Sub m m') : RowAt ns m' r := by
  obtain ⟨i, s', k, a, b, c, d, e⟩ := h
  exact ⟨i, s', k, a, b, c, d, s _ _ e⟩
theorem St.ne (h : St p ns r m) : p.P ≠ r := fun z => by
  obtain ⟨i, s', k, a, b, c, d, e⟩ := h.row
  have := h.tab
  rw [z, e] at this; cases this
theorem St.sub (h : St p ns r m) (s : Ab.Sub m m') : St p ns r m' := ⟨h.row.sub s, s _ _ h.tab⟩
theorem St.ev (h : St p ns r m) (hr : RowAt ns m' r) (e : Ev r m m') : St p ns r m' := ⟨hr, e _ _ h.ne h.tab⟩
theorem St.new {a : Addr} {o : O} (h : St p ns r m) (ha : m a = none) : St p ns r (mset m a o) := h.sub (Ab.Sub.new ha)
end
def Sx (m m' : M) : Prop := ∀ a o, (∀ g, o ≠ .xd g) → m a = some o → m' a = some o
theorem Sx.refl (m : M) : Sx m m := fun _ _ _ h => h
theorem Sx.trans {m m1 m2 : M} (a : Sx m m1) (b : Sx m1 m2) : Sx m m2 := fun x o n h => b x o n (a x o n h)
theorem Sx.of {m m1 : M} (s : Ab.Sub m m1) : Sx m m1 := fun x o _ h => s x o h
theorem Sx.mut {m m' : M} {a : Addr} {o : O} (s : Sx m m') (h : m a = none) : Sx m (mset m' a o) := fun b u n e => by
  rw [zaX fun z => by rw [z, h] at e; cases e]; exact s b u n e
theorem zqc {m m' : M} {d : D} {t : Ty} (s : Sx m m') (h : tyD m d = some t) : tyD m' d = some t := by
  cases d with
  | ref a =>
    rcases zlg h with ⟨ds, e⟩ | ⟨ps, e⟩
    · exact (zh1 ((s _ _ (fun g z => by cases z) e).trans e.symm)).trans h
    · exact (zh1 ((s _ _ (fun g z => by cases z) e).trans e.symm)).trans h
  | _ => exact h
theorem NImage.hide {m : M} {k : Nat} {d v : D} (h : NImage m k d v) : NImage (za6 m) k d v := by
  rcases h with ⟨e, t, ht, hs⟩ | h | ⟨cs, odd, post, e, hl, hok, ho, hv⟩
  · exact .inl ⟨e, t, zh2 ht, hs⟩
  · exact .inr (.inl h)
  · exact .inr (.inr ⟨cs, odd, post, e, hl, hok, ho.hide, hv⟩)
theorem NImage.q0 {m : M} {k : Nat} {d v : D} (h : NImage m k d v) : okQ 0 v := by
  rcases h with ⟨rfl, _⟩ | ⟨rfl, _⟩ | ⟨_, _, _, _, _, _, _, rfl⟩ <;> trivial
theorem zgH {e : En} {i : Nat} {te : AE} {a : Addr} {gd : M → Prop} {s : D} {Q : PQ} {m0 : M} (ha : m0 a = none) (hgd : ∀ m', Sx m0 m' → gd m') : ∀ (its : List D) (acc : List D) (m : M), (∀ x ∈ its, ∀ m1 Q', Sx m0 m1 → (∀ m2, Sx m1 m2 → Q' s m2) → te (e.s i x) m1 Q' (fun _ _ => False)) →
    m a = some (.lst acc) → Sx m0 m → acc.length + its.length ≤ 64 → (∀ m', Sx m0 m' → m' a = some (.lst (acc ++ List.replicate its.length s)) → Q (.ref a) m') → lcL (aN i) zaS te e a gd its Q m
  | [], acc, m, hte, hm, hs, hl, q => ⟨hgd _ hs, q m hs (by simpa using hm)⟩
  | x :: its, acc, m, hte, hm, hs, hl, q => by
    refine ⟨hgd _ hs, ?_⟩
    refine hte x (by simp) m _ hs fun m2 s2 => ?_
    show (match m2 a with | some (.lst acc) => acc.length < big ∧ _ | _ => False)
    rw [s2 _ _ (fun g z => by cases z) hm]
    simp at hl
    refine ⟨Nat.lt_of_le_of_lt (show acc.length ≤ 64 by omega) (by unfold big; decide), ?_⟩
    exact zgH ha hgd its (acc ++ [s]) _ (fun y hy => hte y (by simp [hy])) zq ((hs.trans s2).mut ha) (by simp; omega) fun m' h1 h2 => q m' h1 (by rw [h2, List.length_cons, List.replicate_succ]; simp)
section
variable {p : Pm} {ns : List Int} {r : Addr} {m : M} {A : zaU}
theorem St.subx (h : St p ns r m) {m' : M} (s : Sx m m') : St p ns r m' := by
  refine ⟨?_, s _ _ (fun g z => by cases z) h.tab⟩
  obtain ⟨i, s', k, a, b, c, d, e⟩ := h.row
  exact ⟨i, s', k, a, b, c, d, s _ _ (fun g z => by cases z) e⟩
theorem Works.subx {l f0 f1 f2 f3 f4 f5 f6 f7 : Addr} {one other : D} {m' : M} (W : Works p m l one other f0 f1 f2 f3 f4 f5 f6 f7) (s : Sx m m') : Works p m' l one other f0 f1 f2 f3 f4 f5 f6 f7 :=
  ⟨s _ _ (fun g z => by cases z) W.lst, s _ _ (fun g z => by cases z) W.w0, s _ _ (fun g z => by cases z) W.w1, s _ _ (fun g z => by cases z) W.w2, s _ _ (fun g z => by cases z) W.w3, s _ _ (fun g z => by cases z) W.w4, s _ _ (fun g z => by cases z) W.w5, s _ _ (fun g z => by cases z) W.w6, s _ _ (fun g z => by cases z) W.w7⟩
end
theorem zqF {e : En} {m : M} {Q : PQ} {R : PX} (h : ∀ p, m p = none → Q (.ref p) (mset m p (.dic []))) : zmR e m Q R := h
theorem zfW {m : M} {i lo hi : Int} (h : i < lo ∨ hi < i) : NInt m (.int i) lo hi := .inr (.inr ⟨i, rfl, h⟩)
end
section
section
variable {p : Pm} {m0 m : M} {Q : PQ} {R : PX}
abbrev bbX (p : Pm) (v : D) : Xn := ⟨p.cA "BadBatch", [(("index" : Str), v)]⟩
abbrev pr (n : Nat) : D := .tup [.int n, .tup []]
def Inc : Nat → List Nat → Prop
  | _, [] => True
  | lo, n :: ns => lo ≤ n ∧ n ≤ 63 ∧ Inc (n + 1) ns
def aft : Nat → List Nat → Nat
  | lo, [] => lo
  | _, n :: ns => aft (n + 1) ns
def zo5 (lo : Nat) (d : D) : Prop := (∃ t, (∀ m, tyD m d = some t) ∧ t.sub .tuple = false) ∨ (∃ ds : List D, d = .tup ds ∧ ((ds.length : Int) < 2 ∨ 2 < (ds.length : Int))) ∨ (∃ x y, d = .tup [x, y] ∧ ∀ m, NInt m x lo 63) ∨ ∃ (n : Nat) (y : D), d = .tup [.int n, y] ∧ lo ≤ n ∧ n ≤ 63 ∧ ∀ m, NRow m y 0 96
theorem ztt (q : Q (.bl true) m) : zeM [.tup []] m Q R := by
  refine zka ?_
  unfold zhe
  walk_at "stp"
  exact zno trivial (by decide) (by decide) (fun d hd => nomatch hd) ⟨_, Ab.Sub.refl _, q⟩
theorem ztu {d : D} (h : NRow m d 0 96) (q : Q (.bl false) m) : zeM [d] m Q R := by
  refine zka ?_
  unfold zhe
  walk_at "stp"
  exact zsD h ⟨_, Ab.Sub.refl _, q⟩
theorem zpC {A : zaU} {x0 x4 x5 : Option D} {lo n : Nat} {i : Int} (h1 : lo ≤ n) (h2 : n ≤ 63) (q : A.nx [x0, some (.int ((n + 1 : Nat) : Int)), some (.int i), some (pr n), some (.int n), some (.tup [])] m) : zcm p A [x0, some (.int lo), some (.int i), some (pr n), x4, x5] m := by
  unfold zcm
  walk_at "stp"
  refine zeg (by simp) (by simp) ?_
  refine zaz rfl ?_
  walk_at "stp"
  unfold zdB
  walk_at "stp"
  unfold zdA
  walk_at "stp"
  refine zhZ (by omega) (by omega) ?_
  refine zaz rfl ?_
  walk_at "stp"
  refine ztt ?_
  walk_at "stp"
  refine zaz rfl ?_
  walk_at "stp"
  unfold zgy
  walk_at "stp"
  push_cast at q
  exact q
theorem zsF {A : zaU} {x0 x4 x5 : Option D} {lo : Nat} {i : Int} {d : D} (h : zo5 lo d) (q : ∀ e, A.xe e (bbX p (.int i)) m) : zcm p A [x0, some (.int lo), some (.int i), some d, x4, x5] m := by
  unfold zcm
  refine zal (ifI (zdy (zdf (zK (zj (zu rfl (zj (cI (zj (cI (zA ⟨rfl, ?_⟩)))))))))))
  rcases h with ⟨t, ht, hs⟩ | ⟨ds, rfl, hl⟩ | ⟨x, y, rfl, hx⟩ | ⟨n, y, rfl, h1, h2, hy⟩
  · refine zgl (ht m) hs (zaD rfl ?_)
    exact zc4 (zj (zu rfl (zA (q _))))
  · refine zfq hl (zaD rfl ?_)
    exact zc4 (zj (zu rfl (zA (q _))))
  · refine zeg (by simp) (by simp) (zaz rfl ?_)
    refine nextI ?_
    dsimp only
    unfold zdB
    walk_at "stp"
    unfold zdA
    walk_at "stp"
    refine znt (hx m) ?_
    refine zaD rfl ?_
    refine zaD rfl ?_
    exact zc4 (zj (zu rfl (zA (q _))))
  · refine zeg (by simp) (by simp) (zaz rfl ?_)
    refine nextI ?_
    dsimp only
    unfold zdB
    walk_at "stp"
    unfold zdA
    walk_at "stp"
    refine zhZ (by omega) (by omega) ?_
    refine zaz rfl ?_
    walk_at "stp"
    refine ztu (hy m) ?_
    walk_at "stp"
    refine zaD rfl ?_
    exact zc4 (zj (zu rfl (zA (q _))))
theorem znv {A : zaU} {gd : M → Prop} (hgd : ∀ m, gd m) {bad : D} {post : List D} {x0 : Option D} : ∀ (ns : List Nat) (i lo : Nat) (x2 x3 x4 x5 : Option D), Inc lo ns → zo5 (aft lo ns) bad → (∀ e, A.xe e (bbX p (.int ((i + ns.length : Nat) : Int))) m) → forL (aTT 2 (zG (aN 2) (zG (aN 3) (zY)))) (zcm p) gd (enL i (ns.map pr ++ bad :: post)) A [x0, some (.int lo), x2, x3, x4, x5] m
  | [], i, lo, x2, x3, x4, x5, _, hb, q => by
    refine ⟨hgd _, ?_⟩
    refine ttI rfl (gcI (aNI (gcI (aNI (gnI ?_)))))
    dsimp only [En.s]
    exact zsF hb q
  | n :: ns, i, lo, x2, x3, x4, x5, hi, hb, q => by
    refine ⟨hgd _, ?_⟩
    refine ttI rfl (gcI (aNI (gcI (aNI (gnI ?_)))))
    dsimp only [En.s]
    refine zpC hi.1 hi.2.1 ?_
    refine znv hgd ns (i + 1) (n + 1) _ _ _ _ hi.2.2 hb fun e => ?_
    have := q e
    rw [List.length_cons, show i + (ns.length + 1) = i + 1 + ns.length by omega] at this
    exact this
theorem zov {A : zaU} {gd : M → Prop} (hgd : ∀ m, gd m) {x0 : Option D} : ∀ (ns : List Nat) (i lo : Nat) (x2 x3 x4 x5 : Option D), Inc lo ns → (∀ y1 y2 y3 y4 y5, A.nx [x0, y1, y2, y3, y4, y5] m) → forL (aTT 2 (zG (aN 2) (zG (aN 3) (zY)))) (zcm p) gd (enL i (ns.map pr)) A [x0, some (.int lo), x2, x3, x4, x5] m
  | [], i, lo, x2, x3, x4, x5, _, q => ⟨hgd _, q _ _ _ _ _⟩
  | n :: ns, i, lo, x2, x3, x4, x5, hi, q => by
    refine ⟨hgd _, ?_⟩
    refine ttI rfl (gcI (aNI (gcI (aNI (gnI ?_)))))
    dsimp only [En.s]
    refine zpC hi.1 hi.2.1 ?_
    exact zov hgd ns (i + 1) (n + 1) _ _ _ _ hi.2.2 q
theorem znw {A : zaU} {gd : M → Prop} (hgd : ∀ m, gd m) {P n : Nat} {post : List D} (hn : P ≤ n) {x0 : Option D} : ∀ (ns : List Nat) (i : Nat) (x2 x3 x4 : Option D), (∀ k ∈ ns, k < P) → (∀ e, A.xe e (bbX p (.int ((i + ns.length : Nat) : Int))) m) → forL (aTT 2 (zG (aN 2) (zG (aTT 2 (zG (aN 3) (zG (aN 4) (zY)))) (zY)))) (zc0 p) gd (enL i (ns.map pr ++ pr n :: post)) A [x0, some (.int P), x2, x3, x4] m
  | [], i, x2, x3, x4, _, q => by
    refine ⟨hgd _, ?_⟩
    refine ttI rfl (gcI (aNI (gcI (ttI rfl (gcI (aNI (gcI (aNI (gnI (gnI ?_))))))))))
    dsimp only [En.s]
    unfold zc0
    walk_at "stp"
    refine zaD (decide_eq_true (by omega)) ?_
    exact zc4 (zj (zu rfl (zA (q _))))
  | k :: ns, i, x2, x3, x4, h, q => by
    refine ⟨hgd _, ?_⟩
    refine ttI rfl (gcI (aNI (gcI (ttI rfl (gcI (aNI (gcI (aNI (gnI (gnI ?_))))))))))
    dsimp only [En.s]
    have hk := h k (by simp)
    have hk' : ¬ ((P : Int) ≤ (k : Int)) := by omega
    unfold zc0
    walk_at "stp"
    refine zaz (decide_eq_false (by omega)) ?_
    walk_at "stp"
    refine znw hgd hn ns (i + 1) _ _ _ (fun j hj => h j (by simp [hj])) fun e => ?_
    have := q e
    rw [List.length_cons, show i + (ns.length + 1) = i + 1 + ns.length by omega] at this
    exact this
def NBt (m : M) (P : Nat) (z v : D) : Prop := (v = .non ∧ ∃ t, tyD m z = some t ∧ t.sub .tuple = false) ∨ (v = .non ∧ z = .tup []) ∨ (∃ ns bad post, z = .tup (ns.map pr ++ bad :: post) ∧ (ns.map pr ++ bad :: post).length ≤ 64 ∧ Inc 0 ns ∧ zo5 (aft 0 ns) bad ∧ v = .int (ns.length : Nat)) ∨ ∃ ns n post, z = .tup ((ns ++ n :: post).map pr) ∧ (ns ++ n :: post).length ≤ 64 ∧ Inc 0 (ns ++ n :: post) ∧ (∀ k ∈ ns, k < P) ∧ P ≤ n ∧ v = .int (ns.length : Nat)
theorem NBt.q0 {P : Nat} {z v : D} (h : NBt m P z v) : okQ 0 v := by
  rcases h with ⟨rfl, _⟩ | ⟨rfl, _⟩ | ⟨_, _, _, _, _, _, _, rfl⟩ | ⟨_, _, _, _, _, _, _, _, rfl⟩ <;> trivial
theorem zuB {P : Nat} {z v : D} (h : NBt m P z v) (r : R (bbX p v) m) : zcR p [z, .int (P : Nat)] m Q R := by
  refine zjJ ?_
  unfold zeH
  refine zal (zcx (zK (zj (zu rfl (zA ⟨rfl, ?_⟩)))))
  refine zk5 ?_
  unfold zfQ
  refine zal (ifI (zdy (zdf (zK (zj (zu rfl (zj (cI (zj (cI (zA ⟨rfl, ?_⟩)))))))))))
  rcases h with ⟨rfl, t, h1, h2⟩ | ⟨rfl, rfl⟩ | ⟨ns, bad, post, rfl, hl, hi, hb, rfl⟩ | ⟨ns, n, post, rfl, hl, hi, hk, hn, rfl⟩
  · refine zgl h1 h2 (zaD rfl ?_)
    exact zc4 (zj (cI (zA ⟨m, Ab.Sub.refl _, m, Ab.Sub.refl _, r⟩)))
  · refine zfq (by decide) (zaD rfl ?_)
    exact zc4 (zj (cI (zA ⟨m, Ab.Sub.refl _, m, Ab.Sub.refl _, r⟩)))
  · refine zeg (by rw [List.length_append, List.length_cons]; omega) (by omega) (zaz rfl ?_)
    refine nextI ?_
    dsimp only
    unfold zeG
    refine zal (zdZ (cI (aNI ?_)))
    dsimp only [En.s]
    unfold zeF
    refine zlu (zne (zu rfl ?_))
    refine znv (lo := 0) (fun _ => trivial) ns 0 _ _ _ _ hi hb fun e => ⟨m, Ab.Sub.refl _, m, Ab.Sub.refl _, ?_⟩
    rw [Nat.zero_add]
    exact r
  · refine zeg (by rw [List.length_map, List.length_append, List.length_cons]; omega) (by rw [List.length_map]; omega) (zaz rfl ?_)
    refine nextI ?_
    dsimp only
    unfold zeG
    refine zal (zdZ (cI (aNI ?_)))
    dsimp only [En.s]
    unfold zeF
    refine zlu (zne (zu rfl ?_))
    refine zov (lo := 0) (fun _ => trivial) _ 0 _ _ _ _ hi fun y1 y2 y3 y4 y5 => ⟨m, Ab.Sub.refl _, ?_⟩
    unfold zfg
    refine zlu (zne (zu rfl ?_))
    rw [List.map_append, List.map_cons]
    refine znw (fun _ => trivial) hn ns 0 _ _ _ hk fun e => ⟨m, Ab.Sub.refl _, ?_⟩
    rw [Nat.zero_add]
    exact r
def NState (m : M) (d : D) : Prop := (∃ t, tyD m d = some t ∧ t.sub .tuple = false) ∨ (∃ ds : List D, d = .tup ds ∧ ((ds.length : Int) < 1 ∨ 64 < (ds.length : Int))) ∨ ∃ ds : List D, d = .tup ds ∧ 1 ≤ (ds.length : Int) ∧ (ds.length : Int) ≤ 64 ∧ (∀ e ∈ ds, ∀ m, GoodP m e) ∧ ds.all (ziq 0 96) = false
theorem zsG {d : D} (hT : m p.Pt = some .tab) (h : NState m d) (q : Q (.bl false) m) : zef p [d] m Q R := by
  refine zjI ?_
  unfold zgg
  refine zgo (zd0 (zK (zj (zu rfl (zj (cI (zj (cI (zA ⟨rfl, ?_⟩)))))))))
  rcases h with ⟨t, h1, h2⟩ | ⟨ds, rfl, hl⟩ | ⟨ds, rfl, h1, h2, hg, ha⟩
  · exact zgl h1 h2 ⟨_, Ab.Sub.refl _, q⟩
  · exact zfq hl ⟨_, Ab.Sub.refl _, q⟩
  · refine zeg h1 h2 (zaD rfl ?_)
    unfold zmT
    refine zu rfl ⟨hT, fun e he => hg e he _, ?_⟩
    rw [ha]
    exact ⟨_, Ab.Sub.refl _, q⟩
theorem zsH (hT : m p.Pt = some .tab) (q : Q (.bl true) m) : zef p [.tup [.tup [], .tup []]] m Q R := by
  refine zjI ?_
  unfold zgg
  refine zgo (zd0 (zK (zj (zu rfl (zj (cI (zj (cI (zA ⟨rfl, ?_⟩)))))))))
  refine zeg (by decide) (by decide) (zaD rfl ?_)
  unfold zmT
  refine zu rfl ⟨hT, fun e he => ?_, ?_⟩
  · simp only [List.mem_cons, List.not_mem_nil, or_false] at he
    rcases he with rfl | rfl <;> exact .inr ⟨[], rfl, by decide, fun e he => nomatch he⟩
  · rw [show ([D.tup [], D.tup []] : List D).all (ziq 0 96) = true by decide]
    exact ⟨_, Ab.Sub.refl _, q⟩
end
end
section
section
variable {p : Pm} {m : M} {Q : PQ} {R : PX} {d e : D}
theorem zo6 {i j : Int} (q : Q (.int (i - j)) m) : zae (.int i) (.int j) m Q := q
theorem zqG {ds : List D} (q : Q (.int (ds.length : Nat)) m) : zah [.tup ds] m Q := q
theorem zow (h : NShape m d) (r : R ⟨p.cA "BadShape", []⟩ m) : zeE p [d] m Q R := by
  refine zoU ?_
  unfold zko
  exact zal (zcx (zK (zj (zu rfl (zA ⟨rfl, zlh h ⟨m, Ab.Sub.refl _, r⟩⟩)))))
theorem ztv (h : NShape m d) (r : R ⟨p.cA "BadShape", []⟩ m) : zk0 p [some d] m Q R := by
  unfold zk0
  exact zK (zj (zu rfl (zA ⟨rfl, zow h r⟩)))
theorem ztw (h : NShape m d) (r : R ⟨p.cA "BadShape", []⟩ m) : zk1 p [some d] m Q R := by
  unfold zk1
  refine zK (zj (zu rfl (zA ⟨rfl, ?_⟩)))
  refine zlE ?_
  unfold zgv
  refine zgo (opI (tupI (zj (cI (zA ⟨zav rfl, ?_⟩)))))
  exact zK (zj (zu rfl (zA ⟨rfl, zow h ⟨m, Ab.Sub.refl _, r⟩⟩)))
theorem ztx (h : NShape m d) (r : R ⟨p.cA "BadShape", []⟩ m) : zir p [some d, some e] m Q R := by
  unfold zir
  refine zK (zj (zu rfl (zj (zu rfl (zA ⟨rfl, ?_⟩)))))
  refine zhT ?_
  unfold zeX
  exact zal (zcx (zK (zj (zu rfl (zA ⟨rfl, zlh h ⟨m, Ab.Sub.refl _, r⟩⟩)))))
theorem zty (h : NShape m d) (r : R ⟨p.cA "BadShape", []⟩ m) : zis p [some d, some e] m Q R := by
  unfold zis
  refine zK (zj (zu rfl (zj (zu rfl (zA ⟨rfl, ?_⟩)))))
  refine zhU ?_
  unfold ze0
  exact zal (zcx (zK (zj (zu rfl (zA ⟨rfl, zlh h ⟨m, Ab.Sub.refl _, r⟩⟩)))))
theorem zqH {x : Xn} (h : zh3 p m d e x) (r : R x m) : zit p [some d, some e] m Q R := by
  unfold zit
  refine zK (zj (zu rfl (zj (zu rfl (zA ⟨rfl, ?_⟩)))))
  refine zhV ?_
  unfold ze2
  exact zal (zcx (zK (zj (zu rfl (zj (zu rfl (zA ⟨rfl, h _ _ ⟨m, Ab.Sub.refl _, r⟩⟩)))))))
theorem zqI {x : Xn} (h : zh3 p m d e x) (r : R x m) : ziu p [some d, some e] m Q R := by
  unfold ziu
  refine zK (zj (zu rfl (zj (zu rfl (zA ⟨rfl, ?_⟩)))))
  refine zhX ?_
  unfold ze6
  exact zal (zcx (zK (zj (zu rfl (zj (zu rfl (zA ⟨rfl, h _ _ ⟨m, Ab.Sub.refl _, r⟩⟩)))))))
theorem zqJ {x : Xn} (h : zh3 p m d e x) (r : R x m) : ziv p [some d, some e] m Q R := by
  unfold ziv
  refine zK (zj (zu rfl (zj (zu rfl (zA ⟨rfl, ?_⟩)))))
  refine zmh ?_
  unfold zj0
  exact zal (zcx (zK (zj (zu rfl (zj (zu rfl (zA ⟨rfl, h _ _ ⟨m, Ab.Sub.refl _, r⟩⟩)))))))
theorem zqK {P Rg : Nat} (p1 : 1 ≤ P) (p2 : P ≤ 64) (r1 : 2 ≤ Rg) (r2 : Rg ≤ 64) (h : NInt m e 0 ((P : Int) - 1)) (r : R ⟨p.cA "BadNumber", []⟩ m) : zir p [some (.tup [.int P, .int Rg]), some e] m Q R := by
  unfold zir
  refine zK (zj (zu rfl (zj (zu rfl (zA ⟨rfl, ?_⟩)))))
  refine zhT ?_
  unfold zeX
  refine zal (zcx (zK (zj (zu rfl (zA ⟨rfl, zgi p1 p2 r1 r2 ?_⟩)))))
  dsimp only
  unfold zg7
  refine zal (ifI (zdy (zdf (zK (zj (zu rfl (zj (cI (zj (opI (opI (zu rfl (cI (zii (d := .int (P : Nat)) rfl (cI (zo6 ?_))))))))))))))))
  refine zA ⟨rfl, znt h (zaD rfl ?_)⟩
  exact ⟨m, Ab.Sub.refl _, r⟩
theorem zqL {P Rg : Nat} (p1 : 1 ≤ P) (p2 : P ≤ 64) (r1 : 2 ≤ Rg) (r2 : Rg ≤ 64) (h : NInt m e 0 ((Rg : Int) - 1)) (r : R ⟨p.cA "BadNumber", []⟩ m) : zis p [some (.tup [.int P, .int Rg]), some e] m Q R := by
  unfold zis
  refine zK (zj (zu rfl (zj (zu rfl (zA ⟨rfl, ?_⟩)))))
  refine zhU ?_
  unfold ze0
  refine zal (zcx (zK (zj (zu rfl (zA ⟨rfl, zgi p1 p2 r1 r2 ?_⟩)))))
  dsimp only
  unfold zg8
  refine zal (ifI (zdy (zdf (zK (zj (zu rfl (zj (cI (zj (opI (opI (zu rfl (cI (zii (d := .int (Rg : Nat)) rfl (cI (zo6 ?_))))))))))))))))
  refine zA ⟨rfl, znt h (zaD rfl ?_)⟩
  exact ⟨m, Ab.Sub.refl _, r⟩
theorem ztz (hT : m p.Pt = some .tab) (h : NState m d) (r : R ⟨p.cA "BadState", []⟩ m) : ziw p [some d, some e] m Q R := by
  unfold ziw
  refine zK (zj (zu rfl (zj (zu rfl (zA ⟨rfl, ?_⟩)))))
  refine zkb ?_
  unfold zhf
  refine zal (ifI (zdy (zpS (zK (zj (zu rfl (zA ⟨rfl, ?_⟩)))))))
  refine zsG hT h (zaD rfl ?_)
  exact ⟨m, Ab.Sub.refl _, r⟩
theorem ztA {v : D} (hT : m p.Pt = some .tab) (h : NBt m 2 e v) (r : R (bbX p v) m) : ziw p [some (.tup [.tup [], .tup []]), some e] m Q R := by
  unfold ziw
  refine zK (zj (zu rfl (zj (zu rfl (zA ⟨rfl, ?_⟩)))))
  refine zkb ?_
  unfold zhf
  refine zal (ifI (zdy (zpS (zK (zj (zu rfl (zA ⟨rfl, ?_⟩)))))))
  refine zsH hT (zaz rfl ?_)
  refine nextI ?_
  dsimp only
  unfold zjE
  refine zal (zcx (zK (zj (zu rfl (zj (cbI (zj (zu rfl (zA ?_)))))))))
  refine zqG ?_
  exact zA ⟨rfl, zuB (P := 2) h ⟨m, Ab.Sub.refl _, r⟩⟩
theorem ztB {P Rg : Nat} {cs : List Cl} (p1 : 1 ≤ P) (p2 : P ≤ 4) (r1 : 2 ≤ Rg) (r2 : Rg ≤ 6) (hl : cs.length = 2 + P + Rg) (h : ∀ c ∈ cs, c.ok) (hs : 4294967295 ≤ mxS cs) (r : R ⟨p.cA "TooMany", [(("most" : Str), .int 4294967295)]⟩ m) : zit p [some (.tup [.int P, .int Rg]), some (.tup (cs.map Cl.t))] m Q R := by
  unfold zit
  refine zK (zj (zu rfl (zj (zu rfl (zA ⟨rfl, ?_⟩)))))
  refine zhV ?_
  unfold ze2
  refine zal (zcx (zK (zj (zu rfl (zj (zu rfl (zA ⟨rfl, zjL p1 (by omega) r1 (by omega) hl h ?_⟩)))))))
  dsimp only
  unfold zha
  refine zal (zdZ (zK (zj (zu rfl (zA ⟨rfl, znS h (by omega) (fun z => by rw [z] at hl; simp at hl; omega) ?_⟩)))))
  refine aNI ?_
  dsimp only [En.s]
  unfold zg9
  walk_at "stp"
  refine zaD (decide_eq_true (by omega)) ?_
  exact zc4 (zj (cI (zA ⟨m, Ab.Sub.refl _, r⟩)))
theorem ztC {P Rg : Nat} {cs : List Cl} (p1 : 1 ≤ P) (p2 : P ≤ 4) (r1 : 2 ≤ Rg) (r2 : Rg ≤ 6) (hl : cs.length = 2 + P + Rg) (h : ∀ c ∈ cs, c.ok) (hs : 4294967295 < nxE cs) (r : R ⟨p.cA "TooMany", [(("most" : Str), .int 4294967295)]⟩ m) : ziu p [some (.tup [.int P, .int Rg]), some (.tup (cs.map Cl.t))] m Q R := by
  unfold ziu
  refine zK (zj (zu rfl (zj (zu rfl (zA ⟨rfl, ?_⟩)))))
  refine zhX ?_
  unfold ze6
  refine zal (zcx (zK (zj (zu rfl (zj (zu rfl (zA ⟨rfl, zjL p1 (by omega) r1 (by omega) hl h ?_⟩)))))))
  dsimp only
  unfold zhd
  refine zal (zdZ (zK (zj (zK (zj (zu rfl (zA ⟨rfl, zlf (by omega) h ?_⟩))) ))))
  refine zA ⟨rfl, znT h (by omega) ?_⟩
  refine aNI ?_
  dsimp only [En.s]
  unfold zhc
  walk_at "stp"
  refine zaD (decide_eq_true (by omega)) ?_
  exact zc4 (zj (cI (zA ⟨m, Ab.Sub.refl _, r⟩)))
theorem ztD {P Rg : Nat} {cs : List Cl} (p1 : 1 ≤ P) (p2 : P ≤ 4) (r1 : 2 ≤ Rg) (r2 : Rg ≤ 6) (hl : cs.length = 2 + P + Rg) (h : ∀ c ∈ cs, c.ok) (q : ∀ d m', Ab.Sub m m' → Q d m') : ziv p [some (.tup [.int P, .int Rg]), some (.tup (cs.map Cl.t))] m Q R := by
  unfold ziv
  refine zK (zj (zu rfl (zj (zu rfl (zA ⟨rfl, ?_⟩)))))
  refine zmh ?_
  unfold zj0
  refine zal (zcx (zK (zj (zu rfl (zj (zu rfl (zA ⟨rfl, zjL p1 (by omega) r1 (by omega) hl h ?_⟩)))))))
  dsimp only
  refine zgo (zK (zj (zu rfl (zj (zK (zj (zu rfl (zA ⟨rfl, zlf (by omega) h ?_⟩))))))))
  refine zA ⟨rfl, zpz (by omega) h ?_⟩
  exact ⟨m, Ab.Sub.refl _, q _ m (Ab.Sub.refl _)⟩
end
section
variable {p : Pm} {m : M} {Q : PQ} {R : PX} {one other : D} {l f0 f1 f2 f3 f4 f5 f6 f7 : Addr}
theorem zrp (pk : Ok p) (W : Works p m l one other f0 f1 f2 f3 f4 f5 f6 f7) (h : NShape (za6 m) one) {x : D} (hx : x ∈ [D.ref f0, .ref f1, .ref f2, .ref f3, .ref f4, .ref f5, .ref f6]) (q : ∀ m', Ab.Sub m m' → Q (.str "shape") m') : z8 p [x] m Q R := by
  simp only [List.mem_cons, List.not_mem_nil, or_false] at hx
  rcases hx with rfl | rfl | rfl | rfl | rfl | rfl | rfl
  · exact refused pk W.w0 tl0 (.inl ⟨rfl, rfl⟩) (fun Q' R' r' => ztv h r') q
  · exact refused pk W.w1 tl1 (.inl ⟨rfl, rfl⟩) (fun Q' R' r' => ztw h r') q
  · exact refused pk W.w2 tl2 (.inl ⟨rfl, rfl⟩) (fun Q' R' r' => ztx h r') q
  · exact refused pk W.w3 tl3 (.inl ⟨rfl, rfl⟩) (fun Q' R' r' => zty h r') q
  · exact refused pk W.w4 tl4 (.inl ⟨rfl, rfl⟩) (fun Q' R' r' => zqH (ziG h) r') q
  · exact refused pk W.w5 tl5 (.inl ⟨rfl, rfl⟩) (fun Q' R' r' => zqI (ziG h) r') q
  · exact refused pk W.w6 tl6 (.inl ⟨rfl, rfl⟩) (fun Q' R' r' => zqJ (ziG h) r') q
theorem ztE {P Rg : Nat} (p1 : 1 ≤ P) (p2 : P ≤ 64) (r1 : 2 ≤ Rg) (r2 : Rg ≤ 64) (pk : Ok p) (W : Works p m l (.tup [.int P, .int Rg]) other f0 f1 f2 f3 f4 f5 f6 f7) {x : D} (hx : (x = .ref f2 ∧ NInt (za6 m) other 0 ((P : Int) - 1)) ∨ (x = .ref f3 ∧ NInt (za6 m) other 0 ((Rg : Int) - 1))) (q : ∀ m', Ab.Sub m m' → Q (.str "number") m') : z8 p [x] m Q R := by
  rcases hx with ⟨rfl, h⟩ | ⟨rfl, h⟩
  · exact refused pk W.w2 tl2 (.inr (.inl ⟨rfl, rfl⟩)) (fun Q' R' r' => zqK p1 p2 r1 r2 h r') q
  · exact refused pk W.w3 tl3 (.inr (.inl ⟨rfl, rfl⟩)) (fun Q' R' r' => zqL p1 p2 r1 r2 h r') q
theorem zrq {P Rg : Nat} {v : D} (p1 : 1 ≤ P) (p2 : P ≤ 64) (r1 : 2 ≤ Rg) (r2 : Rg ≤ 64) (pk : Ok p) (hfl : p.fld (p.cA "BadImage") "index" = true) (W : Works p m l (.tup [.int P, .int Rg]) other f0 f1 f2 f3 f4 f5 f6 f7) (h : NImage (za6 m) (2 + P + Rg) other v) {x : D} (hx : x ∈ [D.ref f4, .ref f5, .ref f6]) (q : ∀ m', Sx m m' → Q (.tup [.str "image", v]) m') : z8 p [x] m Q R := by
  have hd := zo4 (p := p) p1 p2 r1 r2 h
  simp only [List.mem_cons, List.not_mem_nil, or_false] at hx
  rcases hx with rfl | rfl | rfl
  · exact zfp pk h.q0 (.inl ⟨rfl, rfl, rfl⟩) hfl W.w4 tl4 (fun Q' R' r' => zqH hd r') q
  · exact zfp pk h.q0 (.inl ⟨rfl, rfl, rfl⟩) hfl W.w5 tl5 (fun Q' R' r' => zqI hd r') q
  · exact zfp pk h.q0 (.inl ⟨rfl, rfl, rfl⟩) hfl W.w6 tl6 (fun Q' R' r' => zqJ hd r') q
theorem zrr (pk : Ok p) (hT : m p.Pt = some .tab) (W : Works p m l one other f0 f1 f2 f3 f4 f5 f6 f7) (h : NState (za6 m) one) (q : ∀ m', Ab.Sub m m' → Q (.str "state") m') : z8 p [.ref f7] m Q R :=
  refused pk W.w7 tl7 (.inr (.inr ⟨rfl, rfl⟩)) (fun Q' R' r' => ztz (by unfold za6; rw [hT]) h r') q
theorem zrs {v : D} (pk : Ok p) (hfl : p.fld (p.cA "BadBatch") "index" = true) (hT : m p.Pt = some .tab) (W : Works p m l (.tup [.tup [], .tup []]) other f0 f1 f2 f3 f4 f5 f6 f7) (h : NBt (za6 m) 2 other v) (q : ∀ m', Sx m m' → Q (.tup [.str "batch", v]) m') : z8 p [.ref f7] m Q R :=
  zfp pk h.q0 (.inr (.inl ⟨rfl, rfl, rfl⟩)) hfl W.w7 tl7 (fun Q' R' r' => ztA (by unfold za6; rw [hT]) h r') q
end
end
section
theorem zqM {ds : List D} {i : Nat} (h : i ≤ ds.length) : Ab.cutD ds none (some (i : Int)) = ds.take i := by
  unfold Ab.cutD
  have e0 : HT.sIx ds.length 0 none = 0 := rfl
  rw [e0, HT.sIx_nat, List.drop_zero, Nat.sub_zero]
  congr 1
  omega
theorem zmV {ds : List D} {i : Nat} (h : i ≤ ds.length) : Ab.cutD ds (some (i : Int)) none = ds.drop i := by
  unfold Ab.cutD
  have e0 : HT.sIx ds.length ds.length none = ds.length := rfl
  rw [e0, HT.sIx_nat, Nat.min_eq_left h]
  rw [List.take_of_length_le (by rw [List.length_drop]; omega)]
theorem tyL {m : M} {a : Addr} {ds : List D} (h : m a = some (.lst ds)) : tyD m (.ref a) = some .list := by
  unfold tyD
  dsimp only
  rw [l_of h]
  rfl
theorem zhw {x : D} {k : Int} {n : Nat} {m : M} {Q : PQ} (hk : k = (n : Int)) (h1 : 2 ≤ n) (h2 : n ≤ 1000) (q : Q (.tup (List.replicate n x)) m) : zaj (.tup [x]) (.int k) m Q := by
  subst hk
  rw [zdv]
  refine ⟨⟨by simp, by omega, by omega, by simp⟩, ?_⟩
  rw [Int.toNat_natCast, zoY]
  exact q
theorem zsI {ds : List D} {m : M} {Q : PQ} (q : ∀ p, m p = none → Q (.ref p) (mset m p (.lst ds))) : zak [.tup ds] m Q := q
theorem zqN {mm : M} {a : Addr} (e : mm a = some (.dic [])) : tyD mm (.ref a) = some .dict := by
  have : mm.l a = none := by unfold M.l; rw [e]
  show (if (mm.l a).isSome then some Ty.list else (match mm a with | some (.dic _) => some .dict | _ => none)) = _
  rw [this, e]
  rfl
theorem ne_of {ns : List Int} {r b : Addr} {m : M} {o : O} (h : RowAt ns m r) (hb : m b = some o) (ho : ∀ i s k, o ≠ .lst [.fls (ns.map .int), .int i, .int s, .int k]) : b ≠ r := fun z => by
  obtain ⟨i, s', k, _, _, _, _, e⟩ := h
  rw [z, e] at hb
  injection hb with hb
  exact ho _ _ _ hb.symm
theorem ztF {ns : List Int} {r : Addr} {m m' : M} {d : D} {t : Ty} (h : RowAt ns m r) (h' : RowAt ns m' r) (e : Ev r m m') (ht : tyD m d = some t) : tyD m' d = some t := by
  cases d with
  | ref a =>
    by_cases n : a = r
    · subst n
      obtain ⟨_, _, _, _, _, _, _, e1⟩ := h
      obtain ⟨_, _, _, _, _, _, _, e2⟩ := h'
      have t1 := tyL e1
      rw [t1] at ht
      rw [← ht]
      exact tyL e2
    · rw [zh1 (m := m) ?_]
      · exact ht
      · rcases zlg ht with ⟨ds, e1⟩ | ⟨ps, e1⟩ <;> rw [e1, e _ _ n e1]
  | _ => exact ht
structure Kp (m m' : M) : Prop where
  ty : ∀ d t, tyD m d = some t → tyD m' d = some t
  ls : ∀ b, m b = some (.lst [.str "sync"]) → m' b = some (.lst [.str "sync"])
  dc : ∀ b, m b = some (.dic []) → m' b = some (.dic [])
theorem Kp.trans {m m1 m2 : M} (a : Kp m m1) (b : Kp m1 m2) : Kp m m2 := ⟨fun d t h => b.ty d t (a.ty d t h), fun x h => b.ls x (a.ls x h), fun x h => b.dc x (a.dc x h)⟩
theorem Kp.of {m m' : M} (s : Sx m m') : Kp m m' := ⟨fun d t => zqc s, fun b h => s _ _ (fun g z => by cases z) h, fun b h => s _ _ (fun g z => by cases z) h⟩
theorem Kp.hide {m : M} : Kp m (za6 m) := ⟨fun d t => zh2, (fun b h => by unfold za6; rw [h]), (fun b h => by unfold za6; rw [h])⟩
theorem Kp.ev {ns : List Int} {r : Addr} {m m' : M} (h : RowAt ns m r) (h' : RowAt ns m' r) (e : Ev r m m') : Kp m m' := ⟨fun d t => ztF h h' e, fun b hb => e _ _ (ne_of h hb fun i s k z => by cases z) hb, fun b hb => e _ _ (ne_of h hb fun i s k z => by cases z) hb⟩
theorem NShape.kp {m m' : M} {d : D} (k : Kp m m') (h : NShape m d) : NShape m' d := by
  rcases h with ⟨t, ht, hs⟩ | h
  · exact .inl ⟨t, k.ty _ _ ht, hs⟩
  · exact .inr h
theorem NRow.kp {m m' : M} {d : D} {lo hi : Int} (k : Kp m m') (h : NRow m d lo hi) : NRow m' d lo hi := by
  rcases h with ⟨t, ht, hs⟩ | h | h
  · exact .inl ⟨t, k.ty _ _ ht, hs⟩
  · exact .inr (.inl h)
  · exact .inr (.inr h)
theorem NImage.kp {m m' : M} {n : Nat} {d v : D} (k : Kp m m') (h : NImage m n d v) : NImage m' n d v := by
  rcases h with ⟨e, t, ht, hs⟩ | h | ⟨cs, odd, post, e1, e2, e3, h, e4⟩
  · exact .inl ⟨e, t, k.ty _ _ ht, hs⟩
  · exact .inr (.inl h)
  · exact .inr (.inr ⟨cs, odd, post, e1, e2, e3, h.kp k, e4⟩)
section
variable {ns : List Int} {r : Addr} {m : M} {A : zaU} {Q : PQ} {R : PX}
theorem zqd (hr : RowAt ns m r) (q : ∀ (P Rg : Nat) m', 1 ≤ P → P ≤ 4 → 2 ≤ Rg → Rg ≤ 6 → RowAt ns m' r → Ev r m m' → Q (.tup [.int P, .int Rg]) m') : zdF [.ref r] m Q R := by
  refine zk6 ?_
  unfold zfR
  walk_at "stp"
  refine taken hr (by decide) (by decide) fun x m1 a1 b1 h1 v1 => ?_
  walk_at "stp"
  refine taken h1 (by decide) (by decide) fun y m2 a2 b2 h2 v2 => ?_
  walk_at "stp"
  obtain ⟨P, rfl⟩ := Int.eq_ofNat_of_zero_le a1
  obtain ⟨Rg, rfl⟩ := Int.eq_ofNat_of_zero_le a2
  refine ⟨m2, Ab.Sub.refl _, ?_⟩
  rw [show (1 : Int) + (P : Int) = ((1 + P : Nat) : Int) by omega, show (2 : Int) + (Rg : Int) = ((2 + Rg : Nat) : Int) by omega]
  exact q (1 + P) (2 + Rg) m2 (by omega) (by omega) (by omega) (by omega) h2 (v1.trans v2)
end
end
section
theorem zkr {a : Addr} {ds : List D} {lo hi : Option Int} {m : M} {Q : PQ} (hl : m.l a = some ds) (q : ∀ p, m p = none → Q (.ref p) (mset m p (.lst (Ab.cutD ds lo hi)))) : Ab.rSlA (.ref a) lo hi m Q := by
  rw [slR, hl]; exact q
structure Sw (p : Pm) (ns : List Int) (r : Addr) (m : M) : Prop where
  st : St p ns r m
  pt : m p.Pt = some .tab
section
variable {p : Pm} {ns : List Int} {r : Addr} {m m' : M}
theorem Sw.ne (h : Sw p ns r m) : p.Pt ≠ r := ne_of h.st.row h.pt fun i s k z => by cases z
theorem Sw.sub (h : Sw p ns r m) (s : Ab.Sub m m') : Sw p ns r m' := ⟨h.st.sub s, s _ _ h.pt⟩
theorem Sw.subx (h : Sw p ns r m) (s : Sx m m') : Sw p ns r m' := ⟨h.st.subx s, s _ _ (fun g z => by cases z) h.pt⟩
theorem Sw.ev (h : Sw p ns r m) (hr : RowAt ns m' r) (e : Ev r m m') : Sw p ns r m' := ⟨h.st.ev hr e, e _ _ h.ne h.pt⟩
def zsJ (d : D) : Prop := ∀ (m : M) (hi : Int), hi ≤ 63 → NInt m d 0 hi
end
section
variable {p : Pm} {ns : List Int} {r : Addr} {m m' : M} {A : zaU} {Q : PQ} {R : PX}
theorem ztG {x0 x2 x3 x4 x5 x6 x7 x8 x9 x10 x11 x12 x13 x14 x15 : Option D} (h : Sw p ns r m) (q : ∀ bad m', Sw p ns r m' → NShape m' bad → zhq p A [x0, some (.ref r), some bad, x3, x4, x5, x6, x7, x8, x9, x10, x11, x12, x13, x14, x15] m') : zhr p A [x0, some (.ref r), x2, x3, x4, x5, x6, x7, x8, x9, x10, x11, x12, x13, x14, x15] m := by
  unfold zhr
  generalize hX : zjF = X
  walk_at "stp"
  intro b1 hb1
  have s1 : Ab.Sub m (mset m b1 (.lst [.int 1, .int 2])) := Ab.Sub.new hb1
  have e1 : (mset m b1 (.lst [.int 1, .int 2])) b1 = some (.lst [.int 1, .int 2]) := zq
  generalize mset m b1 (.lst [.int 1, .int 2]) = m1 at s1 e1 ⊢
  walk_at "stp"
  refine zqF fun b2 hb2 => ?_
  have s2 : Ab.Sub m1 (mset m1 b2 (.dic [])) := Ab.Sub.new hb2
  have e2 : (mset m1 b2 (.dic [])) b2 = some (.dic []) := zq
  have e12 := s2 _ _ e1
  have h2 := h.sub (s1.trans s2)
  generalize mset m1 b2 (.dic []) = m2 at s2 e2 e12 h2 ⊢
  walk_at "stp"
  intro b4 hb4
  subst hX
  unfold zjF
  refine zal (zdZ (zK (zj (zu rfl (zj (zu rfl (zA ⟨rfl, ?_⟩)))))))
  refine zj3 h2.st.row hb4 ?_ ?_ fun d m3 hd hr3 v3 => ?_
  · simp
  · simp
  have kp := Kp.ev h2.st.row hr3 v3
  refine aNI ?_
  dsimp only [En.s]
  refine q d m3 (h2.ev hr3 v3) ?_
  simp only [List.mem_cons, List.not_mem_nil, or_false] at hd
  rcases hd with rfl | rfl | rfl | rfl | rfl | rfl | rfl | rfl | rfl | rfl | rfl | rfl | rfl
  · exact .inl ⟨.non, rfl, rfl⟩
  · exact .inr (.inl ⟨_, rfl, .inl (by decide)⟩)
  · exact .inr (.inl ⟨_, rfl, .inl (by decide)⟩)
  · exact .inr (.inr ⟨_, _, rfl, .inl fun m => zfW (.inl (by decide))⟩)
  · exact .inr (.inr ⟨_, _, rfl, .inl fun m => zfW (.inr (by decide))⟩)
  · exact .inr (.inr ⟨_, _, rfl, .inr ⟨1, rfl, by decide, by decide, fun m => zfW (.inl (by decide))⟩⟩)
  · exact .inr (.inr ⟨_, _, rfl, .inr ⟨1, rfl, by decide, by decide, fun m => zfW (.inr (by decide))⟩⟩)
  · exact .inr (.inr ⟨_, _, rfl, .inl fun m => .inr (.inl ⟨true, rfl⟩)⟩)
  · exact .inr (.inr ⟨_, _, rfl, .inr ⟨1, rfl, by decide, by decide, fun m => .inl ⟨.str, rfl, rfl⟩⟩⟩)
  · exact .inl ⟨.list, kp.ty _ _ (tyL e12), rfl⟩
  · exact .inr (.inl ⟨_, rfl, .inr (by decide)⟩)
  · exact .inl ⟨.str, rfl, rfl⟩
  · exact .inl ⟨.dict, kp.ty _ _ (zqN e2), rfl⟩
theorem ztH {x0 x3 x4 x5 x6 x7 x8 x9 x10 x11 x12 x13 x14 x15 : Option D} {bad : D} (hsh : NShape m bad) (pk : Ok p) (h : Sw p ns r m) (q : ∀ m', Sx m m' → zhp p A [x0, some (.ref r), some bad, x3, x4, x5, x6, x7, x8, x9, x10, x11, x12, x13, x14, x15] m') : zhq p A [x0, some (.ref r), some bad, x3, x4, x5, x6, x7, x8, x9, x10, x11, x12, x13, x14, x15] m := by
  unfold zhq
  refine zal (ifI (zdf (opI (lcI (zld (slI (zK (zj (zu rfl (zj (cI (zA ⟨rfl, ?_⟩))))))))))))
  refine works pk h.st.tab fun l f0 f1 f2 f3 f4 f5 f6 f7 m1 hl s1 W => ?_
  refine zjy (ptI (cI ?_))
  refine zkr (l_of W.lst) fun c hc => ?_
  rw [show Ab.cutD [D.ref f0, .ref f1, .ref f2, .ref f3, .ref f4, .ref f5, .ref f6, .ref f7] none (some 7) = [D.ref f0, .ref f1, .ref f2, .ref f3, .ref f4, .ref f5, .ref f6] from rfl]
  have s2 : Ab.Sub m1 (mset m1 c (.lst [D.ref f0, .ref f1, .ref f2, .ref f3, .ref f4, .ref f5, .ref f6])) := Ab.Sub.new hc
  have ec : (mset m1 c (.lst [D.ref f0, .ref f1, .ref f2, .ref f3, .ref f4, .ref f5, .ref f6])) c = some (.lst [D.ref f0, .ref f1, .ref f2, .ref f3, .ref f4, .ref f5, .ref f6]) := zq
  generalize mset m1 c (.lst [D.ref f0, .ref f1, .ref f2, .ref f3, .ref f4, .ref f5, .ref f6]) = mc at s2 ec ⊢
  dsimp only
  rw [ec]
  dsimp only
  intro a ha
  have sa : Sx mc (mset mc a (.lst [])) := Sx.of (Ab.Sub.new ha)
  refine zgH (s := .str "shape") ha (fun m' s => s _ _ (fun g z => by cases z) ec) _ [] _ (fun x hx m2 Q' s3 q' => ?_) zq sa (by simp) fun m2 s3 hm2 => ?_
  · refine zK (zj (zu rfl (zA ⟨rfl, ?_⟩)))
    exact zrp pk (W.subx ((Sx.of s2).trans s3)) ((hsh.kp (Kp.of (((Sx.of s1).trans (Sx.of s2)).trans s3))).kp Kp.hide) hx (fun m' s => q' m' (Sx.of s))
  · refine opI (zfi (zj (cI (zA ⟨zav rfl, fun b hb => ?_⟩))))
    have nab : a ≠ b := fun z => by rw [← z, hm2] at hb; cases hb
    refine cI (ziF (n := 7) z7 rfl (by decide) (by decide) fun c2 hc2 => ?_)
    have nac : a ≠ c2 := fun z => by rw [← z, zaX nab, hm2] at hc2; cases hc2
    have sbc : Ab.Sub m2 (mset (mset m2 b (.lst [.str "shape"])) c2 (.lst (List.replicate 7 (.str "shape")))) := (Ab.Sub.new hb).trans (Ab.Sub.new hc2)
    have ok1 : ∀ d ∈ List.replicate 7 (.str "shape"), okQ 1 d := fun d hd' => by
      rw [List.eq_of_mem_replicate hd']
      show PyData.strOk ("shape" : Str) = true; decide +kernel
    refine znd (n := 1) (ds := List.replicate 7 (.str "shape")) ?_ z7 ok1 (by decide) ?_
    · rw [l_ne nac, l_ne nab]
      exact l_of hm2
    refine zaz rfl ?_
    refine nextI ?_
    exact q _ (((Sx.of s1).trans (Sx.of s2)).trans (s3.trans (Sx.of sbc)))
theorem ztI {x0 x2 x3 x4 x5 x6 x7 x8 x9 x10 x11 x12 x13 x14 x15 : Option D} (h : Sw p ns r m) (q : ∀ (P Rg : Nat) m', 1 ≤ P → P ≤ 4 → 2 ≤ Rg → Rg ≤ 6 → Sw p ns r m' → zho p A [x0, some (.ref r), x2, x3, some (.tup [.int P, .int Rg]), x5, x6, x7, x8, x9, x10, x11, x12, x13, x14, x15] m') : zhp p A [x0, some (.ref r), x2, x3, x4, x5, x6, x7, x8, x9, x10, x11, x12, x13, x14, x15] m := by
  unfold zhp
  refine zal (zdZ (zK (zj (zu rfl (zA ⟨rfl, zqd h.st.row fun P Rg m1 p1 p2 r1 r2 hr1 v1 => ?_⟩)))))
  refine aNI ?_
  dsimp only [En.s]
  exact q P Rg m1 p1 p2 r1 r2 (h.ev hr1 v1)
theorem ztJ {x0 x2 x3 x4 x5 x6 x7 x8 x9 x10 x11 x12 x13 x14 x15 : Option D} (h : Sw p ns r m) (q : ∀ num m', Sw p ns r m' → zsJ num → zfF p A [x0, some (.ref r), x2, x3, x4, some num, x6, x7, x8, x9, x10, x11, x12, x13, x14, x15] m') : zho p A [x0, some (.ref r), x2, x3, x4, x5, x6, x7, x8, x9, x10, x11, x12, x13, x14, x15] m := by
  unfold zho
  generalize hX : zfF = X
  walk_at "stp"
  intro b4 hb4
  refine zA ⟨rfl, ?_⟩
  refine zj3 h.st.row hb4 ?_ ?_ fun d m3 hd hr3 v3 => ?_
  · simp
  · simp
  subst hX
  refine q d m3 (h.ev hr3 v3) fun m hi hh => ?_
  simp only [List.mem_cons, List.not_mem_nil, or_false] at hd
  rcases hd with rfl | rfl | rfl | rfl | rfl | rfl
  · exact .inl ⟨.non, rfl, rfl⟩
  · exact .inr (.inl ⟨true, rfl⟩)
  · exact zfW (.inl (by decide))
  · exact zfW (.inr (by omega))
  · exact .inl ⟨.str, rfl, rfl⟩
  · exact .inl ⟨.tuple, rfl, rfl⟩
theorem ztK {x0 x2 x3 x6 x7 x8 x9 x10 x11 x12 x13 x14 x15 : Option D} {P Rg : Nat} {num : D} (p1 : 1 ≤ P) (p2 : P ≤ 4) (r1 : 2 ≤ Rg) (r2 : Rg ≤ 6) (hn : zsJ num) (pk : Ok p) (h : Sw p ns r m) (q : ∀ m', Sx m m' → zhn p A [x0, some (.ref r), x2, x3, some (.tup [.int P, .int Rg]), some num, x6, x7, x8, x9, x10, x11, x12, x13, x14, x15] m') : zfF p A [x0, some (.ref r), x2, x3, some (.tup [.int P, .int Rg]), some num, x6, x7, x8, x9, x10, x11, x12, x13, x14, x15] m := by
  unfold zfF
  refine zal (ifI (zdf (opI (lcI (zld (slI (zK (zj (zu rfl (zj (zu rfl (zA ⟨rfl, ?_⟩))))))))))))
  refine works pk h.st.tab fun l f0 f1 f2 f3 f4 f5 f6 f7 m1 hl s1 W => ?_
  refine ptI (cI (ptI (cI ?_)))
  refine zkr (l_of W.lst) fun c hc => ?_
  rw [show Ab.cutD [D.ref f0, .ref f1, .ref f2, .ref f3, .ref f4, .ref f5, .ref f6, .ref f7] (some 2) (some 4) = [D.ref f2, .ref f3] from rfl]
  have s2 : Ab.Sub m1 (mset m1 c (.lst [D.ref f2, .ref f3])) := Ab.Sub.new hc
  have ec : (mset m1 c (.lst [D.ref f2, .ref f3])) c = some (.lst [D.ref f2, .ref f3]) := zq
  generalize mset m1 c (.lst [D.ref f2, .ref f3]) = mc at s2 ec ⊢
  dsimp only
  rw [ec]
  dsimp only
  intro a ha
  have sa : Sx mc (mset mc a (.lst [])) := Sx.of (Ab.Sub.new ha)
  refine zgH (s := .str "number") ha (fun m' s => s _ _ (fun g z => by cases z) ec) _ [] _ (fun x hx m2 Q' s3 q' => ?_) zq sa (by simp) fun m2 s3 hm2 => ?_
  · refine zK (zj (zu rfl (zA ⟨rfl, ?_⟩)))
    refine ztE p1 (by omega) r1 (by omega) pk (W.subx ((Sx.of s2).trans s3)) ?_ (fun m' s => q' m' (Sx.of s))
    simp only [List.mem_cons, List.not_mem_nil, or_false] at hx
    rcases hx with rfl | rfl
    · exact .inl ⟨rfl, hn _ _ (by omega)⟩
    · exact .inr ⟨rfl, hn _ _ (by omega)⟩
  · refine opI (zfi (zj (cI (zA ⟨zav rfl, fun b hb => ?_⟩))))
    have nab : a ≠ b := fun z => by rw [← z, hm2] at hb; cases hb
    refine cI (ziF (n := 2) z7 rfl (by decide) (by decide) fun c2 hc2 => ?_)
    have nac : a ≠ c2 := fun z => by rw [← z, zaX nab, hm2] at hc2; cases hc2
    have sbc : Ab.Sub m2 (mset (mset m2 b (.lst [.str "number"])) c2 (.lst (List.replicate 2 (.str "number")))) := (Ab.Sub.new hb).trans (Ab.Sub.new hc2)
    have ok1 : ∀ d ∈ List.replicate 2 (.str "number"), okQ 1 d := fun d hd' => by
      rw [List.eq_of_mem_replicate hd']
      show PyData.strOk ("number" : Str) = true; decide +kernel
    refine znd (n := 1) (ds := List.replicate 2 (.str "number")) ?_ z7 ok1 (by decide) ?_
    · rw [l_ne nac, l_ne nab]
      exact l_of hm2
    refine zaz rfl ?_
    refine nextI ?_
    exact q _ (((Sx.of s1).trans (Sx.of s2)).trans (s3.trans (Sx.of sbc)))
structure Two (p : Pm) (m : M) (P Rg : Nat) (c f2 g3 : Addr) : Prop where
  lst : m c = some (.lst [.ref f2, .ref g3])
  w2 : m f2 = some (.clo (p.L 2) ["one", "other"] [.tup [.int P, .int Rg], .int P])
  w3 : m g3 = some (.clo (p.L 3) ["one", "other"] [.tup [.int P, .int Rg], .int Rg])
theorem Two.subx {P Rg : Nat} {c f2 g3 : Addr} (W : Two p m P Rg c f2 g3) (s : Sx m m') : Two p m' P Rg c f2 g3 := ⟨s _ _ (fun g z => by cases z) W.lst, s _ _ (fun g z => by cases z) W.w2, s _ _ (fun g z => by cases z) W.w3⟩
theorem ztL {x0 x2 x3 x5 x6 x7 x8 x9 x10 x11 x12 x13 x14 x15 : Option D} {P Rg : Nat} (pk : Ok p) (h : Sw p ns r m) (q : ∀ c f2 g3 m', Sx m m' → Two p m' P Rg c f2 g3 → zhm p A [x0, some (.ref r), x2, x3, some (.tup [.int P, .int Rg]), x5, some (.ref c), x7, x8, x9, x10, x11, x12, x13, x14, x15] m') : zhn p A [x0, some (.ref r), x2, x3, some (.tup [.int P, .int Rg]), x5, x6, x7, x8, x9, x10, x11, x12, x13, x14, x15] m := by
  unfold zhn
  refine zal (zdZ (opI (slI (zK (zj (zu rfl (zj (opI (zu rfl (cI (zii (d := .int (P : Nat)) rfl (zA ⟨rfl, ?_⟩))))))))))))
  refine works pk h.st.tab fun l f0 f1 f2 f3 f4 f5 f6 f7 m1 hl s1 W => ?_
  refine ptI (cI (ptI (cI ?_)))
  refine zkr (l_of W.lst) fun c1 hc1 => ?_
  rw [show Ab.cutD [D.ref f0, .ref f1, .ref f2, .ref f3, .ref f4, .ref f5, .ref f6, .ref f7] (some 2) (some 3) = [D.ref f2] from rfl]
  have s2 : Ab.Sub m1 (mset m1 c1 (.lst [D.ref f2])) := Ab.Sub.new hc1
  have ec1 : (mset m1 c1 (.lst [D.ref f2])) c1 = some (.lst [D.ref f2]) := zq
  have W2 := W.subx (Sx.of s2)
  have h2 := h.sub (s1.trans s2)
  generalize mset m1 c1 (.lst [D.ref f2]) = m2 at s2 ec1 W2 h2 ⊢
  refine slI (zK (zj (zu rfl (zj (opI (zu rfl (cI (zii (d := .int (Rg : Nat)) rfl (zA ⟨rfl, ?_⟩)))))))))
  refine works pk h2.st.tab fun l' g0 g1 g2 g3 g4 g5 g6 g7 m3 hl' s3 W' => ?_
  refine ptI (cI (ptI (cI ?_)))
  refine zkr (l_of W'.lst) fun c2 hc2 => ?_
  rw [show Ab.cutD [D.ref g0, .ref g1, .ref g2, .ref g3, .ref g4, .ref g5, .ref g6, .ref g7] (some 3) (some 4) = [D.ref g3] from rfl]
  have s4 : Ab.Sub m3 (mset m3 c2 (.lst [D.ref g3])) := Ab.Sub.new hc2
  have ec2 : (mset m3 c2 (.lst [D.ref g3])) c2 = some (.lst [D.ref g3]) := zq
  have W3 := W'.subx (Sx.of s4)
  generalize mset m3 c2 (.lst [D.ref g3]) = m4 at s4 ec2 W3 ⊢
  refine zlc (l_of (s4 _ _ (s3 _ _ ec1))) (l_of ec2) (show 1 + 1 ≤ 100000 by decide) fun c hc => ?_
  have s5 : Ab.Sub m4 (mset m4 c (.lst ([D.ref f2] ++ [.ref g3]))) := Ab.Sub.new hc
  refine aNI ?_
  dsimp only [En.s]
  exact q c f2 g3 _ (Sx.of (s1.trans (s2.trans (s3.trans (s4.trans s5))))) ⟨zq, s5 _ _ (s4 _ _ (s3 _ _ W2.w2)), s5 _ _ W3.w3⟩
theorem ztM {x0 x2 x3 x5 x7 x8 x9 x10 x11 x12 x13 x14 x15 : Option D} {P Rg : Nat} {c f2 g3 : Addr} (p1 : 1 ≤ P) (p2 : P ≤ 4) (r1 : 2 ≤ Rg) (r2 : Rg ≤ 6) (pk : Ok p) (W : Two p m P Rg c f2 g3) (q : ∀ m', Sx m m' → zhl p A [x0, some (.ref r), x2, x3, some (.tup [.int P, .int Rg]), x5, some (.ref c), x7, x8, x9, x10, x11, x12, x13, x14, x15] m') : zhm p A [x0, some (.ref r), x2, x3, some (.tup [.int P, .int Rg]), x5, some (.ref c), x7, x8, x9, x10, x11, x12, x13, x14, x15] m := by
  unfold zhm
  refine zal (ifI (zdf (opI (lcI (zld (zu rfl ?_))))))
  dsimp only
  rw [W.lst]
  dsimp only
  intro a ha
  have sa : Sx m (mset m a (.lst [])) := Sx.of (Ab.Sub.new ha)
  refine zgH (s := .str "number") ha (fun m' s => s _ _ (fun g z => by cases z) W.lst) _ [] _ (fun x hx m2 Q' s3 q' => ?_) zq sa (by simp) fun m2 s3 hm2 => ?_
  · refine zK (zj (zu rfl (zA ⟨rfl, ?_⟩)))
    have W2 := W.subx s3
    simp only [List.mem_cons, List.not_mem_nil, or_false] at hx
    rcases hx with rfl | rfl
    · exact refused pk W2.w2 tl2 (.inr (.inl ⟨rfl, rfl⟩)) (fun Q' R' r' => zqK p1 (by omega) r1 (by omega) (zfW (.inr (by omega))) r') (fun m' s => q' m' (Sx.of s))
    · exact refused pk W2.w3 tl3 (.inr (.inl ⟨rfl, rfl⟩)) (fun Q' R' r' => zqL p1 (by omega) r1 (by omega) (zfW (.inr (by omega))) r') (fun m' s => q' m' (Sx.of s))
  · refine opI (zfi (zj (cI (zA ⟨zav rfl, fun b hb => ?_⟩))))
    have nab : a ≠ b := fun z => by rw [← z, hm2] at hb; cases hb
    refine cI (ziF (n := 2) z7 rfl (by decide) (by decide) fun c2 hc2 => ?_)
    have nac : a ≠ c2 := fun z => by rw [← z, zaX nab, hm2] at hc2; cases hc2
    have sbc : Ab.Sub m2 (mset (mset m2 b (.lst [.str "number"])) c2 (.lst (List.replicate 2 (.str "number")))) := (Ab.Sub.new hb).trans (Ab.Sub.new hc2)
    have ok1 : ∀ d ∈ List.replicate 2 (.str "number"), okQ 1 d := fun d hd' => by
      rw [List.eq_of_mem_replicate hd']
      show PyData.strOk ("number" : Str) = true; decide +kernel
    refine znd (n := 1) (ds := List.replicate 2 (.str "number")) ?_ z7 ok1 (by decide) ?_
    · rw [l_ne nac, l_ne nab]
      exact l_of hm2
    refine zaz rfl ?_
    refine nextI ?_
    exact q _ (s3.trans (Sx.of sbc))
end
end
section
section
variable {m : M} {Q : PQ} {R : PX}
theorem zqe {P Rg : Nat} (h1 : P ≤ 64) (h2 : Rg ≤ 64) (q : Q (.tup ((List.replicate (2 + P + Rg) Cl.nev).map Cl.t)) m) : zdG [.tup [.int P, .int Rg]] m Q R := by
  refine zk7 ?_
  unfold zfS
  walk_at "stp"
  refine zhw (n := 128) rfl (by decide) (by decide) ?_
  walk_at "stp"
  refine zii (d := .int (P : Nat)) rfl ?_
  walk_at "stp"
  refine zii (d := .int (Rg : Nat)) rfl ?_
  walk_at "stp"
  refine zhw (n := 2 + P + Rg) (by omega) (by omega) (by omega) ?_
  refine ⟨m, Ab.Sub.refl _, ?_⟩
  rw [List.map_replicate] at q
  exact q
end
abbrev great : Nat := 4294967295
abbrev ziH : Lab := ⟨0, 0, 1, 4294967295, 1, 0, []⟩
theorem zox : ziH.ok := ⟨by show 0 < 4; decide, by show 0 < 256; decide, by show 1 < 256; decide, by show 4294967295 < 4294967296; decide, by show 1 < 4294967296; decide, by show 0 < 65536; decide, by simp [By], by simp⟩
abbrev zhE (N : Nat) : List Cl := List.replicate N Cl.nev
abbrev zgj (N : Nat) : List Cl := Cl.bk great ziH :: zhE (N - 1)
theorem zoy {N : Nat} : ∀ c ∈ zhE N, c.ok := fun c h => by
  rw [List.eq_of_mem_replicate h]; trivial
theorem zks {N : Nat} : ∀ c ∈ zgj N, c.ok := fun c h => by
  rcases List.mem_cons.mp h with rfl | h
  · exact ⟨zox, by decide, by decide⟩
  · exact zoy c h
theorem zpE {N : Nat} : 4294967295 ≤ mxS (zgj N) := by
  have := (zsA (cs := zgj N) (c := Cl.bk great ziH) (by simp)).1
  have e : fold 0 (sl (Cl.bk great ziH).b 0 4) = 4294967295 := by
    show fold 0 (sl (blk great ziH) 0 4) = _
    rw [zqz]
    exact zdK 4 _ (by decide)
  rw [e] at this
  exact this
theorem zpF {N : Nat} : 4294967295 < nxE (zgj N) := zsB (cs := zgj N) (s := great) (l := ziH) (by simp) (by decide)
theorem p32 {e : En} {m : M} {Q : PQ} {R : PX} (q : Q (.int 4294967295) m) : aOp zae (aOp zaF (aC (.int 2)) (aC (.int 32))) (aC (.int 1)) e m Q R := by
  refine opI (opI (cI (cI ?_)))
  rw [zuj]
  refine ⟨by unfold CPow; decide, cI (zo6 ?_)⟩
  have e : ((2 : Int) ^ (Int.toNat 32) - 1) = 4294967295 := by decide
  rw [e]
  exact q
def PI (N : Nat) (m : M) (z : D) : Prop := ∃ v w, z = .tup [v, w] ∧ NImage m N v w
theorem PI.kp {m m' : M} {N : Nat} {z : D} (k : Kp m m') (h : PI N m z) : PI N m' z := by
  obtain ⟨v, w, e, h⟩ := h
  exact ⟨v, w, e, h.kp k⟩
section
variable {p : Pm} {ns : List Int} {r : Addr} {m m' : M} {A : zaU} {Q : PQ} {R : PX}
theorem ztN {x0 x1 x2 x3 x5 x6 x7 x8 x9 x10 x11 x12 x13 x14 x15 : Option D} {P Rg : Nat} (p2 : P ≤ 4) (r2 : Rg ≤ 6) (q : zhk p A [x0, x1, x2, x3, some (.tup [.int P, .int Rg]), x5, x6, some (.tup ((zhE (2 + P + Rg)).map Cl.t)), x8, x9, x10, x11, x12, x13, x14, x15] m) : zhl p A [x0, x1, x2, x3, some (.tup [.int P, .int Rg]), x5, x6, x7, x8, x9, x10, x11, x12, x13, x14, x15] m := by
  unfold zhl
  refine zal (zdZ (zK (zj (zu rfl (zA ⟨rfl, zqe (by omega) (by omega) ?_⟩)))))
  refine aNI ?_
  dsimp only [En.s]
  exact q
theorem ztO {x0 x2 x3 x4 x5 x6 x8 x9 x10 x11 x12 x13 x14 x15 : Option D} {cs : List Cl} (hl : 1 ≤ cs.length) (hl2 : cs.length ≤ 100) (h : Sw p ns r m) (q : ∀ (k : Nat) m', k < cs.length → Sw p ns r m' → zhj p A [x0, some (.ref r), x2, x3, x4, x5, x6, some (.tup (cs.map Cl.t)), some (.int (k : Nat)), x9, x10, x11, x12, x13, x14, x15] m') : zhk p A [x0, some (.ref r), x2, x3, x4, x5, x6, some (.tup (cs.map Cl.t)), x8, x9, x10, x11, x12, x13, x14, x15] m := by
  unfold zhk
  refine zal (zdZ (zK (zj (zu rfl (zj (cbI (zj (zu rfl (zA ?_)))))))))
  refine zqG ?_
  rw [List.length_map]
  refine zA ⟨rfl, ?_⟩
  refine taken h.st.row (by omega) (by omega) fun x m1 a1 b1 hr1 v1 => ?_
  obtain ⟨k, rfl⟩ := Int.eq_ofNat_of_zero_le a1
  refine aNI ?_
  dsimp only [En.s]
  exact q k m1 (by omega) (h.ev hr1 v1)
theorem ztP {x0 x2 x3 x4 x5 x6 x7 x8 x9 x10 x11 x12 x13 x14 x15 : Option D} (h : Sw p ns r m) (q : ∀ odd m', Sw p ns r m' → NRow m' odd 128 128 → zhi p A [x0, some (.ref r), x2, x3, x4, x5, x6, x7, x8, some odd, x10, x11, x12, x13, x14, x15] m') : zhj p A [x0, some (.ref r), x2, x3, x4, x5, x6, x7, x8, x9, x10, x11, x12, x13, x14, x15] m := by
  unfold zhj
  refine zal (zdZ (zK (zj (zu rfl (zj ?_)))))
  refine zfi (zj (cI (zj (opI (tupI (zj (cI (zA ⟨zav rfl, cI ?_⟩))))))))
  refine zhw (n := 127) rfl (by decide) (by decide) ?_
  refine zj (opI (zfi (zj (cI (zA ⟨zav rfl, fun b1 hb1 => cI ?_⟩)))))
  refine ziF (n := 128) z7 rfl (by decide) (by decide) fun b2 hb2 => ?_
  have s2 : Ab.Sub m (mset (mset m b1 (.lst [.int 0])) b2 (.lst (List.replicate 128 (.int 0)))) := (Ab.Sub.new hb1).trans (Ab.Sub.new hb2)
  have e2 : (mset (mset m b1 (.lst [.int 0])) b2 (.lst (List.replicate 128 (.int 0)))) b2 = some (.lst (List.replicate 128 (.int 0))) := zq
  generalize mset (mset m b1 (.lst [.int 0])) b2 (.lst (List.replicate 128 (.int 0))) = m2 at s2 e2 ⊢
  refine zj (opI (opI (tupI (zj (cI (zA ⟨zav rfl, cI ?_⟩))))))
  refine zhw (n := 127) rfl (by decide) (by decide) ?_
  refine tupI (zj (cI (zA ⟨zav rfl, ?_⟩)))
  refine zih ?_ ?_
  rotate_left
  · rw [List.length_replicate]; decide
  refine zj (cI (zj (opI (tupI (zj (cI (zA ⟨zav rfl, ?_⟩)))))))
  refine opI (tupI (zj (cI (zA ⟨zav rfl, cI ?_⟩))))
  refine zhw (n := 127) rfl (by decide) (by decide) ?_
  refine zih ?_ ?_
  rotate_left
  · rw [List.length_replicate]; decide
  refine zA ⟨zav rfl, fun b hb => ?_⟩
  refine zA ⟨rfl, ?_⟩
  have h2 := h.sub s2
  refine zj3 h2.st.row hb ?_ ?_ fun d m3 hd hr3 v3 => ?_
  · simp
  · simp
  have kp := Kp.ev h2.st.row hr3 v3
  refine aNI ?_
  dsimp only [En.s]
  refine q d m3 (h2.ev hr3 v3) ?_
  simp only [List.mem_cons, List.not_mem_nil, or_false] at hd
  rcases hd with rfl | rfl | rfl | rfl | rfl | rfl
  · exact .inl ⟨.non, rfl, rfl⟩
  · exact .inr (.inl ⟨_, rfl, .inl (by rw [List.length_replicate]; decide)⟩)
  · exact .inl ⟨.list, kp.ty _ _ (tyL e2), rfl⟩
  · refine .inr (.inr ⟨List.replicate 127 (.int 0), .int 256, [], rfl, ?_, ?_, (fun d hd => ⟨0, List.eq_of_mem_replicate hd, by decide⟩), .inr (.inl ⟨256, rfl, .inr (by decide)⟩)⟩)
    · rw [List.length_append, List.length_replicate]; decide
    · rw [List.length_append, List.length_replicate]; decide
  · exact .inl ⟨.str, rfl, rfl⟩
  · refine .inr (.inr ⟨[], .bl true, List.replicate 127 (.int 0), rfl, ?_, ?_, (fun d hd => nomatch hd), .inl ⟨true, rfl⟩⟩)
    · show (128 : Int) ≤ ((List.replicate 127 (D.int 0)).length + 1 : Nat)
      rw [List.length_replicate]; decide
    · show ((List.replicate 127 (D.int 0)).length + 1 : Nat) ≤ (128 : Int)
      rw [List.length_replicate]; decide
theorem ztQ {x0 x2 x3 x4 x5 x6 x10 x11 x12 x13 x14 x15 : Option D} {N k : Nat} {odd : D} {cs : List Cl} (hN : cs.length = N) (hN1 : 1 ≤ N) (hN2 : N ≤ 100) (hok : ∀ c ∈ cs, c.ok) (hk : k < cs.length) (ho : NRow m odd 128 128) (h : Sw p ns r m) (q : ∀ s m' ds it, Sw p ns r m' → m' s = some (.lst (ds ++ [it])) → ds.length = 4 → s ≠ r → (∀ z ∈ ds ++ [it], PI N m' z) → zhh p A [x0, some (.ref r), x2, x3, x4, x5, x6, some (.tup (cs.map Cl.t)), some (.int (k : Nat)), some odd, some (.ref s), x11, x12, x13, x14, x15] m') : zhi p A [x0, some (.ref r), x2, x3, x4, x5, x6, some (.tup (cs.map Cl.t)), some (.int (k : Nat)), some odd, x10, x11, x12, x13, x14, x15] m := by
  have hlen : (cs.map Cl.t).length = N := by rw [List.length_map]; exact hN
  have ec1 : Ab.cutD (cs.map Cl.t) none (some (k : Int)) = (cs.take k).map Cl.t := by
    rw [zqM (by omega), ← List.map_take]
  have ec2 : Ab.cutD (cs.map Cl.t) (some ((k : Int) + 1)) none = (cs.drop (k + 1)).map Cl.t := by
    rw [show ((k : Int) + 1) = ((k + 1 : Nat) : Int) by omega, zmV (by omega), ← List.map_drop]
  have ec3 : (Ab.cutD (cs.map Cl.t) (some 1) none).length = N - 1 := by
    rw [show Ab.cutD (cs.map Cl.t) (some 1) none = (cs.map Cl.t).drop 1 from zmV (i := 1) (by omega), List.length_drop, hlen]
  have ec4 : (Ab.cutD (cs.map Cl.t) none (some 1)).length = 1 := by
    rw [show Ab.cutD (cs.map Cl.t) none (some 1) = (cs.map Cl.t).take 1 from zqM (i := 1) (by omega), List.length_take, hlen]
    omega
  have lk : ((cs.take k).map Cl.t).length = k := by rw [List.length_map, List.length_take]; omega
  have ld : ((cs.drop (k + 1)).map Cl.t).length = N - (k + 1) := by rw [List.length_map, List.length_drop]; omega
  unfold zhi
  refine zal (zdZ ?_)
  refine zfi (zj (tupI (zj (cI (zj (cI (zA ⟨zav rfl, ?_⟩)))))))
  refine zj (tupI (zj (cbI (zj (zu rfl (zA (zsI fun b1 hb1 => ?_)))))))
  have s1 : Ab.Sub m (mset m b1 (.lst (cs.map Cl.t))) := Ab.Sub.new hb1
  have e1 : (mset m b1 (.lst (cs.map Cl.t))) b1 = some (.lst (cs.map Cl.t)) := zq
  generalize mset m b1 (.lst (cs.map Cl.t)) = m1 at s1 e1 ⊢
  refine zj (cI (zA ⟨zav rfl, ?_⟩))
  refine zj (tupI (zj (slI (zu rfl (ptI (cI (zjy (zlv ?_))))))))
  refine zj (cI (zA ⟨zav rfl, ?_⟩))
  refine zj (tupI (zj (opI (zu rfl (slI (zu rfl (zjy (ptI (cI (zlv ?_))))))))))
  refine zih ?_ ?_
  rotate_left
  · rw [hlen, ec4]
    exact Nat.le_trans (show N + 1 ≤ 200 by omega) (by decide)
  refine zj (cI (zA ⟨zav rfl, ?_⟩))
  refine zA ⟨zav rfl, fun s hs => ?_⟩
  refine aNI ?_
  dsimp only [En.s]
  have ns1 : b1 ≠ s := fun z => by rw [z, hs] at e1; cases e1
  have h1 := h.sub s1
  have nsr : s ≠ r := h1.st.row.ne hs
  unfold zmg
  refine zal (zcx ?_)
  refine zuz rfl (l_of zq) ?_
  refine tupI (zj (opI (opI (slI (zu rfl (zjy (ptI (zu rfl (zlv ?_)))))))))
  rw [ec1]
  refine tupI (zj (zu rfl (zA ⟨zav rfl, ?_⟩)))
  refine zih ?_ ?_
  rotate_left
  · rw [lk, List.length_singleton]
    exact Nat.le_trans (show _ ≤ 200 by omega) (by decide)
  refine slI (zu rfl (ptI (opI (zu rfl (cI (zqv ?_))))))
  refine zjy (zlv ?_)
  rw [ec2]
  refine zih ?_ ?_
  rotate_left
  · rw [List.length_append, lk, ld, List.length_singleton]
    exact Nat.le_trans (show _ ≤ 200 by omega) (by decide)
  refine zj (zu rfl (zA ⟨zav rfl, ?_⟩))
  rw [l_of zq]
  refine ⟨show 4 < 100000 by decide, ?_⟩
  dsimp only
  have sm : Ab.Sub m1 (mset (mset m1 s (.lst [.tup [.non, .non], .tup [.ref b1, .non], .tup [.tup (Ab.cutD (cs.map Cl.t) (some 1) none), .non], .tup [.tup (cs.map Cl.t ++ Ab.cutD (cs.map Cl.t) none (some 1)), .non]])) s (.lst ([.tup [.non, .non], .tup [.ref b1, .non], .tup [.tup (Ab.cutD (cs.map Cl.t) (some 1) none), .non], .tup [.tup (cs.map Cl.t ++ Ab.cutD (cs.map Cl.t) none (some 1)), .non]] ++ [.tup [.tup ((cs.take k).map Cl.t ++ [odd] ++ (cs.drop (k + 1)).map Cl.t), .int (k : Nat)]]))) := (Ab.Sub.new hs).mut hs
  refine q s _ _ _ (h1.sub sm) zq rfl nsr fun z hz => ?_
  have e1' := sm _ _ e1
  have ho' := (ho.kp (Kp.of (Sx.of s1))).kp (Kp.of (Sx.of sm))
  generalize mset (mset m1 s _) s _ = m2 at e1' ho'
  simp only [List.mem_append, List.mem_cons, List.not_mem_nil, or_false] at hz
  rcases hz with (rfl | rfl | rfl | rfl) | rfl
  · exact ⟨_, _, rfl, .inl ⟨rfl, .non, rfl, rfl⟩⟩
  · exact ⟨_, _, rfl, .inl ⟨rfl, .list, tyL e1', rfl⟩⟩
  · refine ⟨_, _, rfl, .inr (.inl ⟨rfl, _, rfl, .inl ?_⟩)⟩
    rw [ec3]; omega
  · refine ⟨_, _, rfl, .inr (.inl ⟨rfl, _, rfl, .inr ?_⟩)⟩
    rw [List.length_append, hlen, ec4]; omega
  · refine ⟨_, _, rfl, .inr (.inr ⟨cs.take k, odd, (cs.drop (k + 1)).map Cl.t, ?_, ?_, (fun c hc => hok c (List.mem_of_mem_take hc)), ho', ?_⟩)⟩
    · rw [List.append_assoc, List.singleton_append]
    · rw [List.length_append, List.length_cons, lk, ld]; omega
    · rw [List.length_take, Nat.min_eq_left (by omega)]
theorem ztR {x0 x2 x3 x4 x5 x6 x7 x8 x9 x11 x12 x13 x14 x15 : Option D} {N : Nat} {s : Addr} {ds : List D} {it : D} (h : Sw p ns r m) (hm : m s = some (.lst (ds ++ [it]))) (h4 : ds.length = 4) (hn : s ≠ r) (hp : ∀ z ∈ ds ++ [it], PI N m z) (q : ∀ v w m', Sw p ns r m' → NImage m' N v w → ziD p A [x0, some (.ref r), x2, x3, x4, x5, x6, x7, x8, x9, some (.ref s), some v, some w, x13, x14, x15] m') : zhh p A [x0, some (.ref r), x2, x3, x4, x5, x6, x7, x8, x9, some (.ref s), x11, x12, x13, x14, x15] m := by
  unfold zhh
  refine zal (zdZ (zK (zj (zu rfl (zj (opI (zu rfl (opI (slI (zu rfl (ptI (cI (zjy ?_)))))))))))))
  refine zkr (l_of hm) fun c hc => ?_
  rw [show Ab.cutD (ds ++ [it]) (some 4) none = [it] from by
    rw [show Ab.cutD (ds ++ [it]) (some 4) none = (ds ++ [it]).drop 4 from zmV (i := 4) (by rw [List.length_append]; omega), ← h4, List.drop_left]]
  have s1 : Ab.Sub m (mset m c (.lst [it])) := Ab.Sub.new hc
  refine cI (ziF (n := 4) z7 rfl (by decide) (by decide) fun c2 hc2 => ?_)
  have s2 : Ab.Sub m (mset (mset m c (.lst [it])) c2 (.lst (List.replicate 4 it))) := s1.trans (Ab.Sub.new hc2)
  have e2 : (mset (mset m c (.lst [it])) c2 (.lst (List.replicate 4 it))) c2 = some (.lst (List.replicate 4 it)) := zq
  generalize mset (mset m c (.lst [it])) c2 (.lst (List.replicate 4 it)) = m2 at s2 e2 ⊢
  refine zlc (l_of (s2 _ _ hm)) (l_of e2) (by rw [List.length_append, List.length_replicate, h4, List.length_singleton]; decide) fun b hb => ?_
  refine zA ⟨rfl, ?_⟩
  have h2 := h.sub s2
  refine zj3 h2.st.row hb ?_ ?_ fun d m3 hd hr3 v3 => ?_
  · simp
  · simp [h4]
  have kp := (Kp.of (Sx.of s2)).trans (Kp.ev h2.st.row hr3 v3)
  have hd' : d ∈ ds ++ [it] := by
    rcases List.mem_append.mp hd with hd | hd
    · exact hd
    · rw [List.eq_of_mem_replicate hd]; simp
  obtain ⟨v, w, rfl, hi⟩ := (hp d hd').kp kp
  refine ttI rfl (gcI (aNI (gcI (aNI (gnI ?_)))))
  dsimp only [En.s]
  exact q v w m3 (h2.ev hr3 v3) hi
theorem zuC {x0 x2 x3 x5 x6 x7 x8 x9 x10 x13 x14 x15 : Option D} {P Rg : Nat} {v w : D} (p1 : 1 ≤ P) (p2 : P ≤ 4) (r1 : 2 ≤ Rg) (r2 : Rg ≤ 6) (hi : NImage m (2 + P + Rg) v w) (hfl : p.fld (p.cA "BadImage") "index" = true) (pk : Ok p) (h : Sw p ns r m) (q : ∀ m', Sx m m' → ziC p A [x0, some (.ref r), x2, x3, some (.tup [.int P, .int Rg]), x5, x6, x7, x8, x9, x10, some v, some w, x13, x14, x15] m') : ziD p A [x0, some (.ref r), x2, x3, some (.tup [.int P, .int Rg]), x5, x6, x7, x8, x9, x10, some v, some w, x13, x14, x15] m := by
  have hv := hi.q0
  unfold ziD
  refine zal (ifI (zdf (opI (lcI (zld (slI (zK (zj (zu rfl (zj (zu rfl (zA ⟨rfl, ?_⟩))))))))))))
  refine works pk h.st.tab fun l f0 f1 f2 f3 f4 f5 f6 f7 m1 hl s1 W => ?_
  refine ptI (cI (ptI (cI ?_)))
  refine zkr (l_of W.lst) fun c hc => ?_
  rw [show Ab.cutD [D.ref f0, .ref f1, .ref f2, .ref f3, .ref f4, .ref f5, .ref f6, .ref f7] (some 4) (some 7) = [D.ref f4, .ref f5, .ref f6] from rfl]
  have s2 : Ab.Sub m1 (mset m1 c (.lst [D.ref f4, .ref f5, .ref f6])) := Ab.Sub.new hc
  have ec : (mset m1 c (.lst [D.ref f4, .ref f5, .ref f6])) c = some (.lst [D.ref f4, .ref f5, .ref f6]) := zq
  generalize mset m1 c (.lst [D.ref f4, .ref f5, .ref f6]) = mc at s2 ec ⊢
  dsimp only
  rw [ec]
  dsimp only
  intro a ha
  have sa : Sx mc (mset mc a (.lst [])) := Sx.of (Ab.Sub.new ha)
  refine zgH (s := .tup [.str "image", w]) ha (fun m' s => s _ _ (fun g z => by cases z) ec) _ [] _ (fun x hx m2 Q' s3 q' => ?_) zq sa (by simp) fun m2 s3 hm2 => ?_
  · refine zK (zj (zu rfl (zA ⟨rfl, ?_⟩)))
    exact zrq p1 (by omega) r1 (by omega) pk hfl (W.subx ((Sx.of s2).trans s3)) ((hi.kp (Kp.of (((Sx.of s1).trans (Sx.of s2)).trans s3))).kp Kp.hide) hx q'
  · refine opI (zfi (zj (tupI (zj (cI (zj (zu rfl (zA ⟨zav rfl, zA ⟨zav rfl, fun b hb => ?_⟩⟩))))))))
    have nab : a ≠ b := fun z => by rw [← z, hm2] at hb; cases hb
    refine cI (ziF (n := 3) z7 rfl (by decide) (by decide) fun c2 hc2 => ?_)
    have nac : a ≠ c2 := fun z => by rw [← z, zaX nab, hm2] at hc2; cases hc2
    have sbc : Ab.Sub m2 (mset (mset m2 b (.lst [.tup [.str "image", w]])) c2 (.lst (List.replicate 3 (.tup [.str "image", w])))) := (Ab.Sub.new hb).trans (Ab.Sub.new hc2)
    have ok1 : ∀ d ∈ List.replicate 3 (.tup [.str "image", w]), okQ 1 d := fun d hd' => by
      rw [List.eq_of_mem_replicate hd']
      intro d hd''
      simp only [List.mem_cons, List.not_mem_nil, or_false] at hd''
      rcases hd'' with rfl | rfl
      · show PyData.strOk ("image" : Str) = true; decide +kernel
      · exact hv
    refine znd (n := 1) (ds := List.replicate 3 (.tup [.str "image", w])) ?_ z7 ok1 (by decide) ?_
    · rw [l_ne nac, l_ne nab]
      exact l_of hm2
    refine zaz rfl ?_
    refine nextI ?_
    exact q _ (((Sx.of s1).trans (Sx.of s2)).trans (s3.trans (Sx.of sbc)))
theorem zuD {x0 x1 x2 x3 x4 x5 x6 x7 x8 x9 x10 x11 x12 x13 x14 x15 : Option D} (q : ziB p A [x0, x1, x2, x3, x4, x5, x6, x7, x8, x9, x10, x11, x12, some (.tup (iD (blk great ziH))), x14, x15] m) : ziC p A [x0, x1, x2, x3, x4, x5, x6, x7, x8, x9, x10, x11, x12, x13, x14, x15] m := by
  unfold ziC
  refine zal (zdZ (zK (zj (p32 (zj (tupI (zj (cI (zj (cI (zj (cI (zj (p32 (zj (cI (zj (cI (zj (tupI (zA ⟨zav rfl, zA ⟨zav rfl, zA ⟨rfl, ?_⟩⟩⟩)))))))))))))))))))))
  refine zp8 (s := great) (l := ziH) zox ?_
  refine aNI ?_
  dsimp only [En.s]
  exact q
theorem zuE {x0 x1 x2 x3 x4 x5 x6 x8 x9 x10 x11 x12 x14 x15 : Option D} {N : Nat} (hN : 1 ≤ N) (hN2 : N ≤ 100) (q : ziA p A [x0, x1, x2, x3, x4, x5, x6, some (.tup ((zhE N).map Cl.t)), x8, x9, x10, x11, x12, some (.tup ((zgj N).map Cl.t)), x14, x15] m) : ziB p A [x0, x1, x2, x3, x4, x5, x6, some (.tup ((zhE N).map Cl.t)), x8, x9, x10, x11, x12, some (.tup (iD (blk great ziH))), x14, x15] m := by
  have hlen : ((zhE N).map Cl.t).length = N := by rw [List.length_map, List.length_replicate]
  have ec : Ab.cutD ((zhE N).map Cl.t) (some 1) none = (zhE (N - 1)).map Cl.t := by
    rw [show Ab.cutD ((zhE N).map Cl.t) (some 1) none = _ from zmV (i := 1) (by omega), ← List.map_drop, List.drop_replicate]
  unfold ziB
  refine zal (zdZ (opI (tupI (zj (zu rfl (zA ⟨zav rfl, ?_⟩))))))
  refine slI (zu rfl (ptI (cI (zjy (zlv ?_)))))
  rw [ec]
  refine zih ?_ ?_
  rotate_left
  · rw [List.length_map, List.length_replicate, List.length_singleton]
    exact Nat.le_trans (show _ ≤ 200 by omega) (by decide)
  refine aNI ?_
  dsimp only [En.s]
  exact q
theorem znx {e : En} {i : Nat} {te : AE} {a : Addr} {gd : M → Prop} {x : D} {rest : List D} {Q : PQ} {m : M} (hg : gd m) (ht : te (e.s i x) m (fun y m2 => match m2 a with | some (.lst acc) => acc.length < big ∧ lcL (aN i) zaS te e a gd rest Q (mset m2 a (.lst (acc ++ [y]))) | _ => False) FF) : lcL (aN i) zaS te e a gd (x :: rest) Q m := ⟨hg, ht⟩
abbrev zbv : D := .tup [.str "many", .int 4294967295]
theorem zuF {x0 x2 x3 x5 x6 x7 x8 x9 x10 x11 x12 x14 x15 : Option D} {P Rg : Nat} (p1 : 1 ≤ P) (p2 : P ≤ 4) (r1 : 2 ≤ Rg) (r2 : Rg ≤ 6) (hfl : p.fld (p.cA "TooMany") "most" = true) (pk : Ok p) (h : Sw p ns r m) (q : ∀ m', Sx m m' → ziz p A [x0, some (.ref r), x2, x3, some (.tup [.int P, .int Rg]), x5, x6, x7, x8, x9, x10, x11, x12, some (.tup ((zgj (2 + P + Rg)).map Cl.t)), x14, x15] m') : ziA p A [x0, some (.ref r), x2, x3, some (.tup [.int P, .int Rg]), x5, x6, x7, x8, x9, x10, x11, x12, some (.tup ((zgj (2 + P + Rg)).map Cl.t)), x14, x15] m := by
  have hlen : (zgj (2 + P + Rg)).length = 2 + P + Rg := by
    rw [List.length_cons, List.length_replicate]; omega
  have hv : okQ 0 (D.int 4294967295) := trivial
  unfold ziA
  refine zal (ifI (zdf (opI (lcI (zld (slI (zK (zj (zu rfl (zj (zu rfl (zA ⟨rfl, ?_⟩))))))))))))
  refine works pk h.st.tab fun l f0 f1 f2 f3 f4 f5 f6 f7 m1 hl s1 W0 => ?_
  refine ptI (cI (ptI (cI ?_)))
  refine zkr (l_of W0.lst) fun c hc => ?_
  rw [show Ab.cutD [D.ref f0, .ref f1, .ref f2, .ref f3, .ref f4, .ref f5, .ref f6, .ref f7] (some 4) (some 7) = [D.ref f4, .ref f5, .ref f6] from rfl]
  have s2 : Ab.Sub m1 (mset m1 c (.lst [D.ref f4, .ref f5, .ref f6])) := Ab.Sub.new hc
  have ec : (mset m1 c (.lst [D.ref f4, .ref f5, .ref f6])) c = some (.lst [D.ref f4, .ref f5, .ref f6]) := zq
  have W := W0.subx (Sx.of s2)
  generalize mset m1 c (.lst [D.ref f4, .ref f5, .ref f6]) = mc at s2 ec W ⊢
  dsimp only
  rw [ec]
  dsimp only
  intro a ha
  have sa : Sx mc (mset mc a (.lst [])) := Sx.of (Ab.Sub.new ha)
  have ea : (mset mc a (.lst [])) a = some (.lst []) := zq
  generalize mset mc a (.lst []) = m2 at sa ea ⊢
  have gd : ∀ {mm : M}, Sx mc mm → mm c = some (.lst [.ref f4, .ref f5, .ref f6]) := fun s => s _ _ (fun g z => by cases z) ec
  refine znx (gd sa) (zK (zj (zu rfl (zA ⟨rfl, ?_⟩))))
  refine zfp (w := "many") pk hv (.inr (.inr ⟨rfl, rfl, rfl⟩)) hfl (W.subx sa).w4 tl4 (fun Q' R' r' => ztB p1 p2 r1 r2 hlen zks zpE r') fun m3 s3 => ?_
  rw [s3 _ _ (fun g z => by cases z) ea]
  refine ⟨show 0 < 100000 by decide, ?_⟩
  have t3 : Sx mc (mset m3 a (.lst ([] ++ [zbv]))) := (sa.trans s3).mut ha
  refine znx (gd t3) (zK (zj (zu rfl (zA ⟨rfl, ?_⟩))))
  have ea3 : (mset m3 a (.lst ([] ++ [zbv]))) a = some (.lst ([] ++ [zbv])) := zq
  generalize mset m3 a (.lst ([] ++ [zbv])) = m4 at t3 ea3 ⊢
  refine zfp (w := "many") pk hv (.inr (.inr ⟨rfl, rfl, rfl⟩)) hfl (W.subx t3).w5 tl5 (fun Q' R' r' => ztC p1 p2 r1 r2 hlen zks zpF r') fun m5 s5 => ?_
  rw [s5 _ _ (fun g z => by cases z) ea3]
  refine ⟨show 1 < 100000 by decide, ?_⟩
  have t5 : Sx mc (mset m5 a (.lst ([] ++ [zbv] ++ [zbv]))) := (t3.trans s5).mut ha
  refine znx (gd t5) (zK (zj (zu rfl (zA ⟨rfl, ?_⟩))))
  have ea5 : (mset m5 a (.lst ([] ++ [zbv] ++ [zbv]))) a = some (.lst ([] ++ [zbv] ++ [zbv])) := zq
  generalize mset m5 a (.lst ([] ++ [zbv] ++ [zbv])) = m6 at t5 ea5 ⊢
  refine worked pk (W.subx t5).w6 tl6 (fun Q' R' h' => ztD p1 p2 r1 r2 hlen zks h') fun m7 s7 => ?_
  rw [s7 _ _ ea5]
  refine ⟨show 2 < 100000 by decide, ?_⟩
  have t7 : Sx mc (mset m7 a (.lst ([] ++ [zbv] ++ [zbv] ++ [.non]))) := (t5.trans (Sx.of s7)).mut ha
  refine ⟨gd t7, ?_⟩
  have ea7 : (mset m7 a (.lst ([] ++ [zbv] ++ [zbv] ++ [.non]))) a = some (.lst ([] ++ [zbv] ++ [zbv] ++ [.non])) := zq
  generalize mset m7 a (.lst ([] ++ [zbv] ++ [zbv] ++ [.non])) = m8 at t7 ea7 ⊢
  refine opI (opI (zfi (zj (tupI (zj (cI (zj (p32 (zA ⟨zav rfl, zA ⟨zav rfl, fun b1 hb1 => ?_⟩⟩)))))))))
  have u1 : Ab.Sub m8 (mset m8 b1 (.lst [zbv])) := Ab.Sub.new hb1
  refine cI (ziF (n := 2) z7 rfl (by decide) (by decide) fun b2 hb2 => ?_)
  have u2 := u1.trans (Ab.Sub.new (o := .lst (List.replicate 2 zbv)) hb2)
  have e2 : (mset (mset m8 b1 (.lst [zbv])) b2 (.lst (List.replicate 2 zbv))) b2 = some (.lst (List.replicate 2 zbv)) := zq
  generalize mset (mset m8 b1 (.lst [zbv])) b2 (.lst (List.replicate 2 zbv)) = m9 at u2 e2 ⊢
  refine zfi (zj (cI (zA ⟨zav rfl, fun b3 hb3 => ?_⟩)))
  have u3 := u2.trans (Ab.Sub.new (o := .lst [.non]) hb3)
  have e23 := (Ab.Sub.new (o := .lst [.non]) hb3) _ _ e2
  have e3 : (mset m9 b3 (.lst [.non])) b3 = some (.lst [.non]) := zq
  generalize mset m9 b3 (.lst [.non]) = m10 at u3 e23 e3 ⊢
  refine zlc (l_of e23) (l_of e3) (show 2 + 1 ≤ 100000 by decide) fun b hb => ?_
  have u4 := u3.trans (Ab.Sub.new (o := .lst (List.replicate 2 zbv ++ [.non])) hb)
  refine znd (n := 1) (ds := [zbv, zbv, .non]) (l_of (u4 _ _ ea7)) z7 (fun d hd => ?_) (by decide) ?_
  · have ok1 : okQ 1 zbv := by
      intro d hd
      simp only [List.mem_cons, List.not_mem_nil, or_false] at hd
      rcases hd with rfl | rfl
      · show PyData.strOk ("many" : Str) = true; decide +kernel
      · exact hv
    simp only [List.mem_cons, List.not_mem_nil, or_false] at hd
    rcases hd with rfl | rfl | rfl
    · exact ok1
    · exact ok1
    · trivial
  refine zaz rfl ?_
  refine nextI ?_
  exact q _ (((Sx.of s1).trans (Sx.of s2)).trans (t7.trans (Sx.of u4)))
end
end
section
def PB (m : M) (z : D) : Prop := ∃ v w, z = .tup [v, w] ∧ NBt m 2 v w
theorem NBt.kp {m m' : M} {P : Nat} {v w : D} (k : Kp m m') (h : NBt m P v w) : NBt m' P v w := by
  rcases h with ⟨e, t, ht, hs⟩ | h
  · exact .inl ⟨e, t, k.ty _ _ ht, hs⟩
  · exact .inr h
theorem NState.kp {m m' : M} {d : D} (k : Kp m m') (h : NState m d) : NState m' d := by
  rcases h with ⟨t, ht, hs⟩ | h
  · exact .inl ⟨t, k.ty _ _ ht, hs⟩
  · exact .inr h
theorem PB.kp {m m' : M} {z : D} (k : Kp m m') (h : PB m z) : PB m' z := by
  obtain ⟨v, w, e, h⟩ := h
  exact ⟨v, w, e, h.kp k⟩
section
variable {p : Pm} {ns : List Int} {r : Addr} {m m' : M} {A : zaU} {Q : PQ} {R : PX}
theorem zuG {x0 x2 x3 x4 x5 x6 x7 x8 x9 x10 x11 x12 x13 x14 x15 : Option D} (h : Sw p ns r m) (q : ∀ st m', Sw p ns r m' → NState m' st → ziy p A [x0, some (.ref r), x2, x3, x4, x5, x6, x7, x8, x9, x10, x11, x12, x13, some st, x15] m') : ziz p A [x0, some (.ref r), x2, x3, x4, x5, x6, x7, x8, x9, x10, x11, x12, x13, x14, x15] m := by
  unfold ziz
  refine zal (zdZ (zK (zj (zu rfl (zj ?_)))))
  refine zfi (zj (cI (zj (tupI (zA ⟨zav rfl, ?_⟩)))))
  refine zj (zfi (zj (tupI (zA ⟨zav rfl, zA ⟨zav rfl, fun b1 hb1 => ?_⟩⟩))))
  have s1 : Ab.Sub m (mset m b1 (.lst [.tup []])) := Ab.Sub.new hb1
  have e1 : (mset m b1 (.lst [.tup []])) b1 = some (.lst [.tup []]) := zq
  generalize mset m b1 (.lst [.tup []]) = m1 at s1 e1 ⊢
  refine zj (tupI (zj (cI (zA ⟨zav rfl, ?_⟩))))
  refine zj (tupI (zj (tupI (zj (cI (zA ⟨zav rfl, zA ⟨zav rfl, ?_⟩⟩))))))
  refine zj (opI (tupI (zj (tupI (zA ⟨zav rfl, zA ⟨zav rfl, cI ?_⟩⟩)))))
  refine zhw (n := 65) rfl (by decide) (by decide) ?_
  refine zj (tupI (zj (opI (tupI (zj (cI (zA ⟨zav rfl, cI ?_⟩)))))))
  refine zhw (n := 97) rfl (by decide) (by decide) ?_
  refine zA ⟨zav rfl, ?_⟩
  refine zj (cI (zj ?_))
  refine zqF fun b2 hb2 => ?_
  have s2 : Ab.Sub m1 (mset m1 b2 (.dic [])) := Ab.Sub.new hb2
  have e2 : (mset m1 b2 (.dic [])) b2 = some (.dic []) := zq
  have e12 := s2 _ _ e1
  have h2 := h.sub (s1.trans s2)
  generalize mset m1 b2 (.dic []) = m2 at s2 e2 e12 h2 ⊢
  refine zj (tupI (zj (cI (zA ⟨zav rfl, ?_⟩))))
  refine zA ⟨zav rfl, fun b hb => ?_⟩
  refine zA ⟨rfl, ?_⟩
  refine zj3 h2.st.row hb ?_ ?_ fun d m3 hd hr3 v3 => ?_
  · simp
  · simp
  have kp := Kp.ev h2.st.row hr3 v3
  refine aNI ?_
  dsimp only [En.s]
  refine q d m3 (h2.ev hr3 v3) ?_
  simp only [List.mem_cons, List.not_mem_nil, or_false] at hd
  rcases hd with rfl | rfl | rfl | rfl | rfl | rfl | rfl | rfl | rfl | rfl
  · exact .inl ⟨.non, rfl, rfl⟩
  · exact .inr (.inl ⟨_, rfl, .inl (by decide)⟩)
  · exact .inl ⟨.list, kp.ty _ _ (tyL e12), rfl⟩
  · refine .inr (.inr ⟨_, rfl, by decide, by decide, fun e he m => ?_, rfl⟩)
    rw [List.mem_singleton.mp he]
    exact .inl ⟨.non, rfl, rfl⟩
  · refine .inr (.inr ⟨_, rfl, by decide, by decide, fun e he m => ?_, by decide⟩)
    rw [List.mem_singleton.mp he]
    exact .inr ⟨_, rfl, by decide, fun e he => ⟨.int, by rw [List.mem_singleton.mp he]; rfl⟩⟩
  · exact .inr (.inl ⟨_, rfl, .inr (by rw [List.length_replicate]; decide)⟩)
  · refine .inr (.inr ⟨_, rfl, by decide, by decide, fun e he m => ?_, by decide⟩)
    rw [List.mem_singleton.mp he]
    refine .inr ⟨_, rfl, by rw [List.length_replicate]; decide, fun e he => ⟨.int, ?_⟩⟩
    rw [List.eq_of_mem_replicate he]
    rfl
  · exact .inl ⟨.str, rfl, rfl⟩
  · exact .inl ⟨.dict, kp.ty _ _ (zqN e2), rfl⟩
  · refine .inr (.inr ⟨_, rfl, by decide, by decide, fun e he m => ?_, rfl⟩)
    rw [List.mem_singleton.mp he]
    exact .inl ⟨.bool, rfl, rfl⟩
theorem zuH {x0 x2 x3 x4 x5 x6 x7 x8 x9 x10 x11 x12 x13 x15 : Option D} {st : D} (hst : NState m st) (pk : Ok p) (h : Sw p ns r m) (q : ∀ m', Sx m m' → zix p A [x0, some (.ref r), x2, x3, x4, x5, x6, x7, x8, x9, x10, x11, x12, x13, some st, x15] m') : ziy p A [x0, some (.ref r), x2, x3, x4, x5, x6, x7, x8, x9, x10, x11, x12, x13, some st, x15] m := by
  unfold ziy
  refine zal (ifI (zdf (opI (zK (zj (opI (zK (zj (zu rfl (zj (cI (zA ⟨rfl, ?_⟩))))))))))))
  refine works pk h.st.tab fun l f0 f1 f2 f3 f4 f5 f6 f7 m1 hl s1 W => ?_
  refine cI (zjz (l_of W.lst) (d := .ref f7) rfl ?_)
  refine zA ⟨rfl, ?_⟩
  refine zrr pk (s1 _ _ h.pt) W ((hst.kp (Kp.of (Sx.of s1))).kp Kp.hide) fun m2 s2 => ?_
  refine cI (zr5 ?_)
  refine zaz (by decide +kernel) ?_
  refine nextI ?_
  exact q _ (Sx.of (s1.trans s2))
theorem zuI {x0 x2 x3 x4 x5 x6 x7 x8 x9 x10 x11 x12 x13 x14 x15 : Option D} (h : Sw p ns r m) (q : ∀ b m', Sw p ns r m' → (∃ ds, m' b = some (.lst ds) ∧ ds.length = 6 ∧ ∀ z ∈ ds, PB m' z) → zgE p A [x0, some (.ref r), x2, x3, x4, x5, x6, x7, x8, x9, x10, x11, x12, x13, x14, some (.ref b)] m') : zix p A [x0, some (.ref r), x2, x3, x4, x5, x6, x7, x8, x9, x10, x11, x12, x13, x14, x15] m := by
  unfold zix
  generalize hX : zgE = X
  walk_at "stp"
  intro b1 hb1
  have s1 : Ab.Sub m (mset m b1 (.lst [.tup [.int 0, .tup []]])) := Ab.Sub.new hb1
  have e1 : (mset m b1 (.lst [.tup [.int 0, .tup []]])) b1 = some (.lst [.tup [.int 0, .tup []]]) := zq
  generalize mset m b1 (.lst [.tup [.int 0, .tup []]]) = m1 at s1 e1 ⊢
  walk_at "stp"
  intro b hb
  have s2 := s1.trans (Ab.Sub.new (o := .lst [.tup [.non, .non], .tup [.tup [], .non], .tup [.ref b1, .non], .tup [.tup [.int 5], .int 0], .tup [.tup [pr 0, pr 0], .int 1], .tup [.tup [pr 1, pr 0], .int 1]]) hb)
  have e12 := (Ab.Sub.new (o := .lst [.tup [.non, .non], .tup [.tup [], .non], .tup [.ref b1, .non], .tup [.tup [.int 5], .int 0], .tup [.tup [pr 0, pr 0], .int 1], .tup [.tup [pr 1, pr 0], .int 1]]) hb) _ _ e1
  subst hX
  refine q b _ (h.sub s2) ⟨_, zq, rfl, fun z hz => ?_⟩
  simp only [List.mem_cons, List.not_mem_nil, or_false] at hz
  rcases hz with rfl | rfl | rfl | rfl | rfl | rfl
  · exact ⟨_, _, rfl, .inl ⟨rfl, .non, rfl, rfl⟩⟩
  · exact ⟨_, _, rfl, .inr (.inl ⟨rfl, rfl⟩)⟩
  · exact ⟨_, _, rfl, .inl ⟨rfl, .list, tyL e12, rfl⟩⟩
  · exact ⟨_, _, rfl, .inr (.inr (.inl ⟨[], .int 5, [], rfl, by decide, trivial, .inl ⟨.int, fun m => rfl, rfl⟩, rfl⟩))⟩
  · exact ⟨_, _, rfl, .inr (.inr (.inl ⟨[0], pr 0, [], rfl, by decide, ⟨by decide, by decide, trivial⟩, .inr (.inr (.inl ⟨_, _, rfl, fun m => zfW (.inl (by decide))⟩)), rfl⟩))⟩
  · exact ⟨_, _, rfl, .inr (.inr (.inl ⟨[1], pr 0, [], rfl, by decide, ⟨by decide, by decide, trivial⟩, .inr (.inr (.inl ⟨_, _, rfl, fun m => zfW (.inl (by decide))⟩)), rfl⟩))⟩
theorem zuJ {x0 x2 x3 x4 x5 x6 x7 x8 x9 x10 x11 x12 x13 x14 : Option D} {b : Addr} {ds : List D} (h : Sw p ns r m) (hb : m b = some (.lst ds)) (hl : ds.length = 6) (hp : ∀ z ∈ ds, PB m z) (q : ∀ b m', Sw p ns r m' → (∃ ds, m' b = some (.lst ds) ∧ ds.length = 11 ∧ ∀ z ∈ ds, PB m' z) → zgD p A [x0, some (.ref r), x2, x3, x4, x5, x6, x7, x8, x9, x10, x11, x12, x13, x14, some (.ref b)] m') : zgE p A [x0, some (.ref r), x2, x3, x4, x5, x6, x7, x8, x9, x10, x11, x12, x13, x14, some (.ref b)] m := by
  unfold zgE
  generalize hX : zgD = X
  generalize hA : zR = RA
  walk_at "stp"
  intro b2 hb2
  subst hA
  subst hX
  have s1 := Ab.Sub.new (o := .lst [.tup [.tup [.tup [.int 0, .tup [.int 256]]], .int 0], .tup [.tup [pr 64], .int 0], .tup [.tup [.tup [.bl true, .tup []]], .int 0], .tup [.tup [pr 0, pr 2], .int 1], .tup [.tup [.tup [.int 0]], .int 0]]) hb2
  refine zlc (l_of (s1 _ _ hb)) z7 (by rw [hl]; decide) fun b3 hb3 => ?_
  have s2 := s1.trans (Ab.Sub.new (o := .lst (ds ++ [.tup [.tup [.tup [.int 0, .tup [.int 256]]], .int 0], .tup [.tup [pr 64], .int 0], .tup [.tup [.tup [.bl true, .tup []]], .int 0], .tup [.tup [pr 0, pr 2], .int 1], .tup [.tup [.tup [.int 0]], .int 0]])) hb3)
  refine q b3 _ (h.sub s2) ⟨_, zq, by rw [List.length_append, hl]; rfl, fun z hz => ?_⟩
  rcases List.mem_append.mp hz with hz | hz
  · exact (hp z hz).kp (Kp.of (Sx.of s2))
  simp only [List.mem_cons, List.not_mem_nil, or_false] at hz
  rcases hz with rfl | rfl | rfl | rfl | rfl
  · exact ⟨_, _, rfl, .inr (.inr (.inl ⟨[], _, [], rfl, by decide, trivial, .inr (.inr (.inr ⟨0, _, rfl, by decide, by decide, fun m => .inr (.inr ⟨[], .int 256, [], rfl, by decide, by decide, (fun d hd => nomatch hd), .inr (.inl ⟨256, rfl, .inr (by decide)⟩)⟩)⟩)), rfl⟩))⟩
  · exact ⟨_, _, rfl, .inr (.inr (.inl ⟨[], _, [], rfl, by decide, trivial, .inr (.inr (.inl ⟨_, _, rfl, fun m => zfW (.inr (by decide))⟩)), rfl⟩))⟩
  · exact ⟨_, _, rfl, .inr (.inr (.inl ⟨[], _, [], rfl, by decide, trivial, .inr (.inr (.inl ⟨_, _, rfl, fun m => .inr (.inl ⟨true, rfl⟩)⟩)), rfl⟩))⟩
  · exact ⟨_, _, rfl, .inr (.inr (.inr ⟨[0], 2, [], rfl, by decide, ⟨by decide, by decide, by decide, by decide, trivial⟩, (by simp), by decide, rfl⟩))⟩
  · exact ⟨_, _, rfl, .inr (.inr (.inl ⟨[], _, [], rfl, by decide, trivial, .inr (.inl ⟨_, rfl, .inl (by decide)⟩), rfl⟩))⟩
theorem zuK {x0 x2 x3 x4 x5 x6 x7 x8 x9 x10 x13 x14 : Option D} {b : Addr} {ds : List D} (h : Sw p ns r m) (hb : m b = some (.lst ds)) (hl : ds.length = 11) (hp : ∀ z ∈ ds, PB m z) (q : ∀ v w m', Sw p ns r m' → NBt m' 2 v w → zgC p A [x0, some (.ref r), x2, x3, x4, x5, x6, x7, x8, x9, x10, some v, some w, x13, x14, some (.ref b)] m') {x11 x12 : Option D} : zgD p A [x0, some (.ref r), x2, x3, x4, x5, x6, x7, x8, x9, x10, x11, x12, x13, x14, some (.ref b)] m := by
  unfold zgD
  generalize hX : zgC = X
  generalize hA : zR = RA
  generalize hM : zaj = RM
  walk_at "stp"
  subst hM
  refine zhw (n := 97) rfl (by decide) (by decide) ?_
  walk_at "stp"
  intro b2 hb2
  subst hA
  subst hX
  have s1 := Ab.Sub.new (o := .lst [.tup [.tup [pr 0, pr 1, .tup [.int 2, .tup (List.replicate 97 (.int 1))]], .int 2], .tup [.tup [.tup [.int (0 - 1), .tup []]], .int 0]]) hb2
  refine zlc (l_of (s1 _ _ hb)) z7 (by rw [hl]; decide) fun b3 hb3 => ?_
  refine zA ⟨rfl, ?_⟩
  have h2 := h.sub s1
  refine zj3 h2.st.row hb3 ?_ ?_ fun d m3 hd hr3 v3 => ?_
  · rw [List.length_append, hl]; simp
  · rw [List.length_append, hl]; simp
  have kp := (Kp.of (Sx.of s1)).trans (Kp.ev h2.st.row hr3 v3)
  have hd' : PB m3 d := by
    rcases List.mem_append.mp hd with hd | hd
    · exact (hp d hd).kp kp
    simp only [List.mem_cons, List.not_mem_nil, or_false] at hd
    rcases hd with rfl | rfl
    · exact ⟨_, _, rfl, .inr (.inr (.inl ⟨[0, 1], .tup [.int 2, .tup (List.replicate 97 (.int 1))], [], rfl, by decide, ⟨by decide, by decide, by decide, by decide, trivial⟩, .inr (.inr (.inr ⟨2, _, rfl, by decide, by decide, fun m => .inr (.inl ⟨_, rfl, .inr (by rw [List.length_replicate]; decide)⟩)⟩)), rfl⟩))⟩
    · exact ⟨_, _, rfl, .inr (.inr (.inl ⟨[], _, [], rfl, by decide, trivial, .inr (.inr (.inl ⟨_, _, rfl, fun m => zfW (.inl (by decide))⟩)), rfl⟩))⟩
  obtain ⟨v, w, rfl, hi⟩ := hd'
  refine ttI rfl (gcI (aNI (gcI (aNI (gnI ?_)))))
  dsimp only [En.s]
  exact q v w m3 (h2.ev hr3 v3) hi
theorem zuL {x0 x2 x3 x4 x5 x6 x7 x8 x9 x10 x13 x14 x15 : Option D} {v w : D} (hi : NBt m 2 v w) (hfl : p.fld (p.cA "BadBatch") "index" = true) (pk : Ok p) (h : Sw p ns r m) (q : ∀ m', A.rt (.bl true) m') : zgC p A [x0, some (.ref r), x2, x3, x4, x5, x6, x7, x8, x9, x10, some v, some w, x13, x14, x15] m := by
  have hv := hi.q0
  unfold zgC
  refine zgo (opI (zK (zj (opI (zK (zj (tupI (zj (tupI (zA ⟨zav rfl, zj (tupI (zA ⟨zav rfl, zA ⟨zav rfl, zj (zu rfl (zA ⟨rfl, ?_⟩))⟩⟩))⟩))))))))))
  refine works pk h.st.tab fun l f0 f1 f2 f3 f4 f5 f6 f7 m1 hl s1 W => ?_
  refine cI (zjz (l_of W.lst) (d := .ref f7) rfl ?_)
  refine zA ⟨rfl, ?_⟩
  refine zrs pk hfl (s1 _ _ h.pt) W ((hi.kp (Kp.of (Sx.of s1))).kp Kp.hide) fun m2 s2 => ?_
  refine tupI (zj (cI (zj (zu rfl (zA ⟨zav rfl, ?_⟩)))))
  refine zsc (n := 1) (fun d hd => ?_) (by decide) (q _)
  simp only [List.mem_cons, List.not_mem_nil, or_false] at hd
  rcases hd with rfl | rfl
  · show PyData.strOk ("batch" : Str) = true; decide +kernel
  · exact hv
end
theorem zqf {p : Pm} {m : M} {ns : List Int} (pk : Ok p) (fI : p.fld (p.cA "BadImage") "index" = true) (fB : p.fld (p.cA "BadBatch") "index" = true) (fT : p.fld (p.cA "TooMany") "most" = true) (hm : m p.P = some (.ltab lq)) (hT : m p.Pt = some .tab) (h1 : ns.length ≤ 63) (h2 : ∀ z ∈ ns, Builtin.Int.intBits z ≤ 1048576) : zmU p [.fls (ns.map D.int)] m (fun d _ => d = .bl true) fun _ _ => False := by
  refine zrh ?_
  unfold zoT
  generalize hX : zhr = X
  walk_at "stp"
  intro r hr
  have hR : RowAt ns (mset m r (.lst [.fls (ns.map .int), .int 0, .int 9012, .int 0])) r := zfG (by decide) (by decide) (by decide) (by decide)
  have s0 := Ab.Sub.new (o := .lst [.fls (ns.map .int), .int 0, .int 9012, .int 0]) hr
  have h0 : Sw p ns r (mset m r (.lst [.fls (ns.map .int), .int 0, .int 9012, .int 0])) := ⟨⟨hR, s0 _ _ hm⟩, s0 _ _ hT⟩
  generalize mset m r (.lst [.fls (ns.map .int), .int 0, .int 9012, .int 0]) = m1 at h0 ⊢
  subst hX
  refine ztG h0 fun bad m2 h2' hb => ?_
  refine ztH hb pk h2' fun m3 s3 => ?_
  refine ztI (h2'.subx s3) fun P Rg m4 p1 p2 r1 r2 h4 => ?_
  refine ztJ h4 fun num m5 h5 hn => ?_
  refine ztK p1 p2 r1 r2 hn pk h5 fun m6 s6 => ?_
  have h6 := h5.subx s6
  refine ztL pk h6 fun c f2 g3 m7 s7 W7 => ?_
  have h7 := h6.subx s7
  refine ztM p1 p2 r1 r2 pk W7 fun m8 s8 => ?_
  have h8 := h7.subx s8
  refine ztN p2 r2 ?_
  have hlen : (zhE (2 + P + Rg)).length = 2 + P + Rg := List.length_replicate
  refine ztO (by omega) (by omega) h8 fun k m9 hk h9 => ?_
  refine ztP h9 fun odd m10 h10 ho => ?_
  refine ztQ hlen (by omega) (by omega) zoy hk ho h10 fun s m11 ds it h11 hs11 hl11 hsr hp11 => ?_
  refine ztR h11 hs11 hl11 hsr hp11 fun v w m12 h12 hi => ?_
  refine zuC p1 p2 r1 r2 hi fI pk h12 fun m13 s13 => ?_
  have h13 := h12.subx s13
  refine zuD ?_
  refine zuE (by omega) (by omega) ?_
  refine zuF p1 p2 r1 r2 fT pk h13 fun m14 s14 => ?_
  have h14 := h13.subx s14
  refine zuG h14 fun st m15 h15 hst => ?_
  refine zuH hst pk h15 fun m16 s16 => ?_
  have h16 := h15.subx s16
  refine zuI h16 fun b m17 h17 hx => ?_
  obtain ⟨ds', e17, l17, p17⟩ := hx
  refine zuJ h17 e17 l17 p17 fun b' m18 h18 hx' => ?_
  obtain ⟨ds2, e18, l18, p18⟩ := hx'
  refine zuK h18 e18 l18 p18 fun v' w' m19 h19 hb' => ?_
  exact zuL hb' fB pk h19 fun m20 => ⟨m20, Ab.Sub.refl _, rfl⟩
end
section
section
variable {P : Program} {w : World} {K : PySem.W.Frag} {mg : Str → Option Value} {base : Heap}
structure OCl (K : PySem.W.Frag) (p : Pm) : Prop where
theorem zkt : FnScope ["self", "index"] ["self", "index"] (defScope zck) := ⟨rfl, rfl, rfl, by decide +kernel, rfl, by decide +kernel, by decide +kernel⟩
theorem zny {fI C : Addr} {fd : FuncData} (F : FunD K "__init__" "BadImage.__init__" (defArgs zck) (defBody zck) (defScope zck) [] [] fI fd) : FnOk P w K mg base (L2.CX P w) 1 fI fd ["self", "index"] (zhR K C "index") :=
  zlA F zkt fun cdv A outer s H E => pss_one (ps_ost (pe_var rfl (.inl rfl)) (pe_var rfl (.inl rfl)))
theorem zku : FnScope ["self", "index"] ["self", "index"] (defScope zcl) := ⟨rfl, rfl, rfl, by decide +kernel, rfl, by decide +kernel, by decide +kernel⟩
theorem znz {fI C : Addr} {fd : FuncData} (F : FunD K "__init__" "BadBatch.__init__" (defArgs zcl) (defBody zcl) (defScope zcl) [] [] fI fd) : FnOk P w K mg base (L2.CX P w) 1 fI fd ["self", "index"] (zhR K C "index") :=
  zlA F zku fun cdv A outer s H E => pss_one (ps_ost (pe_var rfl (.inl rfl)) (pe_var rfl (.inl rfl)))
theorem zli : FnScope ["self", "most"] ["self", "most"] (defScope zco) := ⟨rfl, rfl, rfl, by decide +kernel, rfl, by decide +kernel, by decide +kernel⟩
theorem znU {fI C : Addr} {fd : FuncData} (F : FunD K "__init__" "TooMany.__init__" (defArgs zco) (defBody zco) (defScope zco) [] [] fI fd) : FnOk P w K mg base (L2.CX P w) 1 fI fd ["self", "most"] (zhR K C "most") :=
  zlA F zli fun cdv A outer s H E => pss_one (ps_ost (pe_var rfl (.inl rfl)) (pe_var rfl (.inl rfl)))
theorem zh4 : FnScope ["row", "many", "found", "cell"] ["row", "many"] (defScope zbc) := ⟨rfl, rfl, rfl, by decide +kernel, rfl, by decide +kernel, by decide +kernel⟩
theorem zlP (B : Bi mg) {fd : FuncData} (F : FunD K "_law_taken" "_law_taken" (defArgs zbc) (defBody zbc) (defScope zbc) [] [] (He.fAd K ("_law_taken", none)) fd) (hm : mg "_law_taken" = some (.ref (He.fAd K ("_law_taken", none)))) : Cal P w K mg base "_law_taken" (0 + 1) 2 zbZ := by
  have bd : Binds K fd ["row", "many"] [] := F.bindsN fun _ _ _ _ _ _ us hl => match us, hl with | [_, _], _ => rfl
  refine zX F hm bd zh4 rfl fun cdv A outer s H E hr => ?_
  have hN : (["row", "many", "found", "cell"] : List Str).Nodup := zh4.nd
  have hu := hr.units
  have tk : Takes (cxOf (L2.CX P w) P w K mg base ["row", "many", "found", "cell"] "_law_taken" (defScope zbc) (He.fAd K ("_law_taken", none)) cdv A outer s H E) (WD E) := takes_of rfl rfl rfl rfl
  have hp : PassesOwn (model P w) (cxOf (L2.CX P w) P w K mg base ["row", "many", "found", "cell"] "_law_taken" (defScope zbc) (He.fAd K ("_law_taken", none)) cdv A outer s H E).A (cxOf (L2.CX P w) P w K mg base ["row", "many", "found", "cell"] "_law_taken" (defScope zbc) (He.fAd K ("_law_taken", none)) cdv A outer s H E).env (cxOf (L2.CX P w) P w K mg base ["row", "many", "found", "cell"] "_law_taken" (defScope zbc) (He.fAd K ("_law_taken", none)) cdv A outer s H E).xe := passes_of rfl
  exact zr (s_if (zce zm4 (zcf zbo (gv 0) (zp)) (zp) (by rfl))
    (zr (z9 (i := 2) hN (zL zgb (zfh zg3 B.int zeo (za (zcf zbo (gv 0) (zp)) (zf))) (gv 1)))
    (zr (s_asg (zL zhL (zcf zbo (gv 0) (zp)) (gv 1)) (zjV (gv 0) (zp)))
    (zH (s_ret (gv 2)))))
    (zbq))
    (zr (s_asg (zL zay (zcf zbo (gv 0) (zp)) (zp)) (zjV (gv 0) (zp)))
    (zr (s_if (zce zm4 (zcf zbo (gv 0) (zp)) (zfM zg2 B.len zfA (za (zcf zbo (gv 0) (zp)) (zf))) (by rfl))
    (zr (s_asg (zL zgb (zfh zg3 B.int zeo (za (zL zay (zL zcu (zcf zbo (gv 0) (zp)) (zp)) (zp)) (zf))) (zp)) (zjV (gv 0) (zp)))
    (zH (s_ret (zL zgb (zfh zg3 B.int zeo (za (zL zhL (zcf zbo (gv 0) (zp)) (zp)) (zf))) (gv 1)))))
    (zbq))
    (zr (z9 (i := 3) hN (zcf zbo (zcf zbo (gv 0) (zp)) (zL zeR (zcf zbo (gv 0) (zp)) (zp))))
    (zr (s_asg (zL zgb (zfh zg3 B.int zeo (za (zL zay (zL zay (zL zcu (zcf zbo (gv 0) (zp)) (zp)) (gv 3)) (zp)) (zf))) (zp)) (zjV (gv 0) (zp)))
    (zr (s_if (zce zrX (gv 3) (zL zmQ (zp) (zp)) (by rfl))
    (zH (s_asg (zL zhL (gv 3) (gv 1)) (zjV (gv 0) (zp))))
    (zbq))
    (zH (s_ret (zL zgb (zfh zg3 B.int zeo (za (gv 3) (zf))) (gv 1)))))))))
theorem zi0 : FnScope ["row", "things"] ["row", "things"] (defScope zbw) := ⟨rfl, rfl, rfl, by decide +kernel, rfl, by decide +kernel, by decide +kernel⟩
theorem zmn (B : Bi mg) (zb0 : Cal P w K mg base "_law_taken" 1 2 zbZ) {fd : FuncData} (F : FunD K "_law_pick" "_law_pick" (defArgs zbw) (defBody zbw) (defScope zbw) [] [] (He.fAd K ("_law_pick", none)) fd) (hm : mg "_law_pick" = some (.ref (He.fAd K ("_law_pick", none)))) : Cal P w K mg base "_law_pick" (1 + 1) 2 zbX := by
  have bd : Binds K fd ["row", "things"] [] := F.bindsN fun _ _ _ _ _ _ us hl => match us, hl with | [_, _], _ => rfl
  refine zX F hm bd zi0 rfl fun cdv A outer s H E hr => ?_
  have hN : (["row", "things"] : List Str).Nodup := zi0.nd
  have hu := hr.units
  have tk : Takes (cxOf (L2.CX P w) P w K mg base ["row", "things"] "_law_pick" (defScope zbw) (He.fAd K ("_law_pick", none)) cdv A outer s H E) (WD E) := takes_of rfl rfl rfl rfl
  have hp : PassesOwn (model P w) (cxOf (L2.CX P w) P w K mg base ["row", "things"] "_law_pick" (defScope zbw) (He.fAd K ("_law_pick", none)) cdv A outer s H E).A (cxOf (L2.CX P w) P w K mg base ["row", "things"] "_law_pick" (defScope zbw) (He.fAd K ("_law_pick", none)) cdv A outer s H E).env (cxOf (L2.CX P w) P w K mg base ["row", "things"] "_law_pick" (defScope zbw) (He.fAd K ("_law_pick", none)) cdv A outer s H E).xe := passes_of rfl
  exact zH (s_ret (zcf zbo (gv 1) (g_c zb0 tk (hr.mono (by omega)) (za (gv 0) (za (zfM zg2 B.len zfA (za (gv 1) (zf))) (zf))))))
theorem zh5 : FnScope ["value", "least", "most"] ["value", "least", "most"] (defScope zaA) := ⟨rfl, rfl, rfl, by decide +kernel, rfl, by decide +kernel, by decide +kernel⟩
theorem zlQ (B : Bi mg) {fd : FuncData} (F : FunD K "is_tuple_of" "is_tuple_of" (defArgs zaA) (defBody zaA) (defScope zaA) [] [] (He.fAd K ("is_tuple_of", none)) fd) (hm : mg "is_tuple_of" = some (.ref (He.fAd K ("is_tuple_of", none)))) : Cal P w K mg base "is_tuple_of" (0 + 1) 3 zaq := by
  have bd : Binds K fd ["value", "least", "most"] [] := F.bindsN fun _ _ _ _ _ _ us hl => match us, hl with | [_, _, _], _ => rfl
  refine zX F hm bd zh5 rfl fun cdv A outer s H E hr => ?_
  have hN : (["value", "least", "most"] : List Str).Nodup := zh5.nd
  have hu := hr.units
  have tk : Takes (cxOf (L2.CX P w) P w K mg base ["value", "least", "most"] "is_tuple_of" (defScope zaA) (He.fAd K ("is_tuple_of", none)) cdv A outer s H E) (WD E) := takes_of rfl rfl rfl rfl
  have hp : PassesOwn (model P w) (cxOf (L2.CX P w) P w K mg base ["value", "least", "most"] "is_tuple_of" (defScope zaA) (He.fAd K ("is_tuple_of", none)) cdv A outer s H E).A (cxOf (L2.CX P w) P w K mg base ["value", "least", "most"] "is_tuple_of" (defScope zaA) (He.fAd K ("is_tuple_of", none)) cdv A outer s H E).env (cxOf (L2.CX P w) P w K mg base ["value", "least", "most"] "is_tuple_of" (defScope zaA) (He.fAd K ("is_tuple_of", none)) cdv A outer s H E).xe := passes_of rfl
  exact zH (s_ret (zf9 (zkJ .tuple (gv 0) B.isinstance B.tuple zig) (zmP (zlr zkg zkg (gv 1) (zfM zg2 B.len zfA (za (gv 0) (zf))) (gv 2) (by with_unfolding_all rfl)))))
theorem zi4 : FnScope ["value", "low", "high"] ["value", "low", "high"] (defScope zbx) := ⟨rfl, rfl, rfl, by decide +kernel, rfl, by decide +kernel, by decide +kernel⟩
theorem zmo (B : Bi mg) {fd : FuncData} (F : FunD K "is_integer" "is_integer" (defArgs zbx) (defBody zbx) (defScope zbx) [] [] (He.fAd K ("is_integer", none)) fd) (hm : mg "is_integer" = some (.ref (He.fAd K ("is_integer", none)))) : Cal P w K mg base "is_integer" (0 + 1) 3 za3 := by
  have bd : Binds K fd ["value", "low", "high"] [] := F.bindsN fun _ _ _ _ _ _ us hl => match us, hl with | [_, _, _], _ => rfl
  refine zX F hm bd zi4 rfl fun cdv A outer s H E hr => ?_
  have hN : (["value", "low", "high"] : List Str).Nodup := zi4.nd
  have hu := hr.units
  have tk : Takes (cxOf (L2.CX P w) P w K mg base ["value", "low", "high"] "is_integer" (defScope zbx) (He.fAd K ("is_integer", none)) cdv A outer s H E) (WD E) := takes_of rfl rfl rfl rfl
  have hp : PassesOwn (model P w) (cxOf (L2.CX P w) P w K mg base ["value", "low", "high"] "is_integer" (defScope zbx) (He.fAd K ("is_integer", none)) cdv A outer s H E).A (cxOf (L2.CX P w) P w K mg base ["value", "low", "high"] "is_integer" (defScope zbx) (He.fAd K ("is_integer", none)) cdv A outer s H E).env (cxOf (L2.CX P w) P w K mg base ["value", "low", "high"] "is_integer" (defScope zbx) (He.fAd K ("is_integer", none)) cdv A outer s H E).xe := passes_of rfl
  exact zH (s_ret (zf9 (zkJ .int (gv 0) B.isinstance B.int zeo) (zf9 (zoD (zkJ .bool (gv 0) B.isinstance B.bool zn5)) (zmP (zlr zkg zkg (gv 1) (gv 0) (gv 2) (by with_unfolding_all rfl))))))
theorem zh6 : FnScope ["shape", "pages", "ring"] ["shape"] (defScope zbd) := ⟨rfl, rfl, rfl, by decide +kernel, rfl, by decide +kernel, by decide +kernel⟩
theorem zlR {p : Pm} (B : Bi mg) (O : OCl K p) (zci : CI mg "MOST_PAGES" 64) (zhF : CI mg "MOST_RING" 64) (zgI : CI mg "LEAST_RING" 2) (zar : Cal P w K mg base "is_tuple_of" 1 3 zaq) (zbm : Cal P w K mg base "is_integer" 1 3 za3) (err_BadShape : zeC K mg "BadShape" (p.cA "BadShape")) {fd : FuncData} (F : FunD K "check_shape" "check_shape" (defArgs zbd) (defBody zbd) (defScope zbd) [] [] (He.fAd K ("check_shape", none)) fd) (hm : mg "check_shape" = some (.ref (He.fAd K ("check_shape", none)))) : Cal P w K mg base "check_shape" (1 + 1) 1 (zba p) := by
  have bd : Binds K fd ["shape"] [] := F.bindsN fun _ _ _ _ _ _ us hl => match us, hl with | [_], _ => rfl
  refine zX F hm bd zh6 rfl fun cdv A outer s H E hr => ?_
  have hN : (["shape", "pages", "ring"] : List Str).Nodup := zh6.nd
  have hu := hr.units
  have tk : Takes (cxOf (L2.CX P w) P w K mg base ["shape", "pages", "ring"] "check_shape" (defScope zbd) (He.fAd K ("check_shape", none)) cdv A outer s H E) (WD E) := takes_of rfl rfl rfl rfl
  have hp : PassesOwn (model P w) (cxOf (L2.CX P w) P w K mg base ["shape", "pages", "ring"] "check_shape" (defScope zbd) (He.fAd K ("check_shape", none)) cdv A outer s H E).A (cxOf (L2.CX P w) P w K mg base ["shape", "pages", "ring"] "check_shape" (defScope zbd) (He.fAd K ("check_shape", none)) cdv A outer s H E).env (cxOf (L2.CX P w) P w K mg base ["shape", "pages", "ring"] "check_shape" (defScope zbd) (He.fAd K ("check_shape", none)) cdv A outer s H E).xe := passes_of rfl
  exact zr (s_if (zcP (zeA (g_c zar tk (hr.mono (by omega)) (za (gv 0) (za (zp) (za (zp) (zf)))))))
    (zH (zhQ err_BadShape tk))
    (zbq))
    (zr (s_asg (gv 0) (zec rfl (zao (zax (i := 1) hN) (zao (zax (i := 2) hN) (zdh)))))
    (zH (s_if (zoC (zkG (zcP (zeA (g_c zbm tk (hr.mono (by omega)) (za (gv 1) (za (zp) (za (zcC zci) (zf))))))) (zm0 (zcP (zeA (g_c zbm tk (hr.mono (by omega)) (za (gv 2) (za (zcC zgI) (za (zcC zhF) (zf))))))))))
    (zH (zhQ err_BadShape tk))
    (zbq))))
theorem zfK : FnScope ["shape", "pages", "ring"] ["shape"] (defScope zaw) := ⟨rfl, rfl, rfl, by decide +kernel, rfl, by decide +kernel, by decide +kernel⟩
theorem zjN (B : Bi mg) (zeh : CI mg "HEADS" 2) {fd : FuncData} (F : FunD K "how_many_blocks" "how_many_blocks" (defArgs zaw) (defBody zaw) (defScope zaw) [] [] (He.fAd K ("how_many_blocks", none)) fd) (hm : mg "how_many_blocks" = some (.ref (He.fAd K ("how_many_blocks", none)))) : Cal P w K mg base "how_many_blocks" (0 + 1) 1 zcb := by
  have bd : Binds K fd ["shape"] [] := F.bindsN fun _ _ _ _ _ _ us hl => match us, hl with | [_], _ => rfl
  refine zX F hm bd zfK rfl fun cdv A outer s H E hr => ?_
  have hN : (["shape", "pages", "ring"] : List Str).Nodup := zfK.nd
  have hu := hr.units
  have tk : Takes (cxOf (L2.CX P w) P w K mg base ["shape", "pages", "ring"] "how_many_blocks" (defScope zaw) (He.fAd K ("how_many_blocks", none)) cdv A outer s H E) (WD E) := takes_of rfl rfl rfl rfl
  have hp : PassesOwn (model P w) (cxOf (L2.CX P w) P w K mg base ["shape", "pages", "ring"] "how_many_blocks" (defScope zaw) (He.fAd K ("how_many_blocks", none)) cdv A outer s H E).A (cxOf (L2.CX P w) P w K mg base ["shape", "pages", "ring"] "how_many_blocks" (defScope zaw) (He.fAd K ("how_many_blocks", none)) cdv A outer s H E).env (cxOf (L2.CX P w) P w K mg base ["shape", "pages", "ring"] "how_many_blocks" (defScope zaw) (He.fAd K ("how_many_blocks", none)) cdv A outer s H E).xe := passes_of rfl
  exact zr (s_asg (gv 0) (zec rfl (zao (zax (i := 1) hN) (zao (zax (i := 2) hN) (zdh)))))
    (zH (s_ret (zL zay (zL zay (zcC zeh) (gv 1)) (gv 2))))
theorem zmj : FnScope ["shape"] ["shape"] (defScope st_blocks) := ⟨rfl, rfl, rfl, by decide +kernel, rfl, by decide +kernel, by decide +kernel⟩
theorem zpG {p : Pm} (B : Bi mg) (O : OCl K p) (zbb : Cal P w K mg base "check_shape" 2 1 (zba p)) (zcz : Cal P w K mg base "how_many_blocks" 1 1 zcb) {fd : FuncData} (F : FunD K "blocks" "blocks" (defArgs st_blocks) (defBody st_blocks) (defScope st_blocks) [] [] (He.fAd K ("blocks", none)) fd) (hm : mg "blocks" = some (.ref (He.fAd K ("blocks", none)))) : Cal P w K mg base "blocks" (2 + 1) 1 (zeE p) := by
  have bd : Binds K fd ["shape"] [] := F.bindsN fun _ _ _ _ _ _ us hl => match us, hl with | [_], _ => rfl
  refine zX F hm bd zmj rfl fun cdv A outer s H E hr => ?_
  have hN : (["shape"] : List Str).Nodup := zmj.nd
  have hu := hr.units
  have tk : Takes (cxOf (L2.CX P w) P w K mg base ["shape"] "blocks" (defScope st_blocks) (He.fAd K ("blocks", none)) cdv A outer s H E) (WD E) := takes_of rfl rfl rfl rfl
  have hp : PassesOwn (model P w) (cxOf (L2.CX P w) P w K mg base ["shape"] "blocks" (defScope st_blocks) (He.fAd K ("blocks", none)) cdv A outer s H E).A (cxOf (L2.CX P w) P w K mg base ["shape"] "blocks" (defScope st_blocks) (He.fAd K ("blocks", none)) cdv A outer s H E).env (cxOf (L2.CX P w) P w K mg base ["shape"] "blocks" (defScope st_blocks) (He.fAd K ("blocks", none)) cdv A outer s H E).xe := passes_of rfl
  exact zr (zbr (g_c zbb tk (hr.mono (by omega)) (za (gv 0) (zf))))
    (zH (s_ret (g_c zcz tk (hr.mono (by omega)) (za (gv 0) (zf)))))
theorem zi5 : FnScope ["shape"] ["shape"] (defScope zby) := ⟨rfl, rfl, rfl, by decide +kernel, rfl, by decide +kernel, by decide +kernel⟩
theorem zmp {p : Pm} (B : Bi mg) (O : OCl K p) (ze9 : CTI K mg "NEVER_WRITTEN" (List.replicate 128 (0 : Int))) (zfr : Cal P w K mg base "blocks" 3 1 (zeE p)) {fd : FuncData} (F : FunD K "blank_disk" "blank_disk" (defArgs zby) (defBody zby) (defScope zby) [] [] (He.fAd K ("blank_disk", none)) fd) (hm : mg "blank_disk" = some (.ref (He.fAd K ("blank_disk", none)))) : Cal P w K mg base "blank_disk" (3 + 1) 1 (zeV p) := by
  have bd : Binds K fd ["shape"] [] := F.bindsN fun _ _ _ _ _ _ us hl => match us, hl with | [_], _ => rfl
  refine zX F hm bd zi5 rfl fun cdv A outer s H E hr => ?_
  have hN : (["shape"] : List Str).Nodup := zi5.nd
  have hu := hr.units
  have tk : Takes (cxOf (L2.CX P w) P w K mg base ["shape"] "blank_disk" (defScope zby) (He.fAd K ("blank_disk", none)) cdv A outer s H E) (WD E) := takes_of rfl rfl rfl rfl
  have hp : PassesOwn (model P w) (cxOf (L2.CX P w) P w K mg base ["shape"] "blank_disk" (defScope zby) (He.fAd K ("blank_disk", none)) cdv A outer s H E).A (cxOf (L2.CX P w) P w K mg base ["shape"] "blank_disk" (defScope zby) (He.fAd K ("blank_disk", none)) cdv A outer s H E).env (cxOf (L2.CX P w) P w K mg base ["shape"] "blank_disk" (defScope zby) (He.fAd K ("blank_disk", none)) cdv A outer s H E).xe := passes_of rfl
  exact zH (s_ret (zL zcu (zF (za ((zre (zs := (List.replicate 128 (0 : Int))) ze9)) (zf))) (g_c zfr tk (hr.mono (by omega)) (za (gv 0) (zf)))))
theorem zgJ : FnScope ["number"] ["number"] (defScope zaO) := ⟨rfl, rfl, rfl, by decide +kernel, rfl, by decide +kernel, by decide +kernel⟩
theorem zkv (B : Bi mg) (zeh : CI mg "HEADS" 2) {fd : FuncData} (F : FunD K "place_of_page" "place_of_page" (defArgs zaO) (defBody zaO) (defScope zaO) [] [] (He.fAd K ("place_of_page", none)) fd) (hm : mg "place_of_page" = some (.ref (He.fAd K ("place_of_page", none)))) : Cal P w K mg base "place_of_page" (0 + 1) 1 zeW := by
  have bd : Binds K fd ["number"] [] := F.bindsN fun _ _ _ _ _ _ us hl => match us, hl with | [_], _ => rfl
  refine zX F hm bd zgJ rfl fun cdv A outer s H E hr => ?_
  have hN : (["number"] : List Str).Nodup := zgJ.nd
  have hu := hr.units
  have tk : Takes (cxOf (L2.CX P w) P w K mg base ["number"] "place_of_page" (defScope zaO) (He.fAd K ("place_of_page", none)) cdv A outer s H E) (WD E) := takes_of rfl rfl rfl rfl
  have hp : PassesOwn (model P w) (cxOf (L2.CX P w) P w K mg base ["number"] "place_of_page" (defScope zaO) (He.fAd K ("place_of_page", none)) cdv A outer s H E).A (cxOf (L2.CX P w) P w K mg base ["number"] "place_of_page" (defScope zaO) (He.fAd K ("place_of_page", none)) cdv A outer s H E).env (cxOf (L2.CX P w) P w K mg base ["number"] "place_of_page" (defScope zaO) (He.fAd K ("place_of_page", none)) cdv A outer s H E).xe := passes_of rfl
  exact zH (s_ret (zL zay (zcC zeh) (gv 0)))
theorem zi6 : FnScope ["shape", "number"] ["shape", "number"] (defScope zbz) := ⟨rfl, rfl, rfl, by decide +kernel, rfl, by decide +kernel, by decide +kernel⟩
theorem zmq {p : Pm} (B : Bi mg) (O : OCl K p) (zbb : Cal P w K mg base "check_shape" 2 1 (zba p)) (zbm : Cal P w K mg base "is_integer" 1 3 za3) (zfa : Cal P w K mg base "place_of_page" 1 1 zeW) (err_BadNumber : zeC K mg "BadNumber" (p.cA "BadNumber")) {fd : FuncData} (F : FunD K "page_place" "page_place" (defArgs zbz) (defBody zbz) (defScope zbz) [] [] (He.fAd K ("page_place", none)) fd) (hm : mg "page_place" = some (.ref (He.fAd K ("page_place", none)))) : Cal P w K mg base "page_place" (2 + 1) 2 (zeY p) := by
  have bd : Binds K fd ["shape", "number"] [] := F.bindsN fun _ _ _ _ _ _ us hl => match us, hl with | [_, _], _ => rfl
  refine zX F hm bd zi6 rfl fun cdv A outer s H E hr => ?_
  have hN : (["shape", "number"] : List Str).Nodup := zi6.nd
  have hu := hr.units
  have tk : Takes (cxOf (L2.CX P w) P w K mg base ["shape", "number"] "page_place" (defScope zbz) (He.fAd K ("page_place", none)) cdv A outer s H E) (WD E) := takes_of rfl rfl rfl rfl
  have hp : PassesOwn (model P w) (cxOf (L2.CX P w) P w K mg base ["shape", "number"] "page_place" (defScope zbz) (He.fAd K ("page_place", none)) cdv A outer s H E).A (cxOf (L2.CX P w) P w K mg base ["shape", "number"] "page_place" (defScope zbz) (He.fAd K ("page_place", none)) cdv A outer s H E).env (cxOf (L2.CX P w) P w K mg base ["shape", "number"] "page_place" (defScope zbz) (He.fAd K ("page_place", none)) cdv A outer s H E).xe := passes_of rfl
  exact zr (zbr (g_c zbb tk (hr.mono (by omega)) (za (gv 0) (zf))))
    (zr (s_if (zcP (zeA (g_c zbm tk (hr.mono (by omega)) (za (gv 1) (za (zp) (za (zL zeR (zcf zbo (gv 0) (zp)) (zp)) (zf)))))))
    (zH (zhQ err_BadNumber tk))
    (zbq))
    (zH (s_ret (g_c zfa tk (hr.mono (by omega)) (za (gv 1) (zf))))))
theorem zgK : FnScope ["shape", "number", "pages", "ring"] ["shape", "number"] (defScope zaP) := ⟨rfl, rfl, rfl, by decide +kernel, rfl, by decide +kernel, by decide +kernel⟩
theorem zkw (B : Bi mg) (zeh : CI mg "HEADS" 2) {fd : FuncData} (F : FunD K "place_in_ring" "place_in_ring" (defArgs zaP) (defBody zaP) (defScope zaP) [] [] (He.fAd K ("place_in_ring", none)) fd) (hm : mg "place_in_ring" = some (.ref (He.fAd K ("place_in_ring", none)))) : Cal P w K mg base "place_in_ring" (0 + 1) 2 zeZ := by
  have bd : Binds K fd ["shape", "number"] [] := F.bindsN fun _ _ _ _ _ _ us hl => match us, hl with | [_, _], _ => rfl
  refine zX F hm bd zgK rfl fun cdv A outer s H E hr => ?_
  have hN : (["shape", "number", "pages", "ring"] : List Str).Nodup := zgK.nd
  have hu := hr.units
  have tk : Takes (cxOf (L2.CX P w) P w K mg base ["shape", "number", "pages", "ring"] "place_in_ring" (defScope zaP) (He.fAd K ("place_in_ring", none)) cdv A outer s H E) (WD E) := takes_of rfl rfl rfl rfl
  have hp : PassesOwn (model P w) (cxOf (L2.CX P w) P w K mg base ["shape", "number", "pages", "ring"] "place_in_ring" (defScope zaP) (He.fAd K ("place_in_ring", none)) cdv A outer s H E).A (cxOf (L2.CX P w) P w K mg base ["shape", "number", "pages", "ring"] "place_in_ring" (defScope zaP) (He.fAd K ("place_in_ring", none)) cdv A outer s H E).env (cxOf (L2.CX P w) P w K mg base ["shape", "number", "pages", "ring"] "place_in_ring" (defScope zaP) (He.fAd K ("place_in_ring", none)) cdv A outer s H E).xe := passes_of rfl
  exact zr (s_asg (gv 0) (zec rfl (zao (zax (i := 2) hN) (zao (zax (i := 3) hN) (zdh)))))
    (zH (s_ret (zL zay (zL zay (zcC zeh) (gv 2)) (zL zgb (gv 1) (gv 3)))))
theorem zi7 : FnScope ["shape", "number"] ["shape", "number"] (defScope zbA) := ⟨rfl, rfl, rfl, by decide +kernel, rfl, by decide +kernel, by decide +kernel⟩
theorem zmr {p : Pm} (B : Bi mg) (O : OCl K p) (zbb : Cal P w K mg base "check_shape" 2 1 (zba p)) (zbm : Cal P w K mg base "is_integer" 1 3 za3) (zfb : Cal P w K mg base "place_in_ring" 1 2 zeZ) (err_BadNumber : zeC K mg "BadNumber" (p.cA "BadNumber")) {fd : FuncData} (F : FunD K "ring_place" "ring_place" (defArgs zbA) (defBody zbA) (defScope zbA) [] [] (He.fAd K ("ring_place", none)) fd) (hm : mg "ring_place" = some (.ref (He.fAd K ("ring_place", none)))) : Cal P w K mg base "ring_place" (2 + 1) 2 (ze1 p) := by
  have bd : Binds K fd ["shape", "number"] [] := F.bindsN fun _ _ _ _ _ _ us hl => match us, hl with | [_, _], _ => rfl
  refine zX F hm bd zi7 rfl fun cdv A outer s H E hr => ?_
  have hN : (["shape", "number"] : List Str).Nodup := zi7.nd
  have hu := hr.units
  have tk : Takes (cxOf (L2.CX P w) P w K mg base ["shape", "number"] "ring_place" (defScope zbA) (He.fAd K ("ring_place", none)) cdv A outer s H E) (WD E) := takes_of rfl rfl rfl rfl
  have hp : PassesOwn (model P w) (cxOf (L2.CX P w) P w K mg base ["shape", "number"] "ring_place" (defScope zbA) (He.fAd K ("ring_place", none)) cdv A outer s H E).A (cxOf (L2.CX P w) P w K mg base ["shape", "number"] "ring_place" (defScope zbA) (He.fAd K ("ring_place", none)) cdv A outer s H E).env (cxOf (L2.CX P w) P w K mg base ["shape", "number"] "ring_place" (defScope zbA) (He.fAd K ("ring_place", none)) cdv A outer s H E).xe := passes_of rfl
  exact zr (zbr (g_c zbb tk (hr.mono (by omega)) (za (gv 0) (zf))))
    (zr (s_if (zcP (zeA (g_c zbm tk (hr.mono (by omega)) (za (gv 1) (za (zp) (za (zL zeR (zcf zbo (gv 0) (zp)) (zp)) (zf)))))))
    (zH (zhQ err_BadNumber tk))
    (zbq))
    (zH (s_ret (g_c zfb tk (hr.mono (by omega)) (za (gv 0) (za (gv 1) (zf)))))))
theorem zjO : FnScope ["value", "least", "most", "byte"] ["value", "least", "most"] (defScope zaZ) := ⟨rfl, rfl, rfl, by decide +kernel, rfl, by decide +kernel, by decide +kernel⟩
theorem znA (B : Bi mg) (zar : Cal P w K mg base "is_tuple_of" 1 3 zaq) {fd : FuncData} (F : FunD K "are_bytes" "are_bytes" (defArgs zaZ) (defBody zaZ) (defScope zaZ) [] [] (He.fAd K ("are_bytes", none)) fd) (hm : mg "are_bytes" = some (.ref (He.fAd K ("are_bytes", none)))) : Cal P w K mg base "are_bytes" (1 + 1) 3 zcN := by
  have bd : Binds K fd ["value", "least", "most"] [] := F.bindsN fun _ _ _ _ _ _ us hl => match us, hl with | [_, _, _], _ => rfl
  refine zX F hm bd zjO rfl fun cdv A outer s H E hr => ?_
  have hN : (["value", "least", "most", "byte"] : List Str).Nodup := zjO.nd
  have hu := hr.units
  have tk : Takes (cxOf (L2.CX P w) P w K mg base ["value", "least", "most", "byte"] "are_bytes" (defScope zaZ) (He.fAd K ("are_bytes", none)) cdv A outer s H E) (WD E) := takes_of rfl rfl rfl rfl
  have hp : PassesOwn (model P w) (cxOf (L2.CX P w) P w K mg base ["value", "least", "most", "byte"] "are_bytes" (defScope zaZ) (He.fAd K ("are_bytes", none)) cdv A outer s H E).A (cxOf (L2.CX P w) P w K mg base ["value", "least", "most", "byte"] "are_bytes" (defScope zaZ) (He.fAd K ("are_bytes", none)) cdv A outer s H E).env (cxOf (L2.CX P w) P w K mg base ["value", "least", "most", "byte"] "are_bytes" (defScope zaZ) (He.fAd K ("are_bytes", none)) cdv A outer s H E).xe := passes_of rfl
  exact zr (s_if (zcP (zeA (g_c zar tk (hr.mono (by omega)) (za (gv 0) (za (gv 1) (za (gv 2) (zf)))))))
    (zH (s_ret (zei)))
    (zbq))
    (zr (zga hp rfl (zg0 (gv 0)) (zax (i := 3) hN)
    (zH (s_if (zoC (zkG (zcP (zeA (zkJ .int (gv 3) B.isinstance B.int zeo))) (zkG (zeA (zkJ .bool (gv 3) B.isinstance B.bool zn5)) (zkG (zce zug (gv 3) (zp) (by rfl)) (zm0 (zce zm4 (gv 3) (zp) (by rfl)))))))
    (zH (s_ret (zei)))
    (zbq))))
    (zH (s_ret (zei))))
theorem zkc : FnScope ["value"] ["value"] (defScope zcc) := ⟨rfl, rfl, rfl, by decide +kernel, rfl, by decide +kernel, by decide +kernel⟩
theorem znV (B : Bi mg) (zex : CI mg "BLOCK_BYTES" 128) (zdL : Cal P w K mg base "are_bytes" 2 3 zcN) {fd : FuncData} (F : FunD K "is_block" "is_block" (defArgs zcc) (defBody zcc) (defScope zcc) [] [] (He.fAd K ("is_block", none)) fd) (hm : mg "is_block" = some (.ref (He.fAd K ("is_block", none)))) : Cal P w K mg base "is_block" (2 + 1) 1 zee := by
  have bd : Binds K fd ["value"] [] := F.bindsN fun _ _ _ _ _ _ us hl => match us, hl with | [_], _ => rfl
  refine zX F hm bd zkc rfl fun cdv A outer s H E hr => ?_
  have hN : (["value"] : List Str).Nodup := zkc.nd
  have hu := hr.units
  have tk : Takes (cxOf (L2.CX P w) P w K mg base ["value"] "is_block" (defScope zcc) (He.fAd K ("is_block", none)) cdv A outer s H E) (WD E) := takes_of rfl rfl rfl rfl
  have hp : PassesOwn (model P w) (cxOf (L2.CX P w) P w K mg base ["value"] "is_block" (defScope zcc) (He.fAd K ("is_block", none)) cdv A outer s H E).A (cxOf (L2.CX P w) P w K mg base ["value"] "is_block" (defScope zcc) (He.fAd K ("is_block", none)) cdv A outer s H E).env (cxOf (L2.CX P w) P w K mg base ["value"] "is_block" (defScope zcc) (He.fAd K ("is_block", none)) cdv A outer s H E).xe := passes_of rfl
  exact zH (s_ret (g_c zdL tk (hr.mono (by omega)) (za (gv 0) (za (zcC zex) (za (zcC zex) (zf))))))
theorem zh7 : FnScope ["shape", "image", "many", "index", "block"] ["shape", "image"] (defScope zbe) := ⟨rfl, rfl, rfl, by decide +kernel, rfl, by decide +kernel, by decide +kernel⟩
theorem zlS {p : Pm} (B : Bi mg) (O : OCl K p) (zcz : Cal P w K mg base "how_many_blocks" 1 1 zcb) (zar : Cal P w K mg base "is_tuple_of" 1 3 zaq) (ziI : Cal P w K mg base "is_block" 3 1 zee) (ef_BadImage : zfj P w K mg base "BadImage" (p.cA "BadImage") "index") {fd : FuncData} (F : FunD K "check_image" "check_image" (defArgs zbe) (defBody zbe) (defScope zbe) [] [] (He.fAd K ("check_image", none)) fd) (hm : mg "check_image" = some (.ref (He.fAd K ("check_image", none)))) : Cal P w K mg base "check_image" (3 + 1) 2 (zc3 p) := by
  have bd : Binds K fd ["shape", "image"] [] := F.bindsN fun _ _ _ _ _ _ us hl => match us, hl with | [_, _], _ => rfl
  refine zX F hm bd zh7 rfl fun cdv A outer s H E hr => ?_
  have hN : (["shape", "image", "many", "index", "block"] : List Str).Nodup := zh7.nd
  have hu := hr.units
  have tk : Takes (cxOf (L2.CX P w) P w K mg base ["shape", "image", "many", "index", "block"] "check_image" (defScope zbe) (He.fAd K ("check_image", none)) cdv A outer s H E) (WD E) := takes_of rfl rfl rfl rfl
  have hp : PassesOwn (model P w) (cxOf (L2.CX P w) P w K mg base ["shape", "image", "many", "index", "block"] "check_image" (defScope zbe) (He.fAd K ("check_image", none)) cdv A outer s H E).A (cxOf (L2.CX P w) P w K mg base ["shape", "image", "many", "index", "block"] "check_image" (defScope zbe) (He.fAd K ("check_image", none)) cdv A outer s H E).env (cxOf (L2.CX P w) P w K mg base ["shape", "image", "many", "index", "block"] "check_image" (defScope zbe) (He.fAd K ("check_image", none)) cdv A outer s H E).xe := passes_of rfl
  exact zr (z9 (i := 2) hN (g_c zcz tk (hr.mono (by omega)) (za (gv 0) (zf))))
    (zr (s_if (zcP (zeA (g_c zar tk (hr.mono (by omega)) (za (gv 1) (za (gv 2) (za (gv 2) (zf)))))))
    (zH (zd6 ef_BadImage tk (hr.mono (by omega)) (za (zcr) (zf)) zdp))
    (zbq))
    (zH (zga hp rfl (znb B.enumerate (gv 1)) (zec rfl (zao (zax (i := 3) hN) (zao (zax (i := 4) hN) (zdh))))
    (zH (s_if (zcP (zeA (g_c ziI tk (hr.mono (by omega)) (za (gv 4) (zf)))))
    (zH (zd6 ef_BadImage tk (hr.mono (by omega)) (za (gv 3) (zf)) zdp))
    (zbq))))))
theorem zi8 : FnScope ["shape", "image"] ["shape", "image"] (defScope zbB) := ⟨rfl, rfl, rfl, by decide +kernel, rfl, by decide +kernel, by decide +kernel⟩
theorem zms {p : Pm} (B : Bi mg) (O : OCl K p) (zbb : Cal P w K mg base "check_shape" 2 1 (zba p)) (zfX : Cal P w K mg base "check_image" 4 2 (zc3 p)) {fd : FuncData} (F : FunD K "check_disk" "check_disk" (defArgs zbB) (defBody zbB) (defScope zbB) [] [] (He.fAd K ("check_disk", none)) fd) (hm : mg "check_disk" = some (.ref (He.fAd K ("check_disk", none)))) : Cal P w K mg base "check_disk" (4 + 1) 2 (zch p) := by
  have bd : Binds K fd ["shape", "image"] [] := F.bindsN fun _ _ _ _ _ _ us hl => match us, hl with | [_, _], _ => rfl
  refine zX F hm bd zi8 rfl fun cdv A outer s H E hr => ?_
  have hN : (["shape", "image"] : List Str).Nodup := zi8.nd
  have hu := hr.units
  have tk : Takes (cxOf (L2.CX P w) P w K mg base ["shape", "image"] "check_disk" (defScope zbB) (He.fAd K ("check_disk", none)) cdv A outer s H E) (WD E) := takes_of rfl rfl rfl rfl
  have hp : PassesOwn (model P w) (cxOf (L2.CX P w) P w K mg base ["shape", "image"] "check_disk" (defScope zbB) (He.fAd K ("check_disk", none)) cdv A outer s H E).A (cxOf (L2.CX P w) P w K mg base ["shape", "image"] "check_disk" (defScope zbB) (He.fAd K ("check_disk", none)) cdv A outer s H E).env (cxOf (L2.CX P w) P w K mg base ["shape", "image"] "check_disk" (defScope zbB) (He.fAd K ("check_disk", none)) cdv A outer s H E).xe := passes_of rfl
  exact zr (zbr (g_c zbb tk (hr.mono (by omega)) (za (gv 0) (zf))))
    (zH (zbr (g_c zfX tk (hr.mono (by omega)) (za (gv 0) (za (gv 1) (zf))))))
theorem zi9 : FnScope ["row", "at", "many", "value", "byte"] ["row", "at", "many"] (defScope zbC) := ⟨rfl, rfl, rfl, by decide +kernel, rfl, by decide +kernel, by decide +kernel⟩
theorem zmt (B : Bi mg) {fd : FuncData} (F : FunD K "read_fixed" "read_fixed" (defArgs zbC) (defBody zbC) (defScope zbC) [] [] (He.fAd K ("read_fixed", none)) fd) (hm : mg "read_fixed" = some (.ref (He.fAd K ("read_fixed", none)))) : Cal P w K mg base "read_fixed" (0 + 1) 3 zbH := by
  have bd : Binds K fd ["row", "at", "many"] [] := F.bindsN fun _ _ _ _ _ _ us hl => match us, hl with | [_, _, _], _ => rfl
  refine zX F hm bd zi9 rfl fun cdv A outer s H E hr => ?_
  have hN : (["row", "at", "many", "value", "byte"] : List Str).Nodup := zi9.nd
  have hu := hr.units
  have tk : Takes (cxOf (L2.CX P w) P w K mg base ["row", "at", "many", "value", "byte"] "read_fixed" (defScope zbC) (He.fAd K ("read_fixed", none)) cdv A outer s H E) (WD E) := takes_of rfl rfl rfl rfl
  have hp : PassesOwn (model P w) (cxOf (L2.CX P w) P w K mg base ["row", "at", "many", "value", "byte"] "read_fixed" (defScope zbC) (He.fAd K ("read_fixed", none)) cdv A outer s H E).A (cxOf (L2.CX P w) P w K mg base ["row", "at", "many", "value", "byte"] "read_fixed" (defScope zbC) (He.fAd K ("read_fixed", none)) cdv A outer s H E).env (cxOf (L2.CX P w) P w K mg base ["row", "at", "many", "value", "byte"] "read_fixed" (defScope zbC) (He.fAd K ("read_fixed", none)) cdv A outer s H E).xe := passes_of rfl
  exact zr (z9 (i := 3) hN (zp))
    (zr (zga hp rfl (zg0 (zcn zcE (gv 0) (zaY (gv 1)) (zaY (zL zay (gv 1) (gv 2))))) (zax (i := 4) hN)
    (zH (z9 (i := 3) hN (zL zay (zL zcu (gv 3) (zp)) (gv 4)))))
    (zH (s_ret (gv 3))))
theorem zh8 : FnScope ["block"] ["block"] (defScope zbf) := ⟨rfl, rfl, rfl, by decide +kernel, rfl, by decide +kernel, by decide +kernel⟩
theorem zlT (B : Bi mg) (zey : CI mg "STAMP_BYTES" 4) (zfc : CI mg "LAST_STAMP_AT" 124) (zbJ : Cal P w K mg base "read_fixed" 1 3 zbH) {fd : FuncData} (F : FunD K "read_stamps" "read_stamps" (defArgs zbf) (defBody zbf) (defScope zbf) [] [] (He.fAd K ("read_stamps", none)) fd) (hm : mg "read_stamps" = some (.ref (He.fAd K ("read_stamps", none)))) : Cal P w K mg base "read_stamps" (1 + 1) 1 zcI := by
  have bd : Binds K fd ["block"] [] := F.bindsN fun _ _ _ _ _ _ us hl => match us, hl with | [_], _ => rfl
  refine zX F hm bd zh8 rfl fun cdv A outer s H E hr => ?_
  have hN : (["block"] : List Str).Nodup := zh8.nd
  have hu := hr.units
  have tk : Takes (cxOf (L2.CX P w) P w K mg base ["block"] "read_stamps" (defScope zbf) (He.fAd K ("read_stamps", none)) cdv A outer s H E) (WD E) := takes_of rfl rfl rfl rfl
  have hp : PassesOwn (model P w) (cxOf (L2.CX P w) P w K mg base ["block"] "read_stamps" (defScope zbf) (He.fAd K ("read_stamps", none)) cdv A outer s H E).A (cxOf (L2.CX P w) P w K mg base ["block"] "read_stamps" (defScope zbf) (He.fAd K ("read_stamps", none)) cdv A outer s H E).env (cxOf (L2.CX P w) P w K mg base ["block"] "read_stamps" (defScope zbf) (He.fAd K ("read_stamps", none)) cdv A outer s H E).xe := passes_of rfl
  exact zH (s_ret (zF (za (g_c zbJ tk (hr.mono (by omega)) (za (gv 0) (za (zp) (za (zcC zey) (zf))))) (za (g_c zbJ tk (hr.mono (by omega)) (za (gv 0) (za (zcC zfc) (za (zcC zey) (zf))))) (zf)))))
theorem zhx : FnScope ["image", "block"] ["image"] (defScope zaL) := ⟨rfl, rfl, rfl, by decide +kernel, rfl, by decide +kernel, by decide +kernel⟩
theorem zlj (B : Bi mg) (zc5 : Cal P w K mg base "read_stamps" 2 1 zcI) {fd : FuncData} (F : FunD K "stamp_behind" "stamp_behind" (defArgs zaL) (defBody zaL) (defScope zaL) [] [] (He.fAd K ("stamp_behind", none)) fd) (hm : mg "stamp_behind" = some (.ref (He.fAd K ("stamp_behind", none)))) : Cal P w K mg base "stamp_behind" (2 + 1) 1 zdm := by
  have bd : Binds K fd ["image"] [] := F.bindsN fun _ _ _ _ _ _ us hl => match us, hl with | [_], _ => rfl
  refine zX F hm bd zhx rfl fun cdv A outer s H E hr => ?_
  have hN : (["image", "block"] : List Str).Nodup := zhx.nd
  have hu := hr.units
  have tk : Takes (cxOf (L2.CX P w) P w K mg base ["image", "block"] "stamp_behind" (defScope zaL) (He.fAd K ("stamp_behind", none)) cdv A outer s H E) (WD E) := takes_of rfl rfl rfl rfl
  have hp : PassesOwn (model P w) (cxOf (L2.CX P w) P w K mg base ["image", "block"] "stamp_behind" (defScope zaL) (He.fAd K ("stamp_behind", none)) cdv A outer s H E).A (cxOf (L2.CX P w) P w K mg base ["image", "block"] "stamp_behind" (defScope zaL) (He.fAd K ("stamp_behind", none)) cdv A outer s H E).env (cxOf (L2.CX P w) P w K mg base ["image", "block"] "stamp_behind" (defScope zaL) (He.fAd K ("stamp_behind", none)) cdv A outer s H E).xe := passes_of rfl
  exact zH (s_ret (zL zay (zp) (zfM (zr9 rfl hu) B.max zm6 (za (zjv (own := [(("block" : Str), 1)]) rfl hN (zg0 (gv 0)) (blkOk_by (by exact (show blkC (["image", "block"] : List Str) (defScope zaL) _ [(("block" : Str), 1)] = true by decide +kernel))) (fun _ _ _ _ _ => zen (i := 1) hN (by decide)) (fun _ _ _ _ _ => zfz) (fun _ _ _ _ _ => zfM (zso rfl hu) B.max zm6 (za (g_c zc5 tk0 (hr.mono (by omega)) (za (gv 1) (zf))) (zf)))) (zf)))))
theorem zja : FnScope ["shape", "image", "stamp"] ["shape", "image"] (defScope zbD) := ⟨rfl, rfl, rfl, by decide +kernel, rfl, by decide +kernel, by decide +kernel⟩
theorem zmu {p : Pm} (B : Bi mg) (O : OCl K p) (zdd : CI mg "GREATEST" 4294967295) (zcy : Cal P w K mg base "check_disk" 5 2 (zch p)) (zfs : Cal P w K mg base "stamp_behind" 3 1 zdm) (ef_TooMany : zfj P w K mg base "TooMany" (p.cA "TooMany") "most") {fd : FuncData} (F : FunD K "next_stamp" "next_stamp" (defArgs zbD) (defBody zbD) (defScope zbD) [] [] (He.fAd K ("next_stamp", none)) fd) (hm : mg "next_stamp" = some (.ref (He.fAd K ("next_stamp", none)))) : Cal P w K mg base "next_stamp" (5 + 1) 2 (ze3 p) := by
  have bd : Binds K fd ["shape", "image"] [] := F.bindsN fun _ _ _ _ _ _ us hl => match us, hl with | [_, _], _ => rfl
  refine zX F hm bd zja rfl fun cdv A outer s H E hr => ?_
  have hN : (["shape", "image", "stamp"] : List Str).Nodup := zja.nd
  have hu := hr.units
  have tk : Takes (cxOf (L2.CX P w) P w K mg base ["shape", "image", "stamp"] "next_stamp" (defScope zbD) (He.fAd K ("next_stamp", none)) cdv A outer s H E) (WD E) := takes_of rfl rfl rfl rfl
  have hp : PassesOwn (model P w) (cxOf (L2.CX P w) P w K mg base ["shape", "image", "stamp"] "next_stamp" (defScope zbD) (He.fAd K ("next_stamp", none)) cdv A outer s H E).A (cxOf (L2.CX P w) P w K mg base ["shape", "image", "stamp"] "next_stamp" (defScope zbD) (He.fAd K ("next_stamp", none)) cdv A outer s H E).env (cxOf (L2.CX P w) P w K mg base ["shape", "image", "stamp"] "next_stamp" (defScope zbD) (He.fAd K ("next_stamp", none)) cdv A outer s H E).xe := passes_of rfl
  exact zr (zbr (g_c zcy tk (hr.mono (by omega)) (za (gv 0) (za (gv 1) (zf)))))
    (zr (z9 (i := 2) hN (g_c zfs tk (hr.mono (by omega)) (za (gv 1) (zf))))
    (zr (s_if (zce zm4 (gv 2) (zcC zdd) (by rfl))
    (zH (zd6 ef_TooMany tk (hr.mono (by omega)) (za (zcC zdd) (zf)) zdp))
    (zbq))
    (zH (s_ret (gv 2)))))
theorem zlk : FnScope ["row", "rest", "byte", "ahead"] ["row"] (defScope zcp) := ⟨rfl, rfl, rfl, by decide +kernel, rfl, by decide +kernel, by decide +kernel⟩
theorem zo7 (B : Bi mg) {fd : FuncData} (F : FunD K "rest_of" "rest_of" (defArgs zcp) (defBody zcp) (defScope zcp) [] [] (He.fAd K ("rest_of", none)) fd) (hm : mg "rest_of" = some (.ref (He.fAd K ("rest_of", none)))) : Cal P w K mg base "rest_of" (0 + 1) 1 zfD := by
  have bd : Binds K fd ["row"] [] := F.bindsN fun _ _ _ _ _ _ us hl => match us, hl with | [_], _ => rfl
  refine zX F hm bd zlk rfl fun cdv A outer s H E hr => ?_
  have hN : (["row", "rest", "byte", "ahead"] : List Str).Nodup := zlk.nd
  have hu := hr.units
  have tk : Takes (cxOf (L2.CX P w) P w K mg base ["row", "rest", "byte", "ahead"] "rest_of" (defScope zcp) (He.fAd K ("rest_of", none)) cdv A outer s H E) (WD E) := takes_of rfl rfl rfl rfl
  have hp : PassesOwn (model P w) (cxOf (L2.CX P w) P w K mg base ["row", "rest", "byte", "ahead"] "rest_of" (defScope zcp) (He.fAd K ("rest_of", none)) cdv A outer s H E).A (cxOf (L2.CX P w) P w K mg base ["row", "rest", "byte", "ahead"] "rest_of" (defScope zcp) (He.fAd K ("rest_of", none)) cdv A outer s H E).env (cxOf (L2.CX P w) P w K mg base ["row", "rest", "byte", "ahead"] "rest_of" (defScope zcp) (He.fAd K ("rest_of", none)) cdv A outer s H E).xe := passes_of rfl
  exact zr (z9 (i := 1) hN (zp))
    (zr (zga hp rfl (zg0 (gv 0)) (zax (i := 2) hN)
    (zr (z9 (i := 3) hN (zL zfv (zL zqq (gv 1) (zp)) (gv 2)))
    (zr (z9 (i := 3) hN (zL zfv (gv 3) (zL zqq (gv 3) (zp))))
    (zH (z9 (i := 1) hN (zL zsV (zL zfv (zL zfv (zL zfv (zL zoG (gv 1) (zp)) (zL zoG (gv 3) (zp))) (zL zoG (gv 3) (zp))) (gv 3)) (zp)))))))
    (zH (s_ret (gv 1))))
theorem zkd : FnScope ["block", "first", "last", "length"] ["block"] (defScope zcd) := ⟨rfl, rfl, rfl, by decide +kernel, rfl, by decide +kernel, by decide +kernel⟩
theorem znW (B : Bi mg) (zgm : CT K mg "KINDS" [("part" : Str), ("page" : Str), ("head" : Str), ("blank" : Str)]) (za8 : CI mg "LONGEST_CONTENT" 96) (zcT : CI mg "CONTENT_AT" 18) (zfd : CI mg "CHECK_AT" 122) (zfY : CI mg "CHECK_BYTES" 2) (zc5 : Cal P w K mg base "read_stamps" 2 1 zcI) (zjP : Cal P w K mg base "rest_of" 1 1 zfD) (zbJ : Cal P w K mg base "read_fixed" 1 3 zbH) {fd : FuncData} (F : FunD K "is_whole" "is_whole" (defArgs zcd) (defBody zcd) (defScope zcd) [] [] (He.fAd K ("is_whole", none)) fd) (hm : mg "is_whole" = some (.ref (He.fAd K ("is_whole", none)))) : Cal P w K mg base "is_whole" (2 + 1) 1 zda := by
  have bd : Binds K fd ["block"] [] := F.bindsN fun _ _ _ _ _ _ us hl => match us, hl with | [_], _ => rfl
  refine zX F hm bd zkd rfl fun cdv A outer s H E hr => ?_
  have hN : (["block", "first", "last", "length"] : List Str).Nodup := zkd.nd
  have hu := hr.units
  have tk : Takes (cxOf (L2.CX P w) P w K mg base ["block", "first", "last", "length"] "is_whole" (defScope zcd) (He.fAd K ("is_whole", none)) cdv A outer s H E) (WD E) := takes_of rfl rfl rfl rfl
  have hp : PassesOwn (model P w) (cxOf (L2.CX P w) P w K mg base ["block", "first", "last", "length"] "is_whole" (defScope zcd) (He.fAd K ("is_whole", none)) cdv A outer s H E).A (cxOf (L2.CX P w) P w K mg base ["block", "first", "last", "length"] "is_whole" (defScope zcd) (He.fAd K ("is_whole", none)) cdv A outer s H E).env (cxOf (L2.CX P w) P w K mg base ["block", "first", "last", "length"] "is_whole" (defScope zcd) (He.fAd K ("is_whole", none)) cdv A outer s H E).xe := passes_of rfl
  exact zr (s_asg (g_c zc5 tk (hr.mono (by omega)) (za (gv 0) (zf))) (zec rfl (zao (zax (i := 1) hN) (zao (zax (i := 2) hN) (zdh)))))
    (zr (z9 (i := 3) hN (zcf zbo (gv 0) (zp)))
    (zH (s_ret (zf9 (zkF (zkh hu) (gv 1) (gv 2) (by rfl)) (zf9 (zkF (zki hu) (gv 1) (zp) (by rfl)) (zf9 (zlr zkg zkg (zp) (zcf zbo (gv 0) (zp)) (zfM zg2 B.len zfA (za ((zm8 (zs := [("part" : Str), ("page" : Str), ("head" : Str), ("blank" : Str)]) zgm)) (zf))) (by with_unfolding_all rfl)) (zf9 (zkF zkg (gv 3) (zcC za8) (by rfl)) (zf9 (zoD (zfM (zpn rfl) B.any zpo (za (zcn zcE (gv 0) (zaY (zL zay (zcC zcT) (gv 3))) (zaY (zcC zfd))) (zf)))) (zmP (zkF (zkh hu) (g_c zjP tk (hr.mono (by omega)) (za (zcn zcE (gv 0) (zeb) (zaY (zcC zfd))) (zf))) (g_c zbJ tk (hr.mono (by omega)) (za (gv 0) (za (zcC zfd) (za (zcC zfY) (zf))))) (by rfl)))))))))))
theorem zjb : FnScope ["block", "content_end"] ["block"] (defScope zbE) := ⟨rfl, rfl, rfl, by decide +kernel, rfl, by decide +kernel, by decide +kernel⟩
theorem zmv (B : Bi mg) (zcT : CI mg "CONTENT_AT" 18) (zgm : CT K mg "KINDS" [("part" : Str), ("page" : Str), ("head" : Str), ("blank" : Str)]) (ziJ : Cal P w K mg base "is_whole" 3 1 zda) (zbJ : Cal P w K mg base "read_fixed" 1 3 zbH) {fd : FuncData} (F : FunD K "read_label" "read_label" (defArgs zbE) (defBody zbE) (defScope zbE) [] [] (He.fAd K ("read_label", none)) fd) (hm : mg "read_label" = some (.ref (He.fAd K ("read_label", none)))) : Cal P w K mg base "read_label" (3 + 1) 1 zcQ := by
  have bd : Binds K fd ["block"] [] := F.bindsN fun _ _ _ _ _ _ us hl => match us, hl with | [_], _ => rfl
  refine zX F hm bd zjb rfl fun cdv A outer s H E hr => ?_
  have hN : (["block", "content_end"] : List Str).Nodup := zjb.nd
  have hu := hr.units
  have tk : Takes (cxOf (L2.CX P w) P w K mg base ["block", "content_end"] "read_label" (defScope zbE) (He.fAd K ("read_label", none)) cdv A outer s H E) (WD E) := takes_of rfl rfl rfl rfl
  have hp : PassesOwn (model P w) (cxOf (L2.CX P w) P w K mg base ["block", "content_end"] "read_label" (defScope zbE) (He.fAd K ("read_label", none)) cdv A outer s H E).A (cxOf (L2.CX P w) P w K mg base ["block", "content_end"] "read_label" (defScope zbE) (He.fAd K ("read_label", none)) cdv A outer s H E).env (cxOf (L2.CX P w) P w K mg base ["block", "content_end"] "read_label" (defScope zbE) (He.fAd K ("read_label", none)) cdv A outer s H E).xe := passes_of rfl
  exact zr (s_if (zcP (zeA (g_c ziJ tk (hr.mono (by omega)) (za (gv 0) (zf)))))
    (zH (s_ret (zcr)))
    (zbq))
    (zr (z9 (i := 1) hN (zL zay (zcC zcT) (zcf zbo (gv 0) (zp))))
    (zH (s_ret (zF (za (zcf zbo ((zm8 (zs := [("part" : Str), ("page" : Str), ("head" : Str), ("blank" : Str)]) zgm)) (zL zeR (zcf zbo (gv 0) (zp)) (zp))) (za (zcf zbo (gv 0) (zp)) (za (zcf zbo (gv 0) (zp)) (za (g_c zbJ tk (hr.mono (by omega)) (za (gv 0) (za (zp) (za (zp) (zf))))) (za (g_c zbJ tk (hr.mono (by omega)) (za (gv 0) (za (zp) (za (zp) (zf))))) (za (g_c zbJ tk (hr.mono (by omega)) (za (gv 0) (za (zp) (za (zp) (zf))))) (za (zcn zcE (gv 0) (zaY (zcC zcT)) (zaY (gv 1))) (zf))))))))))))
theorem zh9 : FnScope ["image", "block"] ["image"] (defScope zaW) := ⟨rfl, rfl, rfl, by decide +kernel, rfl, by decide +kernel, by decide +kernel⟩
theorem zlU (B : Bi mg) (zgL : Cal P w K mg base "read_label" 4 1 zcQ) {fd : FuncData} (F : FunD K "read_labels" "read_labels" (defArgs zaW) (defBody zaW) (defScope zaW) [] [] (He.fAd K ("read_labels", none)) fd) (hm : mg "read_labels" = some (.ref (He.fAd K ("read_labels", none)))) : Cal P w K mg base "read_labels" (4 + 1) 1 zcK := by
  have bd : Binds K fd ["image"] [] := F.bindsN fun _ _ _ _ _ _ us hl => match us, hl with | [_], _ => rfl
  refine zX F hm bd zh9 rfl fun cdv A outer s H E hr => ?_
  have hN : (["image", "block"] : List Str).Nodup := zh9.nd
  have hu := hr.units
  have tk : Takes (cxOf (L2.CX P w) P w K mg base ["image", "block"] "read_labels" (defScope zaW) (He.fAd K ("read_labels", none)) cdv A outer s H E) (WD E) := takes_of rfl rfl rfl rfl
  have hp : PassesOwn (model P w) (cxOf (L2.CX P w) P w K mg base ["image", "block"] "read_labels" (defScope zaW) (He.fAd K ("read_labels", none)) cdv A outer s H E).A (cxOf (L2.CX P w) P w K mg base ["image", "block"] "read_labels" (defScope zaW) (He.fAd K ("read_labels", none)) cdv A outer s H E).env (cxOf (L2.CX P w) P w K mg base ["image", "block"] "read_labels" (defScope zaW) (He.fAd K ("read_labels", none)) cdv A outer s H E).xe := passes_of rfl
  exact zH (s_ret (zfh zlt B.tuple zig (za (zjv (own := [(("block" : Str), 1)]) rfl hN (zg0 (gv 0)) (blkOk_by (by exact (show blkC (["image", "block"] : List Str) (defScope zaW) _ [(("block" : Str), 1)] = true by decide +kernel))) (fun _ _ _ _ _ => zen (i := 1) hN (by decide)) (fun _ _ _ _ _ => zfz) (fun _ _ _ _ _ => g_c zgL tk0 (hr.mono (by omega)) (za (gv 1) (zf)))) (zf))))
theorem zhy : FnScope ["labels", "epochs", "label"] ["labels"] (defScope zaM) := ⟨rfl, rfl, rfl, by decide +kernel, rfl, by decide +kernel, by decide +kernel⟩
theorem zll (B : Bi mg) (zea : CT K mg "KINDS_WITH_EPOCH" [("part" : Str), ("page" : Str), ("head" : Str)]) {fd : FuncData} (F : FunD K "epoch_behind" "epoch_behind" (defArgs zaM) (defBody zaM) (defScope zaM) [] [] (He.fAd K ("epoch_behind", none)) fd) (hm : mg "epoch_behind" = some (.ref (He.fAd K ("epoch_behind", none)))) : Cal P w K mg base "epoch_behind" (0 + 1) 1 zdn := by
  have bd : Binds K fd ["labels"] [] := F.bindsN fun _ _ _ _ _ _ us hl => match us, hl with | [_], _ => rfl
  refine zX F hm bd zhy rfl fun cdv A outer s H E hr => ?_
  have hN : (["labels", "epochs", "label"] : List Str).Nodup := zhy.nd
  have hu := hr.units
  have tk : Takes (cxOf (L2.CX P w) P w K mg base ["labels", "epochs", "label"] "epoch_behind" (defScope zaM) (He.fAd K ("epoch_behind", none)) cdv A outer s H E) (WD E) := takes_of rfl rfl rfl rfl
  have hp : PassesOwn (model P w) (cxOf (L2.CX P w) P w K mg base ["labels", "epochs", "label"] "epoch_behind" (defScope zaM) (He.fAd K ("epoch_behind", none)) cdv A outer s H E).A (cxOf (L2.CX P w) P w K mg base ["labels", "epochs", "label"] "epoch_behind" (defScope zaM) (He.fAd K ("epoch_behind", none)) cdv A outer s H E).env (cxOf (L2.CX P w) P w K mg base ["labels", "epochs", "label"] "epoch_behind" (defScope zaM) (He.fAd K ("epoch_behind", none)) cdv A outer s H E).xe := passes_of rfl
  exact zr (zqU (i := 1) (own := [(("label" : Str), 2)]) rfl hN (zg0 (gv 0)) (blkOk_by (by exact (show blkC (["labels", "epochs", "label"] : List Str) (defScope zaM) _ [(("label" : Str), 2)] = true by decide +kernel))) (sw_true rfl rfl rfl (by decide +kernel)) (fun _ _ _ _ _ => zen (i := 2) hN (by decide)) (fun _ _ _ _ _ => zsU (zoC (zrT (zce zn3 (gv 2) (zcr) (by rfl)) (zqT (zce (ztg hu) (zcf zbo (gv 2) (zp)) ((zm8 (zs := [("part" : Str), ("page" : Str), ("head" : Str)]) zea)) (by rfl)))))) (fun _ _ _ _ _ => zcf zbo (gv 2) (zp)))
    (zH (s_ret (zL zay (zp) (zsm rfl hu B.max (gv 1)))))
theorem zjc : FnScope ["shape", "image", "epoch"] ["shape", "image"] (defScope zbF) := ⟨rfl, rfl, rfl, by decide +kernel, rfl, by decide +kernel, by decide +kernel⟩
theorem zmw {p : Pm} (B : Bi mg) (O : OCl K p) (zdd : CI mg "GREATEST" 4294967295) (zcy : Cal P w K mg base "check_disk" 5 2 (zch p)) (zc6 : Cal P w K mg base "read_labels" 5 1 zcK) (zft : Cal P w K mg base "epoch_behind" 1 1 zdn) (ef_TooMany : zfj P w K mg base "TooMany" (p.cA "TooMany") "most") {fd : FuncData} (F : FunD K "next_epoch" "next_epoch" (defArgs zbF) (defBody zbF) (defScope zbF) [] [] (He.fAd K ("next_epoch", none)) fd) (hm : mg "next_epoch" = some (.ref (He.fAd K ("next_epoch", none)))) : Cal P w K mg base "next_epoch" (5 + 1) 2 (ze7 p) := by
  have bd : Binds K fd ["shape", "image"] [] := F.bindsN fun _ _ _ _ _ _ us hl => match us, hl with | [_, _], _ => rfl
  refine zX F hm bd zjc rfl fun cdv A outer s H E hr => ?_
  have hN : (["shape", "image", "epoch"] : List Str).Nodup := zjc.nd
  have hu := hr.units
  have tk : Takes (cxOf (L2.CX P w) P w K mg base ["shape", "image", "epoch"] "next_epoch" (defScope zbF) (He.fAd K ("next_epoch", none)) cdv A outer s H E) (WD E) := takes_of rfl rfl rfl rfl
  have hp : PassesOwn (model P w) (cxOf (L2.CX P w) P w K mg base ["shape", "image", "epoch"] "next_epoch" (defScope zbF) (He.fAd K ("next_epoch", none)) cdv A outer s H E).A (cxOf (L2.CX P w) P w K mg base ["shape", "image", "epoch"] "next_epoch" (defScope zbF) (He.fAd K ("next_epoch", none)) cdv A outer s H E).env (cxOf (L2.CX P w) P w K mg base ["shape", "image", "epoch"] "next_epoch" (defScope zbF) (He.fAd K ("next_epoch", none)) cdv A outer s H E).xe := passes_of rfl
  exact zr (zbr (g_c zcy tk (hr.mono (by omega)) (za (gv 0) (za (gv 1) (zf)))))
    (zr (z9 (i := 2) hN (g_c zft tk (hr.mono (by omega)) (za (g_c zc6 tk (hr.mono (by omega)) (za (gv 1) (zf))) (zf))))
    (zr (s_if (zce zm4 (gv 2) (zcC zdd) (by rfl))
    (zH (zd6 ef_TooMany tk (hr.mono (by omega)) (za (zcC zdd) (zf)) zdp))
    (zbq))
    (zH (s_ret (gv 2)))))
theorem zfe : FnScope ["block"] ["block"] (defScope zag) := ⟨rfl, rfl, rfl, by decide +kernel, rfl, by decide +kernel, by decide +kernel⟩
theorem ziK (B : Bi mg) {fd : FuncData} (F : FunD K "has_noughts_alone" "has_noughts_alone" (defArgs zag) (defBody zag) (defScope zag) [] [] (He.fAd K ("has_noughts_alone", none)) fd) (hm : mg "has_noughts_alone" = some (.ref (He.fAd K ("has_noughts_alone", none)))) : Cal P w K mg base "has_noughts_alone" (0 + 1) 1 zcB := by
  have bd : Binds K fd ["block"] [] := F.bindsN fun _ _ _ _ _ _ us hl => match us, hl with | [_], _ => rfl
  refine zX F hm bd zfe rfl fun cdv A outer s H E hr => ?_
  have hN : (["block"] : List Str).Nodup := zfe.nd
  have hu := hr.units
  have tk : Takes (cxOf (L2.CX P w) P w K mg base ["block"] "has_noughts_alone" (defScope zag) (He.fAd K ("has_noughts_alone", none)) cdv A outer s H E) (WD E) := takes_of rfl rfl rfl rfl
  have hp : PassesOwn (model P w) (cxOf (L2.CX P w) P w K mg base ["block"] "has_noughts_alone" (defScope zag) (He.fAd K ("has_noughts_alone", none)) cdv A outer s H E).A (cxOf (L2.CX P w) P w K mg base ["block"] "has_noughts_alone" (defScope zag) (He.fAd K ("has_noughts_alone", none)) cdv A outer s H E).env (cxOf (L2.CX P w) P w K mg base ["block"] "has_noughts_alone" (defScope zag) (He.fAd K ("has_noughts_alone", none)) cdv A outer s H E).xe := passes_of rfl
  exact zH (s_ret (zoD (zfM (zpn rfl) B.any zpo (za (gv 0) (zf)))))
theorem zjQ : FnScope ["block", "label"] ["block", "label"] (defScope zbS) := ⟨rfl, rfl, rfl, by decide +kernel, rfl, by decide +kernel, by decide +kernel⟩
theorem znB (B : Bi mg) (zd2 : Cal P w K mg base "has_noughts_alone" 1 1 zcB) {fd : FuncData} (F : FunD K "kind_with" "kind_with" (defArgs zbS) (defBody zbS) (defScope zbS) [] [] (He.fAd K ("kind_with", none)) fd) (hm : mg "kind_with" = some (.ref (He.fAd K ("kind_with", none)))) : Cal P w K mg base "kind_with" (1 + 1) 2 zep := by
  have bd : Binds K fd ["block", "label"] [] := F.bindsN fun _ _ _ _ _ _ us hl => match us, hl with | [_, _], _ => rfl
  refine zX F hm bd zjQ rfl fun cdv A outer s H E hr => ?_
  have hN : (["block", "label"] : List Str).Nodup := zjQ.nd
  have hu := hr.units
  have tk : Takes (cxOf (L2.CX P w) P w K mg base ["block", "label"] "kind_with" (defScope zbS) (He.fAd K ("kind_with", none)) cdv A outer s H E) (WD E) := takes_of rfl rfl rfl rfl
  have hp : PassesOwn (model P w) (cxOf (L2.CX P w) P w K mg base ["block", "label"] "kind_with" (defScope zbS) (He.fAd K ("kind_with", none)) cdv A outer s H E).A (cxOf (L2.CX P w) P w K mg base ["block", "label"] "kind_with" (defScope zbS) (He.fAd K ("kind_with", none)) cdv A outer s H E).env (cxOf (L2.CX P w) P w K mg base ["block", "label"] "kind_with" (defScope zbS) (He.fAd K ("kind_with", none)) cdv A outer s H E).xe := passes_of rfl
  exact zr (s_if (zce zn3 (gv 1) (zcr) (by rfl))
    (zH (s_ret (zcf zbo (gv 1) (zp))))
    (zbq))
    (zH (s_ret (zm1 (zeA (g_c zd2 tk (hr.mono (by omega)) (za (gv 0) (zf)))) (zbn) (zbn))))
theorem zjd : FnScope ["image", "labels", "block", "label"] ["image", "labels"] (defScope za9) := ⟨rfl, rfl, rfl, by decide +kernel, rfl, by decide +kernel, by decide +kernel⟩
theorem zmx (B : Bi mg) (zhG : Cal P w K mg base "kind_with" 2 2 zep) {fd : FuncData} (F : FunD K "kinds_with" "kinds_with" (defArgs za9) (defBody za9) (defScope za9) [] [] (He.fAd K ("kinds_with", none)) fd) (hm : mg "kinds_with" = some (.ref (He.fAd K ("kinds_with", none)))) : Cal P w K mg base "kinds_with" (2 + 1) 2 zd9 := by
  have bd : Binds K fd ["image", "labels"] [] := F.bindsN fun _ _ _ _ _ _ us hl => match us, hl with | [_, _], _ => rfl
  refine zX F hm bd zjd rfl fun cdv A outer s H E hr => ?_
  have hN : (["image", "labels", "block", "label"] : List Str).Nodup := zjd.nd
  have hu := hr.units
  have tk : Takes (cxOf (L2.CX P w) P w K mg base ["image", "labels", "block", "label"] "kinds_with" (defScope za9) (He.fAd K ("kinds_with", none)) cdv A outer s H E) (WD E) := takes_of rfl rfl rfl rfl
  have hp : PassesOwn (model P w) (cxOf (L2.CX P w) P w K mg base ["image", "labels", "block", "label"] "kinds_with" (defScope za9) (He.fAd K ("kinds_with", none)) cdv A outer s H E).A (cxOf (L2.CX P w) P w K mg base ["image", "labels", "block", "label"] "kinds_with" (defScope za9) (He.fAd K ("kinds_with", none)) cdv A outer s H E).env (cxOf (L2.CX P w) P w K mg base ["image", "labels", "block", "label"] "kinds_with" (defScope za9) (He.fAd K ("kinds_with", none)) cdv A outer s H E).xe := passes_of rfl
  exact zH (s_ret (zfh zlt B.tuple zig (za (zjv (own := [(("block" : Str), 2), (("label" : Str), 3)]) rfl hN (zth B.zip (gv 0) (gv 1)) (blkOk_by (by exact (show blkC (["image", "labels", "block", "label"] : List Str) (defScope za9) _ [(("block" : Str), 2), (("label" : Str), 3)] = true by decide +kernel))) (fun _ _ _ _ _ => zsT rfl (zn2 (zen (i := 2) hN (by decide)) (zn2 (zen (i := 3) hN (by decide)) (zrW)))) (fun _ _ _ _ _ => zfz) (fun _ _ _ _ _ => g_c zhG tk0 (hr.mono (by omega)) (za (gv 2) (za (gv 3) (zf))))) (zf))))
theorem znC : FnScope ["shape", "image"] ["shape", "image"] (defScope zcO) := ⟨rfl, rfl, rfl, by decide +kernel, rfl, by decide +kernel, by decide +kernel⟩
theorem zqg {p : Pm} (B : Bi mg) (O : OCl K p) (zcy : Cal P w K mg base "check_disk" 5 2 (zch p)) (zc6 : Cal P w K mg base "read_labels" 5 1 zcK) (zgM : Cal P w K mg base "kinds_with" 3 2 zd9) {fd : FuncData} (F : FunD K "kinds" "kinds" (defArgs zcO) (defBody zcO) (defScope zcO) [] [] (He.fAd K ("kinds", none)) fd) (hm : mg "kinds" = some (.ref (He.fAd K ("kinds", none)))) : Cal P w K mg base "kinds" (5 + 1) 2 (zj1 p) := by
  have bd : Binds K fd ["shape", "image"] [] := F.bindsN fun _ _ _ _ _ _ us hl => match us, hl with | [_, _], _ => rfl
  refine zX F hm bd znC rfl fun cdv A outer s H E hr => ?_
  have hN : (["shape", "image"] : List Str).Nodup := znC.nd
  have hu := hr.units
  have tk : Takes (cxOf (L2.CX P w) P w K mg base ["shape", "image"] "kinds" (defScope zcO) (He.fAd K ("kinds", none)) cdv A outer s H E) (WD E) := takes_of rfl rfl rfl rfl
  have hp : PassesOwn (model P w) (cxOf (L2.CX P w) P w K mg base ["shape", "image"] "kinds" (defScope zcO) (He.fAd K ("kinds", none)) cdv A outer s H E).A (cxOf (L2.CX P w) P w K mg base ["shape", "image"] "kinds" (defScope zcO) (He.fAd K ("kinds", none)) cdv A outer s H E).env (cxOf (L2.CX P w) P w K mg base ["shape", "image"] "kinds" (defScope zcO) (He.fAd K ("kinds", none)) cdv A outer s H E).xe := passes_of rfl
  exact zr (zbr (g_c zcy tk (hr.mono (by omega)) (za (gv 0) (za (gv 1) (zf)))))
    (zH (s_ret (g_c zgM tk (hr.mono (by omega)) (za (gv 1) (za (g_c zc6 tk (hr.mono (by omega)) (za (gv 1) (zf))) (zf))))))
theorem zlm : FnScope ["value"] ["value"] (defScope zbL) := ⟨rfl, rfl, rfl, by decide +kernel, rfl, by decide +kernel, by decide +kernel⟩
theorem zo8 (B : Bi mg) (za8 : CI mg "LONGEST_CONTENT" 96) (zdL : Cal P w K mg base "are_bytes" 2 3 zcN) {fd : FuncData} (F : FunD K "is_page" "is_page" (defArgs zbL) (defBody zbL) (defScope zbL) [] [] (He.fAd K ("is_page", none)) fd) (hm : mg "is_page" = some (.ref (He.fAd K ("is_page", none)))) : Cal P w K mg base "is_page" (2 + 1) 1 zeM := by
  have bd : Binds K fd ["value"] [] := F.bindsN fun _ _ _ _ _ _ us hl => match us, hl with | [_], _ => rfl
  refine zX F hm bd zlm rfl fun cdv A outer s H E hr => ?_
  have hN : (["value"] : List Str).Nodup := zlm.nd
  have hu := hr.units
  have tk : Takes (cxOf (L2.CX P w) P w K mg base ["value"] "is_page" (defScope zbL) (He.fAd K ("is_page", none)) cdv A outer s H E) (WD E) := takes_of rfl rfl rfl rfl
  have hp : PassesOwn (model P w) (cxOf (L2.CX P w) P w K mg base ["value"] "is_page" (defScope zbL) (He.fAd K ("is_page", none)) cdv A outer s H E).A (cxOf (L2.CX P w) P w K mg base ["value"] "is_page" (defScope zbL) (He.fAd K ("is_page", none)) cdv A outer s H E).env (cxOf (L2.CX P w) P w K mg base ["value"] "is_page" (defScope zbL) (He.fAd K ("is_page", none)) cdv A outer s H E).xe := passes_of rfl
  exact zH (s_ret (g_c zdL tk (hr.mono (by omega)) (za (gv 0) (za (zp) (za (zcC za8) (zf))))))
theorem zke : FnScope ["value"] ["value"] (defScope zbY) := ⟨rfl, rfl, rfl, by decide +kernel, rfl, by decide +kernel, by decide +kernel⟩
theorem znX {p : Pm} (B : Bi mg) (O : OCl K p) (zci : CI mg "MOST_PAGES" 64) (za8 : CI mg "LONGEST_CONTENT" 96) (zar : Cal P w K mg base "is_tuple_of" 1 3 zaq) {zfu : FuncData} (zdI : FunD K "is_tuple_of" "is_tuple_of" (defArgs zaA) (defBody zaA) (defScope zaA) [] [] (He.fAd K ("is_tuple_of", none)) zfu) (zlV : Binds K zfu ["value", "least", "most"] []) (zez : mg "is_tuple_of" = some (.ref (He.fAd K ("is_tuple_of", none)))) {zgN : FuncData} (zer : FunD K "are_bytes" "are_bytes" (defArgs zaZ) (defBody zaZ) (defScope zaZ) [] [] (He.fAd K ("are_bytes", none)) zgN) (znD : Binds K zgN ["value", "least", "most"] []) (zfy : mg "are_bytes" = some (.ref (He.fAd K ("are_bytes", none)))) {ziL : FuncData} (zfL : FunD K "is_page" "is_page" (defArgs zbL) (defBody zbL) (defScope zbL) [] [] (He.fAd K ("is_page", none)) ziL) (zo9 : Binds K ziL ["value"] []) (zhz : mg "is_page" = some (.ref (He.fAd K ("is_page", none)))) (TB : GxR.TabB base mg (He.codeOf K ("is_state", none)) p.Pt) {fd : FuncData} (F : FunD K "is_state" "is_state" (defArgs zbY) (defBody zbY) (defScope zbY) [] [] (He.fAd K ("is_state", none)) fd) (hm : mg "is_state" = some (.ref (He.fAd K ("is_state", none)))) : Cal P w K mg base "is_state" (3 + 1) 1 (zef p) := by
  have bd : Binds K fd ["value"] [] := F.bindsN fun _ _ _ _ _ _ us hl => match us, hl with | [_], _ => rfl
  refine zpR F hm bd zke rfl fun A outer s H E hr => ?_
  have hN : (["value"] : List Str).Nodup := zke.nd
  have hu := hr.units
  have tk : Takes (cxOf (L2.CX P w) P w K mg base ["value"] "is_state" (defScope zbY) (He.fAd K ("is_state", none)) (.ref (He.codeOf K ("is_state", none))) A outer s H E) (WD E) := takes_of rfl rfl rfl rfl
  have hp : PassesOwn (model P w) (cxOf (L2.CX P w) P w K mg base ["value"] "is_state" (defScope zbY) (He.fAd K ("is_state", none)) (.ref (He.codeOf K ("is_state", none))) A outer s H E).A (cxOf (L2.CX P w) P w K mg base ["value"] "is_state" (defScope zbY) (He.fAd K ("is_state", none)) (.ref (He.codeOf K ("is_state", none))) A outer s H E).env (cxOf (L2.CX P w) P w K mg base ["value"] "is_state" (defScope zbY) (He.fAd K ("is_state", none)) (.ref (He.codeOf K ("is_state", none))) A outer s H E).xe := passes_of rfl
  have hcode : (cxOf (L2.CX P w) P w K mg base ["value"] "is_state" (defScope zbY) (He.fAd K ("is_state", none)) (.ref (He.codeOf K ("is_state", none))) A outer s H E).env.code = .ref (He.codeOf K ("is_state", none)) := rfl
  exact zH (s_ret (zf9 (g_c zar tk (hr.mono (by omega)) (za (gv 0) (za (zp) (za (zcC zci) (zf))))) (zmP (zsp hr B.all TB hcode ⟨rfl, rfl, by decide +kernel, rfl, rfl, zr2 (by decide +kernel)⟩ (gv 0) (zp5 ⟨zdI, zlV, rfl, rfl, rfl, by decide +kernel, by decide⟩ ⟨zer, znD, rfl, rfl, rfl, by decide +kernel, by decide⟩ ⟨zfL, zo9, rfl, rfl, rfl, by decide +kernel, by decide⟩ zez zfy zhz za8 hr (by omega) B.isinstance B.tuple B.len B.int B.bool)))))
theorem zia : FnScope ["batch", "least", "index", "pair", "number", "page"] ["batch"] (defScope zbg) := ⟨rfl, rfl, rfl, by decide +kernel, rfl, by decide +kernel, by decide +kernel⟩
theorem zlW {p : Pm} (B : Bi mg) (O : OCl K p) (zci : CI mg "MOST_PAGES" 64) (zar : Cal P w K mg base "is_tuple_of" 1 3 zaq) (zbm : Cal P w K mg base "is_integer" 1 3 za3) (zjR : Cal P w K mg base "is_page" 3 1 zeM) (ef_BadBatch : zfj P w K mg base "BadBatch" (p.cA "BadBatch") "index") {fd : FuncData} (F : FunD K "check_batch" "check_batch" (defArgs zbg) (defBody zbg) (defScope zbg) [] [] (He.fAd K ("check_batch", none)) fd) (hm : mg "check_batch" = some (.ref (He.fAd K ("check_batch", none)))) : Cal P w K mg base "check_batch" (3 + 1) 1 (zew p) := by
  have bd : Binds K fd ["batch"] [] := F.bindsN fun _ _ _ _ _ _ us hl => match us, hl with | [_], _ => rfl
  refine zX F hm bd zia rfl fun cdv A outer s H E hr => ?_
  have hN : (["batch", "least", "index", "pair", "number", "page"] : List Str).Nodup := zia.nd
  have hu := hr.units
  have tk : Takes (cxOf (L2.CX P w) P w K mg base ["batch", "least", "index", "pair", "number", "page"] "check_batch" (defScope zbg) (He.fAd K ("check_batch", none)) cdv A outer s H E) (WD E) := takes_of rfl rfl rfl rfl
  have hp : PassesOwn (model P w) (cxOf (L2.CX P w) P w K mg base ["batch", "least", "index", "pair", "number", "page"] "check_batch" (defScope zbg) (He.fAd K ("check_batch", none)) cdv A outer s H E).A (cxOf (L2.CX P w) P w K mg base ["batch", "least", "index", "pair", "number", "page"] "check_batch" (defScope zbg) (He.fAd K ("check_batch", none)) cdv A outer s H E).env (cxOf (L2.CX P w) P w K mg base ["batch", "least", "index", "pair", "number", "page"] "check_batch" (defScope zbg) (He.fAd K ("check_batch", none)) cdv A outer s H E).xe := passes_of rfl
  exact zr (s_if (zcP (zeA (g_c zar tk (hr.mono (by omega)) (za (gv 0) (za (zp) (za (zcC zci) (zf)))))))
    (zH (zd6 ef_BadBatch tk (hr.mono (by omega)) (za (zcr) (zf)) zdp))
    (zbq))
    (zr (z9 (i := 1) hN (zp))
    (zH (zga hp rfl (znb B.enumerate (gv 0)) (zec rfl (zao (zax (i := 2) hN) (zao (zax (i := 3) hN) (zdh))))
    (zr (s_if (zcP (zeA (g_c zar tk (hr.mono (by omega)) (za (gv 3) (za (zp) (za (zp) (zf)))))))
    (zH (zd6 ef_BadBatch tk (hr.mono (by omega)) (za (gv 2) (zf)) zdp))
    (zbq))
    (zr (s_asg (gv 3) (zec rfl (zao (zax (i := 4) hN) (zao (zax (i := 5) hN) (zdh)))))
    (zr (s_if (zoC (zkG (zcP (zeA (g_c zbm tk (hr.mono (by omega)) (za (gv 4) (za (gv 1) (za (zL zeR (zcC zci) (zp)) (zf))))))) (zm0 (zcP (zqp (g_c zjR tk (hr.mono (by omega)) (za (gv 5) (zf))))))))
    (zH (zd6 ef_BadBatch tk (hr.mono (by omega)) (za (gv 2) (zf)) zdp))
    (zbq))
    (zH (z9 (i := 1) hN (zL zay (gv 4) (zp))))))))))
theorem zf8 : FnScope ["batch", "pages", "index", "number", "_"] ["batch", "pages"] (defScope zaH) := ⟨rfl, rfl, rfl, by decide +kernel, rfl, by decide +kernel, by decide +kernel⟩
theorem zj5 {p : Pm} (B : Bi mg) (O : OCl K p) (zfZ : Cal P w K mg base "check_batch" 4 1 (zew p)) (ef_BadBatch : zfj P w K mg base "BadBatch" (p.cA "BadBatch") "index") {fd : FuncData} (F : FunD K "check_batch_of" "check_batch_of" (defArgs zaH) (defBody zaH) (defScope zaH) [] [] (He.fAd K ("check_batch_of", none)) fd) (hm : mg "check_batch_of" = some (.ref (He.fAd K ("check_batch_of", none)))) : Cal P w K mg base "check_batch_of" (4 + 1) 2 (zcR p) := by
  have bd : Binds K fd ["batch", "pages"] [] := F.bindsN fun _ _ _ _ _ _ us hl => match us, hl with | [_, _], _ => rfl
  refine zX F hm bd zf8 rfl fun cdv A outer s H E hr => ?_
  have hN : (["batch", "pages", "index", "number", "_"] : List Str).Nodup := zf8.nd
  have hu := hr.units
  have tk : Takes (cxOf (L2.CX P w) P w K mg base ["batch", "pages", "index", "number", "_"] "check_batch_of" (defScope zaH) (He.fAd K ("check_batch_of", none)) cdv A outer s H E) (WD E) := takes_of rfl rfl rfl rfl
  have hp : PassesOwn (model P w) (cxOf (L2.CX P w) P w K mg base ["batch", "pages", "index", "number", "_"] "check_batch_of" (defScope zaH) (He.fAd K ("check_batch_of", none)) cdv A outer s H E).A (cxOf (L2.CX P w) P w K mg base ["batch", "pages", "index", "number", "_"] "check_batch_of" (defScope zaH) (He.fAd K ("check_batch_of", none)) cdv A outer s H E).env (cxOf (L2.CX P w) P w K mg base ["batch", "pages", "index", "number", "_"] "check_batch_of" (defScope zaH) (He.fAd K ("check_batch_of", none)) cdv A outer s H E).xe := passes_of rfl
  exact zr (zbr (g_c zfZ tk (hr.mono (by omega)) (za (gv 0) (zf))))
    (zH (zga hp rfl (znb B.enumerate (gv 0)) (zec rfl (zao (zax (i := 2) hN) (zao (zec rfl (zao (zax (i := 3) hN) (zao (zax (i := 4) hN) (zdh)))) (zdh))))
    (zH (s_if (zce zrX (gv 3) (gv 1) (by rfl))
    (zH (zd6 ef_BadBatch tk (hr.mono (by omega)) (za (gv 2) (zf)) zdp))
    (zbq)))))
theorem zje : FnScope ["state", "batch", "pages", "number", "page"] ["state", "batch"] (defScope zbG) := ⟨rfl, rfl, rfl, by decide +kernel, rfl, by decide +kernel, by decide +kernel⟩
theorem zmy (B : Bi mg) {fd : FuncData} (F : FunD K "with_batch" "with_batch" (defArgs zbG) (defBody zbG) (defScope zbG) [] [] (He.fAd K ("with_batch", none)) fd) (hm : mg "with_batch" = some (.ref (He.fAd K ("with_batch", none)))) : Cal P w K mg base "with_batch" (0 + 1) 2 zgz := by
  have bd : Binds K fd ["state", "batch"] [] := F.bindsN fun _ _ _ _ _ _ us hl => match us, hl with | [_, _], _ => rfl
  refine zX F hm bd zje rfl fun cdv A outer s H E hr => ?_
  have hN : (["state", "batch", "pages", "number", "page"] : List Str).Nodup := zje.nd
  have hu := hr.units
  have tk : Takes (cxOf (L2.CX P w) P w K mg base ["state", "batch", "pages", "number", "page"] "with_batch" (defScope zbG) (He.fAd K ("with_batch", none)) cdv A outer s H E) (WD E) := takes_of rfl rfl rfl rfl
  have hp : PassesOwn (model P w) (cxOf (L2.CX P w) P w K mg base ["state", "batch", "pages", "number", "page"] "with_batch" (defScope zbG) (He.fAd K ("with_batch", none)) cdv A outer s H E).A (cxOf (L2.CX P w) P w K mg base ["state", "batch", "pages", "number", "page"] "with_batch" (defScope zbG) (He.fAd K ("with_batch", none)) cdv A outer s H E).env (cxOf (L2.CX P w) P w K mg base ["state", "batch", "pages", "number", "page"] "with_batch" (defScope zbG) (He.fAd K ("with_batch", none)) cdv A outer s H E).xe := passes_of rfl
  exact zr (z9 (i := 2) hN (zfh zpj B.list zn6 (za (gv 0) (zf))))
    (zr (zga hp rfl (zg0 (gv 1)) (zec rfl (zao (zax (i := 3) hN) (zao (zax (i := 4) hN) (zdh))))
    (zH (s_asg (gv 4) (zjV (gv 2) (gv 3)))))
    (zH (s_ret (zfh zlt B.tuple zig (za (gv 2) (zf))))))
theorem zln : FnScope ["state", "batch"] ["state", "batch"] (defScope zcq) := ⟨rfl, rfl, rfl, by decide +kernel, rfl, by decide +kernel, by decide +kernel⟩
theorem zpa {p : Pm} (B : Bi mg) (O : OCl K p) (ziM : Cal P w K mg base "is_state" 4 1 (zef p)) (zeL : Cal P w K mg base "check_batch_of" 5 2 (zcR p)) (zgO : Cal P w K mg base "with_batch" 1 2 zgz) (err_BadState : zeC K mg "BadState" (p.cA "BadState")) {fd : FuncData} (F : FunD K "changed" "changed" (defArgs zcq) (defBody zcq) (defScope zcq) [] [] (He.fAd K ("changed", none)) fd) (hm : mg "changed" = some (.ref (He.fAd K ("changed", none)))) : Cal P w K mg base "changed" (5 + 1) 2 (zhg p) := by
  have bd : Binds K fd ["state", "batch"] [] := F.bindsN fun _ _ _ _ _ _ us hl => match us, hl with | [_, _], _ => rfl
  refine zX F hm bd zln rfl fun cdv A outer s H E hr => ?_
  have hN : (["state", "batch"] : List Str).Nodup := zln.nd
  have hu := hr.units
  have tk : Takes (cxOf (L2.CX P w) P w K mg base ["state", "batch"] "changed" (defScope zcq) (He.fAd K ("changed", none)) cdv A outer s H E) (WD E) := takes_of rfl rfl rfl rfl
  have hp : PassesOwn (model P w) (cxOf (L2.CX P w) P w K mg base ["state", "batch"] "changed" (defScope zcq) (He.fAd K ("changed", none)) cdv A outer s H E).A (cxOf (L2.CX P w) P w K mg base ["state", "batch"] "changed" (defScope zcq) (He.fAd K ("changed", none)) cdv A outer s H E).env (cxOf (L2.CX P w) P w K mg base ["state", "batch"] "changed" (defScope zcq) (He.fAd K ("changed", none)) cdv A outer s H E).xe := passes_of rfl
  exact zr (s_if (zcP (zqp (g_c ziM tk (hr.mono (by omega)) (za (gv 0) (zf)))))
    (zH (zhQ err_BadState tk))
    (zbq))
    (zr (zbr (g_c zeL tk (hr.mono (by omega)) (za (gv 1) (za (zfM zg2 B.len zfA (za (gv 0) (zf))) (zf)))))
    (zH (s_ret (g_c zgO tk (hr.mono (by omega)) (za (gv 0) (za (gv 1) (zf)))))))
theorem zib : FnScope ["one", "other", "works"] ["one", "other"] (defScope zN) := ⟨rfl, rfl, rfl, by decide +kernel, rfl, by decide +kernel, by decide +kernel⟩
def lamOf (j : Nat) : zb2 := ztj ((defBody zN).getD (1 + j) (.Pass ⟨0, 0, 0, 0⟩)) (("_law_works" ++ ".<locals>.") ++ "<lambda>")
theorem ztS {p : Pm} (B : Bi mg) (zfr : Cal P w K mg base "blocks" 3 1 (zeE p)) : zeS P w K mg base 6 (lamOf 0) ["one"] (zk0 p) := ⟨zfC (by decide +kernel) (fun _ _ _ _ => rfl), fun f c' cl A outer s H E has hr => by
  have hN : (["one"] : List Str).Nodup := by decide
  have hu := hr.units
  have tk : Takes (zd3 P w K mg base ["one"] (lamOf 0) f c' cl A outer s H E) (WD E) := takes_of rfl rfl rfl rfl
  exact g_c zfr tk (hr.mono (by omega)) (za (gv 0) (zf))⟩
theorem ztT {p : Pm} (B : Bi mg) (zgP : Cal P w K mg base "blank_disk" 4 1 (zeV p)) : zeS P w K mg base 6 (lamOf 1) ["one"] (zk1 p) := ⟨zfC (by decide +kernel) (fun _ _ _ _ => rfl), fun f c' cl A outer s H E has hr => by
  have hN : (["one"] : List Str).Nodup := by decide
  have hu := hr.units
  have tk : Takes (zd3 P w K mg base ["one"] (lamOf 1) f c' cl A outer s H E) (WD E) := takes_of rfl rfl rfl rfl
  exact g_c zgP tk (hr.mono (by omega)) (za (gv 0) (zf))⟩
theorem ztU {p : Pm} (B : Bi mg) (zgQ : Cal P w K mg base "page_place" 3 2 (zeY p)) : zeS P w K mg base 6 (lamOf 2) ["one", "other"] (zir p) := ⟨zfC (by decide +kernel) (fun _ _ _ _ => rfl), fun f c' cl A outer s H E has hr => by
  have hN : (["one", "other"] : List Str).Nodup := by decide
  have hu := hr.units
  have tk : Takes (zd3 P w K mg base ["one", "other"] (lamOf 2) f c' cl A outer s H E) (WD E) := takes_of rfl rfl rfl rfl
  exact g_c zgQ tk (hr.mono (by omega)) (za (gv 0) (za (gv 1) (zf)))⟩
theorem ztV {p : Pm} (B : Bi mg) (zgR : Cal P w K mg base "ring_place" 3 2 (ze1 p)) : zeS P w K mg base 6 (lamOf 3) ["one", "other"] (zis p) := ⟨zfC (by decide +kernel) (fun _ _ _ _ => rfl), fun f c' cl A outer s H E has hr => by
  have hN : (["one", "other"] : List Str).Nodup := by decide
  have hu := hr.units
  have tk : Takes (zd3 P w K mg base ["one", "other"] (lamOf 3) f c' cl A outer s H E) (WD E) := takes_of rfl rfl rfl rfl
  exact g_c zgR tk (hr.mono (by omega)) (za (gv 0) (za (gv 1) (zf)))⟩
theorem ztW {p : Pm} (B : Bi mg) (zgS : Cal P w K mg base "next_stamp" 6 2 (ze3 p)) : zeS P w K mg base 6 (lamOf 4) ["one", "other"] (zit p) := ⟨zfC (by decide +kernel) (fun _ _ _ _ => rfl), fun f c' cl A outer s H E has hr => by
  have hN : (["one", "other"] : List Str).Nodup := by decide
  have hu := hr.units
  have tk : Takes (zd3 P w K mg base ["one", "other"] (lamOf 4) f c' cl A outer s H E) (WD E) := takes_of rfl rfl rfl rfl
  exact g_c zgS tk (hr.mono (by omega)) (za (gv 0) (za (gv 1) (zf)))⟩
theorem ztX {p : Pm} (B : Bi mg) (zgT : Cal P w K mg base "next_epoch" 6 2 (ze7 p)) : zeS P w K mg base 6 (lamOf 5) ["one", "other"] (ziu p) := ⟨zfC (by decide +kernel) (fun _ _ _ _ => rfl), fun f c' cl A outer s H E has hr => by
  have hN : (["one", "other"] : List Str).Nodup := by decide
  have hu := hr.units
  have tk : Takes (zd3 P w K mg base ["one", "other"] (lamOf 5) f c' cl A outer s H E) (WD E) := takes_of rfl rfl rfl rfl
  exact g_c zgT tk (hr.mono (by omega)) (za (gv 0) (za (gv 1) (zf)))⟩
theorem ztY {p : Pm} (B : Bi mg) (zlX : Cal P w K mg base "kinds" 6 2 (zj1 p)) : zeS P w K mg base 6 (lamOf 6) ["one", "other"] (ziv p) := ⟨zfC (by decide +kernel) (fun _ _ _ _ => rfl), fun f c' cl A outer s H E has hr => by
  have hN : (["one", "other"] : List Str).Nodup := by decide
  have hu := hr.units
  have tk : Takes (zd3 P w K mg base ["one", "other"] (lamOf 6) f c' cl A outer s H E) (WD E) := takes_of rfl rfl rfl rfl
  exact g_c zlX tk (hr.mono (by omega)) (za (gv 0) (za (gv 1) (zf)))⟩
theorem ztZ {p : Pm} (B : Bi mg) (zjS : Cal P w K mg base "changed" 6 2 (zhg p)) : zeS P w K mg base 6 (lamOf 7) ["one", "other"] (ziw p) := ⟨zfC (by decide +kernel) (fun _ _ _ _ => rfl), fun f c' cl A outer s H E has hr => by
  have hN : (["one", "other"] : List Str).Nodup := by decide
  have hu := hr.units
  have tk : Takes (zd3 P w K mg base ["one", "other"] (lamOf 7) f c' cl A outer s H E) (WD E) := takes_of rfl rfl rfl rfl
  exact g_c zjS tk (hr.mono (by omega)) (za (gv 0) (za (gv 1) (zf)))⟩
theorem zlY {PT : Addr} (TB : LamX.TabB base mg (He.codeOf K ("_law_works", none)) PT) {fd : FuncData} (F : FunD K "_law_works" "_law_works" (defArgs zN) (defBody zN) (defScope zN) [] [] (He.fAd K ("_law_works", none)) fd) (hm : mg "_law_works" = some (.ref (He.fAd K ("_law_works", none)))) : Cal P w K mg base "_law_works" 1 2 (znh ["one", "other", "works"] (defScope zN) (zfm PT lamOf)) := by
  have bd : Binds K fd ["one", "other"] [] := F.bindsN fun _ _ _ _ _ _ us hl => match us, hl with | [_, _], _ => rfl
  refine zps F hm bd zib rfl fun A outer s H E hr => ?_
  have hN : (["one", "other", "works"] : List Str).Nodup := zib.nd
  exact zeT (W := W0) (z9 (i := 2) hN (zcs zf))
    (zeT (W := W0) (zbr (zds (gv 2) (zg6 (L := lamOf 0) TB rfl rfl rfl (show ∀ y ∈ (lamOf 0).scope.names, y.2 = .free → (defScope zN).names.lookup y.1 = some .cell by decide +kernel))))
    (zeT (W := W0) (zbr (zds (gv 2) (zg6 (L := lamOf 1) TB rfl rfl rfl (show ∀ y ∈ (lamOf 1).scope.names, y.2 = .free → (defScope zN).names.lookup y.1 = some .cell by decide +kernel))))
    (zeT (W := W0) (zbr (zds (gv 2) (zg6 (L := lamOf 2) TB rfl rfl rfl (show ∀ y ∈ (lamOf 2).scope.names, y.2 = .free → (defScope zN).names.lookup y.1 = some .cell by decide +kernel))))
    (zeT (W := W0) (zbr (zds (gv 2) (zg6 (L := lamOf 3) TB rfl rfl rfl (show ∀ y ∈ (lamOf 3).scope.names, y.2 = .free → (defScope zN).names.lookup y.1 = some .cell by decide +kernel))))
    (zeT (W := W0) (zbr (zds (gv 2) (zg6 (L := lamOf 4) TB rfl rfl rfl (show ∀ y ∈ (lamOf 4).scope.names, y.2 = .free → (defScope zN).names.lookup y.1 = some .cell by decide +kernel))))
    (zeT (W := W0) (zbr (zds (gv 2) (zg6 (L := lamOf 5) TB rfl rfl rfl (show ∀ y ∈ (lamOf 5).scope.names, y.2 = .free → (defScope zN).names.lookup y.1 = some .cell by decide +kernel))))
    (zeT (W := W0) (zbr (zds (gv 2) (zg6 (L := lamOf 6) TB rfl rfl rfl (show ∀ y ∈ (lamOf 6).scope.names, y.2 = .free → (defScope zN).names.lookup y.1 = some .cell by decide +kernel))))
    (zeT (W := W0) (zbr (zds (gv 2) (zg6 (L := lamOf 7) TB rfl rfl rfl (show ∀ y ∈ (lamOf 7).scope.names, y.2 = .free → (defScope zN).names.lookup y.1 = some .cell by decide +kernel))))
    (zti (W := W0) (gv 2))))))))))
theorem zt0 : zed ["one", "other", "works"] (defScope zN) (lamOf 0) ["one"] [0] := zd5 (by decide +kernel)
theorem zt1 : zed ["one", "other", "works"] (defScope zN) (lamOf 1) ["one"] [0] := zd5 (by decide +kernel)
theorem zt2 : zed ["one", "other", "works"] (defScope zN) (lamOf 2) ["one", "other"] [0, 1] := zd5 (by decide +kernel)
theorem zt3 : zed ["one", "other", "works"] (defScope zN) (lamOf 3) ["one", "other"] [0, 1] := zd5 (by decide +kernel)
theorem zt4 : zed ["one", "other", "works"] (defScope zN) (lamOf 4) ["one", "other"] [0, 1] := zd5 (by decide +kernel)
theorem zt5 : zed ["one", "other", "works"] (defScope zN) (lamOf 5) ["one", "other"] [0, 1] := zd5 (by decide +kernel)
theorem zt6 : zed ["one", "other", "works"] (defScope zN) (lamOf 6) ["one", "other"] [0, 1] := zd5 (by decide +kernel)
theorem zt7 : zed ["one", "other", "works"] (defScope zN) (lamOf 7) ["one", "other"] [0, 1] := zd5 (by decide +kernel)
theorem zgU : FnScope ["work", "found", "e", "tells", "names"] ["work"] (defScope zaQ) := ⟨rfl, rfl, rfl, by decide +kernel, rfl, by decide +kernel, by decide +kernel⟩
theorem zkx {p : Pm} (B : Bi mg) (O : OCl K p) (err_CutError : zeC K mg "CutError" (p.cA "CutError")) (err_BadShape : zeC K mg "BadShape" (p.cA "BadShape")) (err_BadNumber : zeC K mg "BadNumber" (p.cA "BadNumber")) (err_BadState : zeC K mg "BadState" (p.cA "BadState")) (ef_BadImage : zfj P w K mg base "BadImage" (p.cA "BadImage") "index") (ef_BadBatch : zfj P w K mg base "BadBatch" (p.cA "BadBatch") "index") (ef_TooMany : zfj P w K mg base "TooMany" (p.cA "TooMany") "most") (hmt : ∀ a b, p.mt a = some b → PySem.W.exmOne K (.ref a) (.ref (p.cA "CutError")) = some b) (his : ∀ a1 a2 b, p.isT a1 a2 = some b → PySem.W.kitOne K (.ref a1) (.ref a2) = some b ∧ ExcC K a1) (hfl : ∀ C g, p.fld C g = true → XfC K C ∧ PySem.W.findIn K (.ref C) g = some none) (hT : ∀ L ys t, zc1 p L ys t → zeS P w K mg base 6 L ys t) {fd : FuncData} (F : FunD K "_law_refused" "_law_refused" (defArgs zaQ) (defBody zaQ) (defScope zaQ) [] [] (He.fAd K ("_law_refused", none)) fd) (hm : mg "_law_refused" = some (.ref (He.fAd K ("_law_refused", none)))) : Cal P w K mg base "_law_refused" (7 + 1) 1 (z8 p) := by
  have bd : Binds K fd ["work"] [] := F.bindsN fun _ _ _ _ _ _ us hl => match us, hl with | [_], _ => rfl
  refine zX F hm bd zgU rfl fun cdv A outer s H E hr => ?_
  have hN : (["work", "found", "e", "tells", "names"] : List Str).Nodup := zgU.nd
  have hu := hr.units
  have tk : Takes (cxOf (L2.CX P w) P w K mg base ["work", "found", "e", "tells", "names"] "_law_refused" (defScope zaQ) (He.fAd K ("_law_refused", none)) cdv A outer s H E) (WD E) := takes_of rfl rfl rfl rfl
  have hp : PassesOwn (model P w) (cxOf (L2.CX P w) P w K mg base ["work", "found", "e", "tells", "names"] "_law_refused" (defScope zaQ) (He.fAd K ("_law_refused", none)) cdv A outer s H E).A (cxOf (L2.CX P w) P w K mg base ["work", "found", "e", "tells", "names"] "_law_refused" (defScope zaQ) (He.fAd K ("_law_refused", none)) cdv A outer s H E).env (cxOf (L2.CX P w) P w K mg base ["work", "found", "e", "tells", "names"] "_law_refused" (defScope zaQ) (He.fAd K ("_law_refused", none)) cdv A outer s H E).xe := passes_of rfl
  exact zr (z9 (i := 1) hN (zcr))
    (zr (zsi (i := 2) (mt := p.mt) rfl rfl hN ⟨rfl, rfl, .inl err_CutError.glo⟩ tk hmt (fun W' pn xe tk _ => zH (zbr (zq6 (i := 0) hT tk (hr.mono (by omega))))) (fun a oe x d pn hz hd => zr (z9 (i := 3) hN (zcs (zf)))
    (zr (zbr (zds (gv 3) (zjZ (i := 2) hz hd his B.isinstance err_BadShape.glo)))
    (zr (zbr (zds (gv 3) (zjZ (i := 2) hz hd his B.isinstance ef_BadImage.glo)))
    (zr (zbr (zds (gv 3) (zjZ (i := 2) hz hd his B.isinstance err_BadNumber.glo)))
    (zr (zbr (zds (gv 3) (zjZ (i := 2) hz hd his B.isinstance err_BadState.glo)))
    (zr (zbr (zds (gv 3) (zjZ (i := 2) hz hd his B.isinstance ef_BadBatch.glo)))
    (zr (zbr (zds (gv 3) (zjZ (i := 2) hz hd his B.isinstance ef_TooMany.glo)))
    (zr (z9 (i := 4) hN (zcs (za (zbn) (za (zbn) (za (zbn) (za (zbn) (za (zbn) (za (zbn) (zf)))))))))
    (zr (z9 (i := 1) hN (zm1 (zce (zkh hu) (zq8 (gv 3) (zei)) (zp) (by rfl)) (zcf zbo (gv 4) (zn7 (gv 3) (zei))) (zbn)))
    (zr (z9 (i := 1) hN (zm1 (zce (zkh hu) (gv 1) (zbn) (by rfl)) (zF (za (zbn) (za (zoP (i := 2) hz hd hfl (fun _ => trivial)) (zf)))) (gv 1)))
    (zr (z9 (i := 1) hN (zm1 (zce (zkh hu) (gv 1) (zbn) (by rfl)) (zF (za (zbn) (za (zoP (i := 2) hz hd hfl (fun _ => trivial)) (zf)))) (gv 1)))
    (zH (z9 (i := 1) hN (zm1 (zce (zkh hu) (gv 1) (zbn) (by rfl)) (zF (za (zbn) (za (zoP (i := 2) hz hd hfl (fun _ => trivial)) (zf)))) (gv 1))))))))))))))))
    (zH (s_ret (gv 1))))
theorem zic : FnScope ["row"] ["row"] (defScope zbh) := ⟨rfl, rfl, rfl, by decide +kernel, rfl, by decide +kernel, by decide +kernel⟩
theorem zlZ (B : Bi mg) (zb0 : Cal P w K mg base "_law_taken" 1 2 zbZ) {fd : FuncData} (F : FunD K "_law_shape" "_law_shape" (defArgs zbh) (defBody zbh) (defScope zbh) [] [] (He.fAd K ("_law_shape", none)) fd) (hm : mg "_law_shape" = some (.ref (He.fAd K ("_law_shape", none)))) : Cal P w K mg base "_law_shape" (1 + 1) 1 zdF := by
  have bd : Binds K fd ["row"] [] := F.bindsN fun _ _ _ _ _ _ us hl => match us, hl with | [_], _ => rfl
  refine zX F hm bd zic rfl fun cdv A outer s H E hr => ?_
  have hN : (["row"] : List Str).Nodup := zic.nd
  have hu := hr.units
  have tk : Takes (cxOf (L2.CX P w) P w K mg base ["row"] "_law_shape" (defScope zbh) (He.fAd K ("_law_shape", none)) cdv A outer s H E) (WD E) := takes_of rfl rfl rfl rfl
  have hp : PassesOwn (model P w) (cxOf (L2.CX P w) P w K mg base ["row"] "_law_shape" (defScope zbh) (He.fAd K ("_law_shape", none)) cdv A outer s H E).A (cxOf (L2.CX P w) P w K mg base ["row"] "_law_shape" (defScope zbh) (He.fAd K ("_law_shape", none)) cdv A outer s H E).env (cxOf (L2.CX P w) P w K mg base ["row"] "_law_shape" (defScope zbh) (He.fAd K ("_law_shape", none)) cdv A outer s H E).xe := passes_of rfl
  exact zH (s_ret (zF (za (zL zay (zp) (g_c zb0 tk (hr.mono (by omega)) (za (gv 0) (za (zp) (zf))))) (za (zL zay (zp) (g_c zb0 tk (hr.mono (by omega)) (za (gv 0) (za (zp) (zf))))) (zf)))))
theorem zid : FnScope ["shape"] ["shape"] (defScope zbi) := ⟨rfl, rfl, rfl, by decide +kernel, rfl, by decide +kernel, by decide +kernel⟩
theorem zl0 (B : Bi mg) {fd : FuncData} (F : FunD K "_law_blank" "_law_blank" (defArgs zbi) (defBody zbi) (defScope zbi) [] [] (He.fAd K ("_law_blank", none)) fd) (hm : mg "_law_blank" = some (.ref (He.fAd K ("_law_blank", none)))) : Cal P w K mg base "_law_blank" (0 + 1) 1 zdG := by
  have bd : Binds K fd ["shape"] [] := F.bindsN fun _ _ _ _ _ _ us hl => match us, hl with | [_], _ => rfl
  refine zX F hm bd zid rfl fun cdv A outer s H E hr => ?_
  have hN : (["shape"] : List Str).Nodup := zid.nd
  have hu := hr.units
  have tk : Takes (cxOf (L2.CX P w) P w K mg base ["shape"] "_law_blank" (defScope zbi) (He.fAd K ("_law_blank", none)) cdv A outer s H E) (WD E) := takes_of rfl rfl rfl rfl
  have hp : PassesOwn (model P w) (cxOf (L2.CX P w) P w K mg base ["shape"] "_law_blank" (defScope zbi) (He.fAd K ("_law_blank", none)) cdv A outer s H E).A (cxOf (L2.CX P w) P w K mg base ["shape"] "_law_blank" (defScope zbi) (He.fAd K ("_law_blank", none)) cdv A outer s H E).env (cxOf (L2.CX P w) P w K mg base ["shape"] "_law_blank" (defScope zbi) (He.fAd K ("_law_blank", none)) cdv A outer s H E).xe := passes_of rfl
  exact zH (s_ret (zL zcu (zF (za (zL zcu (zF (za (zp) (zf))) (zp)) (zf))) (zL zay (zL zay (zp) (zcf zbo (gv 0) (zp))) (zcf zbo (gv 0) (zp)))))
theorem zie : FnScope ["value", "many", "found", "at"] ["value", "many"] (defScope zbj) := ⟨rfl, rfl, rfl, by decide +kernel, rfl, by decide +kernel, by decide +kernel⟩
theorem zl1 (B : Bi mg) {fd : FuncData} (F : FunD K "_law_bytes" "_law_bytes" (defArgs zbj) (defBody zbj) (defScope zbj) [] [] (He.fAd K ("_law_bytes", none)) fd) (hm : mg "_law_bytes" = some (.ref (He.fAd K ("_law_bytes", none)))) : Cal P w K mg base "_law_bytes" (0 + 1) 2 zcj := by
  have bd : Binds K fd ["value", "many"] [] := F.bindsN fun _ _ _ _ _ _ us hl => match us, hl with | [_, _], _ => rfl
  refine zX F hm bd zie rfl fun cdv A outer s H E hr => ?_
  have hN : (["value", "many", "found", "at"] : List Str).Nodup := zie.nd
  have hu := hr.units
  have tk : Takes (cxOf (L2.CX P w) P w K mg base ["value", "many", "found", "at"] "_law_bytes" (defScope zbj) (He.fAd K ("_law_bytes", none)) cdv A outer s H E) (WD E) := takes_of rfl rfl rfl rfl
  have hp : PassesOwn (model P w) (cxOf (L2.CX P w) P w K mg base ["value", "many", "found", "at"] "_law_bytes" (defScope zbj) (He.fAd K ("_law_bytes", none)) cdv A outer s H E).A (cxOf (L2.CX P w) P w K mg base ["value", "many", "found", "at"] "_law_bytes" (defScope zbj) (He.fAd K ("_law_bytes", none)) cdv A outer s H E).env (cxOf (L2.CX P w) P w K mg base ["value", "many", "found", "at"] "_law_bytes" (defScope zbj) (He.fAd K ("_law_bytes", none)) cdv A outer s H E).xe := passes_of rfl
  exact zr (z9 (i := 2) hN (zF (zf)))
    (zr (zga hp rfl (zuf B.range (za (gv 1) (zf))) (zax (i := 3) hN)
    (zr (z9 (i := 2) hN (zL zay (zF (za (zL zgb (zfh zg3 B.int zeo (za (gv 0) (zf))) (zp)) (zf))) (gv 2)))
    (zH (z9 (i := 0) hN (zL zhL (gv 0) (zp))))))
    (zH (s_ret (gv 2))))
theorem zjT : FnScope ["row", "rest", "byte", "more"] ["row"] (defScope zbT) := ⟨rfl, rfl, rfl, by decide +kernel, rfl, by decide +kernel, by decide +kernel⟩
theorem znE (B : Bi mg) {fd : FuncData} (F : FunD K "_law_crc" "_law_crc" (defArgs zbT) (defBody zbT) (defScope zbT) [] [] (He.fAd K ("_law_crc", none)) fd) (hm : mg "_law_crc" = some (.ref (He.fAd K ("_law_crc", none)))) : Cal P w K mg base "_law_crc" (0 + 1) 1 zeq := by
  have bd : Binds K fd ["row"] [] := F.bindsN fun _ _ _ _ _ _ us hl => match us, hl with | [_], _ => rfl
  refine zX F hm bd zjT rfl fun cdv A outer s H E hr => ?_
  have hN : (["row", "rest", "byte", "more"] : List Str).Nodup := zjT.nd
  have hu := hr.units
  have tk : Takes (cxOf (L2.CX P w) P w K mg base ["row", "rest", "byte", "more"] "_law_crc" (defScope zbT) (He.fAd K ("_law_crc", none)) cdv A outer s H E) (WD E) := takes_of rfl rfl rfl rfl
  have hp : PassesOwn (model P w) (cxOf (L2.CX P w) P w K mg base ["row", "rest", "byte", "more"] "_law_crc" (defScope zbT) (He.fAd K ("_law_crc", none)) cdv A outer s H E).A (cxOf (L2.CX P w) P w K mg base ["row", "rest", "byte", "more"] "_law_crc" (defScope zbT) (He.fAd K ("_law_crc", none)) cdv A outer s H E).env (cxOf (L2.CX P w) P w K mg base ["row", "rest", "byte", "more"] "_law_crc" (defScope zbT) (He.fAd K ("_law_crc", none)) cdv A outer s H E).xe := passes_of rfl
  exact zr (z9 (i := 1) hN (zp))
    (zr (zga hp rfl (zg0 (gv 0)) (zax (i := 2) hN)
    (zr (z9 (i := 3) hN (zL zfv (zL zhL (gv 1) (zp)) (gv 2)))
    (zr (z9 (i := 3) hN (zL zfv (gv 3) (zL zhL (gv 3) (zp))))
    (zH (z9 (i := 1) hN (zL zfv (zL zfv (zL zfv (zL zgb (zfh zg3 B.int zeo (za (zL zcu (gv 1) (zp)) (zf))) (zp)) (zL zgb (zfh zg3 B.int zeo (za (zL zcu (gv 3) (zp)) (zf))) (zp))) (zL zcu (gv 3) (zp))) (gv 3)))))))
    (zH (s_ret (gv 1))))
theorem zif : FnScope ["stamp", "label", "kind", "index", "many", "epoch", "commit", "number", "content", "code", "row"] ["stamp", "label"] (defScope zbk) := ⟨rfl, rfl, rfl, by decide +kernel, rfl, by decide +kernel, by decide +kernel⟩
theorem zl2 (B : Bi mg) (zcL : Cal P w K mg base "_law_bytes" 1 2 zcj) (zhH : Cal P w K mg base "_law_crc" 1 1 zeq) {fd : FuncData} (F : FunD K "_law_block" "_law_block" (defArgs zbk) (defBody zbk) (defScope zbk) [] [] (He.fAd K ("_law_block", none)) fd) (hm : mg "_law_block" = some (.ref (He.fAd K ("_law_block", none)))) : Cal P w K mg base "_law_block" (1 + 1) 2 zdH := by
  have bd : Binds K fd ["stamp", "label"] [] := F.bindsN fun _ _ _ _ _ _ us hl => match us, hl with | [_, _], _ => rfl
  refine zX F hm bd zif rfl fun cdv A outer s H E hr => ?_
  have hN : (["stamp", "label", "kind", "index", "many", "epoch", "commit", "number", "content", "code", "row"] : List Str).Nodup := zif.nd
  have hu := hr.units
  have tk : Takes (cxOf (L2.CX P w) P w K mg base ["stamp", "label", "kind", "index", "many", "epoch", "commit", "number", "content", "code", "row"] "_law_block" (defScope zbk) (He.fAd K ("_law_block", none)) cdv A outer s H E) (WD E) := takes_of rfl rfl rfl rfl
  have hp : PassesOwn (model P w) (cxOf (L2.CX P w) P w K mg base ["stamp", "label", "kind", "index", "many", "epoch", "commit", "number", "content", "code", "row"] "_law_block" (defScope zbk) (He.fAd K ("_law_block", none)) cdv A outer s H E).A (cxOf (L2.CX P w) P w K mg base ["stamp", "label", "kind", "index", "many", "epoch", "commit", "number", "content", "code", "row"] "_law_block" (defScope zbk) (He.fAd K ("_law_block", none)) cdv A outer s H E).env (cxOf (L2.CX P w) P w K mg base ["stamp", "label", "kind", "index", "many", "epoch", "commit", "number", "content", "code", "row"] "_law_block" (defScope zbk) (He.fAd K ("_law_block", none)) cdv A outer s H E).xe := passes_of rfl
  exact zr (s_asg (gv 1) (zec rfl (zao (zax (i := 2) hN) (zao (zax (i := 3) hN) (zao (zax (i := 4) hN) (zao (zax (i := 5) hN) (zao (zax (i := 6) hN) (zao (zax (i := 7) hN) (zao (zax (i := 8) hN) (zdh))))))))))
    (zr (z9 (i := 9) hN (zL zay (zn7 (zcs (za (zbn) (za (zbn) (za (zbn) (za (zbn) (zf)))))) (gv 2)) (zp)))
    (zr (z9 (i := 10) hN (zL zay (g_c zcL tk (hr.mono (by omega)) (za (gv 0) (za (zp) (zf)))) (zF (za (gv 9) (za (gv 3) (za (gv 4) (za (zfM zg2 B.len zfA (za (gv 8) (zf))) (zf))))))))
    (zr (z9 (i := 10) hN (zL zay (zL zay (zL zay (zL zay (gv 10) (g_c zcL tk (hr.mono (by omega)) (za (gv 5) (za (zp) (zf))))) (g_c zcL tk (hr.mono (by omega)) (za (gv 6) (za (zp) (zf))))) (g_c zcL tk (hr.mono (by omega)) (za (gv 7) (za (zp) (zf))))) (gv 8)))
    (zr (z9 (i := 10) hN (zL zay (gv 10) (zL zcu (zF (za (zp) (zf))) (zL zeR (zp) (zfM zg2 B.len zfA (za (gv 10) (zf)))))))
    (zH (s_ret (zL zay (zL zay (gv 10) (g_c zcL tk (hr.mono (by omega)) (za (g_c zhH tk (hr.mono (by omega)) (za (gv 10) (zf))) (za (zp) (zf))))) (zcn zcE (gv 10) (zeb) (zaY (zp))))))))))
theorem zpH : FnScope ["script", "row", "bad", "work", "shape", "number", "works", "image", "at", "odd", "some", "value", "index", "full", "state", "batch"] ["script"] (defScope zcM) := ⟨rfl, rfl, rfl, by decide +kernel, rfl, by decide +kernel, by decide +kernel⟩
theorem zsK {p : Pm} (B : Bi mg) (O : OCl K p) (zcF : Cal P w K mg base "_law_pick" 2 2 zbX) (zb1 : Cal P w K mg base "_law_works" 1 2 (zbI p)) (zbN : Cal P w K mg base "_law_refused" 8 1 (z8 p)) (zf0 : Cal P w K mg base "_law_shape" 2 1 zdF) (zf4 : Cal P w K mg base "_law_blank" 1 1 zdG) (zb0 : Cal P w K mg base "_law_taken" 1 2 zbZ) (zf5 : Cal P w K mg base "_law_block" 2 2 zdH) {fd : FuncData} (F : FunD K "law" "law" (defArgs zcM) (defBody zcM) (defScope zcM) [] [] (He.fAd K ("law", none)) fd) (hm : mg "law" = some (.ref (He.fAd K ("law", none)))) : FnOk P w K mg base (L2.CX P w) (8 + 1) (He.fAd K ("law", none)) fd ["script"] (lSp K 1 (zmU p)) := by
  refine zpk F zpH rfl fun cdv A outer s H E hr => ?_
  have hN : (["script", "row", "bad", "work", "shape", "number", "works", "image", "at", "odd", "some", "value", "index", "full", "state", "batch"] : List Str).Nodup := zpH.nd
  have hu := hr.units
  have tk : Takes (cxOf (L2.CX P w) P w K mg base ["script", "row", "bad", "work", "shape", "number", "works", "image", "at", "odd", "some", "value", "index", "full", "state", "batch"] "law" (defScope zcM) (He.fAd K ("law", none)) cdv A outer s H E) (WD E) := takes_of rfl rfl rfl rfl
  have hp : PassesOwn (model P w) (cxOf (L2.CX P w) P w K mg base ["script", "row", "bad", "work", "shape", "number", "works", "image", "at", "odd", "some", "value", "index", "full", "state", "batch"] "law" (defScope zcM) (He.fAd K ("law", none)) cdv A outer s H E).A (cxOf (L2.CX P w) P w K mg base ["script", "row", "bad", "work", "shape", "number", "works", "image", "at", "odd", "some", "value", "index", "full", "state", "batch"] "law" (defScope zcM) (He.fAd K ("law", none)) cdv A outer s H E).env (cxOf (L2.CX P w) P w K mg base ["script", "row", "bad", "work", "shape", "number", "works", "image", "at", "odd", "some", "value", "index", "full", "state", "batch"] "law" (defScope zcM) (He.fAd K ("law", none)) cdv A outer s H E).xe := passes_of rfl
  exact zr (z9 (i := 1) hN (zcs (za (gv 0) (za (zp) (za (zp) (za (zp) (zf)))))))
    (zr (z9 (i := 2) hN (zcs (za (zcr) (za (zF (zf)) (za (zF (za (zp) (zf))) (za (zF (za (zp) (za (zp) (zf)))) (za (zF (za (zp) (za (zp) (zf)))) (za (zF (za (zp) (za (zp) (zf)))) (za (zF (za (zp) (za (zp) (zf)))) (za (zF (za (zei) (za (zp) (zf)))) (za (zF (za (zp) (za (zbn) (zf)))) (za (zcs (za (zp) (za (zp) (zf)))) (za (zF (za (zp) (za (zp) (za (zp) (zf))))) (za (zbn) (za (zpp) (zf))))))))))))))))
    (zr (z9 (i := 2) hN (g_c zcF tk (hr.mono (by omega)) (za (gv 1) (za (gv 2) (zf)))))
    (zr (s_if (zce (zki hu) (zjv (own := [(("work" : Str), 3)]) rfl hN (zkH (zcn zcE (g_c zb1 tk (hr.mono (by omega)) (za (gv 2) (za (zcr) (zf)))) (zeb) (zaY (zp)))) (blkOk_by (by exact (show blkC (["script", "row", "bad", "work", "shape", "number", "works", "image", "at", "odd", "some", "value", "index", "full", "state", "batch"] : List Str) (defScope zcM) _ [(("work" : Str), 3)] = true by decide +kernel))) (fun _ _ _ _ _ => zen (i := 3) hN (by decide)) (fun _ _ _ _ _ => zfz) (fun _ _ _ _ _ => g_c zbN tk0 (hr.mono (by omega)) (za (gv 3) (zf)))) (zL zcu (zcs (za (zbn) (zf))) (zp)) (by rfl))
    (zH (s_ret (zei)))
    (zbq))
    (zr (z9 (i := 4) hN (g_c zf0 tk (hr.mono (by omega)) (za (gv 1) (zf))))
    (zr (z9 (i := 5) hN (g_c zcF tk (hr.mono (by omega)) (za (gv 1) (za (zcs (za (zcr) (za (zei) (za (zL zeR (zp) (zp)) (za (zp) (za (zbn) (za (zF (za (zp) (zf))) (zf)))))))) (zf)))))
    (zr (s_if (zce (zki hu) (zjv (own := [(("work" : Str), 3)]) rfl hN (zkH (zcn zcE (g_c zb1 tk (hr.mono (by omega)) (za (gv 4) (za (gv 5) (zf)))) (zaY (zp)) (zaY (zp)))) (blkOk_by (by exact (show blkC (["script", "row", "bad", "work", "shape", "number", "works", "image", "at", "odd", "some", "value", "index", "full", "state", "batch"] : List Str) (defScope zcM) _ [(("work" : Str), 3)] = true by decide +kernel))) (fun _ _ _ _ _ => zen (i := 3) hN (by decide)) (fun _ _ _ _ _ => zfz) (fun _ _ _ _ _ => g_c zbN tk0 (hr.mono (by omega)) (za (gv 3) (zf)))) (zL zcu (zcs (za (zbn) (zf))) (zp)) (by rfl))
    (zH (s_ret (zei)))
    (zbq))
    (zr (z9 (i := 6) hN (zL zay (zcn zcE (g_c zb1 tk (hr.mono (by omega)) (za (gv 4) (za (zcf zbo (gv 4) (zp)) (zf)))) (zaY (zp)) (zaY (zp))) (zcn zcE (g_c zb1 tk (hr.mono (by omega)) (za (gv 4) (za (zcf zbo (gv 4) (zp)) (zf)))) (zaY (zp)) (zaY (zp)))))
    (zr (s_if (zce (zki hu) (zjv (own := [(("work" : Str), 3)]) rfl hN (zkH (gv 6)) (blkOk_by (by exact (show blkC (["script", "row", "bad", "work", "shape", "number", "works", "image", "at", "odd", "some", "value", "index", "full", "state", "batch"] : List Str) (defScope zcM) _ [(("work" : Str), 3)] = true by decide +kernel))) (fun _ _ _ _ _ => zen (i := 3) hN (by decide)) (fun _ _ _ _ _ => zfz) (fun _ _ _ _ _ => g_c zbN tk0 (hr.mono (by omega)) (za (gv 3) (zf)))) (zL zcu (zcs (za (zbn) (zf))) (zp)) (by rfl))
    (zH (s_ret (zei)))
    (zbq))
    (zr (z9 (i := 7) hN (g_c zf4 tk (hr.mono (by omega)) (za (gv 4) (zf))))
    (zr (z9 (i := 8) hN (g_c zb0 tk (hr.mono (by omega)) (za (gv 1) (za (zfM zg2 B.len zfA (za (gv 7) (zf))) (zf)))))
    (zr (z9 (i := 9) hN (g_c zcF tk (hr.mono (by omega)) (za (gv 1) (za (zcs (za (zcr) (za (zL zcu (zF (za (zp) (zf))) (zp)) (za (zL zcu (zcs (za (zp) (zf))) (zp)) (za (zL zay (zL zcu (zF (za (zp) (zf))) (zp)) (zF (za (zp) (zf)))) (za (zbn) (za (zL zay (zF (za (zei) (zf))) (zL zcu (zF (za (zp) (zf))) (zp))) (zf)))))))) (zf)))))
    (zr (z9 (i := 10) hN (zcs (za (zF (za (zcr) (za (zcr) (zf)))) (za (zF (za (zfh zpj B.list zn6 (za (gv 7) (zf))) (za (zcr) (zf)))) (za (zF (za (zcn zcE (gv 7) (zaY (zp)) (zeb)) (za (zcr) (zf)))) (za (zF (za (zL zay (gv 7) (zcn zcE (gv 7) (zeb) (zaY (zp)))) (za (zcr) (zf)))) (zf)))))))
    (zr (zbr (zds (gv 10) (zF (za (zL zay (zL zay (zcn zcE (gv 7) (zeb) (zaY (gv 8))) (zF (za (gv 9) (zf)))) (zcn zcE (gv 7) (zaY (zL zay (gv 8) (zp))) (zeb))) (za (gv 8) (zf))))))
    (zr (s_asg (g_c zcF tk (hr.mono (by omega)) (za (gv 1) (za (zL zay (gv 10) (zL zcu (zcn zcE (gv 10) (zaY (zp)) (zeb)) (zp))) (zf)))) (zec rfl (zao (zax (i := 11) hN) (zao (zax (i := 12) hN) (zdh)))))
    (zr (s_if (zce (zki hu) (zjv (own := [(("work" : Str), 3)]) rfl hN (zkH (zcn zcE (g_c zb1 tk (hr.mono (by omega)) (za (gv 4) (za (gv 11) (zf)))) (zaY (zp)) (zaY (zp)))) (blkOk_by (by exact (show blkC (["script", "row", "bad", "work", "shape", "number", "works", "image", "at", "odd", "some", "value", "index", "full", "state", "batch"] : List Str) (defScope zcM) _ [(("work" : Str), 3)] = true by decide +kernel))) (fun _ _ _ _ _ => zen (i := 3) hN (by decide)) (fun _ _ _ _ _ => zfz) (fun _ _ _ _ _ => g_c zbN tk0 (hr.mono (by omega)) (za (gv 3) (zf)))) (zL zcu (zcs (za (zF (za (zbn) (za (gv 12) (zf)))) (zf))) (zp)) (by rfl))
    (zH (s_ret (zei)))
    (zbq))
    (zr (z9 (i := 13) hN (g_c zf5 tk (hr.mono (by omega)) (za (zL zeR (zL zmQ (zp) (zp)) (zp)) (za (zF (za (zbn) (za (zp) (za (zp) (za (zL zeR (zL zmQ (zp) (zp)) (zp)) (za (zp) (za (zp) (za (zF (zf)) (zf))))))))) (zf)))))
    (zr (z9 (i := 13) hN (zL zay (zF (za (gv 13) (zf))) (zcn zcE (gv 7) (zaY (zp)) (zeb))))
    (zr (s_if (zce (zki hu) (zjv (own := [(("work" : Str), 3)]) rfl hN (zkH (zcn zcE (g_c zb1 tk (hr.mono (by omega)) (za (gv 4) (za (gv 13) (zf)))) (zaY (zp)) (zaY (zp)))) (blkOk_by (by exact (show blkC (["script", "row", "bad", "work", "shape", "number", "works", "image", "at", "odd", "some", "value", "index", "full", "state", "batch"] : List Str) (defScope zcM) _ [(("work" : Str), 3)] = true by decide +kernel))) (fun _ _ _ _ _ => zen (i := 3) hN (by decide)) (fun _ _ _ _ _ => zfz) (fun _ _ _ _ _ => g_c zbN tk0 (hr.mono (by omega)) (za (gv 3) (zf)))) (zL zay (zL zcu (zcs (za (zF (za (zbn) (za (zL zeR (zL zmQ (zp) (zp)) (zp)) (zf)))) (zf))) (zp)) (zcs (za (zcr) (zf)))) (by rfl))
    (zH (s_ret (zei)))
    (zbq))
    (zr (z9 (i := 14) hN (g_c zcF tk (hr.mono (by omega)) (za (gv 1) (za (zcs (za (zcr) (za (zF (zf)) (za (zcs (za (zF (zf)) (zf))) (za (zF (za (zcr) (zf))) (za (zF (za (zF (za (zp) (zf))) (zf))) (za (zL zcu (zF (za (zF (zf)) (zf))) (zp)) (za (zF (za (zL zcu (zF (za (zp) (zf))) (zp)) (zf))) (za (zbn) (za (zpp) (za (zF (za (zei) (zf))) (zf)))))))))))) (zf)))))
    (zr (s_if (zce (zki hu) (g_c zbN tk (hr.mono (by omega)) (za (zcf zbo (g_c zb1 tk (hr.mono (by omega)) (za (gv 14) (za (zcr) (zf)))) (zp)) (zf))) (zbn) (by rfl))
    (zH (s_ret (zei)))
    (zbq))
    (zr (z9 (i := 15) hN (zcs (za (zF (za (zcr) (za (zcr) (zf)))) (za (zF (za (zF (zf)) (za (zcr) (zf)))) (za (zF (za (zcs (za (zF (za (zp) (za (zF (zf)) (zf)))) (zf))) (za (zcr) (zf)))) (za (zF (za (zF (za (zp) (zf))) (za (zp) (zf)))) (za (zF (za (zF (za (zF (za (zp) (za (zF (zf)) (zf)))) (za (zF (za (zp) (za (zF (zf)) (zf)))) (zf)))) (za (zp) (zf)))) (za (zF (za (zF (za (zF (za (zp) (za (zF (zf)) (zf)))) (za (zF (za (zp) (za (zF (zf)) (zf)))) (zf)))) (za (zp) (zf)))) (zf)))))))))
    (zr (z9 (i := 15) hN (zL zay (gv 15) (zcs (za (zF (za (zF (za (zF (za (zp) (za (zF (za (zp) (zf))) (zf)))) (zf))) (za (zp) (zf)))) (za (zF (za (zF (za (zF (za (zp) (za (zF (zf)) (zf)))) (zf))) (za (zp) (zf)))) (za (zF (za (zF (za (zF (za (zei) (za (zF (zf)) (zf)))) (zf))) (za (zp) (zf)))) (za (zF (za (zF (za (zF (za (zp) (za (zF (zf)) (zf)))) (za (zF (za (zp) (za (zF (zf)) (zf)))) (zf)))) (za (zp) (zf)))) (za (zF (za (zF (za (zF (za (zp) (zf))) (zf))) (za (zp) (zf)))) (zf)))))))))
    (zr (s_asg (g_c zcF tk (hr.mono (by omega)) (za (gv 1) (za (zL zay (gv 15) (zcs (za (zF (za (zF (za (zF (za (zp) (za (zF (zf)) (zf)))) (za (zF (za (zp) (za (zF (zf)) (zf)))) (za (zF (za (zp) (za (zL zcu (zF (za (zp) (zf))) (zp)) (zf)))) (zf))))) (za (zp) (zf)))) (za (zF (za (zF (za (zF (za (zL zeR (zp) (zp)) (za (zF (zf)) (zf)))) (zf))) (za (zp) (zf)))) (zf))))) (zf)))) (zec rfl (zao (zax (i := 11) hN) (zao (zax (i := 12) hN) (zdh)))))
    (zH (s_ret (zkF (zkh hu) (g_c zbN tk (hr.mono (by omega)) (za (zcf zbo (g_c zb1 tk (hr.mono (by omega)) (za (zF (za (zF (zf)) (za (zF (zf)) (zf)))) (za (gv 11) (zf)))) (zp)) (zf))) (zF (za (zbn) (za (gv 12) (zf)))) (by rfl)))))))))))))))))))))))))))
end
end
end K12
set_option Elab.async false
set_option linter.all false
set_option maxRecDepth 100000
set_option maxHeartbeats 4000000
namespace K12
open PySem PySem.Spec PyProof.Rows L2 Ab
open K12H
def pm (K : PySem.W.Frag) : Pm := ⟨He.ga K, mtK K "CutError", zmW K, lamOf, He.tabOf K (He.codeOf K ("_law_works", none)), defScope zN, (He.tabOf K (He.codeOf K ("is_state", none))), zmX K, mtK K⟩
abbrev caps : List (List Str × List Nat) := [(["one"], [0]), (["one"], [0]), (["one", "other"], [0, 1]), (["one", "other"], [0, 1]), (["one", "other"], [0, 1]), (["one", "other"], [0, 1]), (["one", "other"], [0, 1]), (["one", "other"], [0, 1])]
abbrev lqE : Str := (("_law_works" ++ ".<locals>.") ++ "<lambda>")
theorem zt8 {K : PySem.W.Frag} (h : zmN K errs "CutError" = true) : zsf (pm K) errs ["one", "other", "works"] caps lqE := by
  obtain ⟨h1, h2⟩ := zrb h
  refine ⟨h1, h2, fun j c e => ?_, fun j hj => ?_⟩
  · match j, e with
    | 0, e => cases e; exact zt0
    | 1, e => cases e; exact zt1
    | 2, e => cases e; exact zt2
    | 3, e => cases e; exact zt3
    | 4, e => cases e; exact zt4
    | 5, e => cases e; exact zt5
    | 6, e => cases e; exact zt6
    | 7, e => cases e; exact zt7
    | j + 8, e => simp [caps] at e
  · match j, hj with
    | 0, _ => rfl
    | 1, _ => rfl
    | 2, _ => rfl
    | 3, _ => rfl
    | 4, _ => rfl
    | 5, _ => rfl
    | 6, _ => rfl
    | 7, _ => rfl
    | j + 8, hj => exact absurd (show j + 8 < 8 from hj) (by omega)
theorem zsL {P : Program} {w : World} {K : PySem.W.Frag} {h : Heap} {mg : Str → Option Value} {f : Addr} (X : K.In h) (G : h.Ns mainGlobals mg) (hfa : mg ("law" : Str) = some (.ref f)) (c0 : He.SaysX fa fn [] tf ex w h K) :
    ∃ (fd : FuncData) (cs : List (Addr × Addr)) (sp : Sp), (∀ p ∈ cs, h.get? p.2 = some { cls := .none, data := .fields #[] }) ∧ (∀ p ∈ cs, K.lookup p.2 = none) ∧ (∀ p ∈ cs, PySem.W.CodeHd h p.1 p.2) ∧ (∀ (s : Shared) (u : Value), BindsTo s fd ⟨[u], []⟩ [(("script" : Str), u)]) ∧
    (∀ (H : Hp) (a : Addr) (ns : List Int), ns.length ≤ 63 → (∀ z ∈ ns, Builtin.Int.intBits z ≤ 1048576) → (∀ p ∈ cs, H p.2 = some (.tbl #[])) → SqL K H a (ns.map V.int) → sp [.ref a] H (fun v _ => v = .bl true) fun _ _ _ => False) ∧
    ∀ base : Heap, K.In base → base.Ns mainGlobals mg → (∀ p ∈ cs, LamX.TabB base mg p.1 p.2) → FnOk P w K mg base (L2.CX P w) 9 f fd ["script"] sp := by
  have c := c0.t
  obtain ⟨zfu, zdI⟩ := c.d.def_ 2 (d := ziO) rfl
  have zez := He.glo_ok X G (c.d.fact 2 (f := .glo "is_tuple_of") rfl)
  obtain ⟨zgN, zer⟩ := c.d.def_ 12 (d := zj7) rfl
  have zfy := He.glo_ok X G (c.d.fact 12 (f := .glo "are_bytes") rfl)
  obtain ⟨ziL, zfL⟩ := c.d.def_ 30 (d := zl6) rfl
  have zhz := He.glo_ok X G (c.d.fact 30 (f := .glo "is_page") rfl)
  obtain ⟨zrt, zmz⟩ := c.d.def_ 36 (d := ziU) rfl
  have zmA := He.glo_ok X G (c.d.fact 36 (f := .glo "_law_works") rfl)
  obtain ⟨zsM, zqO⟩ := c.d.def_ 43 (d := zqm) rfl
  have zqP := He.glo_ok X G (c.d.fact 43 (f := .glo "law") rfl)
  have O : OCl K (pm K) := ⟨⟩
  have B : Bi mg := ⟨He.free_ok X G (c.d.fact 44 (f := .free "len") rfl), He.free_ok X G (c.d.fact 45 (f := .free "int") rfl), He.free_ok X G (c.d.fact 46 (f := .free "bool") rfl), He.free_ok X G (c.d.fact 47 (f := .free "str") rfl), He.free_ok X G (c.d.fact 48 (f := .free "tuple") rfl), He.free_ok X G (c.d.fact 49 (f := .free "list") rfl), He.free_ok X G (c.d.fact 50 (f := .free "isinstance") rfl), He.free_ok X G (c.d.fact 51 (f := .free "range") rfl), He.free_ok X G (c.d.fact 52 (f := .free "all") rfl), He.free_ok X G (c.d.fact 53 (f := .free "any") rfl), He.free_ok X G (c.d.fact 54 (f := .free "min") rfl), He.free_ok X G (c.d.fact 55 (f := .free "max") rfl), He.free_ok X G (c.d.fact 56 (f := .free "reversed") rfl), He.free_ok X G (c.d.fact 57 (f := .free "sorted") rfl), He.free_ok X G (c.d.fact 58 (f := .free "enumerate") rfl), He.free_ok X G (c.d.fact 59 (f := .free "zip") rfl), He.free_ok X G (c.d.fact 60 (f := .free "dict") rfl), He.free_ok X G (c.d.fact 61 (f := .free "sum") rfl), He.free_ok X G (c.d.fact 62 (f := .free "abs") rfl), He.free_ok X G (c.d.fact 63 (f := .free "set") rfl)⟩
  have zex : CI mg "BLOCK_BYTES" 128 := He.int_ok X G (c.d.fact 64 (f := .int "BLOCK_BYTES" 128) rfl)
  have zfd : CI mg "CHECK_AT" 122 := He.int_ok X G (c.d.fact 65 (f := .int "CHECK_AT" 122) rfl)
  have zfY : CI mg "CHECK_BYTES" 2 := He.int_ok X G (c.d.fact 66 (f := .int "CHECK_BYTES" 2) rfl)
  have zcT : CI mg "CONTENT_AT" 18 := He.int_ok X G (c.d.fact 67 (f := .int "CONTENT_AT" 18) rfl)
  have zdd : CI mg "GREATEST" 4294967295 := He.int_ok X G (c.d.fact 68 (f := .int "GREATEST" 4294967295) rfl)
  have zeh : CI mg "HEADS" 2 := He.int_ok X G (c.d.fact 69 (f := .int "HEADS" 2) rfl)
  have zfc : CI mg "LAST_STAMP_AT" 124 := He.int_ok X G (c.d.fact 70 (f := .int "LAST_STAMP_AT" 124) rfl)
  have zgI : CI mg "LEAST_RING" 2 := He.int_ok X G (c.d.fact 71 (f := .int "LEAST_RING" 2) rfl)
  have za8 : CI mg "LONGEST_CONTENT" 96 := He.int_ok X G (c.d.fact 72 (f := .int "LONGEST_CONTENT" 96) rfl)
  have zci : CI mg "MOST_PAGES" 64 := He.int_ok X G (c.d.fact 73 (f := .int "MOST_PAGES" 64) rfl)
  have zhF : CI mg "MOST_RING" 64 := He.int_ok X G (c.d.fact 74 (f := .int "MOST_RING" 64) rfl)
  have zey : CI mg "STAMP_BYTES" 4 := He.int_ok X G (c.d.fact 75 (f := .int "STAMP_BYTES" 4) rfl)
  have err_BadNumber : zeC K mg "BadNumber" ((pm K).cA "BadNumber") := zkP X G (c.d.fact 76 (f := .glo "BadNumber") rfl) (c.d.fact 77 (f := .exc "BadNumber") rfl)
  have err_BadShape : zeC K mg "BadShape" ((pm K).cA "BadShape") := zkP X G (c.d.fact 78 (f := .glo "BadShape") rfl) (c.d.fact 79 (f := .exc "BadShape") rfl)
  have err_BadState : zeC K mg "BadState" ((pm K).cA "BadState") := zkP X G (c.d.fact 80 (f := .glo "BadState") rfl) (c.d.fact 81 (f := .exc "BadState") rfl)
  have err_CutError : zeC K mg "CutError" ((pm K).cA "CutError") := zkP X G (c.d.fact 82 (f := .glo "CutError") rfl) (c.d.fact 83 (f := .exc "CutError") rfl)
  have neT : (pm K).P ≠ (pm K).Pt := by have := (Bool.and_eq_true_iff.mp c0.more).1; exact fun z => by have z2 : He.tabOf K (He.codeOf K ("_law_works", none)) = He.tabOf K (He.codeOf K ("is_state", none)) := z; simp [zqn, z2] at this
  have zgm : CT K mg "KINDS" [("part" : Str), ("page" : Str), ("head" : Str), ("blank" : Str)] := zqt X G (Bool.and_eq_true_iff.mp (Bool.and_eq_true_iff.mp c0.more).2).1
  have zea : CT K mg "KINDS_WITH_EPOCH" [("part" : Str), ("page" : Str), ("head" : Str)] := zqt X G (Bool.and_eq_true_iff.mp (Bool.and_eq_true_iff.mp (Bool.and_eq_true_iff.mp c0.more).2).2).1
  have ze9 : CTI K mg "NEVER_WRITTEN" (List.replicate 128 (0 : Int)) := zsk X G (Bool.and_eq_true_iff.mp (Bool.and_eq_true_iff.mp (Bool.and_eq_true_iff.mp (Bool.and_eq_true_iff.mp c0.more).2).2).2).1
  have eb_BadImage : efB K "BadImage" "index" = true := (Bool.and_eq_true_iff.mp (Bool.and_eq_true_iff.mp (Bool.and_eq_true_iff.mp (Bool.and_eq_true_iff.mp (Bool.and_eq_true_iff.mp c0.more).2).2).2).2).1
  obtain ⟨fdi_BadImage, Fi_BadImage⟩ := c.d.def_ 44 (d := zgV) rfl
  have fl_BadImage : (pm K).fld ((pm K).cA "BadImage") "index" = true := znk eb_BadImage
  have eb_BadBatch : efB K "BadBatch" "index" = true := (Bool.and_eq_true_iff.mp (Bool.and_eq_true_iff.mp (Bool.and_eq_true_iff.mp (Bool.and_eq_true_iff.mp (Bool.and_eq_true_iff.mp (Bool.and_eq_true_iff.mp c0.more).2).2).2).2).2).1
  obtain ⟨fdi_BadBatch, Fi_BadBatch⟩ := c.d.def_ 45 (d := zgW) rfl
  have fl_BadBatch : (pm K).fld ((pm K).cA "BadBatch") "index" = true := znk eb_BadBatch
  have eb_TooMany : efB K "TooMany" "most" = true := (Bool.and_eq_true_iff.mp (Bool.and_eq_true_iff.mp (Bool.and_eq_true_iff.mp (Bool.and_eq_true_iff.mp (Bool.and_eq_true_iff.mp (Bool.and_eq_true_iff.mp (Bool.and_eq_true_iff.mp c0.more).2).2).2).2).2).2).1
  obtain ⟨fdi_TooMany, Fi_TooMany⟩ := c.d.def_ 46 (d := zhI) rfl
  have fl_TooMany : (pm K).fld ((pm K).cA "TooMany") "most" = true := znk eb_TooMany
  have hfl : ∀ C g, (pm K).fld C g = true → XfC K C ∧ PySem.W.findIn K (.ref C) g = some none := zoe
  have pk := zt8 (Bool.and_eq_true_iff.mp (Bool.and_eq_true_iff.mp (Bool.and_eq_true_iff.mp (Bool.and_eq_true_iff.mp (Bool.and_eq_true_iff.mp (Bool.and_eq_true_iff.mp (Bool.and_eq_true_iff.mp c0.more).2).2).2).2).2).2).2
  have hmto : ∀ x a b, (pm K).mto x a = some b → PySem.W.exmOne K (.ref a) (.ref ((pm K).cA x)) = some b := fun x a b e => e
  have hmt : ∀ a b, (pm K).mt a = some b → PySem.W.exmOne K (.ref a) (.ref ((pm K).cA "CutError")) = some b := fun a b e => e
  have his : ∀ a1 a2 b, (pm K).isT a1 a2 = some b → PySem.W.kitOne K (.ref a1) (.ref a2) = some b ∧ ExcC K a1 := zra
  have e := hfa.symm.trans zqP
  cases e
  refine ⟨zsM, tf.map (He.cT K), spF K (lSp K 1 (zmU (pm K))), fun p hp => ?_, fun p hp => ?_, fun p hp => ?_, fun s u => ?_, fun H a ns h1 h2 hTt hS => zrc (ts := (tf.map (He.cT K)).map (·.2)) (tl := [((pm K).P, lqE)]) (fun m hL hm => have hTab : m (pm K).Pt = some .tab := hm _ (List.mem_map.mpr ⟨_, List.mem_map.mpr ⟨("is_state", none), by decide, rfl⟩, rfl⟩) (fun z hz => by obtain rfl := List.mem_singleton.mp hz; exact neT); zqf pk fl_BadImage fl_BadBatch fl_TooMany (hL _ (List.mem_singleton.mpr rfl)) hTab h1 h2) (fun p hp => ?_) (fun p hp => ?_) (fun p hp => ?_) hS, fun base hK hG hTB => zpl ?_⟩
  · obtain ⟨q, hq, rfl⟩ := List.mem_map.mp hp
    exact c0.empty q hq
  · obtain ⟨q, hq, rfl⟩ := List.mem_map.mp hp
    exact c0.out q hq
  · obtain ⟨q, hq, rfl⟩ := List.mem_map.mp hp
    exact PySem.W.codeHd_of_K X (c0.hd q hq)
  · exact (FunD.bindsA (ps := ["script"]) zqO fun _ _ _ _ _ _ us hl => match us, hl with | [_], _ => rfl) s [u] rfl
  · obtain rfl := List.mem_singleton.mp hp
    simp
  · obtain ⟨q, hq, rfl⟩ := List.mem_map.mp hp
    exact hTt q hq
  · obtain rfl := List.mem_singleton.mp hp
    exact List.mem_map.mpr ⟨_, List.mem_map.mpr ⟨("_law_works", none), by decide, rfl⟩, rfl⟩
  ·
    have TBw : LamX.TabB base mg (He.codeOf K ("_law_works", none)) (pm K).P := hTB _ (List.mem_map.mpr ⟨("_law_works", none), by decide, rfl⟩)
    have t0 := hTB _ (List.mem_map.mpr ⟨("is_state", none), by decide, rfl⟩)
    have TB : GxR.TabB base mg (He.codeOf K ("is_state", none)) (He.tabOf K (He.codeOf K ("is_state", none))) := ⟨t0.code, t0.bm, t0.gP⟩
    have ef_BadImage : zfj P w K mg base "BadImage" ((pm K).cA "BadImage") "index" := zoQ X G eb_BadImage (zny (P := P) (w := w) (base := base) Fi_BadImage) (Fi_BadImage.bindsN (ps := ["self", "index"]) fun _ _ _ _ _ _ us hl => match us, hl with | [_, _], _ => rfl)
    have ef_BadBatch : zfj P w K mg base "BadBatch" ((pm K).cA "BadBatch") "index" := zoQ X G eb_BadBatch (znz (P := P) (w := w) (base := base) Fi_BadBatch) (Fi_BadBatch.bindsN (ps := ["self", "index"]) fun _ _ _ _ _ _ us hl => match us, hl with | [_, _], _ => rfl)
    have ef_TooMany : zfj P w K mg base "TooMany" ((pm K).cA "TooMany") "most" := zoQ X G eb_TooMany (znU (P := P) (w := w) (base := base) Fi_TooMany) (Fi_TooMany.bindsN (ps := ["self", "most"]) fun _ _ _ _ _ _ us hl => match us, hl with | [_, _], _ => rfl)
    have zb0 := Exists.elim (c.d.def_ 0 (d := ziN) rfl) fun zru zmB => zlP (P := P) (w := w) (base := base) B zmB (He.glo_ok X G (c.d.fact 0 (f := .glo "_law_taken") rfl))
    have zcF := Exists.elim (c.d.def_ 1 (d := zjh) rfl) fun zrF znF => zmn (P := P) (w := w) (base := base) B zb0 znF (He.glo_ok X G (c.d.fact 1 (f := .glo "_law_pick") rfl))
    have zar := zlQ (P := P) (w := w) (base := base) B zdI zez
    have zbm := Exists.elim (c.d.def_ 3 (d := zji) rfl) fun zrG znG => zmo (P := P) (w := w) (base := base) B znG (He.glo_ok X G (c.d.fact 3 (f := .glo "is_integer") rfl))
    have zbb := Exists.elim (c.d.def_ 4 (d := ziP) rfl) fun zrv zmC => zlR (P := P) (w := w) (base := base) (p := pm K) B O zci zhF zgI zar zbm err_BadShape zmC (He.glo_ok X G (c.d.fact 4 (f := .glo "check_shape") rfl))
    have zcz := Exists.elim (c.d.def_ 5 (d := zf6) rfl) fun zpI zj6 => zjN (P := P) (w := w) (base := base) B zeh zj6 (He.glo_ok X G (c.d.fact 5 (f := .glo "how_many_blocks") rfl))
    have zfr := Exists.elim (c.d.def_ 6 (d := zmY) rfl) fun zub zqh => zpG (P := P) (w := w) (base := base) (p := pm K) B O zbb zcz zqh (He.glo_ok X G (c.d.fact 6 (f := .glo "blocks") rfl))
    have zgP := Exists.elim (c.d.def_ 7 (d := zjj) rfl) fun zrH znH => zmp (P := P) (w := w) (base := base) (p := pm K) B O ze9 zfr znH (He.glo_ok X G (c.d.fact 7 (f := .glo "blank_disk") rfl))
    have zfa := Exists.elim (c.d.def_ 8 (d := zgX) rfl) fun zqi zlo => zkv (P := P) (w := w) (base := base) B zeh zlo (He.glo_ok X G (c.d.fact 8 (f := .glo "place_of_page") rfl))
    have zgQ := Exists.elim (c.d.def_ 9 (d := zjk) rfl) fun zrI znI => zmq (P := P) (w := w) (base := base) (p := pm K) B O zbb zbm zfa err_BadNumber znI (He.glo_ok X G (c.d.fact 9 (f := .glo "page_place") rfl))
    have zfb := Exists.elim (c.d.def_ 10 (d := zgY) rfl) fun zqj zlp => zkw (P := P) (w := w) (base := base) B zeh zlp (He.glo_ok X G (c.d.fact 10 (f := .glo "place_in_ring") rfl))
    have zgR := Exists.elim (c.d.def_ 11 (d := zjl) rfl) fun zrJ znJ => zmr (P := P) (w := w) (base := base) (p := pm K) B O zbb zbm zfb err_BadNumber znJ (He.glo_ok X G (c.d.fact 11 (f := .glo "ring_place") rfl))
    have zdL := znA (P := P) (w := w) (base := base) B zar zer zfy
    have ziI := Exists.elim (c.d.def_ 13 (d := zkz) rfl) fun zsP zpb => znV (P := P) (w := w) (base := base) B zex zdL zpb (He.glo_ok X G (c.d.fact 13 (f := .glo "is_block") rfl))
    have zfX := Exists.elim (c.d.def_ 14 (d := ziQ) rfl) fun zrw zmD => zlS (P := P) (w := w) (base := base) (p := pm K) B O zcz zar ziI ef_BadImage zmD (He.glo_ok X G (c.d.fact 14 (f := .glo "check_image") rfl))
    have zcy := Exists.elim (c.d.def_ 15 (d := zjm) rfl) fun zrK znK => zms (P := P) (w := w) (base := base) (p := pm K) B O zbb zfX znK (He.glo_ok X G (c.d.fact 15 (f := .glo "check_disk") rfl))
    have zbJ := Exists.elim (c.d.def_ 16 (d := zjn) rfl) fun zrL znL => zmt (P := P) (w := w) (base := base) B znL (He.glo_ok X G (c.d.fact 16 (f := .glo "read_fixed") rfl))
    have zc5 := Exists.elim (c.d.def_ 17 (d := ziR) rfl) fun zrx zmE => zlT (P := P) (w := w) (base := base) B zey zfc zbJ zmE (He.glo_ok X G (c.d.fact 17 (f := .glo "read_stamps") rfl))
    have zfs := Exists.elim (c.d.def_ 18 (d := zhJ) rfl) fun zqQ zl3 => zlj (P := P) (w := w) (base := base) B zc5 zl3 (He.glo_ok X G (c.d.fact 18 (f := .glo "stamp_behind") rfl))
    have zgS := Exists.elim (c.d.def_ 19 (d := zjo) rfl) fun zrM znM => zmu (P := P) (w := w) (base := base) (p := pm K) B O zdd zcy zfs ef_TooMany znM (He.glo_ok X G (c.d.fact 19 (f := .glo "next_stamp") rfl))
    have zjP := Exists.elim (c.d.def_ 20 (d := zl5) rfl) fun zt9 zpJ => zo7 (P := P) (w := w) (base := base) B zpJ (He.glo_ok X G (c.d.fact 20 (f := .glo "rest_of") rfl))
    have ziJ := Exists.elim (c.d.def_ 21 (d := zkA) rfl) fun zsQ zpc => znW (P := P) (w := w) (base := base) B zgm za8 zcT zfd zfY zc5 zjP zbJ zpc (He.glo_ok X G (c.d.fact 21 (f := .glo "is_whole") rfl))
    have zgL := Exists.elim (c.d.def_ 22 (d := zjp) rfl) fun zrN znN => zmv (P := P) (w := w) (base := base) B zcT zgm ziJ zbJ znN (He.glo_ok X G (c.d.fact 22 (f := .glo "read_label") rfl))
    have zc6 := Exists.elim (c.d.def_ 23 (d := ziS) rfl) fun zry zmF => zlU (P := P) (w := w) (base := base) B zgL zmF (He.glo_ok X G (c.d.fact 23 (f := .glo "read_labels") rfl))
    have zft := Exists.elim (c.d.def_ 24 (d := zhK) rfl) fun zqR zl4 => zll (P := P) (w := w) (base := base) B zea zl4 (He.glo_ok X G (c.d.fact 24 (f := .glo "epoch_behind") rfl))
    have zgT := Exists.elim (c.d.def_ 25 (d := zjq) rfl) fun zrO znO => zmw (P := P) (w := w) (base := base) (p := pm K) B O zdd zcy zc6 zft ef_TooMany znO (He.glo_ok X G (c.d.fact 25 (f := .glo "next_epoch") rfl))
    have zd2 := Exists.elim (c.d.def_ 26 (d := zff) rfl) fun zpd zjg => ziK (P := P) (w := w) (base := base) B zjg (He.glo_ok X G (c.d.fact 26 (f := .glo "has_noughts_alone") rfl))
    have zhG := Exists.elim (c.d.def_ 27 (d := zj8) rfl) fun zsN znY => znB (P := P) (w := w) (base := base) B zd2 znY (He.glo_ok X G (c.d.fact 27 (f := .glo "kind_with") rfl))
    have zgM := Exists.elim (c.d.def_ 28 (d := zjr) rfl) fun zrP znP => zmx (P := P) (w := w) (base := base) B zhG znP (He.glo_ok X G (c.d.fact 28 (f := .glo "kinds_with") rfl))
    have zlX := Exists.elim (c.d.def_ 29 (d := zn0) rfl) fun zuM zrz => zqg (P := P) (w := w) (base := base) (p := pm K) B O zcy zc6 zgM zrz (He.glo_ok X G (c.d.fact 29 (f := .glo "kinds") rfl))
    have zjR := zo8 (P := P) (w := w) (base := base) B za8 zdL zfL zhz
    have ziM := Exists.elim (c.d.def_ 31 (d := zkB) rfl) fun zsR zpe => znX (P := P) (w := w) (base := base) (p := pm K) B O zci za8 zar zdI (zdI.bindsN (ps := ["value", "least", "most"]) fun _ _ _ _ _ _ us hl => match us, hl with | [_, _, _], _ => rfl) zez zer (zer.bindsN (ps := ["value", "least", "most"]) fun _ _ _ _ _ _ us hl => match us, hl with | [_, _, _], _ => rfl) zfy zfL (zfL.bindsN (ps := ["value"]) fun _ _ _ _ _ _ us hl => match us, hl with | [_], _ => rfl) zhz TB zpe (He.glo_ok X G (c.d.fact 31 (f := .glo "is_state") rfl))
    have zfZ := Exists.elim (c.d.def_ 32 (d := ziT) rfl) fun zrA zmG => zlW (P := P) (w := w) (base := base) (p := pm K) B O zci zar zbm zjR ef_BadBatch zmG (He.glo_ok X G (c.d.fact 32 (f := .glo "check_batch") rfl))
    have zeL := Exists.elim (c.d.def_ 33 (d := zgn) rfl) fun zpL zky => zj5 (P := P) (w := w) (base := base) (p := pm K) B O zfZ ef_BadBatch zky (He.glo_ok X G (c.d.fact 33 (f := .glo "check_batch_of") rfl))
    have zgO := Exists.elim (c.d.def_ 34 (d := zjs) rfl) fun zrQ znQ => zmy (P := P) (w := w) (base := base) B znQ (He.glo_ok X G (c.d.fact 34 (f := .glo "with_batch") rfl))
    have zjS := Exists.elim (c.d.def_ 35 (d := zl7) rfl) fun zua zpK => zpa (P := P) (w := w) (base := base) (p := pm K) B O ziM zeL zgO err_BadState zpK (He.glo_ok X G (c.d.fact 35 (f := .glo "changed") rfl))
    have zb1 : Cal P w K mg base "_law_works" 1 2 (zbI (pm K)) := zlY (P := P) (w := w) (base := base) TBw zmz zmA
    have hT : ∀ L ys t, zc1 (pm K) L ys t → zeS P w K mg base 6 L ys t := by
      rintro L ys t (⟨rfl, rfl, rfl⟩ | ⟨rfl, rfl, rfl⟩ | ⟨rfl, rfl, rfl⟩ | ⟨rfl, rfl, rfl⟩ | ⟨rfl, rfl, rfl⟩ | ⟨rfl, rfl, rfl⟩ | ⟨rfl, rfl, rfl⟩ | ⟨rfl, rfl, rfl⟩)
      · exact ztS (P := P) (w := w) (base := base) (p := pm K) B zfr
      · exact ztT (P := P) (w := w) (base := base) (p := pm K) B zgP
      · exact ztU (P := P) (w := w) (base := base) (p := pm K) B zgQ
      · exact ztV (P := P) (w := w) (base := base) (p := pm K) B zgR
      · exact ztW (P := P) (w := w) (base := base) (p := pm K) B zgS
      · exact ztX (P := P) (w := w) (base := base) (p := pm K) B zgT
      · exact ztY (P := P) (w := w) (base := base) (p := pm K) B zlX
      · exact ztZ (P := P) (w := w) (base := base) (p := pm K) B zjS
    have zbN := Exists.elim (c.d.def_ 37 (d := zgZ) rfl) fun zqk zlq => zkx (P := P) (w := w) (base := base) (p := pm K) B O err_CutError err_BadShape err_BadNumber err_BadState ef_BadImage ef_BadBatch ef_TooMany hmt his hfl hT zlq (He.glo_ok X G (c.d.fact 37 (f := .glo "_law_refused") rfl))
    have zf0 := Exists.elim (c.d.def_ 38 (d := ziV) rfl) fun zrB zmH => zlZ (P := P) (w := w) (base := base) B zb0 zmH (He.glo_ok X G (c.d.fact 38 (f := .glo "_law_shape") rfl))
    have zf4 := Exists.elim (c.d.def_ 39 (d := ziW) rfl) fun zrC zmI => zl0 (P := P) (w := w) (base := base) B zmI (He.glo_ok X G (c.d.fact 39 (f := .glo "_law_blank") rfl))
    have zcL := Exists.elim (c.d.def_ 40 (d := ziX) rfl) fun zrD zmJ => zl1 (P := P) (w := w) (base := base) B zmJ (He.glo_ok X G (c.d.fact 40 (f := .glo "_law_bytes") rfl))
    have zhH := Exists.elim (c.d.def_ 41 (d := zj9) rfl) fun zsO znZ => znE (P := P) (w := w) (base := base) B znZ (He.glo_ok X G (c.d.fact 41 (f := .glo "_law_crc") rfl))
    have zf5 := Exists.elim (c.d.def_ 42 (d := ziY) rfl) fun zrE zmK => zl2 (P := P) (w := w) (base := base) B zcL zhH zmK (He.glo_ok X G (c.d.fact 42 (f := .glo "_law_block") rfl))
    exact zsK (P := P) (w := w) (base := base) (p := pm K) B O zcF zb1 zbN zf0 zf4 zb0 zf5 zqO zqP
end K12
open PySem PySem.W PySem.Calls PyProof.Rows
set_option maxRecDepth 100000 in
set_option maxHeartbeats 0 in
theorem PySem.Challenge.cw_cutledger_k12_disks_refused_holds : PySem.Challenge.rw_cutledger_k12_disks_refused.Holds := by
  w_on; o_law
  refine HandSHeadRun.head_any (r := OpenLaw.row PySem.Challenge.rw_cutledger_k12_disks_refused) (q := view (OpenLaw.row PySem.Challenge.rw_cutledger_k12_disks_refused).prog [72]) (H := K12H.hk) (ob := K12H.ob) (M := 8000) (loose := K12H.loose) (d := HandSHeadRun.topDef (OpenLaw.row PySem.Challenge.rw_cutledger_k12_disks_refused).prog 72) (kwd := []) K12H.zsS
    K12H.hf1 K12H.hf2 K12H.run K12H.hf3 K12H.hf4 K12H.hf5 (by rfl) K12H.hf7 K12H.hf8 K12H.hf9 ?hw ?hc
  case hw => w_witness2
  case hc =>
    refine LamX.walk_ofTsE (l := PySem.Challenge.rw_cutledger_k12_disks_refused) (n := 63) (k := 9) (x := "script") (CX := fun w => L2.CX (PySem.Challenge.rw_cutledger_k12_disks_refused).prog w) rfl (by decide) (by kernel_rfl) ⟨rfl, by decide, by decide⟩ ?F (fun _ _ _ _ _ z => Ab.zs1 z)
    intro w mg fa h Y G hmg0
    obtain ⟨K, KX, c⟩ := Y
    have hmg : mg ("law" : PySem.Str) = some (.ref fa) := by
      have e : (HandSHeadRun.topDef (OpenLaw.row PySem.Challenge.rw_cutledger_k12_disks_refused).prog 72).name = ("law" : PySem.Str) := by kernel_rfl
      rw [← e]
      exact hmg0
    exact ⟨K, KX, K12.zsL (P := (PySem.Challenge.rw_cutledger_k12_disks_refused).prog) (w := w) KX G hmg c⟩
